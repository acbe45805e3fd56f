import PyProof.Rows.All
import Wide.All
import OpenK.AllK
import Wide.FinOn
import HandS.ForMost
import HandS.IsInst
import HandS.Property
import HandS.Star
import HandS.Rev
import HandS.TupMul
import HandS.Wide
import HandS.Style
import HandS.Walk
import HandS.Defaults
import HandS.ForExc
import HandS.ExcInit
import HandS.ExcIs
import HandS.ExcField
import HandS.RaiseMore
import HandS.ExcValue
import KE.GoesEnum
import KE.GoesMore
import HandS.TupAny
import KE.KRevSl
import KE.KExcIs
import HandS.Steps
import HandS.Text
import PySem.Challenge.RW_farmisses_k08_values_that_are_no_trees
import HandS.WordsExc
import HandS.ExcOwn
import HandS.Codes
import HandS.Small
import PyProof.ReprRoads
import HandS.TryMany
import HandS.Gcd
import KE.KMathGC
import HandS.ClsMeth
import HandS.FStr
import HandS.RevRange
import PyProof.Rows.SortStr
import HandS.Conv
import HandS.Dict
import HandS.SetTxt0
import HandS.Set
import PyProof.Rows.SetFrom
import HandS.Base
import HandS.Call
import HandS.List
import HandS.Strs
import KE.KDictList
import OpenK.KMeth
import PyProof.Rows.RowBridgeK
import HandS.DictComp
import KE.KExcInit
set_option Elab.async false
set_option linter.all false
set_option maxRecDepth 100000
set_option maxHeartbeats 4000000
/-! Rules of my own over the hand layer. -/
namespace VR
open PySem PySem.Spec PyProof.Rows L2

/-! ### an own binary operator whose right side is of the same class, or of a built-in type -/
section
open PySem.W
variable {prog : Program} {w : World} {A : Around} {E : Value → Shared → Prop} {s : Shared} {K : Frag} {x C L f y : Addr} {h₀ : Heap} {m : Str → Option Value} {ox : Obj} {od : Option Obj} {nm : String}
end

section
variable {X : Cx} {CX : CXT} {k : Nat} {C f : Addr} {fd : FuncData} {ps : List Str} {sp : Sp} {E : XK} {op : Operator}
end

/-! ### enumerate(tuple) -/
end VR

namespace VR
open PySem PySem.Spec PyProof.Rows L2
section
open PySem.W
variable {prog : Program} {w : World} {A : Around} {E : Value → Shared → Prop} {s : Shared} {K : Frag} {x C L f y : Addr} {h₀ : Heap} {m : Str → Option Value} {ox : Obj} {od : Option Obj} {nm : String} {b tb : Value}
end

/-- what the class at C must say for type(x) and isinstance -/
structure InsKit (K : PySem.W.Frag) (C : Addr) : Prop where
  cl : Cls K C
  ha : PySem.W.findIn K (.ref C) "__class__" = some (some (.builtin "object.__class__"))
  hn : PySem.W.specialIn K (.builtin "object.__class__") "__get__" = some (some (.builtin "getset_descriptor.__get__"))
  ht : PySem.W.takesIn K (.builtin "object.__class__") = some true
  hm : PySem.W.mroIn K C (.type "object") = some true
theorem TyX.tupT {K : PySem.W.Frag} {H : Hp} {a : Addr} {xs : List V} (h : SqT K H a xs) : TyX K H (.ref a) (.type "tuple") := by
  rcases h with (h | ⟨o, h⟩) | h
  · exact .base (.tup h)
  · exact .fTuple h
  · obtain ⟨o, its, n, h1, h2, _⟩ := h
    exact .kTuple h1 h2
section
variable {X : Cx} {CX : CXT} {k : Nat} {C f : Addr} {fd : FuncData} {ps : List Str} {sp : Sp} {E : XK}
end
end VR

namespace VR
open PySem PySem.Spec PyProof.Rows L2
section
open HT
variable {prog : Program} {w : World} {A : Around} {E : Value → Shared → Prop} {s : Shared}
end
end VR

/-! Small words: lists of ints as values, heaps that grow. -/
namespace VR
open PySem PySem.Spec PyProof.Rows L2
def iz (xs : List Int) : List V := xs.map V.int
theorem iz_get {xs : List Int} {i : Nat} {x : Int} (h : xs[i]? = some x) : (iz xs)[i]? = some (V.int x) := by unfold iz; rw [List.getElem?_map, h]; rfl
theorem iz_len (xs : List Int) : (iz xs).length = xs.length := by simp [iz]
theorem _root_.L2.Same.tup {K : PySem.W.Frag} {H H' : Hp} {a : Addr} {xs : List V} (e : Same H H') (h : SqT K H a xs) : SqT K H' a xs := by
  rcases h with (h | ⟨o, h⟩) | h
  · exact .inl (.inl (e _ _ h))
  · exact .inl (.inr ⟨o, e _ _ h⟩)
  · exact .inr h
theorem _root_.L2.Same.new {H : Hp} {p : Addr} {o : HO} (h : H p = none) : Same H (upd H p o) := fun b u e => by rw [upd_ne (ne_of_none e h)]; exact e
theorem _root_.L2.Same.upN {H H' : Hp} {l : Addr} {o : HO} (e : Same H H') (h : H' l = none) : Same H (upd H' l o) := e.trans (L2.Same.new h)
theorem ixN_nat {n k : Nat} (h : k < n) : ixN n (k : Int) = some k := by
  unfold ixN
  rw [if_pos (by omega), if_pos (by omega)]
  simp

end VR

/-! Tuples of ints as data. -/
namespace VR
open PySem PySem.Spec PyProof.Rows L2
end VR

/-! Own exceptions with their own __init__, as values. -/
namespace VX
open PySem PySem.W PySem.Calls PyProof.Rows PySem.HandSPX Builtin Builtin.ObjectAttr
section
variable {prog : Program} {w : World} {M : Model} {A : Around} {E : Value → Shared → Prop} {R : Result → Shared → Prop} {h : Heap} {g : Array GenState} {d : Drawn} {t : Nat} {os : OsState}
variable {nm q : Str} {C N : Addr} {bs bm bmB : List Value} {hdct : Bool} {sn : List Str} {sub : List Value} {ab : Bool} {col : Option Bool} {dd : Option Addr} {k0 k1 k2 k3 k5 : Option Value} {B newId initId : String}
end
section
variable {prog : Program} {w : World} {A : Around} {E : Value → Shared → Prop} {R : Result → Shared → Prop} {h : Heap} {g : Array GenState} {d : Drawn} {t : Nat} {os : OsState}
variable {nm q : Str} {C N : Addr} {bs bm bmB : List Value} {hdct : Bool} {sn : List Str} {sub : List Value} {ab : Bool} {col : Option Bool} {dd : Option Addr} {k0 k1 k2 k3 k5 : Option Value} {B newId initId : String}
end
end VX

namespace VX
open PySem PySem.W PySem.Calls PyProof.Rows PySem.HandSPX Builtin Builtin.ObjectAttr
section
variable {prog : Program} {w : World} {A : Around} {R : Result → Shared → Prop} {hp : Heap} {g : Array GenState} {d : Drawn} {t : Nat} {os : OsState}
/-- self.x = v on an exception without a dict, whatever its built-in base -/
theorem osaX {K : W.Frag} {name : Str} {tk : Tok} {v : Value} {x C : Addr} {fv : Array Value} {cd : ClassData}
    (X : K.In hp) (hx : hp.get? x = some { cls := .ref C, data := .fields fv }) (hcd : W.clsIn K C = some cd) (ne : cd.mro.isEmpty = false) (hob : cd.mro.contains (.type "object") = true)
    (hr : ∀ self, refuseLoop self "__setattr__" cd.mro = pure ()) (hh : cd.hasDict = true) (ha : W.findIn K (.ref C) name = some none)
    (hq : ∀ h' tk' dx, (∀ b o, b ≠ x → hp.get? b = some o → h'.get? b = some o) → hp.objs.size ≤ dx → dx ≠ x → h'.get? x = some { cls := .ref C, dict := some dx, data := .fields fv } →
      h'.Ns1 dx (fun y => if y = name then some v else none) → R (.ok (.ret .none)) ⟨h', g, d, tk', os⟩) :
    codeAny (model prog w) A (.call (.builtin "object.__setattr__") ⟨[.ref x, .str name tk, v], []⟩) R ⟨hp, g, d, t, os⟩ := by
  have I : W.InstAt hp x { cls := .ref C, data := .fields fv } C none := ⟨hx, rfl, rfl, trivial⟩
  have F := PySem.F.store_object
  have dif : hp.objs.size ≠ x := (Nat.ne_of_lt (Heap.lt_size hx)).symm
  have isob : W.Looks (model prog w) hp (isInstance (.ref x) (.type "object")) true := I.type.andThen (W.looks_mroIn X (by unfold W.mroIn; rw [hcd, Option.bind_some, if_neg (by rw [ne]; decide), hob]))
  refine codeAny_call_builtin F.slot.plain F.entry (@W.check_slot (model prog w) _ _ ⟨hp, g, d, t, os⟩ "object.__setattr__" "object" "__setattr__" (.ref x) [.str name tk, v] [] _ F.kind F.split isob (F.args (.ref x) (.str name tk) v) ?_)
  have lm : W.Looks (model prog w) hp (mroOf (.ref C)) cd.mro := (W.looks_clsIn X hcd).andThen .now
  have lt : W.Looks (model prog w) hp (storeTaker? none) none := .now
  have lc : W.Looks (model prog w) hp (classData C) cd := W.looks_clsIn X hcd
  rw [W.osa_eq, refuse_eq]
  refine wpAny_bind (wpAny_bind (I.type.at (wpAny_bind (lm.at ?_))))
  rw [hr]
  refine wpAny_pure (wpAny_bind (I.type.at (wpAny_bind ((W.looks_findIn X ha).at (wpAny_bind (lt.at ?_))))))
  show wpAny _ _ (storeInOwnDict (.ref x) (.ref C) (.str name tk) name v false) _ _ _
  obtain ⟨nm, bs, mro, ns, qn, hd, sn, sb, ab, col, del⟩ := cd
  dsimp only at hh
  subst hh
  unfold storeInOwnDict ownDictForStores
  repeat (first | with_reducible refine store_in_new ?_ ?_ | with_reducible refine wpAny_loadPart_at hx ?_ | with_reducible refine lc.at ?_ | wp_step)
  · exact ⟨_, #[], _, (Heap.get?_update_ne _ _ _ _ dif).trans (Heap.get?_push_at rfl rfl), rfl, fun e he => absurd he (by simp), fun _ => rfl⟩
  · intro h' tk' hn' hs
    have x1 : (hp.push { cls := .type "dict", data := .dict #[] }).get? x = some { cls := .ref C, data := .fields fv } := Heap.get?_push_of_some _ hx
    refine hq h' tk' hp.objs.size (fun b o hb ho => ?_) (Nat.le_refl _) dif ?_ hn'
    · exact (hs.2 b (Nat.ne_of_lt (Heap.lt_size ho))).trans ((Heap.get?_update_ne _ _ _ _ hb).trans (Heap.get?_push_of_some _ ho))
    · exact (hs.2 x dif.symm).trans (Heap.get?_update_self _ x1 rfl)
end
end VX
namespace VX
open PySem PySem.Spec PyProof.Rows L2 VR

/-- an own exception class with an own __init__, no matter which built-in class it hangs on -/
structure OxC (K : PySem.W.Frag) (C : Addr) : Prop where
  cls : ∃ nm q N bs bm sn sub ab col dd k0 k1 k2 k3 k5 B newId initId bmB, ExcBaseFacts B newId initId bmB ∧ K.lookup C = some (excClassObj nm q C N bs bm true sn sub ab col dd k0 k1 k2 k3 k5 newId) ∧
    (∀ Y : String, bm.contains (.type Y) = bmB.contains (.type Y)) ∧ (∀ self, refuseLoop self "__setattr__" (.ref C :: bm) = pure ()) ∧ bm.contains (.type "object") = true
  sa : PySem.W.findIn K (.ref C) "__setattr__" = some (some (.builtin "object.__setattr__"))
  kC : PySem.W.keepIn K (.ref C) = true
  ga : PySem.W.findIn K (.ref C) "__getattribute__" = some (some (.builtin "BaseException.__getattribute__"))
  gg : PySem.W.findIn K (.ref C) "__getattr__" = some none
  ex : PySem.W.subIn K (.ref C) (.type "BaseException") = some true
  ac : PySem.W.findIn K (.ref C) "__class__" = some (some (.builtin "object.__class__"))
  an : PySem.W.specialIn K (.builtin "object.__class__") "__get__" = some (some (.builtin "getset_descriptor.__get__"))
  tk : PySem.W.takesIn K (.builtin "object.__class__") = some true
  mo : PySem.W.mroIn K C (.type "object") = some true
theorem OxC.hd {K : PySem.W.Frag} {C : Addr} (T : OxC K C) : PySem.W.hasDictIn K C = true := by
  obtain ⟨nm, q, N, bs, bm, sn, sub, ab, col, dd, k0, k1, k2, k3, k5, B, ni, ii, bmB, _, hC, _⟩ := T.cls
  unfold PySem.W.hasDictIn PySem.W.clsIn; rw [hC]; rfl
/-- self.f = e in such an __init__ -/
def tOx (K : PySem.W.Frag) (f : Str) (to te : TE) : TS := fun D σ H => te σ H fun y H1 => to σ H1 fun x H2 => ∃ a C : Addr, x = .ref a ∧ OxC K C ∧ PySem.W.findIn K (.ref C) f = some none ∧
  H2 a = some (exo a C none) ∧ ∀ dx, H2 dx = none → dx ≠ a → D.nx σ (upd (upd H2 dx (exd dx [(f, y)])) a (exo a C (some dx)))
section
variable {X : Cx} {pins : List (Addr × Obj)} {σ : L2.St} {H : Hp} {s : Shared} {a C dx : Addr} {f : Str} {y : V} {u : Value} {E : Value → Shared → Prop} {A : Around}
theorem putX {Q : Unit → Shared → Prop} (T : OxC X.K C) (I : Inv X pins σ H s) (e : H a = some (exo a C none)) (hno : PySem.W.findIn X.K (.ref C) f = some none) (ry : RelV y u)
    (h : ∀ dx s', H dx = none → dx ≠ a → Inv X pins σ (upd (upd H dx (exd dx [(f, y)])) a (exo a C (some dx))) s' → Q () s') : wpAny (model X.prog X.w) A (setAttr (.ref a) f u) Q E s := by
  obtain ⟨nm, q, N, bs, bm, sn, sub, ab, col, dd, k0, k1, k2, k3, k5, B, ni, ii, bmB, _, hC, _, hr, hob⟩ := T.cls
  have hcl : PySem.W.clsIn X.K C = some { name := nm, bases := bs, mro := .ref C :: bm, ns := N, qualname := q, hasDict := true, slotNames := sn, subclasses := sub, abstract := ab, collection := col, hasDel := false } := by unfold PySem.W.clsIn; rw [hC] <;> rfl
  obtain ⟨t1, ho⟩ := exo_at I.hok e
  obtain ⟨hp, g, d, t, os⟩ := s
  refine PySem.W.set_plain I.kIn (ox := { cls := .ref C, dict := none, data := .fields #[.ref t1, .none, .none, .none, .bool false, .none] }) (od := none) ⟨ho, rfl, rfl, trivial⟩ T.sa ?_
  refine osaX I.kIn ho hcl rfl (by show (Value.ref C :: bm).contains (.type "object") = true; rw [List.contains_cons, hob, Bool.or_true]) hr rfl hno (fun h' tk' dx k dn dne hx hn => ?_)
  have gone : H dx = none := I.hok.fresh dn
  have low : ∀ {b : Addr} {o : Obj}, hp.get? b = some o → b ≠ dx := fun {b o} q => Nat.ne_of_lt (Nat.lt_of_lt_of_le (Heap.lt_size q) dn)
  have apart : ∀ {b : Addr}, H b = none → b ≠ a := fun {b} n z => by
    rw [z, e] at n
    cases n
  have U : Un X.fs [] H (upd (upd H dx (exd dx [(f, y)])) a (exo a C (some dx))) hp h' := {
    keep := fun b o q n _ _ => k b o (apart n) q
    slot := fun b o q n _ _ => ⟨o.slots, k b o (apart n) q⟩
    free := fun b o q n _ => by rw [upd_ne (apart n), upd_ne (low q)]; exact n
    there := fun b o q _ => by
      by_cases hb : b = a
      · exact ⟨_, by rw [hb]; exact hx⟩
      · exact ⟨o, k b o hb q⟩
    tups := fun b xs q => by rw [upd_ne (at_ne e q exo_tup), upd_ne (ne_of_none q gone)]; exact q
    frzs := fun b o v q => by rw [upd_ne (at_ne e q exo_frz), upd_ne (ne_of_none q gone)]; exact q
    tbls := fun b ps q => ⟨#[], by rw [upd_ne (at_ne e q exo_tbl), upd_ne (ne_of_none q gone), q]; simp⟩ }
  refine h dx _ gone dne (I.un (t' := tk') U fun b o q => ?_)
  by_cases hb : b = a
  · subst hb
    rw [upd_same] at q
    cases q
    exact exo_ok hx
  rw [upd_ne hb] at q
  by_cases hd : b = dx
  · subst hd
    rw [upd_same] at q
    cases q
    exact exd_ok hn (relO_put (fs := []) ry fun g => True.intro)
  rw [upd_ne hd] at q
  refine (I.hok b o q).stay (fun c v hc z => k c v ?_ z) (fun c hc => ?_) (fun c xs hc => ?_)
  · rcases hc with hc | hc
    · rw [hc]
      exact hb
    · exact at_ne e hc exo_own
  · rw [upd_ne (at_ne e hc exo_own), upd_ne (ne_of_none hc gone)]; exact hc
  · rw [upd_ne (at_ne e hc exo_tup), upd_ne (ne_of_none hc gone)]; exact hc
end
theorem ps_ox {X : Cx} {o e : Expr} {to te : TE} {f : Str} {p' pos : Pos} (ho : PE X o to) (he : PE X e te) (hs : swapsWith e (some (.Attribute o f p')) pos.line X.env = pure false := by rfl) : PS X (.Assign [.Attribute o f p'] e pos) (tOx X.K f to te) := by
  refine ⟨fun pins s σ H D I h => ?_⟩
  refine plainObj_wpAny_Assign_Attribute (thn (he.run pins s σ H _ I h) fun v s1 ⟨y, H1, I1, r1, q1⟩ => thn (ho.run pins s1 σ H1 _ I1 q1) fun u s2 ⟨x, H2, I2, r2, a, C, ex, T, hno, ea, q⟩ => ?_) hs
  subst ex
  obtain rfl : u = Value.ref a := r2
  exact putX T I2 ea hno r1 fun dx s' n ne J => ⟨σ, _, J, q dx n ne⟩
/-- what __init__(self, v) promises -/
def spOx (K : PySem.W.Frag) (C : Addr) (f : Str) : Sp := fun vs H Q E => ∃ (a : Addr) (v : V), vs = [.ref a, v] ∧ H a = some (exo a C none) ∧ ∀ dx, H dx = none → dx ≠ a → Q .non (upd (upd H dx (exd dx [(f, v)])) a (exo a C (some dx)))
section
variable {X : Cx} {CX : CXT} {k : Nat} {fI C : Addr} {fd : FuncData} {p1 p2 : Str} {f x : Str} {e : Expr} {te : TE} {p pos kpos : Pos}
end
end VX

namespace VX
open PySem PySem.Spec PyProof.Rows L2 VR
/-! ### fields, isinstance -/
/-! ### repr of a list -/
end VX

/-! Sizes as lists of ints: plain mathematics. -/
namespace SZ
/-- without the zeros at the end -/
def trim : List Int → List Int
  | [] => []
  | x :: r => match trim r with
    | [] => if x = 0 then [] else [x]
    | y :: ys => x :: y :: ys
theorem trim_app0 : ∀ ys : List Int, trim (ys ++ [0]) = trim ys
  | [] => by simp [trim]
  | y :: ys => by
    show trim (y :: (ys ++ [0])) = trim (y :: ys)
    simp only [trim]
    rw [trim_app0 ys]
theorem trim_app : ∀ (ys : List Int) {z : Int}, z ≠ 0 → trim (ys ++ [z]) = ys ++ [z]
  | [], z, h => by simp [trim, h]
  | y :: ys, z, h => by
    show trim (y :: (ys ++ [z])) = y :: (ys ++ [z])
    simp only [trim]
    rw [trim_app ys h]
    cases e : ys ++ [z] with
    | nil => simp at e
    | cons a b => rfl
theorem trim_len : ∀ xs : List Int, (trim xs).length ≤ xs.length
  | [] => Nat.le_refl _
  | x :: r => by
    have ih := trim_len r
    simp only [trim]
    cases e : trim r with
    | nil => dsimp only; split <;> simp
    | cons y ys => rw [e] at ih; simp only [List.length_cons] at ih ⊢; omega
theorem trim_mem : ∀ {xs : List Int} {c : Int}, c ∈ trim xs → c ∈ xs
  | [], _, h => h
  | x :: r, c, h => by
    have ih := @trim_mem r c
    simp only [trim] at h
    cases e : trim r with
    | nil =>
      rw [e] at h
      dsimp only at h
      split at h
      · cases h
      · exact List.mem_cons.mpr (.inl (by simpa using h))
    | cons y ys =>
      rw [e] at h ih
      rcases List.mem_cons.mp h with h | h
      · exact List.mem_cons.mpr (.inl h)
      · exact List.mem_cons.mpr (.inr (ih h))
theorem trim_trim : ∀ xs : List Int, trim (trim xs) = trim xs
  | [] => rfl
  | x :: r => by
    have ih := trim_trim r
    simp only [trim]
    cases e : trim r with
    | nil => dsimp only; split <;> simp [trim, *]
    | cons y ys =>
      rw [e] at ih
      show trim (x :: (y :: ys)) = x :: (y :: ys)
      rw [trim, ih]
end SZ

namespace SZ
theorem ext_getD {xs ys : List Int} (hl : xs.length = ys.length) (h : ∀ k, xs.getD k 0 = ys.getD k 0) : xs = ys := by
  apply List.ext_getElem hl
  intro k h1 h2
  have := h k
  rw [List.getD_eq_getElem?_getD, List.getD_eq_getElem?_getD, List.getElem?_eq_getElem h1, List.getElem?_eq_getElem h2] at this
  simpa using this
theorem getD_of_ge {xs : List Int} {k : Nat} (h : xs.length ≤ k) : xs.getD k 0 = 0 := by
  rw [List.getD_eq_getElem?_getD, List.getElem?_eq_none h]
  rfl
end SZ

namespace K08
open PySem L2 SZ VR VX StX RT
def top (i : Nat) : Stmt := PySem.Challenge.pw_farmisses_k08_values_that_are_no_trees.main.body.getD i (.Pass ⟨0, 0, 0, 0⟩)
abbrev S_InvalidTree___init__ : Stmt := inClass (top 5) 0
theorem sc_InvalidTree___init__ : FnScope ["self", "value"] ["self", "value"] (defScope S_InvalidTree___init__) := ⟨rfl, rfl, rfl, by decide +kernel, rfl, by decide +kernel, by decide +kernel⟩
abbrev S_is_integer : Stmt := top 10
theorem sc_is_integer : FnScope ["value"] ["value"] (defScope S_is_integer) := ⟨rfl, rfl, rfl, by decide +kernel, rfl, by decide +kernel, by decide +kernel⟩
abbrev S_is_word : Stmt := top 24
theorem sc_is_word : FnScope ["text"] ["text"] (defScope S_is_word) := ⟨rfl, rfl, rfl, by decide +kernel, rfl, by decide +kernel, by decide +kernel⟩
abbrev S_has_few_digits : Stmt := top 26
theorem sc_has_few_digits : FnScope ["number"] ["number"] (defScope S_has_few_digits) := ⟨rfl, rfl, rfl, by decide +kernel, rfl, by decide +kernel, by decide +kernel⟩
abbrev S_end_of_run : Stmt := top 27
theorem sc_end_of_run : FnScope ["text", "begin", "end"] ["text", "begin"] (defScope S_end_of_run) := ⟨rfl, rfl, rfl, by decide +kernel, rfl, by decide +kernel, by decide +kernel⟩
abbrev S_is_name : Stmt := top 35
theorem sc_is_name : FnScope ["value"] ["value"] (defScope S_is_name) := ⟨rfl, rfl, rfl, by decide +kernel, rfl, by decide +kernel, by decide +kernel⟩
abbrev S_is_tree : Stmt := top 53
theorem sc_is_tree : FnScope ["value", "arrays", "block", "pair"] ["value"] (defScope S_is_tree) := ⟨rfl, rfl, rfl, by decide +kernel, rfl, by decide +kernel, by decide +kernel⟩
abbrev S_is_tuple_of : Stmt := top 54
theorem sc_is_tuple_of : FnScope ["value", "many"] ["value", "many"] (defScope S_is_tuple_of) := ⟨rfl, rfl, rfl, by decide +kernel, rfl, by decide +kernel, by decide +kernel⟩
abbrev S_is_named : Stmt := top 55
theorem sc_is_named : FnScope ["value"] ["value"] (defScope S_is_named) := ⟨rfl, rfl, rfl, by decide +kernel, rfl, by decide +kernel, by decide +kernel⟩
abbrev S_is_parts : Stmt := top 56
theorem sc_is_parts : FnScope ["value", "part"] ["value"] (defScope S_is_parts) := ⟨rfl, rfl, rfl, by decide +kernel, rfl, by decide +kernel, by decide +kernel⟩
abbrev S_is_block : Stmt := top 57
theorem sc_is_block : FnScope ["value", "loops", "part"] ["value", "loops"] (defScope S_is_block) := ⟨rfl, rfl, rfl, by decide +kernel, rfl, by decide +kernel, by decide +kernel⟩
abbrev S_is_statement : Stmt := top 58
theorem sc_is_statement : FnScope ["value", "loops"] ["value", "loops"] (defScope S_is_statement) := ⟨rfl, rfl, rfl, by decide +kernel, rfl, by decide +kernel, by decide +kernel⟩
abbrev S_is_index : Stmt := top 59
theorem sc_is_index : FnScope ["value", "counters", "pair", "counter", "_"] ["value"] (defScope S_is_index) := ⟨rfl, rfl, rfl, by decide +kernel, rfl, by decide +kernel, by decide +kernel⟩
abbrev S_statements_of : Stmt := top 60
theorem sc_statements_of : FnScope ["block", "found", "statement"] ["block"] (defScope S_statements_of) := ⟨rfl, rfl, rfl, by decide +kernel, rfl, by decide +kernel, by decide +kernel⟩
abbrev S_accesses_of : Stmt := top 61
theorem sc_accesses_of : FnScope ["block", "statement"] ["block"] (defScope S_accesses_of) := ⟨rfl, rfl, rfl, by decide +kernel, rfl, by decide +kernel, by decide +kernel⟩
abbrev S_excess : Stmt := top 63
theorem sc_excess : FnScope ["tree", "arrays", "block", "statements", "sizes", "parts", "part"] ["tree"] (defScope S_excess) := ⟨rfl, rfl, rfl, by decide +kernel, rfl, by decide +kernel, by decide +kernel⟩
abbrev S_sizes_of : Stmt := top 64
theorem sc_sizes_of : FnScope ["tree", "arrays", "block", "sizes", "statement", "factors", "_", "parts", "factor"] ["tree"] (defScope S_sizes_of) := ⟨rfl, rfl, rfl, by decide +kernel, rfl, by decide +kernel, by decide +kernel⟩
abbrev S_depth : Stmt := top 65
theorem sc_depth : FnScope ["block", "statement"] ["block"] (defScope S_depth) := ⟨rfl, rfl, rfl, by decide +kernel, rfl, by decide +kernel, by decide +kernel⟩
abbrev S_check_names : Stmt := top 66
theorem sc_check_names : FnScope ["tree", "arrays", "block", "names", "name", "_"] ["tree"] (defScope S_check_names) := ⟨rfl, rfl, rfl, by decide +kernel, rfl, by decide +kernel, by decide +kernel⟩
abbrev S_check_block : Stmt := top 67
theorem sc_check_block : FnScope ["block", "names", "counters", "statement", "counter", "_", "array", "factors"] ["block", "names", "counters"] (defScope S_check_block) := ⟨rfl, rfl, rfl, by decide +kernel, rfl, by decide +kernel, by decide +kernel⟩
abbrev S_Program___init__ : Stmt := inClass (top 69) 0
theorem sc_Program___init__ : FnScope ["self", "tree", "word", "arrays", "block", "name", "parts"] ["self", "tree"] (defScope S_Program___init__) := ⟨rfl, rfl, rfl, by decide +kernel, rfl, by decide +kernel, by decide +kernel⟩
abbrev S_law_pool : Stmt := top 71
theorem sc_law_pool : FnScope ["_law_script", "_law_k", "_law_cell", "_law_heavy", "_law_blend", "_law_seed"] ["_law_script", "_law_k"] (defScope S_law_pool) := ⟨rfl, rfl, rfl, by decide +kernel, rfl, by decide +kernel, by decide +kernel⟩
abbrev S_law_take : Stmt := top 72
theorem sc_law_take : FnScope ["_law_pool_here", "_law_wide", "_law_result"] ["_law_pool_here", "_law_wide"] (defScope S_law_take) := ⟨rfl, rfl, rfl, by decide +kernel, rfl, by decide +kernel, by decide +kernel⟩
abbrev S_law_cleared : Stmt := top 73
theorem sc_law_cleared : FnScope ["_law_parts_here", "_law_many"] ["_law_parts_here"] (defScope S_law_cleared) := ⟨rfl, rfl, rfl, by decide +kernel, rfl, by decide +kernel, by decide +kernel⟩
abbrev S_law_parts : Stmt := top 74
theorem sc_law_parts : FnScope ["_law_pool_here", "_law_most", "_law_menu", "_law_turn"] ["_law_pool_here", "_law_most"] (defScope S_law_parts) := ⟨rfl, rfl, rfl, by decide +kernel, rfl, by decide +kernel, by decide +kernel⟩
abbrev S_law_form : Stmt := top 75
theorem sc_law_form : FnScope ["_law_pool_here", "_law_counters", "_law_factors", "_law_name", "_law_parts_here"] ["_law_pool_here", "_law_counters"] (defScope S_law_form) := ⟨rfl, rfl, rfl, by decide +kernel, rfl, by decide +kernel, by decide +kernel⟩
abbrev S_law_statement : Stmt := top 76
theorem sc_law_statement : FnScope ["_law_pool_here", "_law_env", "_law_counters", "_law_way", "_law_free", "_law_array", "_law_name"] ["_law_pool_here", "_law_env", "_law_counters"] (defScope S_law_statement) := ⟨rfl, rfl, rfl, by decide +kernel, rfl, by decide +kernel, by decide +kernel⟩
abbrev S_law_block : Stmt := top 77
theorem sc_law_block : FnScope ["_law_pool_here", "_law_env", "_law_counters", "_law_found", "_law_turn"] ["_law_pool_here", "_law_env", "_law_counters"] (defScope S_law_block) := ⟨rfl, rfl, rfl, by decide +kernel, rfl, by decide +kernel, by decide +kernel⟩
abbrev S_law_tree : Stmt := top 78
theorem sc_law_tree : FnScope ["_law_pool_here", "_law_shift", "_law_words", "_law_arrays", "_law_env", "_law_lengths", "_law_block_here", "_law_turn", "_law_at", "_law_name"] ["_law_pool_here"] (defScope S_law_tree) := ⟨rfl, rfl, rfl, by decide +kernel, rfl, by decide +kernel, by decide +kernel⟩
abbrev S_law_heard : Stmt := top 79
theorem sc_law_heard : FnScope ["_law_tree_here", "e"] ["_law_tree_here"] (defScope S_law_heard) := ⟨rfl, rfl, rfl, by decide +kernel, rfl, by decide +kernel, by decide +kernel⟩
abbrev S_law_odd_parts : Stmt := top 80
theorem sc_law_odd_parts : FnScope [] [] (defScope S_law_odd_parts) := ⟨rfl, rfl, rfl, by decide +kernel, rfl, by decide +kernel, by decide +kernel⟩
abbrev S_law_odd_forms : Stmt := top 81
theorem sc_law_odd_forms : FnScope ["_law_found", "_law_parts_here", "_law_one"] [] (defScope S_law_odd_forms) := ⟨rfl, rfl, rfl, by decide +kernel, rfl, by decide +kernel, by decide +kernel⟩
abbrev S_law_odd_statements : Stmt := top 82
theorem sc_law_odd_statements : FnScope ["_law_found", "_law_parts_here", "_law_form_here"] [] (defScope S_law_odd_statements) := ⟨rfl, rfl, rfl, by decide +kernel, rfl, by decide +kernel, by decide +kernel⟩
abbrev S_law_put : Stmt := top 83
theorem sc_law_put : FnScope ["_law_pool_here", "_law_block_here", "_law_odd", "_law_at", "_law_inner"] ["_law_pool_here", "_law_block_here", "_law_odd"] (defScope S_law_put) := ⟨rfl, rfl, rfl, by decide +kernel, rfl, by decide +kernel, by decide +kernel⟩
abbrev S_law : Stmt := top 84
theorem sc_law : FnScope ["_law_script", "_law_odd", "_law_thing", "_law_k", "_law_pool_here", "_law_tree_here", "_law_statements", "_law_turn", "_law_wrong", "_law_bent", "_law_parts_here"] ["_law_script"] (defScope S_law) := ⟨rfl, rfl, rfl, by decide +kernel, rfl, by decide +kernel, by decide +kernel⟩

/-! ### tokens: the signs -/
abbrev LET : Str := "abcdefghijklmnopqrstuvwxyz"
abbrev DIG : Str := "0123456789"
abbrev GAP : Str := " \n"
/-- a lowercase letter, a digit, either -/
def lc (c : Nat) : Bool := decide (c ∈ LET.cps.toList)
def dg (c : Nat) : Bool := decide (c ∈ DIG.cps.toList)
def an (c : Nat) : Bool := lc c || dg c
/-- the end of the run of letters and digits from b on -/
def runE (s : List Nat) (b : Nat) : Nat := b + ((s.drop b).takeWhile an).length
theorem runE_step {s : List Nat} {b : Nat} {c : Nat} (h : s[b]? = some c) (a : an c = true) : runE s b = runE s (b + 1) := by
  have hl : b < s.length := (List.getElem?_eq_some_iff.mp h).1
  have e : s.drop b = c :: s.drop (b + 1) := by
    rw [List.drop_eq_getElem_cons hl]
    congr 1
    have := List.getElem?_eq_getElem hl
    rw [h] at this
    exact (Option.some.inj this).symm
  unfold runE
  rw [e, List.takeWhile_cons, if_pos a, List.length_cons]
  omega
theorem runE_stop {s : List Nat} {b : Nat} {c : Nat} (h : s[b]? = some c) (a : an c = false) : runE s b = b := by
  have hl : b < s.length := (List.getElem?_eq_some_iff.mp h).1
  have e : s.drop b = c :: s.drop (b + 1) := by
    rw [List.drop_eq_getElem_cons hl]
    congr 1
    have := List.getElem?_eq_getElem hl
    rw [h] at this
    exact (Option.some.inj this).symm
  unfold runE
  rw [e, List.takeWhile_cons, if_neg (by rw [a]; exact Bool.false_ne_true)]
  rfl
theorem runE_end {s : List Nat} : runE s s.length = s.length := by
  unfold runE
  rw [List.drop_length]
  rfl
/-- the module's constants and Python's own names in it -/
structure TkB (mg : Str → Option Value) : Prop where
  let_ : ∃ t, mg "_LETTERS" = some (.str LET t)
  dig : ∃ t, mg "_DIGITS" = some (.str DIG t)
  gap : ∃ t, mg "_GAPS" = some (.str GAP t)
  len : mg "len" = none
  max : mg "max" = none
  all : mg "all" = none
def spEnd : Sp := fun vs H Q _ => ∃ (z : Str) (b : Nat), vs = [.str z, .int b] ∧ z.length ≤ 100000 ∧ b ≤ z.length ∧ Q (.int (runE z.cps.toList b : Nat)) H
theorem atN {α : Type} {xs : List α} {j : Nat} {x : α} (h : xs[j]? = some x) : atI xs (j : Int) = some x := by
  have hl : j < xs.length := (List.getElem?_eq_some_iff.mp h).1
  unfold atI
  rw [ixN_nat hl]
  exact h
theorem zL {n : Nat} (h : n ≤ 100000) : n ≤ sizeLine := by rw [sizeLine_eq]; omega
section
variable {P : Program} {w : World} {K : PySem.W.Frag} {mg : Str → Option Value} {base : Heap}
theorem ok_end {f : Addr} {fd : FuncData} (F : Fun K "_end_of_run" "_end_of_run" S_end_of_run f fd) (B : TkB mg) : FnOk P w K mg base CX0 1 f fd ["text", "begin"] spEnd := by
  refine F.ok sc_end_of_run (fun vs H Q E h => ?_) (fun cdv A outer s H vs Q E hr h => ?_)
  · obtain ⟨z, b, rfl, _⟩ := h; rfl
  · obtain ⟨z, b, rfl, hz, hb, q⟩ := h
    obtain ⟨t1, m1⟩ := B.let_
    obtain ⟨t2, m2⟩ := B.dig
    refine ⟨_, pss_cons (ps_set (i := 2) sc_end_of_run.nd rfl (Or.inl rfl) (pv 1))
      (pss_cons (ps_while PassesOwn.never (PW.pt (pw_and (pt_cmpR op_lt (pv 2) (pe_callB call_len_str (by rfl) B.len PySem.boot_len (pa_cons (pv 0) pa_nil)) (nomark _))
          (pw_and1 (PW.pt (pw_or (pt_cmpR op_inS (pe_ix ix_str (pv 0) (pv 2) (fun _ _ => rfl)) (pe_glob (by rfl) m1 (v := .str LET) ⟨t1, rfl⟩) (by rfl))
            (pw_or1 (pt_cmpR op_inS (pe_ix ix_str (pv 0) (pv 2) (fun _ _ => rfl)) (pe_glob (by rfl) m2 (v := .str DIG) ⟨t2, rfl⟩) (by rfl))))))))
        (pss_one (ps_aug (i := 2) sc_end_of_run.nd rfl (.inl rfl) pe_int ip_add)))
      (pss_one (ps_ret (pv 2)))), ?_⟩
    refine ⟨_, rfl, ?_⟩
    have hsz : z.cps.toList.length = z.length := rfl
    refine ⟨fun m σ H' => ∃ e : Nat, m = z.length - e ∧ b ≤ e ∧ e ≤ z.length ∧ σ = [some (.str z), some (.int b), some (.int e)] ∧ H' = H ∧ runE z.cps.toList b = runE z.cps.toList e, ⟨_, b, rfl, Nat.le_refl _, hb, rfl, rfl, rfl⟩, ?_⟩
    rintro m σ H' ⟨e, rfl, hbe, hez, rfl, rfl, hrun⟩
    refine ⟨_, rfl, _, rfl, z, rfl, zL hz, _, _, rfl, rfl, _, rfl, ?_⟩
    have step : ∀ {c : Nat}, z.cps.toList[e]? = some c → an c = true → ∃ N : L2.St → Hp → Prop, (∀ σ' H'', N σ' H'' → ∃ m', m' < z.length - e ∧ ∃ e' : Nat, m' = z.length - e' ∧ b ≤ e' ∧ e' ≤ z.length ∧ σ' = [some (.str z), some (.int b), some (.int e')] ∧ H'' = H' ∧ runE z.cps.toList b = runE z.cps.toList e') ∧
        N [some (.str z), some (.int b), some (.int ((e : Int) + 1))] H' := fun {c} hc ha => by
      have hl : e < z.length := (List.getElem?_eq_some_iff.mp hc).1
      refine ⟨fun σ' H'' => σ' = [some (.str z), some (.int b), some (.int ((e + 1 : Nat) : Int))] ∧ H'' = H', ?_, ?_, rfl⟩
      · rintro σ' H'' ⟨rfl, rfl⟩
        exact ⟨_, by omega, e + 1, rfl, by omega, by omega, rfl, rfl, hrun.trans (runE_step hc ha)⟩
      · have e1 : ((e + 1 : Nat) : Int) = (e : Int) + 1 := by omega
        rw [e1]
    refine ite2 (fun h0 => ?_) (fun h0 => ?_)
    · have hl : e < z.length := by have := of_decide_eq_true h0; omega
      have hc : z.cps.toList[e]? = some (z.cps.toList[e]) := List.getElem?_eq_getElem hl
      generalize z.cps.toList[e] = c at hc
      refine ⟨_, rfl, _, rfl, z, _, c, rfl, rfl, zL hz, atN hc, c, LET, rfl, rfl, _, rfl, ?_⟩
      refine ite2 (fun h1 => ?_) (fun h1 => ?_)
      · obtain ⟨N, n1, n2⟩ := step hc (by unfold an lc; rw [h1]; rfl)
        exact ⟨N, n1, _, rfl, _, _, rfl, rfl, n2⟩
      · refine ⟨_, rfl, _, rfl, z, _, c, rfl, rfl, zL hz, atN hc, c, DIG, rfl, rfl, _, rfl, ?_⟩
        refine ite2 (fun h2 => ?_) (fun h2 => ?_)
        · obtain ⟨N, n1, n2⟩ := step hc (by unfold an dg; rw [h2, Bool.or_true])
          exact ⟨N, n1, _, rfl, _, _, rfl, rfl, n2⟩
        · have hs := runE_stop hc (by unfold an lc dg; rw [Bool.eq_false_iff.mpr h1, Bool.eq_false_iff.mpr h2]; rfl)
          rw [hs] at hrun
          rw [hrun] at q
          exact ⟨_, rfl, q⟩
    · have he : e = z.length := by
        have h1 : ¬ (e : Int) < (z.length : Int) := by simpa using h0
        omega
      subst he
      rw [hrun, ← hsz, runE_end] at q
      exact ⟨_, rfl, q⟩
/-- a lowercase letter, then letters and digits -/
def isW (s : List Nat) : Bool := match s with
  | [] => false
  | c :: r => lc c && r.all an
theorem takeWhile_all {α : Type} (p : α → Bool) : ∀ l : List α, ((l.takeWhile p).length = l.length) ↔ l.all p = true
  | [] => by simp
  | x :: l => by
    rw [List.takeWhile_cons, List.all_cons]
    cases h : p x with
    | false => simp
    | true => simp [takeWhile_all p l]
theorem isW_run {c : Nat} {r : List Nat} (h : lc c = true) : decide (runE (c :: r) 0 = (c :: r).length) = r.all an := by
  have ha : an c = true := by unfold an; rw [h]; rfl
  have e : runE (c :: r) 0 = 1 + (r.takeWhile an).length := by
    unfold runE
    rw [List.drop_zero, List.takeWhile_cons, if_pos ha, List.length_cons]
    omega
  rw [e, List.length_cons]
  have k := takeWhile_all an r
  cases h2 : r.all an with
  | true => rw [decide_eq_true_eq]; have := k.mpr h2; omega
  | false =>
    rw [decide_eq_false_iff_not]
    intro z
    have := k.mp (by omega)
    rw [h2] at this
    cases this
def spWord : Sp := fun vs H Q _ => ∃ z : Str, vs = [.str z] ∧ z.length ≤ 100000 ∧ Q (.bl (isW z.cps.toList)) H
theorem str_nil {z : Str} (h : z.cps.toList = []) : z = Str.empty := by
  obtain ⟨⟨l⟩⟩ := z
  simp only at h
  rw [h]
  rfl
theorem ok_is_word {f fE : Addr} {fd dE : FuncData} (F : Fun K "is_word" "is_word" S_is_word f fd) (FE : Fun K "_end_of_run" "_end_of_run" S_end_of_run fE dE) (bE : Binds K dE ["text", "begin"] []) (gE : mg "_end_of_run" = some (.ref fE)) (B : TkB mg) : FnOk P w K mg base CX0 2 f fd ["text"] spWord := by
  have GE : FnOk P w K mg base CX0 1 fE dE ["text", "begin"] spEnd := ok_end FE B
  refine F.ok sc_is_word (fun vs H Q E h => ?_) (fun cdv A outer s H vs Q E hr h => ?_)
  · obtain ⟨z, rfl, _⟩ := h; rfl
  · obtain ⟨z, rfl, hz, q⟩ := h
    obtain ⟨t1, m1⟩ := B.let_
    refine ⟨_, pss_one (ps_ret (pe_and (pe_cmpR op_ne (pv 0) pe_str (nomark _)) (pe_and (pe_cmpR op_inS (pe_ix ix_str (pv 0) pe_int (fun _ _ => rfl)) (pe_glob (by rfl) m1 (v := .str LET) ⟨t1, rfl⟩) (by rfl))
      (pe_one (pe_cmpR op_eq (pe_call GE hr (by rfl) gE FE.kp bE .nil pass0 (pa_cons (pv 0) (pa_cons pe_int pa_nil))) (pe_callB call_len_str (by rfl) B.len PySem.boot_len (pa_cons (pv 0) pa_nil)) (nomark _)))))), ?_⟩
    refine ⟨_, rfl, rfl, _, rfl, ?_⟩
    cases hs : z.cps.toList with
    | nil =>
      have e := str_nil hs
      subst e
      rw [hs] at q
      refine iteF q
    | cons c r =>
      have ne : z ≠ Str.ofString "" := fun e => by
        have e0 : (Str.ofString "").cps.toList = [] := by decide +kernel
        rw [e, e0] at hs
        cases hs
      rw [hs] at q
      rw [decide_eq_false (p := V.str z = V.str (Str.ofString "")) (fun e => ne (V.str.inj e))]
      refine iteT ?_
      refine ⟨_, rfl, z, 0, c, rfl, rfl, zL hz, by rw [hs]; exact atN (j := 0) rfl, c, LET, rfl, rfl, _, rfl, ?_⟩
      refine ite2 (fun h1 => ?_) (fun h1 => ?_)
      · refine ⟨_, rfl, z, 0, rfl, hz, Nat.zero_le _, ?_⟩
        refine ⟨_, rfl, z, rfl, zL hz, rfl, ?_⟩
        have e2 : decide (V.int ((runE z.cps.toList 0 : Nat) : Int) = V.int (z.length : Int)) = r.all an := by
          rw [← isW_run (c := c) (r := r) h1, hs]
          have hl : z.length = (c :: r).length := by rw [← hs]; rfl
          rw [hl]
          exact decide_eq_decide.mpr ⟨fun k => by have := V.int.inj k; omega, fun k => by rw [k]⟩
        rw [e2]
        have e3 : isW (c :: r) = r.all an := by
          show (decide (c ∈ LET.cps.toList) && r.all an) = _
          rw [h1, Bool.true_and]
        rw [← e3]
        exact q
      · have e3 : isW (c :: r) = false := by
          show (decide (c ∈ LET.cps.toList) && r.all an) = _
          rw [Bool.eq_false_iff.mpr h1, Bool.false_and]
        rw [e3] at q
        exact q
end

end K08

namespace K08
open PySem L2 SZ VR VX StX RT
/-! ### numbers, the list of tokens -/
section
variable {P : Program} {w : World} {K : PySem.W.Frag} {mg : Str → Option Value} {base : Heap}
end

end K08

namespace K08
open PySem L2 SZ VR VX StX RT
section
variable {P : Program} {w : World} {K : PySem.W.Frag} {mg : Str → Option Value} {base : Heap}
end

end K08

namespace K08
open PySem L2 SZ VR VX StX RT
/-! ### the class Reader -/
/-- all else is kept -/
def ButR (R : Addr) (H H' : Hp) : Prop := ∀ b o, H b = some o → b ≠ R → H' b = some o
section
variable {P : Program} {w : World} {K : PySem.W.Frag} {mg : Str → Option Value} {base : Heap} {C : Addr}
end

end K08

namespace K08
open PySem L2 SZ VR VX StX RT
/-! ### raise InvalidSyntax(position) -/
/-- the class InvalidSyntax and its __init__ -/
structure SxC (P : Program) (w : World) (K : PySem.W.Frag) (mg : Str → Option Value) (base : Heap) (x : Str) (C : Addr) (f : Str) : Prop where
  O : OexC K C
  m : mg x = some (.ref C)
  i : ∃ (fI : Addr) (fd : FuncData), PySem.W.findIn K (.ref C) "__init__" = some (some (.ref fI)) ∧ PySem.W.typeIn K (.ref fI) = some (.type "function") ∧ FnOk P w K mg base CX0 1 fI fd [("self" : Str), f] (spOx K C f) ∧ Binds K fd [("self" : Str), f] []
/-- te, for any stronger wish -/
def tMono (te : TE) : TE := fun σ H Q => ∃ Q0 : VK, te σ H Q0 ∧ ∀ v H1, Q0 v H1 → Q v H1
theorem pe_tMono {X : Cx} {e : Expr} {te : TE} (he : PE X e te) : PE X e (tMono te) := ⟨fun pins s σ H Q I ⟨Q0, h, k⟩ => wpAny_mono (he.run pins s σ H Q0 I h) (fun u s' ⟨x, H1, I1, r, q⟩ => ⟨x, H1, I1, r, k _ _ q⟩) fun _ _ z => z⟩
/-- C(e) is made and raised: its dict is d, all else is kept -/
def tRaiseX (C : Addr) (f : Str) (te : TE) (W : WX) : TS := fun _ σ H => te σ H fun v H1 => ∀ (d : Addr) (H' : Hp), H1 d = none → Same H1 H' → H' d = some (.xd [(f, v)]) → W (.ref C) (some d) σ H'
theorem ps_raiseX {X : Cx} {W : WX} {x : Str} {C : Addr} {f : Str} {e : Expr} {te : TE} {p cpos pos : Pos} (G : SxC X.prog X.w X.K X.mg X.base x C f) (hc : X.calm = true) (tk : Takes X W) (hr : Room 2 X.A) (he : PE X e te) (hg : Gl X x := by rfl) (hdb : (x == ("__debug__" : Str)) = false := by decide)
    (hs : starEach [e] X.env = (false, eval e X.env) :: starEach [] X.env := by rfl) : PS X (.Raise (some (.Call (.Name x p) [e] [] cpos)) none pos) (tRaiseX C f te W) := by
  obtain ⟨fI, fd, iC, tI, F, b⟩ := G.i
  have h := ps_raise (pos := pos) hc tk (pmk_oex (ta := tCons (tMono te) tNil) (es := []) (p := p) (pos := cpos) (dvs := []) (ds := []) G.O iC tI F hr b .nil pass0 hg G.m (pa_cons (pe_tMono he) pa_nil hs) hdb hs (by rfl))
  refine ⟨fun pins s σ H D I q => h.run pins s σ H D I ⟨_, q, fun v H1 k => ⟨by simp, fun a ha => ⟨a, v, rfl, upd_same, fun dx h1 h2 => ?_⟩⟩⟩⟩
  have hd : H1 dx = none := by rw [upd_ne h2] at h1; exact h1
  refine ⟨rfl, dx, [(f, v)], upd_same, by rw [upd_ne h2, upd_same], hd, k dx _ hd (fun b o e => ?_) upd_same⟩
  have b1 : b ≠ a := ne_of_none e ha
  have b2 : b ≠ dx := ne_of_none e hd
  rw [upd_ne b2, del_ne b1, upd_ne b1, upd_ne b2, upd_ne b1]
  exact e
section
variable {P : Program} {w : World} {K : PySem.W.Frag} {mg : Str → Option Value} {base : Heap} {C CS : Addr}
end

end K08

namespace K08
open PySem L2 SZ VR VX StX RT
/-! ### names -/
abbrev KW : List Str := ["array", "for", "read", "write", "flush", "n"]
/-- a word that is no keyword -/
def isNm (z : Str) : Bool := isW z.cps.toList && !KW.contains z
structure TxB (K : PySem.W.Frag) (mg : Str → Option Value) : Prop where
  kw : ∃ a, mg "_KEYWORDS" = some (.ref a) ∧ ∀ H, SqT K H a (KW.map V.str)
  is : mg "isinstance" = none
  str : mg "str" = none
def spName (K : PySem.W.Frag) : Sp := fun vs H Q _ => ∃ v, vs = [v] ∧ ((∃ z : Str, v = .str z ∧ z.length ≤ 100000 ∧ Q (.bl (isNm z)) H) ∨ ∃ t, TyX K H v t ∧ PySem.W.kitOne K t (.type "str") = some false ∧ Q (.bl false) H)
theorem inV_str (z : Str) : ∀ l : List Str, inV (.str z) (l.map V.str) = l.contains z
  | [] => rfl
  | x :: l => by
    have ih := inV_str z l
    unfold inV at ih ⊢
    rw [List.map_cons, List.any_cons, ih, List.contains_cons]
    congr 1
    simp only [eqV]
    first | rfl | exact Bool.beq_comm .. | (rw [Bool.eq_iff_iff]; simp [eq_comm])
theorem flat_strs (l : List Str) : (l.map V.str).all flatV = true := by
  rw [List.all_map]
  exact List.all_eq_true.mpr fun _ _ => rfl
section
variable {P : Program} {w : World} {K : PySem.W.Frag} {mg : Str → Option Value} {base : Heap} {C CS : Addr}
theorem ok_is_name {f fW fE : Addr} {fd dW dE : FuncData} (F : Fun K "is_name" "is_name" S_is_name f fd) (FW : Fun K "is_word" "is_word" S_is_word fW dW) (bW : Binds K dW ["text"] []) (gW : mg "is_word" = some (.ref fW))
    (FE : Fun K "_end_of_run" "_end_of_run" S_end_of_run fE dE) (bE : Binds K dE ["text", "begin"] []) (gE : mg "_end_of_run" = some (.ref fE)) (B : TkB mg) (T : TxB K mg) : FnOk P w K mg base CX0 3 f fd ["value"] (spName K) := by
  have GW : FnOk P w K mg base CX0 2 fW dW ["text"] spWord := ok_is_word FW FE bE gE B
  refine F.ok sc_is_name (fun vs H Q E h => ?_) (fun cdv A outer s H vs Q E hr h => ?_)
  · obtain ⟨v, rfl, _⟩ := h; rfl
  · obtain ⟨v, rfl, q⟩ := h
    obtain ⟨a, ma, ha⟩ := T.kw
    refine ⟨_, pss_one (ps_ret (pe_and (pe_callB call_isi (by rfl) T.is (by decide +kernel) (pa_cons (pv 0) (pa_cons (pe_bltn (by rfl) T.str (u := .type "str") (v := .ty "str") (by decide +kernel) rfl) pa_nil)))
      (pe_and (pe_call GW hr (by rfl) gW FW.kp bW .nil pass0 (pa_cons (pv 0) pa_nil)) (pe_one (pe_cmpR op_notIn_seq (pv 0) (pe_glob (by rfl) ma (v := .ref a) rfl) (by rfl)))))), ?_⟩
    rcases q with ⟨z, rfl, hz, q⟩ | ⟨t, ty, kt, q⟩
    · refine ⟨_, rfl, .str z, .ty "str", .type "str", .type "str", true, rfl, .ty _, .base (.str z), if_pos (beq_self_eq_true _), true, rfl, ?_⟩
      refine iteT ?_
      refine ⟨_, rfl, z, rfl, hz, _, rfl, ?_⟩
      cases hw : isW z.cps.toList with
      | false =>
        have e : isNm z = false := by unfold isNm; rw [hw, Bool.false_and]
        rw [e] at q
        exact iteF q
      | true =>
        have e : isNm z = !KW.contains z := by unfold isNm; rw [hw, Bool.true_and]
        rw [e] at q
        refine iteT ?_
        refine ⟨_, rfl, a, KW.map V.str, rfl, .inr (ha H), rfl, flat_strs _, ?_⟩
        rw [inV_str]
        exact q
    · exact ⟨_, rfl, v, .ty "str", t, .type "str", false, rfl, .ty _, ty, kt, false, rfl, iteF q⟩
end

end K08

namespace K08
open PySem L2 SZ VR VX StX RT
/-! ### what the parser tells of a list of tokens -/
def isNmL (s : List Nat) : Bool := isNm ⟨s.toArray⟩
section
variable {P : Program} {w : World} {K : PySem.W.Frag} {mg : Str → Option Value} {base : Heap} {C CS CT : Addr}
end

end K08

namespace K08
open PySem L2 SZ VR VX StX RT
/-! ### parts of a sum -/
section
variable {P : Program} {w : World} {K : PySem.W.Frag} {mg : Str → Option Value} {base : Heap} {C CS CT : Addr}
end

end K08

namespace K08
open PySem L2 SZ VR VX StX RT
/-! ### the sizes module -/
section
variable {P : Program} {w : World} {K : PySem.W.Frag} {mg : Str → Option Value} {base : Heap}
end

section
variable {P : Program} {w : World} {K : PySem.W.Frag} {mg : Str → Option Value} {base : Heap}
end

section
variable {P : Program} {w : World} {K : PySem.W.Frag} {mg : Str → Option Value} {base : Heap}
end

section
variable {P : Program} {w : World} {K : PySem.W.Frag} {mg : Str → Option Value} {base : Heap} {C fT fS fP fN fI fO fA : Addr} {fdT fdS fdP fdN fdI fdO fdA : FuncData}
end

/-! ### the class Size -/
section
variable {P : Program} {w : World} {K : PySem.W.Frag} {mg : Str → Option Value} {base : Heap} {C fT fS fP fN fI fO fA : Addr} {fdT fdS fdP fdN fdI fdO fdA : FuncData}
end
section
variable {P : Program} {w : World} {K : PySem.W.Frag} {mg : Str → Option Value} {base : Heap} {C fT fS fP fN fI fO fA fM : Addr} {fdT fdS fdP fdN fdI fdO fdA fdM fdG : FuncData} {pc g : Addr} {dvs : List V} {ds : List Value}
end

section
variable {P : Program} {w : World} {K : PySem.W.Frag} {mg : Str → Option Value} {base : Heap} {C fT fS fP fN fI fO fA fM : Addr} {fdT fdS fdP fdN fdI fdO fdA fdM fdG : FuncData} {pc g : Addr} {dvs : List V} {ds : List Value}
end
section
variable {P : Program} {w : World} {K : PySem.W.Frag} {mg : Str → Option Value} {base : Heap} {C fT fS fP fN fI fO fA fM : Addr} {fdT fdS fdP fdN fdI fdO fdA fdM fdG : FuncData} {pc g : Addr} {dvs : List V} {ds : List Value}
  {fadd fsub fmul fneg fcall feq : Addr} {da dsu dm dn dc de : FuncData}
end

end K08

/-! t * k for a tuple t and k = 0 or 1 (HandS.TupMul has k from 2 on). -/
namespace VX
open PySem PySem.Spec PyProof.Rows L2 VR
end VX

namespace K08
open PySem L2 SZ VR VX StX RT
/-! ### sums -/
end K08

namespace K08
open PySem L2 SZ VR VX StX RT
section
variable {P : Program} {w : World} {K : PySem.W.Frag} {mg : Str → Option Value} {base : Heap} {C CS CT CZ : Addr}
end

end K08

namespace K08
open PySem L2 SZ VR VX StX RT
/-! ### sizes in texts -/
section
variable {P : Program} {w : World} {K : PySem.W.Frag} {mg : Str → Option Value} {base : Heap} {C CS CT CZ : Addr}
end

end K08

namespace K08
open PySem L2 SZ VR VX StX RT
/-! ### indexes in texts -/
end K08

namespace K08
open PySem L2 SZ VR VX StX RT
section
variable {P : Program} {w : World} {K : PySem.W.Frag} {mg : Str → Option Value} {base : Heap} {C CS CT CZ : Addr}
end

end K08

namespace K08
open PySem L2 SZ VR VX StX RT
/-! ### statements and blocks -/
end K08

namespace K08
open PySem L2 SZ VR VX StX RT
/-! ### _loop, _statement, _block -/
section
variable {P : Program} {w : World} {K : PySem.W.Frag} {mg : Str → Option Value} {base : Heap} {C CS CT : Addr}
end

end K08

namespace K08
open PySem L2 SZ VR VX StX RT
/-! ### a whole text -/
section
variable {P : Program} {w : World} {K : PySem.W.Frag} {mg : Str → Option Value} {base : Heap} {C CV CS CT : Addr}
end

end K08

/-! A law whose def shows lists: its call where nothing is being shown yet. -/
namespace VX
open PySem PySem.Spec PyProof.Rows L2 VR
/-- the call keeps sp wherever nothing is being shown -/
def RunG (P : Program) (w : World) (K : PySem.W.Frag) (mg : Str → Option Value) (base : Heap) (CX : CXT) (k : Nat) (f : Addr) (fd : FuncData) (ps : List Str) (sp : Sp) : Prop :=
  ∀ (A : Around) (outer : List Env) (s : Shared) (H : Hp) (args : Args) (us : List Value) (vs : List V) (Q : VK) (E : XK), A.guards = some [] → Room k A → Env0 P w K mg base A outer s H → BindsTo s fd args (ps.zip us) → Vals vs us → sp vs H Q E →
    codeAny (model P w) A (.call (.ref f) args) (CR CX outer P w H s Q E) s
theorem runG_of {CX : CXT} {P : Program} {w : World} {K : PySem.W.Frag} {mg : Str → Option Value} {base : Heap} {k : Nat} {f : Addr} {name qual : Str} {params : Arguments} {body : List Stmt} {scope : Scope} {dV kV doc pm cdv ct oc : Value} {an od : Option Addr}
    {osl : Array (Option Value)} {N ps : List Str} {sp : Sp} (lk : K.lookup f = some ⟨oc, od, .func (PySem.W.fnOf name qual params body scope dV kV doc pm an cdv ct), osl⟩) (cdK : PySem.W.codeIn K cdv qual = true) (S : FnScope N ps scope)
    (len : ∀ vs H Q E, sp vs H Q E → vs.length = ps.length)
    (bd : ∀ (A : Around) (outer : List Env) (s : Shared) (H : Hp) (vs : List V) (Q : VK) (E : XK), A.guards = some [] → Room k (A.deeper (envOfC qual scope s.heap.objs.size f cdv)) → sp vs H Q E →
      ∃ t, PSs (cxOf CX P w K mg base N qual scope f cdv A outer s H E) body t ∧ t { nx := fun _ H' => Q .non H', rt := Q } (start N vs) H) :
    RunG P w K mg base CX (k + 1) f (PySem.W.fnOf name qual params body scope dV kV doc pm an cdv ct) ps sp := by
  intro A outer s H args us vs Q E hg room e0 hb r hsp
  have ln := len _ _ _ _ hsp
  have up : ∀ b o, base.get? b = some o → s.heap.get? b = some o := fun b o e => (e0.bs b o e).1
  have kinds : ∀ y ∈ ps.zip us, scope.names.lookup y.1 = some .local ∨ (scope.names.lookup y.1 = some .cell ∧ ((cellsFrom (s.heap.objs.size + 1) scope.names []).lookup y.1).isSome = true) := fun ⟨n, v⟩ hy =>
    (S.par n (List.of_mem_zip hy).1).imp id fun q => ⟨q, PySem.W.cellsFrom_some _ _ _ (.inl q)⟩
  have KX : K.In s.heap := e0.mod.kin.keeps up
  refine codeAny_call_function room.depth (KX _ _ lk) rfl S.co S.gen rfl (PySem.W.codeRec_of KX cdK) (hb _ _ _ _ (wpAny_newFunctionEnv_cells S.kind kinds fun env he s1 x => ?_))
  subst he
  refine ⟨(e0.mod.nolimit.keeps up).keeps x.toInCall.keep, codeAny_func ?_⟩
  obtain ⟨t, ht, hq⟩ := bd A outer s H vs Q E hg (room.deeper _) hsp
  refine wpAny_mono (ht.run [] s1 (start N vs) H _ (inv_start S room.hd e0 ln r x) hq) (fun fl s' hs => ?_) fun e s' hs => hs
  match fl, hs with
  | .ret u, ⟨v, σ', H', J, rv, q⟩ => exact ⟨v, H', J.os, J.bare, J.base, J.hok, rv, q⟩
  | .next, ⟨σ', H', J, q⟩ => exact ⟨V.non, H', J.os, J.bare, J.base, J.hok, rfl, q⟩
  | .brk, ⟨_, _, _, q⟩ => exact q.elim
  | .cont, ⟨_, _, _, q⟩ => exact q.elim
theorem okG {P : Program} {w : World} {K : PySem.W.Frag} {mg : Str → Option Value} {base : Heap} {x qual : Str} {st : Stmt} {f : Addr} {fd : FuncData} {N ps : List Str} {k : Nat} {sp : Sp} (F : Fun K x qual st f fd) (S : FnScope N ps (defScope st)) (len : ∀ vs H Q E, sp vs H Q E → vs.length = ps.length)
    (bd : ∀ (cdv : Value) (A : Around) (outer : List Env) (s : Shared) (H : Hp) (vs : List V) (Q : VK) (E : XK), A.guards = some [] → Room k (A.deeper (envOfC qual (defScope st) s.heap.objs.size f cdv)) → sp vs H Q E →
      ∃ t, PSs (cxOf CX0 P w K mg base N qual (defScope st) f cdv A outer s H E).nox (defBody st) t ∧ t { nx := fun _ H' => Q .non H', rt := Q } (start N vs) H) : RunG P w K mg base CX0 (k + 1) f fd ps sp := by
  obtain ⟨oc, od, kV, doc, pm, an, cdv, ct, osl, rfl, lk, hcd⟩ := F.ex
  refine runG_of lk hcd S len fun A outer s H vs Q E hg hr hsp => ?_
  obtain ⟨t, h, q⟩ := bd cdv A outer s H vs Q E hg hr hsp
  exact ⟨t, h.nox, q⟩
/-- the law's call -/
theorem callG {P : Program} {w : World} {K : PySem.W.Frag} {mg mb : Str → Option Value} {CX : CXT} {k : Nat} {fa a : Addr} {fd : FuncData} {x : Str} {sp : Sp} {s₁ : Shared} {vs : List Value} {ns : List Int}
    (KX : K.In s₁.heap) (hns : s₁.heap.Ns mainGlobals mg) (hb : s₁.heap.Ns builtinsNs mb) (hbb : ∀ x : Str, x ≠ "__name__" → mb x = bootBuiltins x) (lim : s₁.heap.NoLimit) (hg : s₁.gens = #[])
    (ha : s₁.heap.get? a = some { cls := .type "list", data := .seq vs.toArray }) (hi : IntsAre vs ns) (hl : ns.length ≤ sizeLine) (room : Room k callerA)
    (F : ∀ base : Heap, K.In base → base.Ns mainGlobals mg → RunG P w K mg base CX k fa fd [x] sp) (bind : ∀ (s : Shared) (u : Value), BindsTo s fd ⟨[u], []⟩ [(x, u)])
    (hsp : ∀ H : Hp, Only H → SqL K H a (ns.map V.int) → sp [.ref a] H (fun v _ => v = .bl true) fun _ _ _ => False)
    (hCX : ∀ H e s', CX [] H s₁ (fun _ _ _ => False) e s' → False) :
    codeAny (model P w) callerA (.call (.ref fa) ⟨[.ref a], []⟩) (fun r s' => r = .ok (.ret (.bool true)) ∧ OldK s₁.heap s'.heap ∧ s'.os = s₁.os ∧ AllBare s'.gens) s₁ := by
  have rv := vals_ints hi
  have lv := hi.length
  suffices main : ∀ H : Hp, Only H → SqL K H a (ns.map V.int) → HOk P w H s₁.heap → (∀ b, H b ≠ none → b = a ∧ K.lookup a = none) →
      codeAny (model P w) callerA (.call (.ref fa) ⟨[.ref a], []⟩) (fun r s' => r = .ok (.ret (.bool true)) ∧ OldK s₁.heap s'.heap ∧ s'.os = s₁.os ∧ AllBare s'.gens) s₁ by
    cases hk : K.lookup a with
    | some o =>
      have e := KX a o hk
      rw [ha] at e
      cases e
      exact main (fun _ => none) (fun _ => .inl rfl) (.inr ⟨_, vs.toArray, _, hk, rfl, rfl, rfl, by rw [List.size_toArray, lv]; exact hl, by simpa using rv⟩) (fun b u z => nomatch (show (none : Option HO) = some u from z)) fun b z => absurd rfl z
    | none =>
      refine main (fun b => if b = a then some (.frz { cls := .type "list", data := .seq vs.toArray } (.lst (ns.map V.int))) else none) (fun b => ?_) (.inl (.inr ⟨{ cls := .type "list", data := .seq vs.toArray }, if_pos rfl⟩)) (fun b u z => ?_) (fun b z => ?_)
      · by_cases hb : b = a
        · exact .inr ⟨_, _, if_pos hb⟩
        · exact .inl (if_neg hb)
      · by_cases hb : b = a
        · cases (if_pos hb).symm.trans z
          subst hb
          exact ⟨ha, by rw [List.length_map]; exact hl, vs, _, rv, ha⟩
        · cases (if_neg hb).symm.trans z
      · by_cases hb : b = a
        · exact ⟨hb, hk⟩
        · exact absurd (if_neg hb) z
  intro H only hS hok hA
  have free : ∀ {b : Addr} {o : Obj} {es : Array DictEntry} {ep : Nat}, s₁.heap.get? b = some o → o.data = .dict es ep → H b = none := fun {b o es ep} e d => by
    cases q : H b with
    | none => rfl
    | some u =>
      obtain ⟨rfl, _⟩ := hA b (by rw [q]; simp)
      rw [ha] at e
      cases e
      exact nomatch (show Data.seq vs.toArray _ = Data.dict es ep from d)
  have nsK : ∀ {b : Addr} {m : Str → Option Value}, s₁.heap.Ns b m → (hidT s₁.heap H).Ns b m := fun {b m} ⟨o, es, ep, e, d, r⟩ => ⟨o, es, ep, hidT_get e (free e d), d, r⟩
  have KB : K.In (hidT s₁.heap H) := fun b o e => hidT_get (KX b o e) (by
    cases q : H b with
    | none => rfl
    | some u =>
      obtain ⟨rfl, z⟩ := hA b (by rw [q]; simp)
      rw [z] at e
      cases e)
  obtain ⟨mc, m1, m2⟩ := lim
  have e0 : Env0 P w K mg (hidT s₁.heap H) callerA [] s₁ H :=
    ⟨rfl, ⟨KB, nsK hns, ⟨mb, nsK hb, hbb⟩, ⟨mc, nsK m1, m2⟩⟩, fun b o e => of_hidT e, Nat.le_of_eq (hidT_size _ _), trivial, fun b hb => absurd (show b ∈ ([] : List Addr) from hb) (by simp), hok, .of_eq hg⟩
  refine codeAny_mono (F _ KB (nsK hns) callerA [] s₁ H ⟨[.ref a], []⟩ [.ref a] [.ref a] _ _ rfl room e0 (bind s₁ (.ref a)) (.cons rfl .nil) (hsp H only hS)) fun r s' h => ?_
  match r, h with
  | .error e, h => exact (hCX H e s' h).elim
  | .ok .next, h => exact h.elim
  | .ok .brk, h => exact h.elim
  | .ok .cont, h => exact h.elim
  | .ok (.ret u), ⟨v, H', os, bare, un, hok', r', q⟩ =>
    obtain rfl : v = .bl true := q
    obtain rfl : u = Value.bool true := r'
    refine ⟨rfl, OldK.of_keep fun b o e => ?_, os, bare⟩
    rcases only b with z | ⟨ob, xs, z⟩
    · exact un.keep b o e z (fun z => nomatch (show b ∈ ([] : List Addr) from z)) (by simp)
    · obtain ⟨e1, _⟩ := hok b _ z
      obtain ⟨e2, _⟩ := hok' b _ (un.frzs b ob _ z)
      rw [e] at e1
      cases e1
      exact e2
theorem walk_G {l : PySem.W.OpenLaw} {n k : Nat} {q : Program} {loose : List Str} {XP : (Str → Option Value) → Heap → Prop} {YP : World → Heap → Prop} {d : DefRec} {K : Params → PySem.W.Frag} {CX : CXT} {sp : PySem.W.Frag → Sp} {x : Str}
    (hn : l.most = some n) (hn2 : n ≤ sizeLine) (hdf : d.params.defaults = []) (hr : Room k callerA)
    (hY : ∀ (w : World) (h : Heap), YP w h → (K w.params).In h)
    (F : ∀ (w : World) (mg : Str → Option Value) (fa : Addr) (h : Heap), (K w.params).In h → h.Ns mainGlobals mg → mg d.name = some (.ref fa) →
      ∃ fd : FuncData, (∀ (s : Shared) (u : Value), BindsTo s fd ⟨[u], []⟩ [(x, u)]) ∧
        ∀ base : Heap, (K w.params).In base → base.Ns mainGlobals mg → RunG l.prog w (K w.params) mg base CX k fa fd [x] (sp (K w.params)))
    (hsp : ∀ (K : PySem.W.Frag) (H : Hp) (a : Addr) (ns : List Int), ns.length ≤ n → Only H → SqL K H a (ns.map V.int) → sp K [.ref a] H (fun v _ => v = .bl true) fun _ _ _ => False)
    (hCX : ∀ (H : Hp) (s : Shared) (e : Value) (s' : Shared), CX [] H s (fun _ _ _ => False) e s' → False) :
    PySem.W.WalkO q loose XP YP l.row.toRowW d [] (fun f vs => PySem.call f vs) := by
  refine Att.attach_call hn hdf fun w s₀ s₁ mg mb fa o pm cd doc a vs ns G Y ho hd hcd hmg hobj hints hlen hg => ?_
  have KX := hY w _ Y
  obtain ⟨fd, bind, FF⟩ := F w mg fa _ KX G.T.g hmg
  exact callG KX G.T.g G.T.b G.T.builtins G.T.nolimit hg hobj hints (Nat.le_trans hlen hn2) hr FF bind (fun H only hS => hsp _ H a ns hlen only hS) fun H e s' => hCX H s₁ e s'
end VX

/-! repr of data that hold no dict. -/
namespace VX
open PySem PySem.Spec PyProof.Rows L2 VR
end VX

/-! Several except clauses with names; a def that shows lists, called; len by an own __len__; lcm. -/
namespace VX
open PySem PySem.Spec PyProof.Rows L2 VR
section
variable {Y : Cx} {body : List Stmt} {h1 : ExceptHandler} {hs : List ExceptHandler} {l : List (Value × Nat × (Addr → Value → Option Addr → TS))} {pos : Pos} {tb : WX → TS} {Wo : WX}
end
/-! ### a def that shows lists, called where nothing is being shown -/
section
variable {X : Cx} {CX : CXT} {k : Nat} {f : Addr} {fd : FuncData} {ps : List Str} {sp : Sp} {E : XK} {x : Str} {e : Expr} {es : List Expr} {t : TA} {p pos : Pos}
theorem pe_callSh (F : RunG X.prog X.w X.K X.mg X.base CX k f fd ps sp) (gd : X.A.guards = some []) (hr : Room k X.A) (ln : ∀ vs H Q E, sp vs H Q E → vs.length = ps.length) (hg : Gl X x) (hm : X.mg x = some (.ref f)) (hk : PySem.W.keepIn X.K (.ref f) = true) (hb : Binds X.K fd ps []) (hx : Passes CX X E)
    (ha : PA X (e :: es) t) (hdb : (x == ("__debug__" : Str)) = false := by decide) (he : starEach (e :: es) X.env = (false, eval e X.env) :: starEach es X.env := by rfl) (hpl : (backTo pos (starEach es X.env)).any (·.1) = false := by rfl) :
    PE X (.Call (.Name x p) (e :: es) [] pos) (tCall sp [] E t) := by
  refine ⟨fun pins s σ H Q I0 rd => wpAny_Call_Name_kw (ld_glob I0 hg hm ?_ hdb)⟩
  refine PySem.W.callWith_K (h₀ := X.base) I0.ok.mod.kin hk (thn (ha.run pos pins s σ H _ I0 rd) fun us t1 ⟨vs, H1, I1, rv, q⟩ => ⟨I1.kIn, ?_⟩) he hpl
  have q : sp vs H1 Q E := by
    have q' : sp (vs ++ []) H1 Q E := q
    rw [List.append_nil] at q'
    exact q'
  have hl : us.length = ps.length := by rw [← rv.length]; exact ln _ _ _ _ q
  have b := hb t1 us I1.kIn (by rw [List.append_nil]; exact hl)
  rw [List.append_nil] at b
  refine wpAny_call (codeAny_mono (F X.A X.stack t1 H1 ⟨us, []⟩ us vs Q E gd hr I1.env0 b rv q) fun r t2 hq => ?_)
  match r, hq with
  | .error e, hq => exact hx pins σ H1 t1 e t2 I1 hq
  | .ok (.ret u), hq => exact I1.after hq
  | .ok .next, hq => exact False.elim hq
  | .ok .brk, hq => exact False.elim hq
  | .ok .cont, hq => exact False.elim hq
end
/-! ### len by an own __len__ -/
end VX

/-! A class held by a local name, called (cls(..) in a classmethod). -/
namespace VX
open PySem PySem.Spec PyProof.Rows L2 VR
end VX

namespace DE
open PySem PySem.Spec PyProof.Rows L2 SZ VR VX StX RT
def tyD : PyData → String
  | .none => "NoneType"
  | .bool _ => "bool"
  | .int _ => "int"
  | .str _ => "str"
  | .list _ => "list"
  | .tuple _ => "tuple"
  | .dict _ => "dict"
theorem TyX.lstT {K : PySem.W.Frag} {H : Hp} {a : Addr} {xs : List V} (h : SqL K H a xs) : TyX K H (.ref a) (.type "list") := by
  rcases h with (h | ⟨o, h⟩) | h
  · exact .base (.lst h)
  · exact .base (.frz h)
  · obtain ⟨o, its, n, h1, h2, _⟩ := h
    exact .kList h1 h2
theorem dp_ty {K : PySem.W.Frag} {H : Hp} {v : V} {d : PyData} (h : Dp K H v d) : TyX K H v (.type (tyD d)) := by
  cases h with
  | non => exact .base .non
  | bl b => exact .base (.bl b)
  | int i => exact .base (.int i)
  | str x => exact .base (.str x)
  | lst h1 h2 => exact TyX.lstT h1
  | tup h1 h2 => exact TyX.tupT h1
mutual
theorem Dp.keep {K : PySem.W.Frag} {H H' : Hp} (s : Same H H') : ∀ {v : V} {d : PyData}, Dp K H v d → Dp K H' v d
  | _, _, .non => .non
  | _, _, .bl b => .bl b
  | _, _, .int i => .int i
  | _, _, .str x => .str x
  | _, _, .lst h1 h2 => .lst (s.seq h1) (DpAll.keep s h2)
  | _, _, .tup h1 h2 => .tup (s.tup h1) (DpAll.keep s h2)
theorem DpAll.keep {K : PySem.W.Frag} {H H' : Hp} (s : Same H H') : ∀ {vs : List V} {ds : List PyData}, DpAll K H vs ds → DpAll K H' vs ds
  | _, _, .nil => .nil
  | _, _, .cons h1 h2 => .cons (Dp.keep s h1) (DpAll.keep s h2)
end
theorem DpAll.len {K : PySem.W.Frag} {H : Hp} : ∀ {vs : List V} {ds : List PyData}, DpAll K H vs ds → vs.length = ds.length
  | _, _, .nil => rfl
  | _, _, .cons _ h2 => by rw [List.length_cons, List.length_cons, DpAll.len h2]
theorem DpAll.at {K : PySem.W.Frag} {H : Hp} : ∀ {vs : List V} {ds : List PyData} {i : Nat} {v : V}, DpAll K H vs ds → vs[i]? = some v → ∃ d, ds[i]? = some d ∧ Dp K H v d
  | _, _, _, _, .nil, h => by simp at h
  | _, _, 0, _, .cons h1 _, h => by
    simp at h
    subst h
    exact ⟨_, rfl, h1⟩
  | _, _, i + 1, _, .cons _ h2, h => by
    obtain ⟨d, e, g⟩ := DpAll.at h2 (by simpa using h)
    exact ⟨d, by simpa using e, g⟩
theorem strIn (z : Str) : ∀ l : List Str, inV (.str z) (l.map V.str) = l.contains z
  | [] => rfl
  | x :: l => by
    have ih := strIn z l
    unfold inV at ih ⊢
    rw [List.map_cons, List.any_cons, ih, List.contains_cons]
    congr 1
    simp only [eqV]
    first | rfl | exact Bool.beq_comm .. | (rw [Bool.eq_iff_iff]; simp [eq_comm])
theorem strFlat (l : List Str) : (l.map V.str).all flatV = true := by
  rw [List.all_map]
  exact List.all_eq_true.mpr fun _ _ => rfl
theorem DpAll.app {K : PySem.W.Frag} {H : Hp} : ∀ {xs ys : List V} {ds es : List PyData}, DpAll K H xs ds → DpAll K H ys es → DpAll K H (xs ++ ys) (ds ++ es)
  | _, _, _, _, .nil, h => h
  | _, _, _, _, .cons h1 h2, h => .cons h1 (DpAll.app h2 h)

/-! ### what is held: data that stays, lists held alone -/
inductive Sl where
  | un
  | d (x : PyData)
  | own (xs : List PyData)
  | bor (xs : List PyData)
  | fact (φ : V → Hp → Prop) (st : ∀ v G G', Same G G' → φ v G → φ v G')
  | dct (o : Bool) (kvs : List (Str × PyData))
structure Bs where
  G : Hp
  H : Hp
  B : List Addr
abbrev Cl := Option V × Sl
/-- a dict of texts holds this data -/
def DpK (K : PySem.W.Frag) (G : Hp) : List (Key × V) → List (Str × PyData) → Prop
  | [], [] => True
  | u :: us, p :: ps => u.1 = .inr p.1 ∧ Dp K G u.2 p.2 ∧ DpK K G us ps
  | _, _ => False
theorem DpK.keep {K : PySem.W.Frag} {G G' : Hp} (s : Same G G') : ∀ {us : List (Key × V)} {ps : List (Str × PyData)}, DpK K G us ps → DpK K G' us ps
  | [], [], _ => trivial
  | _ :: _, _ :: _, ⟨h1, h2, h3⟩ => ⟨h1, Dp.keep s h2, DpK.keep s h3⟩
  | [], _ :: _, h => h
  | _ :: _, [], h => h
def SlOk (K : PySem.W.Frag) (b : Bs) (G H : Hp) : Cl → Prop
  | (_, .un) => True
  | (x, .d y) => ∃ v, x = some v ∧ Dp K G v y
  | (x, .own ys) => ∃ p vs, x = some (.ref p) ∧ b.H p = none ∧ G p = none ∧ H p = some (.lst vs) ∧ DpAll K G vs ys
  | (x, .bor ys) => ∃ p vs, x = some (.ref p) ∧ p ∈ b.B ∧ G p = none ∧ H p = some (.lst vs) ∧ DpAll K G vs ys
  | (x, .fact φ _) => ∃ v, x = some v ∧ φ v G
  | (x, .dct o kvs) => ∃ p us, x = some (.ref p) ∧ ((o = true ∧ b.H p = none) ∨ (o = false ∧ p ∈ b.B ∧ ∃ u0, b.H p = some (.dK u0))) ∧ G p = none ∧ H p = some (.dK us) ∧ DpK K G us kvs
/-- the lists that are held alone -/
def ads : List Cl → List Addr
  | [] => []
  | (some (.ref p), .own _) :: L => p :: ads L
  | (some (.ref p), .bor _) :: L => p :: ads L
  | (some (.ref p), .dct _ _) :: L => p :: ads L
  | _ :: L => ads L
/-- what leans on nothing but itself -/
def flatO : HO → Bool
  | .ins _ _ _ => false
  | .own _ => false
  | .dT _ => false
  | .frz _ u => flatO u
  | _ => true
def FlO (G : Hp) : Prop := ∀ a o, G a = some o → (∃ C dx fs, o = .ins C dx fs ∧ G dx = some (.own a)) ∨ (∃ x, o = .own x ∧ (G x).isSome = true) ∨ flatO o = true
theorem FlO.upd {G : Hp} {p : Addr} {o : HO} (h : FlO G) (hp : G p = none) (ho : flatO o = true) : FlO (upd G p o) := fun a u e => by
  by_cases ha : a = p
  · subst ha; rw [upd_same] at e; cases e; exact .inr (.inr ho)
  · rw [upd_ne ha] at e
    rcases h a u e with ⟨C, dx, fs, e1, e2⟩ | ⟨x, e1, e2⟩ | h
    · exact .inl ⟨C, dx, fs, e1, by rw [upd_ne (ne_of_none e2 hp)]; exact e2⟩
    · refine .inr (.inl ⟨x, e1, ?_⟩)
      by_cases hx : x = p
      · subst hx; rw [upd_same]; rfl
      · rw [upd_ne hx]; exact e2
    · exact .inr (.inr h)
structure HoldG (K : PySem.W.Frag) (b : Bs) (G H : Hp) (L : List Cl) : Prop where
  old : Same b.G G
  up : Same G H
  new : ∀ a o, G a = some o → b.G a = some o ∨ b.H a = none
  rest : ∀ a o, b.H a = some o → a ∉ b.B → H a = some o
  bs : ∀ a ∈ b.B, (H a).isSome = true
  ok : ∀ c ∈ L, SlOk K b G H c
  nd : (ads L).Nodup
  fl : FlO G
def Hold (K : PySem.W.Frag) (b : Bs) (H : Hp) (L : List Cl) : Prop := ∃ G, HoldG K b G H L
theorem ads_append : ∀ L L' : List Cl, ads (L ++ L') = ads L ++ ads L'
  | [], _ => rfl
  | c :: L, L' => by
    have ih := ads_append L L'
    rcases c with ⟨_ | v, s⟩
    · cases s <;> simpa [ads] using ih
    · cases v <;> cases s <;> simp [ads, ih]
theorem ads_cons (c : Cl) (L : List Cl) : ads (c :: L) = ads [c] ++ ads L := ads_append [c] L
theorem ads_mem {q : Addr} {s : Sl} (h : (∃ ys, s = .own ys) ∨ ∃ ys, s = .bor ys) {L : List Cl} (hc : (some (V.ref q), s) ∈ L) : q ∈ ads L := by
  obtain ⟨l1, l2, e⟩ := List.append_of_mem hc
  rw [e, ads_append]
  rcases h with ⟨ys, rfl⟩ | ⟨ys, rfl⟩ <;> exact List.mem_append_right _ List.mem_cons_self
theorem ads_memD {q : Addr} {o : Bool} {kvs : List (Str × PyData)} {L : List Cl} (hc : (some (V.ref q), Sl.dct o kvs) ∈ L) : q ∈ ads L := by
  obtain ⟨l1, l2, e⟩ := List.append_of_mem hc
  rw [e, ads_append]
  exact List.mem_append_right _ List.mem_cons_self
theorem ads_perm {L L' : List Cl} (h : L.Perm L') : (ads L).Perm (ads L') := by
  induction h with
  | nil => exact .refl _
  | cons c _ ih => 
    rename_i l1 l2 _
    rw [ads_cons c l1, ads_cons c l2]; exact ih.append_left _
  | swap c d L => 
    rw [ads_cons d (c :: L), ads_cons c L, ads_cons c (d :: L), ads_cons d L, ← List.append_assoc, ← List.append_assoc]
    exact List.Perm.append_right _ List.perm_append_comm
  | trans _ _ i1 i2 => exact i1.trans i2
section
variable {K : PySem.W.Frag} {b : Bs} {G H : Hp} {L L' : List Cl} {c : Cl}
theorem HoldG.perm (h : HoldG K b G H L) (p : L'.Perm L) : HoldG K b G H L' := ⟨h.old, h.up, h.new, h.rest, h.bs, fun c hc => h.ok c (p.mem_iff.mp hc), (ads_perm p).nodup_iff.mpr h.nd, h.fl⟩
theorem Hold.perm (h : Hold K b H L) (p : L'.Perm L) : Hold K b H L' := let ⟨G, h⟩ := h; ⟨G, h.perm p⟩
theorem HoldG.drop (h : HoldG K b G H (c :: L)) : HoldG K b G H L := ⟨h.old, h.up, h.new, h.rest, h.bs, fun c hc => h.ok c (List.mem_cons_of_mem _ hc), by have := h.nd; rw [ads_cons] at this; exact (List.nodup_append.mp this).2.1, h.fl⟩
theorem Hold.drop (h : Hold K b H (c :: L)) : Hold K b H L := let ⟨G, h⟩ := h; ⟨G, h.drop⟩
theorem Hold.dropL : ∀ {M : List Cl}, Hold K b H (M ++ L) → Hold K b H L
  | [], h => h
  | _ :: _, h => Hold.dropL h.drop
/-- a cell is known no more -/
theorem HoldG.un (h : HoldG K b G H L) {x : Option V} : HoldG K b G H ((x, .un) :: L) := ⟨h.old, h.up, h.new, h.rest, h.bs, fun c hc => by
  rcases List.mem_cons.mp hc with rfl | hc
  · trivial
  · exact h.ok c hc, by cases x with | none => simpa [ads] using h.nd | some v => cases v <;> simpa [ads] using h.nd, h.fl⟩
/-- one more cell of data -/
theorem HoldG.add (h : HoldG K b G H L) {v : V} {y : PyData} (hv : Dp K G v y) : HoldG K b G H ((some v, .d y) :: L) := ⟨h.old, h.up, h.new, h.rest, h.bs, fun c hc => by
  rcases List.mem_cons.mp hc with rfl | hc
  · exact ⟨v, rfl, hv⟩
  · exact h.ok c hc, by cases v <;> simpa [ads] using h.nd, h.fl⟩
theorem HoldG.addF (h : HoldG K b G H L) {v : V} {φ : V → Hp → Prop} {st} (hv : φ v G) : HoldG K b G H ((some v, .fact φ st) :: L) := ⟨h.old, h.up, h.new, h.rest, h.bs, fun c hc => by
  rcases List.mem_cons.mp hc with rfl | hc
  · exact ⟨v, rfl, hv⟩
  · exact h.ok c hc, by cases v <;> simpa [ads] using h.nd, h.fl⟩
theorem Hold.un (h : Hold K b H L) {x : Option V} : Hold K b H ((x, .un) :: L) := let ⟨G, h⟩ := h; ⟨G, h.un⟩
theorem Hold.int (h : Hold K b H L) (i : Int) : Hold K b H ((some (.int i), .d (.int i)) :: L) := let ⟨G, h⟩ := h; ⟨G, h.add (.int i)⟩
theorem Hold.bl (h : Hold K b H L) (i : Bool) : Hold K b H ((some (.bl i), .d (.bool i)) :: L) := let ⟨G, h⟩ := h; ⟨G, h.add (.bl i)⟩
theorem Hold.str (h : Hold K b H L) (i : Str) : Hold K b H ((some (.str i), .d (.str i)) :: L) := let ⟨G, h⟩ := h; ⟨G, h.add (.str i)⟩
theorem Hold.non (h : Hold K b H L) : Hold K b H ((some .non, .d .none) :: L) := let ⟨G, h⟩ := h; ⟨G, h.add .non⟩
/-- the head says what the value is -/
theorem HoldG.data {x : Option V} {y : PyData} (h : HoldG K b G H ((x, .d y) :: L)) : ∃ v, x = some v ∧ Dp K G v y := h.ok _ List.mem_cons_self
theorem HoldG.inH {v : V} {y : PyData} (h : HoldG K b G H L) (d : Dp K G v y) : Dp K H v y := Dp.keep h.up d
/-- the frozen part and the heap grow -/
theorem HoldG.grow (h : HoldG K b G H L) {p : Addr} {o : HO} (hp : H p = none) (ho : flatO o = true) : HoldG K b (upd G p o) (upd H p o) L := by
  have gp : G p = none := h.up.free hp
  have bp : b.H p = none := by
    cases e : b.H p with
    | none => rfl
    | some u =>
      by_cases hb : p ∈ b.B
      · have := h.bs p hb; rw [hp] at this; cases this
      · have := h.rest p u e hb; rw [hp] at this; cases this
  have sG : Same G (upd G p o) := Same.new gp
  refine ⟨h.old.trans sG, fun a u e => ?_, fun a u e => ?_, fun a u e n => ?_, fun a ha => ?_, fun c hc => ?_, h.nd, h.fl.upd gp ho⟩
  · by_cases ha : a = p
    · subst ha; rw [upd_same] at e ⊢; exact e
    · rw [upd_ne ha] at e ⊢; exact h.up a u e
  · by_cases ha : a = p
    · subst ha; exact .inr bp
    · rw [upd_ne ha] at e; exact h.new a u e
  · have := h.rest a u e n
    rw [upd_ne (ne_of_none this hp)]; exact this
  · by_cases e : a = p
    · subst e; rw [upd_same]; rfl
    · rw [upd_ne e]; exact h.bs a ha
  · have ok := h.ok c hc
    rcases c with ⟨x, s⟩
    cases s with
    | un => trivial
    | d y => obtain ⟨v, e, k⟩ := ok; exact ⟨v, e, Dp.keep sG k⟩
    | fact φ st => obtain ⟨v, e, k⟩ := ok; exact ⟨v, e, st _ _ _ sG k⟩
    | dct o kvs =>
      obtain ⟨q, vs, e, h1, h2, h3, h4⟩ := ok
      have n : q ≠ p := ne_of_none h3 hp
      exact ⟨q, vs, e, h1, by rw [upd_ne n]; exact h2, by rw [upd_ne n]; exact h3, DpK.keep sG h4⟩
    | own ys =>
      obtain ⟨q, vs, e, h1, h2, h3, h4⟩ := ok
      have n : q ≠ p := ne_of_none h3 hp
      exact ⟨q, vs, e, h1, by rw [upd_ne n]; exact h2, by rw [upd_ne n]; exact h3, DpAll.keep sG h4⟩
    | bor ys =>
      obtain ⟨q, vs, e, h1, h2, h3, h4⟩ := ok
      have n : q ≠ p := ne_of_none h3 hp
      exact ⟨q, vs, e, h1, by rw [upd_ne n]; exact h2, by rw [upd_ne n]; exact h3, DpAll.keep sG h4⟩
/-- the heap alone grows -/
theorem HoldG.growH (h : HoldG K b G H L) {p : Addr} {o : HO} (hp : H p = none) : HoldG K b G (upd H p o) L := by
  refine ⟨h.old, h.up.trans (Same.new hp), h.new, fun a u e n => ?_, fun a ha => ?_, fun c hc => ?_, h.nd, h.fl⟩
  · have := h.rest a u e n
    rw [upd_ne (ne_of_none this hp)]; exact this
  · by_cases e : a = p
    · subst e; rw [upd_same]; rfl
    · rw [upd_ne e]; exact h.bs a ha
  · have ok := h.ok c hc
    rcases c with ⟨x, s⟩
    cases s with
    | un => trivial
    | d y => exact ok
    | fact φ st => exact ok
    | dct o kvs =>
      obtain ⟨q, vs, e, h1, h2, h3, h4⟩ := ok
      exact ⟨q, vs, e, h1, h2, by rw [upd_ne (ne_of_none h3 hp)]; exact h3, h4⟩
    | own ys =>
      obtain ⟨q, vs, e, h1, h2, h3, h4⟩ := ok
      exact ⟨q, vs, e, h1, h2, by rw [upd_ne (ne_of_none h3 hp)]; exact h3, h4⟩
    | bor ys =>
      obtain ⟨q, vs, e, h1, h2, h3, h4⟩ := ok
      exact ⟨q, vs, e, h1, h2, by rw [upd_ne (ne_of_none h3 hp)]; exact h3, h4⟩
theorem HoldG.fresh (h : HoldG K b G H L) {p : Addr} (hp : H p = none) : b.H p = none := by
  cases e : b.H p with
  | none => rfl
  | some u =>
    by_cases hb : p ∈ b.B
    · have := h.bs p hb; rw [hp] at this; cases this
    · have := h.rest p u e hb; rw [hp] at this; cases this
theorem ads_in {p : Addr} : ∀ {L : List Cl}, p ∈ ads L → ∃ s, (some (.ref p), s) ∈ L ∧ ((∃ ys, s = .own ys) ∨ (∃ ys, s = .bor ys) ∨ ∃ o kvs, s = .dct o kvs)
  | [], h => by cases h
  | c :: L, h => by
    rw [ads_cons] at h
    rcases List.mem_append.mp h with h | h
    · rcases c with ⟨_ | v, s⟩
      · cases s <;> simp [ads] at h
      · cases v <;> cases s <;> simp [ads] at h
        · subst h; exact ⟨_, List.mem_cons_self, .inl ⟨_, rfl⟩⟩
        · subst h; exact ⟨_, List.mem_cons_self, .inr (.inl ⟨_, rfl⟩)⟩
        · subst h; exact ⟨_, List.mem_cons_self, .inr (.inr ⟨_, _, rfl⟩)⟩
    · obtain ⟨s, h1, h2⟩ := ads_in h
      exact ⟨s, List.mem_cons_of_mem _ h1, h2⟩
theorem HoldG.adsH (h : HoldG K b G H L) {p : Addr} (hp : p ∈ ads L) : G p = none ∧ ∃ o, H p = some o := by
  obtain ⟨s, hm, hs⟩ := ads_in hp
  have ok := h.ok _ hm
  rcases hs with ⟨ys, rfl⟩ | ⟨ys, rfl⟩ | ⟨o, ys, rfl⟩
  · obtain ⟨q, vs, e, _, h2, h3, _⟩ := ok; cases e; exact ⟨h2, _, h3⟩
  · obtain ⟨q, vs, e, _, h2, h3, _⟩ := ok; cases e; exact ⟨h2, _, h3⟩
  · obtain ⟨q, vs, e, _, h2, h3, _⟩ := ok; cases e; exact ⟨h2, _, h3⟩
/-- a new list, held alone -/
theorem HoldG.newL (h : HoldG K b G H L) {p : Addr} {vs : List V} {ys : List PyData} (hp : H p = none) (hv : DpAll K G vs ys) : HoldG K b G (upd H p (.lst vs)) ((some (.ref p), .own ys) :: L) := by
  have g := h.growH (o := .lst vs) hp
  refine ⟨g.old, g.up, g.new, g.rest, g.bs, fun c hc => ?_, ?_, g.fl⟩
  · rcases List.mem_cons.mp hc with rfl | hc
    · exact ⟨p, vs, rfl, h.fresh hp, h.up.free hp, upd_same, hv⟩
    · exact g.ok c hc
  · show (p :: ads L).Nodup
    refine List.nodup_cons.mpr ⟨fun hm => ?_, h.nd⟩
    obtain ⟨_, vs', e⟩ := h.adsH hm
    rw [hp] at e; cases e
/-- a new tuple -/
theorem HoldG.newT (h : HoldG K b G H L) {p : Addr} {vs : List V} {ys : List PyData} (hp : H p = none) (hv : DpAll K G vs ys) : HoldG K b (upd G p (.tup vs)) (upd H p (.tup vs)) ((some (.ref p), .d (.tuple ys)) :: L) :=
  (h.grow (o := .tup vs) hp rfl).add (.tup (.of upd_same) (DpAll.keep (Same.new (h.up.free hp)) hv))
/-- a list that was held alone is changed no more -/
theorem HoldG.freeze {x : Option V} {ys : List PyData} (h : HoldG K b G H ((x, .own ys) :: L)) : Hold K b H ((x, .d (.list ys)) :: L) := by
  obtain ⟨p, vs, rfl, h1, h2, h3, h4⟩ := h.ok _ List.mem_cons_self
  have nd := h.nd
  have nd' : p ∉ ads L := (List.nodup_cons.mp (show (p :: ads L).Nodup from nd)).1
  have sG : Same G (upd G p (.lst vs)) := Same.new h2
  refine ⟨upd G p (.lst vs), h.old.trans sG, fun a u e => ?_, fun a u e => ?_, h.rest, h.bs, fun c hc => ?_, ?_, h.fl.upd h2 rfl⟩
  · by_cases ha : a = p
    · subst ha; rw [upd_same] at e; rw [h3]; exact e
    · rw [upd_ne ha] at e; exact h.up a u e
  · by_cases ha : a = p
    · subst ha; exact .inr h1
    · rw [upd_ne ha] at e; exact h.new a u e
  · rcases List.mem_cons.mp hc with rfl | hm
    · exact ⟨_, rfl, .lst (.of upd_same) (DpAll.keep sG h4)⟩
    · have ok := h.ok c (List.mem_cons_of_mem _ hm)
      rcases c with ⟨x, s⟩
      cases s with
      | un => trivial
      | d y => obtain ⟨v, e, k⟩ := ok; exact ⟨v, e, Dp.keep sG k⟩
      | fact φ st => obtain ⟨v, e, k⟩ := ok; exact ⟨v, e, st _ _ _ sG k⟩
      | dct o kvs =>
        obtain ⟨q, vs', e, k1, k2, k3, k4⟩ := ok
        have n : q ≠ p := fun n => by
          subst n; subst e
          exact nd' (ads_memD hm)
        exact ⟨q, vs', e, k1, by rw [upd_ne n]; exact k2, k3, DpK.keep sG k4⟩
      | own ys' =>
        obtain ⟨q, vs', e, k1, k2, k3, k4⟩ := ok
        have n : q ≠ p := fun n => by
          subst n; subst e
          exact nd' (ads_mem (.inl ⟨_, rfl⟩) hm)
        exact ⟨q, vs', e, k1, by rw [upd_ne n]; exact k2, k3, DpAll.keep sG k4⟩
      | bor ys' =>
        obtain ⟨q, vs', e, k1, k2, k3, k4⟩ := ok
        have n : q ≠ p := fun n => by
          subst n; subst e
          exact nd' (ads_mem (.inr ⟨_, rfl⟩) hm)
        exact ⟨q, vs', e, k1, by rw [upd_ne n]; exact k2, k3, DpAll.keep sG k4⟩
  · exact (List.nodup_cons.mp (show (p :: ads L).Nodup from nd)).2
theorem Hold.freeze {x : Option V} {ys : List PyData} (h : Hold K b H ((x, .own ys) :: L)) : Hold K b H ((x, .d (.list ys)) :: L) := let ⟨_, h⟩ := h; h.freeze
/-- a list held alone is written anew -/
theorem HoldG.put {p : Addr} {s s' : Sl} {ys ys' : List PyData} {vs : List V} (h : HoldG K b G H ((some (.ref p), s) :: L)) (hs : (s = .own ys ∧ s' = .own ys') ∨ (s = .bor ys ∧ s' = .bor ys')) (hv : DpAll K G vs ys') : HoldG K b G (upd H p (.lst vs)) ((some (.ref p), s') :: L) := by
  have hG : G p = none := by
    have ok := h.ok _ List.mem_cons_self
    rcases hs with ⟨rfl, _⟩ | ⟨rfl, _⟩
    · obtain ⟨q, _, e, _, h2, _⟩ := ok; cases e; exact h2
    · obtain ⟨q, _, e, _, h2, _⟩ := ok; cases e; exact h2
  have nd : (p :: ads L).Nodup := by rcases hs with ⟨rfl, _⟩ | ⟨rfl, _⟩ <;> exact h.nd
  have nd' := (List.nodup_cons.mp nd).1
  refine ⟨h.old, fun a u e => ?_, h.new, fun a u e n => ?_, fun a ha => ?_, fun c hc => ?_, ?_, h.fl⟩
  · have := h.up a u e
    rw [upd_ne (ne_of_none e hG)]; exact this
  · by_cases ha : a = p
    · subst ha
      have ok := h.ok _ List.mem_cons_self
      rcases hs with ⟨rfl, _⟩ | ⟨rfl, _⟩
      · obtain ⟨q, _, e2, h1, _⟩ := ok; cases e2; rw [h1] at e; cases e
      · obtain ⟨q, _, e2, h1, _⟩ := ok; cases e2; exact absurd h1 n
    · rw [upd_ne ha]; exact h.rest a u e n
  · by_cases e : a = p
    · subst e; rw [upd_same]; rfl
    · rw [upd_ne e]; exact h.bs a ha
  · rcases List.mem_cons.mp hc with rfl | hm
    · have ok := h.ok _ List.mem_cons_self
      rcases hs with ⟨rfl, rfl⟩ | ⟨rfl, rfl⟩
      · obtain ⟨q, _, e2, h1, _⟩ := ok; cases e2; exact ⟨p, vs, rfl, h1, hG, upd_same, hv⟩
      · obtain ⟨q, _, e2, h1, _⟩ := ok; cases e2; exact ⟨p, vs, rfl, h1, hG, upd_same, hv⟩
    · have ok := h.ok c (List.mem_cons_of_mem _ hm)
      rcases c with ⟨x, t⟩
      cases t with
      | un => trivial
      | d y => exact ok
      | fact φ st => exact ok
      | dct o kvs =>
        obtain ⟨q, vs', e, k1, k2, k3, k4⟩ := ok
        have n : q ≠ p := fun n => by
          subst n; subst e
          exact nd' (ads_memD hm)
        exact ⟨q, vs', e, k1, k2, by rw [upd_ne n]; exact k3, k4⟩
      | own ys2 =>
        obtain ⟨q, vs', e, k1, k2, k3, k4⟩ := ok
        have n : q ≠ p := fun n => by
          subst n; subst e
          exact nd' (ads_mem (.inl ⟨_, rfl⟩) hm)
        exact ⟨q, vs', e, k1, k2, by rw [upd_ne n]; exact k3, k4⟩
      | bor ys2 =>
        obtain ⟨q, vs', e, k1, k2, k3, k4⟩ := ok
        have n : q ≠ p := fun n => by
          subst n; subst e
          exact nd' (ads_mem (.inr ⟨_, rfl⟩) hm)
        exact ⟨q, vs', e, k1, k2, by rw [upd_ne n]; exact k3, k4⟩
  · rcases hs with ⟨rfl, rfl⟩ | ⟨rfl, rfl⟩ <;> exact nd
end

end DE

namespace DE
open PySem PySem.Spec PyProof.Rows L2 SZ VR VX StX RT
/-! ### what holds in a frame: expressions -/
def WE (X : Cx) (e : Expr) (σ : L2.St) (H : Hp) (Q : VK) : Prop := ∃ t, PE X e t ∧ t σ H Q
def WT (X : Cx) (e : Expr) (σ : L2.St) (H : Hp) (Q : Bool → Hp → Prop) : Prop := ∃ t, PT X e t ∧ t σ H Q
def WW (X : Cx) (e : Expr) (σ : L2.St) (H : Hp) (Q : Bool → Hp → Prop) : Prop := ∃ t, PW X e t ∧ t σ H Q
def WA (X : Cx) (es : List Expr) (σ : L2.St) (H : Hp) (Q : List V → Hp → Prop) : Prop := ∃ t, PA X es t ∧ t σ H Q
def WG (X : Cx) (tg : Expr) (v : V) (σ : L2.St) (H : Hp) (Q : L2.St → Hp → Prop) : Prop := ∃ t, PG X tg t ∧ t v σ H Q
def WGs (X : Cx) (tg : List Expr) (v : List V) (σ : L2.St) (H : Hp) (Q : L2.St → Hp → Prop) : Prop := ∃ t, PGs X tg t ∧ t v σ H Q
def WS (X : Cx) (s : Stmt) (D : Ends) (σ : L2.St) (H : Hp) : Prop := ∃ t, PS X s t ∧ t D σ H
def WSs (X : Cx) (s : List Stmt) (D : Ends) (σ : L2.St) (H : Hp) : Prop := ∃ t, PSs X s t ∧ t D σ H
section
variable {X : Cx}
theorem we_pe (e : Expr) : PE X e (WE X e) := ⟨fun pins s σ H Q I ⟨_, h, q⟩ => h.run pins s σ H Q I q⟩
theorem wt_pt (e : Expr) : PT X e (WT X e) := ⟨fun pins s σ H Q I ⟨_, h, q⟩ => h.run pins s σ H Q I q⟩
theorem ww_pw (e : Expr) : PW X e (WW X e) := ⟨fun w pins s σ H Q I ⟨_, h, q⟩ => h.run w pins s σ H Q I q⟩
theorem wa_pa (e : List Expr) : PA X e (WA X e) := ⟨fun pos pins s σ H Q I ⟨_, h, q⟩ => h.run pos pins s σ H Q I q⟩
theorem wg_pg (e : Expr) : PG X e (WG X e) := ⟨fun pins s σ H v u Q I r ⟨_, h, q⟩ => h.run pins s σ H v u Q I r q⟩
theorem wgs_pgs (e : List Expr) : PGs X e (WGs X e) := ⟨fun pins s σ H v u Q I r ⟨_, h, q⟩ => h.run pins s σ H v u Q I r q⟩
theorem ws_ps (s : Stmt) : PS X s (WS X s) := ⟨fun pins t σ H D I ⟨_, h, q⟩ => h.run pins t σ H D I q⟩
theorem wss_pss (s : List Stmt) : PSs X s (WSs X s) := ⟨fun pins t σ H D I ⟨_, h, q⟩ => h.run pins t σ H D I q⟩
end
/-- an expression in a frame that holds ρ gives what p wants -/
def EV (X : Cx) (b : Bs) (ρ : List Sl) (e : Expr) (p : Sl → List Sl → Prop) : Prop := ∀ σ H L Q, σ.length = ρ.length → Hold X.K b H (σ.zip ρ ++ L) →
  (∀ r ρ' v H', p r ρ' → σ.length = ρ'.length → Hold X.K b H' ((some v, r) :: (σ.zip ρ' ++ L)) → Q v H') → WE X e σ H Q
def ET (X : Cx) (b : Bs) (ρ : List Sl) (e : Expr) (p : Bool → List Sl → Prop) : Prop := ∀ σ H L Q, σ.length = ρ.length → Hold X.K b H (σ.zip ρ ++ L) →
  (∀ c ρ' H', p c ρ' → σ.length = ρ'.length → Hold X.K b H' (σ.zip ρ' ++ L) → Q c H') → WT X e σ H Q
def EW (X : Cx) (b : Bs) (ρ : List Sl) (e : Expr) (p : Bool → List Sl → Prop) : Prop := ∀ σ H L Q, σ.length = ρ.length → Hold X.K b H (σ.zip ρ ++ L) →
  (∀ c ρ' H', p c ρ' → σ.length = ρ'.length → Hold X.K b H' (σ.zip ρ' ++ L) → Q c H') → WW X e σ H Q
def EA (X : Cx) (b : Bs) (ρ : List Sl) (es : List Expr) (p : List Sl → List Sl → Prop) : Prop := ∀ σ H L Q, σ.length = ρ.length → Hold X.K b H (σ.zip ρ ++ L) →
  (∀ rs ρ' vs H', p rs ρ' → σ.length = ρ'.length → vs.length = rs.length → Hold X.K b H' ((vs.map some).zip rs ++ (σ.zip ρ' ++ L)) → Q vs H') → WA X es σ H Q
/-- an operation on two values -/
def OV (X : Cx) (b : Bs) (f : Value → Value → Sem Value) (r1 r2 : Sl) (p : Sl → Prop) : Prop := ∃ rr : R2, OpR X f rr ∧ ∀ v1 v2 H L Q, Hold X.K b H ((some v1, r1) :: (some v2, r2) :: L) →
  (∀ r v H', p r → Hold X.K b H' ((some v, r) :: L) → Q v H') → rr v1 v2 H Q
def IV (X : Cx) (b : Bs) (r1 r2 : Sl) (p : Sl → Prop) : Prop := ∃ rr : R2, IxR X rr ∧ ∀ v1 v2 H L Q, Hold X.K b H ((some v1, r1) :: (some v2, r2) :: L) →
  (∀ r v H', p r → Hold X.K b H' ((some v, r) :: L) → Q v H') → rr v1 v2 H Q
/-- an operation on one value -/
def UV (X : Cx) (b : Bs) (f : Value → Sem Value) (r1 : Sl) (p : Sl → Prop) : Prop := ∃ rr : V → Hp → VK → Prop, UnR X f rr ∧ ∀ v1 H L Q, Hold X.K b H ((some v1, r1) :: L) →
  (∀ r v H', p r → Hold X.K b H' ((some v, r) :: L) → Q v H') → rr v1 H Q
/-- a built-in's call -/
def CV (X : Cx) (b : Bs) (f : Value) (rs : List Sl) (p : Sl → Prop) : Prop := ∃ rr : List V → Hp → VK → Prop, CallR X f rr ∧ ∀ vs H L Q, vs.length = rs.length → Hold X.K b H ((vs.map some).zip rs ++ L) →
  (∀ r v H', p r → Hold X.K b H' ((some v, r) :: L) → Q v H') → rr vs H Q
section
variable {X : Cx} {b : Bs} {ρ : List Sl} {p : Sl → List Sl → Prop} {e e1 e2 : Expr}
theorem perm_in {A M : List Cl} {c : Cl} : (c :: (A ++ M)).Perm (A ++ c :: M) := List.perm_middle.symm
theorem EV.imp {p' : Sl → List Sl → Prop} (h : EV X b ρ e p) (k : ∀ r ρ', p r ρ' → p' r ρ') : EV X b ρ e p' := fun σ H L Q l hh q => h σ H L Q l hh fun r ρ' v H' z => q r ρ' v H' (k r ρ' z)
theorem zip_mem {σ : L2.St} {ρ : List Sl} {i : Nat} {s : Sl} (l : σ.length = ρ.length) (h : ρ[i]? = some s) : ∃ x, σ[i]? = some x ∧ (x, s) ∈ σ.zip ρ := by
  have hi : i < ρ.length := (List.getElem?_eq_some_iff.mp h).1
  have hs : σ[i]? = some σ[i] := List.getElem?_eq_getElem (by omega)
  refine ⟨_, hs, List.mem_of_getElem? (i := i) ?_⟩
  rw [List.getElem?_zip_eq_some]
  exact ⟨hs, h⟩
theorem ev_int {i : Int} {j pos} (h : p (.d (.int i)) ρ) : EV X b ρ (.Constant (.int i) j pos) p := fun σ H L Q l hh q => ⟨_, pe_int, q _ _ _ H h l (hh.int i)⟩
theorem ev_bl {i : Bool} {j pos} (h : p (.d (.bool i)) ρ) : EV X b ρ (.Constant (.bool i) j pos) p := fun σ H L Q l hh q => ⟨_, pe_bl, q _ _ _ H h l (hh.bl i)⟩
theorem ev_str {i : Str} {j pos} (h : p (.d (.str i)) ρ) : EV X b ρ (.Constant (.str i) j pos) p := fun σ H L Q l hh q => ⟨_, pe_str, q _ _ _ H h l (hh.str i)⟩
theorem ev_non {j pos} (h : p (.d .none) ρ) : EV X b ρ (.Constant .none j pos) p := fun σ H L Q l hh q => ⟨_, pe_non, q _ _ _ H h l hh.non⟩
/-- a local name that holds data -/
theorem ev_var (i : Nat) {y : PyData} {x : Str} {pos : Pos} (hN : X.N[i]? = some x) (hv : Vis X.env.scope x) (hr : ρ[i]? = some (.d y)) (h : p (.d y) ρ) (hd : (x == ("__debug__" : Str)) = false := by decide) (hcd : (x == ("__classdict__" : Str)) = false := by decide) : EV X b ρ (.Name x pos) p := fun σ H L Q l hh q => by
  obtain ⟨x', hx, hm⟩ := zip_mem l hr
  obtain ⟨G, hg⟩ := hh
  obtain ⟨v, e, hv'⟩ := hg.ok _ (List.mem_append_left _ hm)
  subst e
  exact ⟨_, pe_var hN hv hd hcd, v, hx, q _ _ _ H h l ⟨G, hg.add hv'⟩⟩
/-- .. or something that stays -/
theorem ev_varF (i : Nat) {φ : V → Hp → Prop} {st} {x : Str} {pos : Pos} (hN : X.N[i]? = some x) (hv : Vis X.env.scope x) (hr : ρ[i]? = some (.fact φ st)) (h : p (.fact φ st) ρ) (hd : (x == ("__debug__" : Str)) = false := by decide) (hcd : (x == ("__classdict__" : Str)) = false := by decide) : EV X b ρ (.Name x pos) p := fun σ H L Q l hh q => by
  obtain ⟨x', hx, hm⟩ := zip_mem l hr
  obtain ⟨G, hg⟩ := hh
  obtain ⟨v, e, hv'⟩ := hg.ok _ (List.mem_append_left _ hm)
  subst e
  exact ⟨_, pe_var hN hv hd hcd, v, hx, q _ _ _ H h l ⟨G, hg.addF hv'⟩⟩
theorem set_perm {σ : L2.St} : ∀ {ρ : List Sl} {i : Nat} {s s' : Sl} {x : Option V}, ρ[i]? = some s → σ[i]? = some x → ∃ M, (σ.zip ρ).Perm ((x, s) :: M) ∧ (σ.zip (ρ.set i s')).Perm ((x, s') :: M) := by
  intro ρ
  induction ρ generalizing σ with
  | nil => intro i s s' x h; simp at h
  | cons r ρ ih =>
    intro i s s' x h hx
    cases σ with
    | nil => simp at hx
    | cons y σ =>
      cases i with
      | zero =>
        simp at h hx
        subst h hx
        exact ⟨σ.zip ρ, .refl _, .refl _⟩
      | succ i =>
        simp at h hx
        obtain ⟨M, h1, h2⟩ := ih (s' := s') h hx
        refine ⟨(y, r) :: M, ?_, ?_⟩
        · exact (h1.cons _).trans (.swap ..)
        · exact (h2.cons _).trans (.swap ..)
/-- any rule for an operation -/
def sOp (X : Cx) (f : Value → Value → Sem Value) : R2 := fun x y H Q => ∃ rr : R2, OpR X f rr ∧ rr x y H Q
theorem sop_ok (f : Value → Value → Sem Value) : OpR X f (sOp X f) := fun pins s σ H x y v u Q I rx ry ⟨_, h, q⟩ => h pins s σ H x y v u Q I rx ry q
def sIx (X : Cx) : R2 := fun x y H Q => ∃ rr : R2, IxR X rr ∧ rr x y H Q
theorem six_ok : IxR X (sIx X) := fun a b pins s σ H x y v u Q I rx ry ⟨_, h, q⟩ hs => h a b pins s σ H x y v u Q I rx ry q hs
def sUn (X : Cx) (f : Value → Sem Value) : V → Hp → VK → Prop := fun x H Q => ∃ rr : V → Hp → VK → Prop, UnR X f rr ∧ rr x H Q
theorem sun_ok (f : Value → Sem Value) : UnR X f (sUn X f) := fun pins s σ H x v Q I rx ⟨_, h, q⟩ => h pins s σ H x v Q I rx q
def sCl (X : Cx) (f : Value) : List V → Hp → VK → Prop := fun x H Q => ∃ rr : List V → Hp → VK → Prop, CallR X f rr ∧ rr x H Q
theorem scl_ok (f : Value) : CallR X f (sCl X f) := fun pins s σ H x v Q I rx ⟨_, h, q⟩ => h pins s σ H x v Q I rx q
theorem OV.go {f : Value → Value → Sem Value} {σ : L2.St} {ρ2 : List Sl} {L : List Cl} {r1 r2 : Sl} {v1 v2 : V} {H2 : Hp} {Q : VK} {p : Sl → Prop} (h2 : OV X b f r1 r2 p) (hh2 : Hold X.K b H2 ((some v2, r2) :: (σ.zip ρ2 ++ (some v1, r1) :: L))) (k : ∀ r v H', p r → Hold X.K b H' ((some v, r) :: (σ.zip ρ2 ++ L)) → Q v H') : sOp X f v1 v2 H2 Q := by
  obtain ⟨rr, ho, hk⟩ := h2
  exact ⟨rr, ho, hk v1 v2 H2 (σ.zip ρ2 ++ L) Q (hh2.perm ((List.Perm.swap ..).trans (perm_in.cons _))) fun r v H' hp hh' => k r v H' hp hh'⟩
theorem IV.go {σ : L2.St} {ρ2 : List Sl} {L : List Cl} {r1 r2 : Sl} {v1 v2 : V} {H2 : Hp} {Q : VK} {p : Sl → Prop} (h2 : IV X b r1 r2 p) (hh2 : Hold X.K b H2 ((some v2, r2) :: (σ.zip ρ2 ++ (some v1, r1) :: L))) (k : ∀ r v H', p r → Hold X.K b H' ((some v, r) :: (σ.zip ρ2 ++ L)) → Q v H') : sIx X v1 v2 H2 Q := by
  obtain ⟨rr, ho, hk⟩ := h2
  exact ⟨rr, ho, hk v1 v2 H2 (σ.zip ρ2 ++ L) Q (hh2.perm ((List.Perm.swap ..).trans (perm_in.cons _))) fun r v H' hp hh' => k r v H' hp hh'⟩
theorem ev_bin {op : Operator} {pos} (h : EV X b ρ e1 fun r1 ρ1 => EV X b ρ1 e2 fun r2 ρ2 => OV X b (binaryOp op) r1 r2 fun r => p r ρ2) : EV X b ρ (.BinOp e1 op e2 pos) p := fun σ H L Q l hh q =>
  ⟨_, pe_op (sop_ok _) (we_pe e1) (we_pe e2), h σ H L _ l hh fun r1 ρ1 v1 H1 h1 l1 hh1 => h1 σ H1 ((some v1, r1) :: L) _ l1 (hh1.perm perm_in.symm) fun r2 ρ2 v2 H2 h2 l2 hh2 => h2.go hh2 fun r v H' hp hh' => q r ρ2 v H' hp l2 hh'⟩
theorem ev_cmp {op : CmpOp} {pos} (hm : behindInMarks op e2 = false) (h : EV X b ρ e1 fun r1 ρ1 => EV X b ρ1 e2 fun r2 ρ2 => OV X b (compareOp op) r1 r2 fun r => p r ρ2) : EV X b ρ (.Compare e1 [op] [e2] pos) p := fun σ H L Q l hh q =>
  ⟨_, pe_cmpR (sop_ok _) (we_pe e1) (we_pe e2) hm, h σ H L _ l hh fun r1 ρ1 v1 H1 h1 l1 hh1 => h1 σ H1 ((some v1, r1) :: L) _ l1 (hh1.perm perm_in.symm) fun r2 ρ2 v2 H2 h2 l2 hh2 => h2.go hh2 fun r v H' hp hh' => q r ρ2 v H' hp l2 hh'⟩
theorem Hold.isB {K : PySem.W.Frag} {H : Hp} {v : V} {c : Bool} {L : List Cl} (h : Hold K b H ((some v, .d (.bool c)) :: L)) : v = .bl c := by
  obtain ⟨G, h⟩ := h
  obtain ⟨v', e, hd⟩ := h.data
  cases e
  cases hd
  rfl
theorem Hold.isI {K : PySem.W.Frag} {H : Hp} {v : V} {c : Int} {L : List Cl} (h : Hold K b H ((some v, .d (.int c)) :: L)) : v = .int c := by
  obtain ⟨G, h⟩ := h
  obtain ⟨v', e, hd⟩ := h.data
  cases e
  cases hd
  rfl
theorem Hold.isS {K : PySem.W.Frag} {H : Hp} {v : V} {c : Str} {L : List Cl} (h : Hold K b H ((some v, .d (.str c)) :: L)) : v = .str c := by
  obtain ⟨G, h⟩ := h
  obtain ⟨v', e, hd⟩ := h.data
  cases e
  cases hd
  rfl
theorem Hold.isN {K : PySem.W.Frag} {H : Hp} {v : V} {L : List Cl} (h : Hold K b H ((some v, .d .none) :: L)) : v = .non := by
  obtain ⟨G, h⟩ := h
  obtain ⟨v', e, hd⟩ := h.data
  cases e
  cases hd
  rfl
/-- the head's datum, in the heap -/
theorem Hold.dp {K : PySem.W.Frag} {H : Hp} {v : V} {y : PyData} {L : List Cl} (h : Hold K b H ((some v, .d y) :: L)) : Dp K H v y := by
  obtain ⟨G, h⟩ := h
  obtain ⟨v', e, hd⟩ := h.data
  cases e
  exact h.inH hd
end

end DE

namespace DE
open PySem PySem.Spec PyProof.Rows L2 SZ VR VX StX RT
section
variable {X : Cx} {b : Bs} {ρ : List Sl} {p : Sl → List Sl → Prop} {q : Bool → List Sl → Prop} {e e1 e2 : Expr} {es rest : List Expr} {pos : Pos}
/-! ### truth -/
theorem et_val (he : ∀ whole, isTrue e X.env whole = (do let v ← whole; standAt e.pos; holding [v] (truthy v)) := by intro _; rfl) (h : EV X b ρ e fun r ρ' => ∃ c, r = .d (.bool c) ∧ q c ρ') : ET X b ρ e q := fun σ H L Q l hh k =>
  ⟨_, pt_val (we_pe e) he, h σ H L _ l hh fun r ρ' v H' ⟨c, er, hq⟩ l' hh' => by
    subst er
    have := hh'.isB
    subst this
    exact ⟨c, rfl, k c ρ' H' hq l' hh'.drop⟩⟩
theorem et_cmp {op : CmpOp} (hm : behindInMarks op e2 = false) (h : EV X b ρ e1 fun r1 ρ1 => EV X b ρ1 e2 fun r2 ρ2 => OV X b (compareOp op) r1 r2 fun r => ∃ c, r = .d (.bool c) ∧ q c ρ2) : ET X b ρ (.Compare e1 [op] [e2] pos) q := fun σ H L Q l hh k =>
  ⟨_, pt_cmpR (sop_ok _) (we_pe e1) (we_pe e2) hm, h σ H L _ l hh fun r1 ρ1 v1 H1 h1 l1 hh1 => h1 σ H1 ((some v1, r1) :: L) _ l1 (hh1.perm perm_in.symm) fun r2 ρ2 v2 H2 h2 l2 hh2 => h2.go hh2 fun r v H' ⟨c, er, hq⟩ hh' => by
    subst er
    have := hh'.isB
    subst this
    exact ⟨c, rfl, k c ρ2 H' hq l2 hh'.drop⟩⟩
theorem et_not (h : ET X b ρ e fun c ρ' => q (!c) ρ') : ET X b ρ (.UnaryOp .Not e pos) q := fun σ H L Q l hh k => ⟨_, pt_not (wt_pt e), h σ H L _ l hh fun c ρ' H' hq l' hh' => k _ ρ' H' hq l' hh'⟩
theorem et_w (h : EW X b ρ e q) : ET X b ρ e q := fun σ H L Q l hh k => by
  obtain ⟨t, ht, hq⟩ := h σ H L Q l hh k
  exact ⟨t, ht.pt, hq⟩
theorem ew_and1 (h : ET X b ρ e q) : EW X b ρ (.BoolOp .And [e] pos) q := fun σ H L Q l hh k => ⟨_, pw_and1 (wt_pt e), h σ H L _ l hh k⟩
theorem ew_or1 (h : ET X b ρ e q) : EW X b ρ (.BoolOp .Or [e] pos) q := fun σ H L Q l hh k => ⟨_, pw_or1 (wt_pt e), h σ H L _ l hh k⟩
theorem ew_and (h : ET X b ρ e1 fun c ρ' => (c = false → q false ρ') ∧ (c = true → EW X b ρ' (.BoolOp .And (e2 :: rest) pos) q)) : EW X b ρ (.BoolOp .And (e1 :: e2 :: rest) pos) q := fun σ H L Q l hh k =>
  ⟨_, pw_and (wt_pt e1) (ww_pw _), h σ H L _ l hh fun c ρ' H' ⟨h0, h1⟩ l' hh' => by
    cases c with
    | false => exact k _ ρ' H' (h0 rfl) l' hh'
    | true => exact h1 rfl σ H' L _ l' hh' k⟩
theorem ew_or (h : ET X b ρ e1 fun c ρ' => (c = true → q true ρ') ∧ (c = false → EW X b ρ' (.BoolOp .Or (e2 :: rest) pos) q)) : EW X b ρ (.BoolOp .Or (e1 :: e2 :: rest) pos) q := fun σ H L Q l hh k =>
  ⟨_, pw_or (wt_pt e1) (ww_pw _), h σ H L _ l hh fun c ρ' H' ⟨h0, h1⟩ l' hh' => by
    cases c with
    | true => exact k _ ρ' H' (h0 rfl) l' hh'
    | false => exact h1 rfl σ H' L _ l' hh' k⟩
theorem ev_one {op : BoolOp} (h : EV X b ρ e p) : EV X b ρ (.BoolOp op [e] pos) p := fun σ H L Q l hh k => ⟨_, pe_one (we_pe e), h σ H L _ l hh k⟩
theorem ev_and (h : EV X b ρ e1 fun r ρ' => ∃ c, r = .d (.bool c) ∧ (c = false → p (.d (.bool false)) ρ') ∧ (c = true → EV X b ρ' (.BoolOp .And (e2 :: rest) pos) p)) : EV X b ρ (.BoolOp .And (e1 :: e2 :: rest) pos) p := fun σ H L Q l hh k =>
  ⟨_, pe_and (we_pe e1) (we_pe _), h σ H L _ l hh fun r ρ' v H' ⟨c, er, h0, h1⟩ l' hh' => by
    subst er
    have := hh'.isB
    subst this
    refine ⟨c, rfl, ?_⟩
    cases c with
    | false => exact k _ ρ' _ H' (h0 rfl) l' hh'
    | true => exact h1 rfl σ H' L _ l' hh'.drop k⟩
theorem ev_or (h : EV X b ρ e1 fun r ρ' => ∃ c, r = .d (.bool c) ∧ (c = true → p (.d (.bool true)) ρ') ∧ (c = false → EV X b ρ' (.BoolOp .Or (e2 :: rest) pos) p)) : EV X b ρ (.BoolOp .Or (e1 :: e2 :: rest) pos) p := fun σ H L Q l hh k =>
  ⟨_, pe_or (we_pe e1) (we_pe _), h σ H L _ l hh fun r ρ' v H' ⟨c, er, h0, h1⟩ l' hh' => by
    subst er
    have := hh'.isB
    subst this
    refine ⟨c, rfl, ?_⟩
    cases c with
    | true => exact k _ ρ' _ H' (h0 rfl) l' hh'
    | false => exact h1 rfl σ H' L _ l' hh'.drop k⟩
theorem ev_not (h : EV X b ρ e fun r ρ' => ∃ c, r = .d (.bool c) ∧ p (.d (.bool (!c))) ρ') : EV X b ρ (.UnaryOp .Not e pos) p := fun σ H L Q l hh k =>
  ⟨_, pe_not (we_pe e), h σ H L _ l hh fun r ρ' v H' ⟨c, er, h0⟩ l' hh' => by
    subst er
    have := hh'.isB
    subst this
    exact ⟨c, rfl, k _ ρ' _ H' h0 l' (hh'.drop.bl _)⟩⟩
theorem ev_un {op : UnaryOp} (h : EV X b ρ e fun r ρ' => UV X b (unaryOp op) r fun r' => p r' ρ') : EV X b ρ (.UnaryOp op e pos) p := fun σ H L Q l hh k =>
  ⟨_, pe_un (sun_ok _) (we_pe e), h σ H L _ l hh fun r ρ' v H' ⟨rr, ho, hk⟩ l' hh' => ⟨rr, ho, hk v H' _ _ hh' fun r' v' H2 hp hh2 => k r' ρ' v' H2 hp l' hh2⟩⟩
/-! ### displays, calls -/
theorem ea_nil {p : List Sl → List Sl → Prop} (h : p [] ρ) : EA X b ρ [] p := fun σ H L Q l hh k => ⟨_, pa_nil, k [] ρ [] H h l rfl hh⟩
theorem ea_cons {p : List Sl → List Sl → Prop} (hs : starEach (e :: es) X.env = (false, eval e X.env) :: starEach es X.env := by rfl) (h : EV X b ρ e fun r ρ' => EA X b ρ' es fun rs ρ2 => p (r :: rs) ρ2) : EA X b ρ (e :: es) p := fun σ H L Q l hh k =>
  ⟨_, pa_cons (we_pe e) (wa_pa es) hs, h σ H L _ l hh fun r ρ' v H' h2 l' hh' => h2 σ H' ((some v, r) :: L) _ l' (hh'.perm perm_in.symm) fun rs ρ2 vs H2 hp l2 lv hh2 =>
    k (r :: rs) ρ2 (v :: vs) H2 hp l2 (by simp [lv]) (by
      rw [List.map_cons, List.zip_cons_cons, List.cons_append]
      refine hh2.perm ?_
      rw [← List.append_assoc, ← List.append_assoc]
      exact perm_in)⟩
/-- cells of data are data of the frozen part -/
theorem HoldG.all {K : PySem.W.Frag} {G H : Hp} {L : List Cl} : ∀ {vs : List V} {ys : List PyData}, vs.length = ys.length → HoldG K b G H ((vs.map some).zip (ys.map .d) ++ L) → DpAll K G vs ys
  | [], [], _, _ => .nil
  | v :: vs, y :: ys, l, h => by
    obtain ⟨v', e, hd⟩ := HoldG.data (show HoldG K b G H ((some v, .d y) :: ((vs.map some).zip (ys.map .d) ++ L)) from h)
    cases e
    exact .cons hd (HoldG.all (by simpa using l) (HoldG.drop (show HoldG K b G H ((some v, .d y) :: ((vs.map some).zip (ys.map .d) ++ L)) from h)))
theorem HoldG.dropM {K : PySem.W.Frag} {G H : Hp} {L : List Cl} : ∀ {M : List Cl}, HoldG K b G H (M ++ L) → HoldG K b G H L
  | [], h => h
  | _ :: _, h => HoldG.dropM (HoldG.drop h)
theorem ev_callB {id : String} {x : Str} {ps cp : Pos} (hg : Gl X x) (hm : X.mg x = none) (hv : bootBuiltins x = some (.builtin id)) (h : EA X b ρ (e :: es) fun rs ρ' => CV X b (.builtin id) rs fun r => p r ρ') (hn : x ≠ "__name__" := by decide) (hdb : (x == ("__debug__" : Str)) = false := by decide)
    (he : starEach (e :: es) X.env = (false, eval e X.env) :: starEach es X.env := by rfl) (hpl : (backTo cp (starEach es X.env)).any (·.1) = false := by rfl) : EV X b ρ (.Call (.Name x ps) (e :: es) [] cp) p := fun σ H L Q l hh k =>
  ⟨_, pe_callB (scl_ok _) hg hm hv (wa_pa _) hn hdb he hpl, h σ H L _ l hh fun rs ρ' vs H' ⟨rr, ho, hk⟩ l' lv hh' => ⟨rr, ho, hk vs H' _ _ lv hh' fun r v H2 hp hh2 => k r ρ' v H2 hp l' hh2⟩⟩
theorem ev_callTy {T : String} {x : Str} {ps cp : Pos} (hg : Gl X x) (hm : X.mg x = none) (hv : bootBuiltins x = some (.type T)) (h : EA X b ρ (e :: es) fun rs ρ' => CV X b (.type T) rs fun r => p r ρ') (hn : x ≠ "__name__" := by decide) (hdb : (x == ("__debug__" : Str)) = false := by decide)
    (he : starEach (e :: es) X.env = (false, eval e X.env) :: starEach es X.env := by rfl) (hpl : (backTo cp (starEach es X.env)).any (·.1) = false := by rfl) : EV X b ρ (.Call (.Name x ps) (e :: es) [] cp) p := fun σ H L Q l hh k =>
  ⟨_, pe_callTy (scl_ok _) hg hm hv (wa_pa _) hn hdb he hpl, h σ H L _ l hh fun rs ρ' vs H' ⟨rr, ho, hk⟩ l' lv hh' => ⟨rr, ho, hk vs H' _ _ lv hh' fun r v H2 hp hh2 => k r ρ' v H2 hp l' hh2⟩⟩
theorem ev_ix (hs : PlainIx e2) (h : EV X b ρ e1 fun r1 ρ1 => EV X b ρ1 e2 fun r2 ρ2 => IV X b r1 r2 fun r => p r ρ2) : EV X b ρ (.Subscript e1 e2 pos) p := fun σ H L Q l hh q =>
  ⟨_, pe_ix six_ok (we_pe e1) (we_pe e2) hs, h σ H L _ l hh fun r1 ρ1 v1 H1 h1 l1 hh1 => h1 σ H1 ((some v1, r1) :: L) _ l1 (hh1.perm perm_in.symm) fun r2 ρ2 v2 H2 h2 l2 hh2 => h2.go hh2 fun r v H' hp hh' => q r ρ2 v H' hp l2 hh'⟩
end

end DE

namespace DE
open PySem PySem.Spec PyProof.Rows L2 SZ VR VX StX RT
section
variable {X : Cx} {b : Bs} {ρ : List Sl} {p : Sl → Prop}
/-! ### operations on data -/
theorem ov_int {f : Value → Value → Sem Value} {g : Int → Int → Int} {i j : Int} (ho : OpR X f (rI0 fun i j => .int (g i j))) (h : p (.d (.int (g i j)))) : OV X b f (.d (.int i)) (.d (.int j)) p := ⟨_, ho, fun v1 v2 H L Q hh k => by
  have e1 := hh.isI
  have e2 := hh.drop.isI
  subst e1 e2
  exact ⟨i, j, rfl, rfl, k _ _ H h (hh.drop.drop.int _)⟩⟩
theorem ov_intC {f : Value → Value → Sem Value} {C : Int → Int → Prop} {g : Int → Int → Int} {i j : Int} (ho : OpR X f (rI C fun i j => .int (g i j))) (hc : C i j) (h : p (.d (.int (g i j)))) : OV X b f (.d (.int i)) (.d (.int j)) p := ⟨_, ho, fun v1 v2 H L Q hh k => by
  have e1 := hh.isI
  have e2 := hh.drop.isI
  subst e1 e2
  exact ⟨i, j, rfl, rfl, hc, k _ _ H h (hh.drop.drop.int _)⟩⟩
theorem ov_intB {f : Value → Value → Sem Value} {g : Int → Int → Bool} {i j : Int} (ho : OpR X f (rI0 fun i j => .bl (g i j))) (h : p (.d (.bool (g i j)))) : OV X b f (.d (.int i)) (.d (.int j)) p := ⟨_, ho, fun v1 v2 H L Q hh k => by
  have e1 := hh.isI
  have e2 := hh.drop.isI
  subst e1 e2
  exact ⟨i, j, rfl, rfl, k _ _ H h (hh.drop.drop.bl _)⟩⟩
theorem ov_add {i j : Int} (h : p (.d (.int (i + j)))) : OV X b (binaryOp .Add) (.d (.int i)) (.d (.int j)) p := ov_int (g := fun i j => i + j) op_add h
theorem ov_sub {i j : Int} (h : p (.d (.int (i - j)))) : OV X b (binaryOp .Sub) (.d (.int i)) (.d (.int j)) p := ov_int (g := fun i j => i - j) op_sub h
theorem ov_mul {i j : Int} (hc : CMul i j) (h : p (.d (.int (i * j)))) : OV X b (binaryOp .Mult) (.d (.int i)) (.d (.int j)) p := ov_intC (g := fun i j => i * j) op_mul hc h
theorem ov_mod {i j : Int} (hc : 0 < j) (h : p (.d (.int (i % j)))) : OV X b (binaryOp .Mod) (.d (.int i)) (.d (.int j)) p := ov_intC (g := fun i j => i % j) op_mod hc h
theorem ov_lt {i j : Int} (h : p (.d (.bool (decide (i < j))))) : OV X b (compareOp .Lt) (.d (.int i)) (.d (.int j)) p := ov_intB (g := fun i j => decide (i < j)) op_lt h
theorem ov_gt {i j : Int} (h : p (.d (.bool (decide (j < i))))) : OV X b (compareOp .Gt) (.d (.int i)) (.d (.int j)) p := ov_intB (g := fun i j => decide (j < i)) op_gt h
def sdat : PyData → Option V
  | .none => some .non
  | .bool c => some (.bl c)
  | .int i => some (.int i)
  | .str x => some (.str x)
  | _ => none
theorem dp_sdat {K : PySem.W.Frag} {H : Hp} {v u : V} {y : PyData} (h : Dp K H v y) (e : sdat y = some u) : v = u := by
  cases h <;> simp [sdat] at e <;> exact e
theorem ov_eqS {y z : PyData} {u w : V} (hy : sdat y = some u) (hz : sdat z = some w) (hs : scal u w = true) (h : p (.d (.bool (decide (u = w))))) : OV X b (compareOp .Eq) (.d y) (.d z) p := ⟨_, op_eq, fun v1 v2 H L Q hh k => by
  have e1 := dp_sdat hh.dp hy
  have e2 := dp_sdat hh.drop.dp hz
  subst e1 e2
  exact ⟨hs, k _ _ H h (hh.drop.drop.bl _)⟩⟩
theorem ov_neS {y z : PyData} {u w : V} (hy : sdat y = some u) (hz : sdat z = some w) (hs : scal u w = true) (h : p (.d (.bool (!decide (u = w))))) : OV X b (compareOp .NotEq) (.d y) (.d z) p := ⟨_, op_ne, fun v1 v2 H L Q hh k => by
  have e1 := dp_sdat hh.dp hy
  have e2 := dp_sdat hh.drop.dp hz
  subst e1 e2
  exact ⟨hs, k _ _ H h (hh.drop.drop.bl _)⟩⟩
theorem dec_vstr {x y : Str} : decide (V.str x = V.str y) = decide (x = y) := by
  by_cases h : x = y
  · subst h; simp
  · rw [decide_eq_false h]; exact decide_eq_false fun e => h (V.str.inj e)
theorem dec_vint {x y : Int} : decide (V.int x = V.int y) = decide (x = y) := by
  by_cases h : x = y
  · subst h; simp
  · rw [decide_eq_false h]; exact decide_eq_false fun e => h (V.int.inj e)
theorem ov_eqStr {x y : Str} (h : p (.d (.bool (decide (x = y))))) : OV X b (compareOp .Eq) (.d (.str x)) (.d (.str y)) p := ov_eqS rfl rfl rfl (by rw [dec_vstr]; exact h)
theorem ov_neStr {x y : Str} (h : p (.d (.bool (!decide (x = y))))) : OV X b (compareOp .NotEq) (.d (.str x)) (.d (.str y)) p := ov_neS rfl rfl rfl (by rw [dec_vstr]; exact h)
theorem ov_eqInt {x y : Int} (h : p (.d (.bool (decide (x = y))))) : OV X b (compareOp .Eq) (.d (.int x)) (.d (.int y)) p := ov_eqS rfl rfl rfl (by rw [dec_vint]; exact h)
theorem ov_neInt {x y : Int} (h : p (.d (.bool (!decide (x = y))))) : OV X b (compareOp .NotEq) (.d (.int x)) (.d (.int y)) p := ov_neS rfl rfl rfl (by rw [dec_vint]; exact h)
/-- == of data at any depth -/
theorem ov_eqD {y z : PyData} (hu : X.A.units + 64 < cLine) (hy : SeqAt.shaped y = true) (hz : SeqAt.shaped z = true) (h : p (.d (.bool (PyData.eqv y z)))) : OV X b (compareOp .Eq) (.d y) (.d z) p := ⟨_, op_eqD hu, fun v1 v2 H L Q hh k => ⟨y, z, hh.dp, hh.drop.dp, hy, hz, k _ _ H h (hh.drop.drop.bl _)⟩⟩
theorem ov_neD {y z : PyData} (hu : X.A.units + 64 < cLine) (hy : SeqAt.shaped y = true) (hz : SeqAt.shaped z = true) (h : p (.d (.bool (!PyData.eqv y z)))) : OV X b (compareOp .NotEq) (.d y) (.d z) p := ⟨_, op_neD hu, fun v1 v2 H L Q hh k => ⟨y, z, hh.dp, hh.drop.dp, hy, hz, k _ _ H h (hh.drop.drop.bl _)⟩⟩
def isNon : PyData → Bool
  | .none => true
  | _ => false
theorem dp_non {K : PySem.W.Frag} {H : Hp} {v : V} {y : PyData} (h : Dp K H v y) : decide (v = .non) = isNon y := by
  cases h <;> simp [isNon]
theorem ov_notN {y : PyData} (h : p (.d (.bool (!isNon y)))) : OV X b (compareOp .IsNot) (.d y) (.d .none) p := ⟨_, op_notN, fun v1 v2 H L Q hh k => by
  refine ⟨hh.drop.isN, ?_⟩
  rw [dp_non hh.dp]
  exact k _ _ H h (hh.drop.drop.bl _)⟩
theorem ov_addS {x y : Str} (hz : x.length + y.length ≤ sizeLine) (h : p (.d (.str (x ++ y)))) : OV X b (binaryOp .Add) (.d (.str x)) (.d (.str y)) p := ⟨_, op_add_str, fun v1 v2 H L Q hh k => by
  have e1 := hh.isS
  have e2 := hh.drop.isS
  subst e1 e2
  exact ⟨x, y, rfl, rfl, hz, k _ _ H h (hh.drop.drop.str _)⟩⟩
/-- texts among texts -/
theorem dp_strs {K : PySem.W.Frag} {G : Hp} : ∀ {xs : List V} {ys : List Str}, DpAll K G xs (ys.map .str) → xs = ys.map .str
  | [], [], _ => rfl
  | [], _ :: _, h => by cases h
  | _ :: _, [], h => by cases h
  | x :: xs, y :: ys, h => by
    cases h with
    | cons h1 h2 =>
      cases h1
      rw [dp_strs h2, List.map_cons]
theorem HoldG.seq {K : PySem.W.Frag} {G H : Hp} {v : V} {y : PyData} {L : List Cl} (h : HoldG K b G H ((some v, .d y) :: L)) : Dp K G v y := by
  obtain ⟨v', e, hd⟩ := h.data
  cases e
  exact hd
theorem ov_inS {x : Str} {ys : List Str} {y : PyData} (hy : y = .tuple (ys.map .str) ∨ y = .list (ys.map .str)) (h : p (.d (.bool (ys.contains x)))) : OV X b (compareOp .In) (.d (.str x)) (.d y) p := ⟨_, op_in_seq, fun v1 v2 H L Q hh k => by
  have e1 := hh.isS
  subst e1
  have hd := hh.drop.dp
  rcases hy with rfl | rfl
  · cases hd with
    | tup h1 h2 =>
      have e := dp_strs h2
      subst e
      refine ⟨_, _, rfl, .inr h1, rfl, strFlat _, ?_⟩
      rw [strIn]
      exact k _ _ H h (hh.drop.drop.bl _)
  · cases hd with
    | lst h1 h2 =>
      have e := dp_strs h2
      subst e
      refine ⟨_, _, rfl, .inl h1, rfl, strFlat _, ?_⟩
      rw [strIn]
      exact k _ _ H h (hh.drop.drop.bl _)⟩
theorem ov_notInS {x : Str} {ys : List Str} {y : PyData} (hy : y = .tuple (ys.map .str) ∨ y = .list (ys.map .str)) (h : p (.d (.bool (!ys.contains x)))) : OV X b (compareOp .NotIn) (.d (.str x)) (.d y) p := ⟨_, op_notIn_seq, fun v1 v2 H L Q hh k => by
  have e1 := hh.isS
  subst e1
  have hd := hh.drop.dp
  rcases hy with rfl | rfl
  · cases hd with
    | tup h1 h2 =>
      have e := dp_strs h2
      subst e
      refine ⟨_, _, rfl, .inr h1, rfl, strFlat _, ?_⟩
      rw [strIn]
      exact k _ _ H h (hh.drop.drop.bl _)
  · cases hd with
    | lst h1 h2 =>
      have e := dp_strs h2
      subst e
      refine ⟨_, _, rfl, .inl h1, rfl, strFlat _, ?_⟩
      rw [strIn]
      exact k _ _ H h (hh.drop.drop.bl _)⟩
/-! ### lists: + of two, * n -/
theorem Hold.ref {H : Hp} {v : V} {ys : List PyData} {L : List Cl} {K : PySem.W.Frag} (h : Hold K b H ((some v, .own ys) :: L)) : ∃ p vs, v = .ref p ∧ H p = some (.lst vs) ∧ vs.length = ys.length := by
  obtain ⟨G, hg⟩ := h
  obtain ⟨p, vs, e, _, _, h3, h4⟩ := hg.ok _ List.mem_cons_self
  cases e
  exact ⟨p, vs, rfl, h3, DpAll.len h4⟩
theorem ov_cat {xs ys : List PyData} (hz : xs.length + ys.length ≤ sizeLine) (h : p (.own (xs ++ ys))) : OV X b (binaryOp .Add) (.own xs) (.own ys) p := ⟨_, op_cat, fun v1 v2 H L Q hh k => by
  obtain ⟨G, hg⟩ := hh
  obtain ⟨l1, us, e1, _, _, h1, d1⟩ := hg.ok _ List.mem_cons_self
  obtain ⟨l2, vs, e2, _, _, h2, d2⟩ := hg.drop.ok _ List.mem_cons_self
  cases e1
  cases e2
  exact ⟨l1, l2, us, vs, rfl, rfl, h1, h2, by rw [DpAll.len d1, DpAll.len d2]; exact hz, fun q hq => k _ _ _ h ⟨G, hg.drop.drop.newL hq (DpAll.app d1 d2)⟩⟩⟩
/-! ### items -/
theorem dp_at {K : PySem.W.Frag} {G : Hp} {xs : List V} {ys : List PyData} {i : Int} {y : PyData} (h : DpAll K G xs ys) (e : atI ys i = some y) : ∃ x, atI xs i = some x ∧ Dp K G x y := by
  unfold atI at e ⊢
  rw [DpAll.len h]
  cases hk : ixN ys.length i with
  | none => rw [hk] at e; cases e
  | some k =>
    rw [hk] at e
    have hl : k < xs.length := by rw [DpAll.len h]; exact (List.getElem?_eq_some_iff.mp e).1
    obtain ⟨d, e1, hd⟩ := DpAll.at h (List.getElem?_eq_getElem hl)
    have e : ys[k]? = some y := e
    rw [e1] at e
    cases e
    exact ⟨_, List.getElem?_eq_getElem hl, hd⟩
theorem iv_tup {ys : List PyData} {i : Int} {y : PyData} (hi : atI ys i = some y) (h : p (.d y)) : IV X b (.d (.tuple ys)) (.d (.int i)) p := ⟨_, ix_tup, fun v1 v2 H L Q hh k => by
  have e2 := hh.drop.isI
  subst e2
  obtain ⟨G, hg⟩ := hh
  cases hg.seq with
  | tup h1 h2 =>
    obtain ⟨x, ex, hx⟩ := dp_at h2 hi
    exact ⟨_, _, _, _, rfl, rfl, hg.up.tup h1, ex, k _ _ H h ⟨G, hg.drop.drop.add hx⟩⟩⟩
theorem iv_lst {ys : List PyData} {i : Int} {y : PyData} (hi : atI ys i = some y) (h : p (.d y)) : IV X b (.d (.list ys)) (.d (.int i)) p := ⟨_, ix_list, fun v1 v2 H L Q hh k => by
  have e2 := hh.drop.isI
  subst e2
  obtain ⟨G, hg⟩ := hh
  cases hg.seq with
  | lst h1 h2 =>
    obtain ⟨x, ex, hx⟩ := dp_at h2 hi
    exact ⟨_, _, _, _, rfl, rfl, hg.up.seq h1, ex, k _ _ H h ⟨G, hg.drop.drop.add hx⟩⟩⟩
theorem iv_str {x : Str} {i : Int} {c : Nat} (hz : x.length ≤ sizeLine) (hi : atI x.cps.toList i = some c) (h : p (.d (.str ⟨#[c]⟩))) : IV X b (.d (.str x)) (.d (.int i)) p := ⟨_, ix_str, fun v1 v2 H L Q hh k => by
  have e1 := hh.isS
  have e2 := hh.drop.isI
  subst e1 e2
  exact ⟨x, i, c, rfl, rfl, hz, hi, k _ _ H h (hh.drop.drop.str _)⟩⟩
/-! ### built-ins -/
theorem one_in {rs : List Sl} {vs : List V} {r : Sl} (lv : vs.length = [r].length) : ∃ v, vs = [v] := List.length_eq_one_iff.mp (by simpa using lv)
theorem cv_lenT {ys : List PyData} (h : p (.d (.int ys.length))) : CV X b (.builtin "len") [.d (.tuple ys)] p := ⟨_, call_len_seq, fun vs H L Q lv hh k => by
  obtain ⟨v, rfl⟩ := one_in (rs := []) lv
  cases Hold.dp (show Hold X.K b H ((some v, .d (.tuple ys)) :: L) from hh) with
  | tup h1 h2 =>
    refine ⟨_, _, rfl, .inr h1, ?_⟩
    rw [DpAll.len h2]
    exact k _ _ H h (Hold.int (Hold.drop (show Hold X.K b H ((some (.ref _), .d (.tuple ys)) :: L) from hh)) _)⟩
theorem cv_lenL {ys : List PyData} (h : p (.d (.int ys.length))) : CV X b (.builtin "len") [.d (.list ys)] p := ⟨_, call_len_seq, fun vs H L Q lv hh k => by
  obtain ⟨v, rfl⟩ := one_in (rs := []) lv
  cases Hold.dp (show Hold X.K b H ((some v, .d (.list ys)) :: L) from hh) with
  | lst h1 h2 =>
    refine ⟨_, _, rfl, .inl h1, ?_⟩
    rw [DpAll.len h2]
    exact k _ _ H h (Hold.int (Hold.drop (show Hold X.K b H ((some (.ref _), .d (.list ys)) :: L) from hh)) _)⟩
theorem cv_lenO {ys : List PyData} (h : p (.d (.int ys.length))) : CV X b (.builtin "len") [.own ys] p := ⟨_, call_len_seq, fun vs H L Q lv hh k => by
  obtain ⟨v, rfl⟩ := one_in (rs := []) lv
  have hh : Hold X.K b H ((some v, .own ys) :: L) := hh
  obtain ⟨q, us, rfl, h1, h2⟩ := hh.ref
  refine ⟨_, _, rfl, .inl (.of h1), ?_⟩
  rw [h2]
  exact k _ _ H h (hh.drop.int _)⟩
theorem cv_strI {i : Int} (hz : i.natAbs.log2 < 1920) (h : p (.d (.str (toString i)))) : CV X b (.type "str") [.d (.int i)] p := ⟨_, call_str_int, fun vs H L Q lv hh k => by
  obtain ⟨v, rfl⟩ := one_in (rs := []) lv
  have hh : Hold X.K b H ((some v, .d (.int i)) :: L) := hh
  have e := hh.isI
  subst e
  exact ⟨i, rfl, hz, k _ _ H h (hh.drop.str _)⟩⟩
theorem cv_tupO {ys : List PyData} (h : p (.d (.tuple ys))) : CV X b (.type "tuple") [.own ys] p := ⟨_, call_tuple_of, fun vs H L Q lv hh k => by
  obtain ⟨v, rfl⟩ := one_in (rs := []) lv
  have hh : Hold X.K b H ((some v, .own ys) :: L) := hh
  obtain ⟨G, hg⟩ := hh
  obtain ⟨l1, us, e1, _, _, h1, d1⟩ := hg.ok _ List.mem_cons_self
  cases e1
  exact ⟨_, _, rfl, .inl ⟨.of h1, fun q hq => k _ _ _ h ⟨_, hg.drop.newT hq d1⟩⟩⟩⟩
theorem dp_bools {K : PySem.W.Frag} {G : Hp} : ∀ {xs : List V} {ys : List Bool}, DpAll K G xs (ys.map .bool) → xs = ys.map .bl
  | [], [], _ => rfl
  | [], _ :: _, h => by cases h
  | _ :: _, [], h => by cases h
  | x :: xs, y :: ys, h => by
    cases h with
    | cons h1 h2 =>
      cases h1
      rw [dp_bools h2, List.map_cons]
theorem cv_all (hc : X.calm = true) {bs : List Bool} (h : p (.d (.bool (bs.all id)))) : CV X b (.builtin "all") [.own (bs.map .bool)] p := ⟨_, cr_all hc, fun vs H L Q lv hh k => by
  obtain ⟨v, rfl⟩ := one_in (rs := []) lv
  have hh : Hold X.K b H ((some v, .own (bs.map .bool)) :: L) := hh
  obtain ⟨G, hg⟩ := hh
  obtain ⟨l1, us, e1, _, _, h1, d1⟩ := hg.ok _ List.mem_cons_self
  cases e1
  have e := dp_bools d1
  subst e
  exact ⟨_, bs, rfl, .of h1, k _ _ _ h ⟨G, hg.drop.add (.bl _)⟩⟩⟩
theorem cv_any (hc : X.calm = true) {bs : List Bool} (h : p (.d (.bool (bs.any id)))) : CV X b (.builtin "any") [.own (bs.map .bool)] p := ⟨_, cr_any hc, fun vs H L Q lv hh k => by
  obtain ⟨v, rfl⟩ := one_in (rs := []) lv
  have hh : Hold X.K b H ((some v, .own (bs.map .bool)) :: L) := hh
  obtain ⟨G, hg⟩ := hh
  obtain ⟨l1, us, e1, _, _, h1, d1⟩ := hg.ok _ List.mem_cons_self
  cases e1
  have e := dp_bools d1
  subst e
  exact ⟨_, bs, rfl, .of h1, k _ _ _ h ⟨G, hg.drop.add (.bl _)⟩⟩⟩
/-- x[k:l] of a text -/
def subTy (a t : String) : Bool := a == t || (a == "bool" && t == "int")
theorem kit_d {K : PySem.W.Frag} {t : String} (ht : t = "int" ∨ t = "bool" ∨ t = "str" ∨ t = "tuple" ∨ t = "list" ∨ t = "dict") (y : PyData) : PySem.W.kitOne K (.type (tyD y)) (.type t) = some (subTy (tyD y) t) := by
  rcases ht with rfl | rfl | rfl | rfl | rfl | rfl <;> cases y <;> dsimp only [tyD] <;> exact kit_ty (by decide +kernel)
theorem ev_isi {e : Expr} {t : String} {x : Str} {p : Sl → List Sl → Prop} {ps cp pn : Pos} (hg : Gl X "isinstance") (hm : X.mg "isinstance" = none) (hgt : Gl X x) (hmt : X.mg x = none) (hv : bootBuiltins x = some (.type t)) (ht : t = "int" ∨ t = "bool" ∨ t = "str" ∨ t = "tuple" ∨ t = "list" ∨ t = "dict")
    (h : EV X b ρ e fun r ρ' => ∃ y, r = .d y ∧ p (.d (.bool (subTy (tyD y) t))) ρ') (hn : x ≠ "__name__" := by decide) (hd : (x == ("__debug__" : Str)) = false := by decide) (he : starEach [e, .Name x pn] X.env = (false, eval e X.env) :: starEach [.Name x pn] X.env := by rfl) (hpl : (backTo cp (starEach [.Name x pn] X.env)).any (·.1) = false := by rfl) :
    EV X b ρ (.Call (.Name "isinstance" ps) [e, .Name x pn] [] cp) p := fun σ H L Q l hh k =>
  ⟨_, pe_callB call_isi hg hm (by decide +kernel) (pa_cons (we_pe e) (pa_cons (pe_bltn hgt hmt (u := .type t) (v := .ty t) hv rfl hn hd) pa_nil) he) (by decide) (by decide) he hpl, h σ H L _ l hh fun r ρ' v H' ⟨y, er, hp⟩ l' hh' => by
    subst er
    exact ⟨v, .ty t, .type (tyD y), .type t, subTy (tyD y) t, rfl, .ty _, dp_ty hh'.dp, kit_d ht y, k _ ρ' _ H' hp l' (hh'.drop.bl _)⟩⟩
end

end DE

namespace DE
open PySem PySem.Spec PyProof.Rows L2 SZ VR VX StX RT
/-! ### statements -/
structure Po where
  nx : List Sl → Prop
  rt : Sl → List Sl → Prop
  bk : List Sl → Prop
  ct : List Sl → Prop
structure PoOk (X : Cx) (b : Bs) (L : List Cl) (p : Po) (D : Ends) (n : Nat) : Prop where
  nx : ∀ ρ' σ' H', p.nx ρ' → σ'.length = ρ'.length → ρ'.length = n → Hold X.K b H' (σ'.zip ρ' ++ L) → D.nx σ' H'
  rt : ∀ r ρ' v (σ' : L2.St) H', p.rt r ρ' → σ'.length = ρ'.length → ρ'.length = n → Hold X.K b H' ((some v, r) :: (σ'.zip ρ' ++ L)) → D.rt v H'
  bk : ∀ ρ' σ' H', p.bk ρ' → σ'.length = ρ'.length → ρ'.length = n → Hold X.K b H' (σ'.zip ρ' ++ L) → D.bk σ' H'
  ct : ∀ ρ' σ' H', p.ct ρ' → σ'.length = ρ'.length → ρ'.length = n → Hold X.K b H' (σ'.zip ρ' ++ L) → D.ct σ' H'
def XS (X : Cx) (b : Bs) (ρ : List Sl) (st : Stmt) (p : Po) : Prop := ∀ σ H L D, σ.length = ρ.length → Hold X.K b H (σ.zip ρ ++ L) → PoOk X b L p D ρ.length → WS X st D σ H
def XB (X : Cx) (b : Bs) (ρ : List Sl) (st : List Stmt) (p : Po) : Prop := ∀ σ H L D, σ.length = ρ.length → Hold X.K b H (σ.zip ρ ++ L) → PoOk X b L p D ρ.length → WSs X st D σ H
/-- a store: ts the slots that may change -/
def EG (X : Cx) (b : Bs) (ts : List Nat) (ρ : List Sl) (tg : Expr) (r : Sl) (p : List Sl → Prop) : Prop := ∀ σ H L v Q, σ.length = ρ.length → Hold X.K b H ((some v, r) :: (σ.zip ρ ++ L)) →
  (∀ ρ' σ' H', p ρ' → σ'.length = ρ'.length → ρ'.length = ρ.length → L2.wipe σ' ts = L2.wipe σ ts → Hold X.K b H' (σ'.zip ρ' ++ L) → Q σ' H') → WG X tg v σ H Q
def EGs (X : Cx) (b : Bs) (ts : List Nat) (ρ : List Sl) (tg : List Expr) (rs : List Sl) (p : List Sl → Prop) : Prop := ∀ σ H L vs Q, σ.length = ρ.length → vs.length = rs.length → Hold X.K b H ((vs.map some).zip rs ++ (σ.zip ρ ++ L)) →
  (∀ ρ' σ' H', p ρ' → σ'.length = ρ'.length → ρ'.length = ρ.length → L2.wipe σ' ts = L2.wipe σ ts → Hold X.K b H' (σ'.zip ρ' ++ L) → Q σ' H') → WGs X tg vs σ H Q
section
variable {X : Cx} {b : Bs} {ρ : List Sl} {p : Po} {e e1 e2 : Expr} {rest : List Stmt} {st : Stmt} {pos : Pos}
theorem xb_nil (h : p.nx ρ) : XB X b ρ [] p := fun σ H L D l hh k => ⟨_, pss_nil, k.nx ρ σ H h l rfl hh⟩
theorem xb_cons (h : XS X b ρ st { p with nx := fun ρ' => ρ'.length = ρ.length → XB X b ρ' rest p }) : XB X b ρ (st :: rest) p := fun σ H L D l hh k =>
  ⟨_, pss_cons (ws_ps st) (wss_pss rest), h σ H L { D with nx := WSs X rest D } l hh ⟨fun ρ' σ' H' h1 l' n' hh' => h1 n' σ' H' L D l' hh' (by rw [n']; exact k), k.rt, k.bk, k.ct⟩⟩
theorem xb_one (h : XS X b ρ st p) : XB X b ρ [st] p := fun σ H L D l hh k => ⟨_, pss_one (ws_ps st), h σ H L D l hh k⟩
theorem xs_ret (h : EV X b ρ e fun r ρ' => ρ'.length = ρ.length → p.rt r ρ') : XS X b ρ (.Return (some e) pos) p := fun σ H L D l hh k => ⟨_, ps_ret (we_pe e), h σ H L _ l hh fun r ρ' v H' hp l' hh' => k.rt r ρ' v σ H' (hp (l'.symm.trans l)) l' (l'.symm.trans l) hh'⟩
theorem xs_drop (hs : swapsWith e none pos.line X.env = pure false := by rfl) (h : EV X b ρ e fun _ ρ' => ρ'.length = ρ.length → p.nx ρ') : XS X b ρ (.Expr e pos) p := fun σ H L D l hh k => ⟨_, ps_expr (we_pe e) hs, h σ H L _ l hh fun r ρ' v H' hp l' hh' => k.nx ρ' σ H' (hp (l'.symm.trans l)) l' (l'.symm.trans l) hh'.drop⟩
theorem xs_if {c : Expr} {s1 s2 : List Stmt} (h : ET X b ρ c fun t ρ' => ρ'.length = ρ.length → (t = true → XB X b ρ' s1 p) ∧ (t = false → XB X b ρ' s2 p)) : XS X b ρ (.If c s1 s2 pos) p := fun σ H L D l hh k =>
  ⟨_, ps_if (wt_pt c) (wss_pss s1) (wss_pss s2), h σ H L _ l hh fun t ρ' H' hp l' hh' => by
    have n' := l'.symm.trans l
    obtain ⟨h1, h2⟩ := hp n'
    cases t with
    | true => exact h1 rfl σ H' L D l' hh' (by rw [n']; exact k)
    | false => exact h2 rfl σ H' L D l' hh' (by rw [n']; exact k)⟩
/-! ### stores -/
theorem wipe_set {σ : L2.St} {i : Nat} {x : Option V} : ∀ {ts : List Nat}, i ∈ ts → L2.wipe (σ.set i x) ts = L2.wipe σ ts
  | t :: ts, h => by
    unfold L2.wipe
    by_cases hi : i ∈ ts
    · rw [wipe_set hi]
    · have ht : i = t := by
        rcases List.mem_cons.mp h with h | h
        · exact h
        · exact absurd h hi
      subst ht
      have : L2.wipe (σ.set i x) ts = (L2.wipe σ ts).set i x := by
        clear h
        induction ts with
        | nil => rfl
        | cons u ts ih =>
          have hu : i ≠ u := fun e => hi (by rw [e]; exact List.mem_cons_self)
          unfold L2.wipe
          rw [ih (fun z => hi (List.mem_cons_of_mem _ z)), List.set_comm _ _ hu]
      rw [this, List.set_set]
theorem zip_set {σ : L2.St} : ∀ {ρ : List Sl} {i : Nat} {r : Sl} {x : Option V}, i < ρ.length → σ.length = ρ.length → ∃ c M, (σ.zip ρ).Perm (c :: M) ∧ ((σ.set i x).zip (ρ.set i r)).Perm ((x, r) :: M) := by
  intro ρ i r x hi l
  have h1 : ρ[i]? = some ρ[i] := List.getElem?_eq_getElem hi
  have h2 : σ[i]? = some σ[i] := List.getElem?_eq_getElem (by omega)
  obtain ⟨M, p1, _⟩ := set_perm (s' := r) h1 h2
  refine ⟨_, M, p1, ?_⟩
  clear h1 h2
  have : ∀ (σ : L2.St) (ρ : List Sl) (i : Nat) (hi : i < ρ.length) (hs : i < σ.length) (M : List Cl), (σ.zip ρ).Perm ((σ[i], ρ[i]) :: M) → ((σ.set i x).zip (ρ.set i r)).Perm ((x, r) :: M) := by
    intro σ
    induction σ with
    | nil => intro ρ i _ hs; simp at hs
    | cons y σ ih =>
      intro ρ i hi hs M hM
      cases ρ with
      | nil => simp at hi
      | cons z ρ =>
        cases i with
        | zero =>
          simp at hM ⊢
          exact hM
        | succ i =>
          simp only [List.getElem_cons_succ, List.zip_cons_cons, List.set_cons_succ] at hM ⊢
          have hm : (y, z) ∈ (σ[i]'(by simpa using hs), ρ[i]'(by simpa using hi)) :: M := hM.mem_iff.mp List.mem_cons_self
          obtain ⟨M1, q1, _⟩ := set_perm (σ := σ) (ρ := ρ) (s' := r) (List.getElem?_eq_getElem (by simpa using hi)) (List.getElem?_eq_getElem (by simpa using hs))
          have h3 := ih ρ i (by simpa using hi) (by simpa using hs) M1 q1
          have e1 : ((y, z) :: (σ[i]'(by simpa using hs), ρ[i]'(by simpa using hi)) :: M1).Perm ((σ[i]'(by simpa using hs), ρ[i]'(by simpa using hi)) :: M) := (List.Perm.cons _ q1.symm).trans hM
          have e2 : ((y, z) :: M1).Perm M := by
            exact ((List.Perm.swap (y, z) (σ[i]'(by simpa using hs), ρ[i]'(by simpa using hi)) M1).trans e1).cons_inv
          exact ((List.Perm.cons _ h3).trans (.swap ..)).trans (List.Perm.cons _ e2)
  exact this σ ρ i hi (by omega) M p1
theorem eg_name (i : Nat) {ts : List Nat} {r : Sl} {p : List Sl → Prop} {x : Str} (hN : X.N.Nodup) (hi : X.N[i]? = some x) (hx : Loc X.env.scope x) (hl : i < ρ.length) (ht : i ∈ ts) (h : p (ρ.set i r)) (hf : X.fn x = true ∨ X.env.scope.names.lookup x = some .local := by first | exact .inl rfl | exact .inr rfl | assumption) : EG X b ts ρ (.Name x pos) r p := fun σ H L v Q l hh k => by
  refine ⟨_, pg_name hN hi hx hf, ?_⟩
  obtain ⟨c, M, p1, p2⟩ := zip_set (r := r) (x := some v) hl l
  refine k _ _ H h (by simp [l]) (by simp) (wipe_set ht) ?_
  have h1 : Hold X.K b H (c :: ((some v, r) :: (M ++ L))) := hh.perm ((List.Perm.swap ..).trans (List.Perm.cons _ (p1.symm.append_right L)))
  exact h1.drop.perm (p2.append_right L)
theorem egs_nil {ts : List Nat} {p : List Sl → Prop} (h : p ρ) : EGs X b ts ρ [] [] p := fun σ H L vs Q l lv hh k => by
  have : vs = [] := List.length_eq_zero_iff.mp (by simpa using lv)
  subst this
  exact ⟨_, pgs_nil, rfl, k ρ σ H h l rfl rfl hh⟩
theorem egs_cons {ts : List Nat} {tg : Expr} {tgs : List Expr} {r : Sl} {rs : List Sl} {p : List Sl → Prop} (hs : (assignEach (tg :: tgs) X.env).map (·.2) = assign tg X.env :: (assignEach tgs X.env).map (·.2) := by rfl) (h : EG X b ts ρ tg r fun ρ' => ρ'.length = ρ.length → EGs X b ts ρ' tgs rs p) : EGs X b ts ρ (tg :: tgs) (r :: rs) p := fun σ H L vs Q l lv hh k => by
  cases vs with
  | nil => simp at lv
  | cons v vs =>
    refine ⟨_, pgs_cons (wg_pg tg) (wgs_pgs tgs) hs, v, vs, rfl, ?_⟩
    have hh : Hold X.K b H ((some v, r) :: (((vs.map some).zip rs) ++ (σ.zip ρ ++ L))) := hh
    refine h σ H ((vs.map some).zip rs ++ L) v _ l (hh.perm (List.Perm.cons _ ?_)) fun ρ' σ' H' h1 l' n' w' hh' => ?_
    · rw [← List.append_assoc, ← List.append_assoc]
      exact List.Perm.append_right _ List.perm_append_comm
    · refine h1 n' σ' H' L vs Q l' (by simpa using lv) (hh'.perm ?_) fun ρ2 σ2 H2 hp l2 n2 w2 hh2 => k ρ2 σ2 H2 hp l2 (n2.trans n') (w2.trans w') hh2
      rw [← List.append_assoc, ← List.append_assoc]
      exact List.Perm.append_right _ List.perm_append_comm
/-- a, b = a tuple of data -/
theorem eg_tup {ts : List Nat} {tgs : List Expr} {k0 : Nat} {ys : List PyData} {p : List Sl → Prop} (hc : X.calm = true) (hn : ys.length = tgs.length) (hna : (assignEach tgs X.env).length = tgs.length := by rfl) (hst : (assignEach tgs X.env).findIdx? (·.1) = none := by rfl) (h : EGs X b ts ρ tgs (ys.map .d) p) : EG X b ts ρ (.Tuple tgs k0 pos) (.d (.tuple ys)) p := fun σ H L v Q l hh k => by
  obtain ⟨G, hg⟩ := hh
  cases hg.seq with
  | @tup a xs _ h1 h2 =>
    refine ⟨_, pg_tup hc (wgs_pgs tgs) hna hst, a, xs, rfl, hg.up.tup h1, (DpAll.len h2).trans hn, ?_⟩
    refine h σ H L xs Q l (by rw [List.length_map]; exact DpAll.len h2) ⟨G, ?_⟩ k
    have hd := hg.drop
    clear hg h1
    have : ∀ {xs : List V} {ys : List PyData}, DpAll X.K G xs ys → HoldG X.K b G H (((xs.map some).zip (ys.map .d)) ++ (σ.zip ρ ++ L)) := by
      intro xs ys hx
      induction xs generalizing ys with
      | nil => cases hx; exact hd
      | cons x xs ih => cases hx with | cons g1 g2 => exact (ih g2).add g1
    exact this h2
theorem xs_asg {tg : Expr} {ts : List Nat} (hs : swapsWithSole [tg] e pos.line X.env = pure false := by rfl) (hw : swappedStores [tg] e X.env = pure none := by rfl) (ha : (assignEach [tg] X.env).map (·.2) = [assign tg X.env] := by rfl) (h : EV X b ρ e fun r ρ' => ρ'.length = ρ.length → EG X b ts ρ' tg r fun ρ2 => ρ2.length = ρ.length → p.nx ρ2) : XS X b ρ (.Assign [tg] e pos) p := fun σ H L D l hh k =>
  ⟨_, ps_asg (we_pe e) (wg_pg tg) hs hw ha, h σ H L _ l hh fun r ρ' v H' h1 l' hh' => h1 (l'.symm.trans l) σ H' L v _ l' hh' fun ρ2 σ2 H2 hp l2 n2 _ hh2 => k.nx ρ2 σ2 H2 (hp (n2.trans (l'.symm.trans l))) l2 (n2.trans (l'.symm.trans l)) hh2⟩
/-- name = e -/
theorem xs_set (i : Nat) {x : Str} {pos' : Pos} (hN : X.N.Nodup) (hi : X.N[i]? = some x) (hx : Loc X.env.scope x) (hl : i < ρ.length) (hs : swapsWith e (some (.Name x pos')) pos.line X.env = pure false := by rfl) (hf : X.fn x = true ∨ X.env.scope.names.lookup x = some .local := by first | exact .inl rfl | exact .inr rfl | assumption)
    (h : EV X b ρ e fun r ρ' => ρ'.length = ρ.length → p.nx (ρ'.set i r)) : XS X b ρ (.Assign [.Name x pos'] e pos) p := fun σ H L D l hh k =>
  ⟨_, ps_set hN hi hx (we_pe e) hs hf, h σ H L _ l hh fun r ρ' v H' h1 l' hh' => by
    have n' := l'.symm.trans l
    obtain ⟨c, M, p1, p2⟩ := zip_set (r := r) (x := some v) (by rw [n']; exact hl) l'
    refine k.nx _ _ H' (h1 n') (by simp [l']) (by simp [n']) ?_
    have h2 : Hold X.K b H' (c :: ((some v, r) :: (M ++ L))) := hh'.perm ((List.Perm.swap ..).trans (List.Perm.cons _ (p1.symm.append_right L)))
    exact h2.drop.perm (p2.append_right L)⟩
end

end DE

namespace DE
open PySem PySem.Spec PyProof.Rows L2 SZ VR VX StX RT
/-! ### calls of defs -/
def cool : Sl → Sl
  | .own ys => .d (.list ys)
  | s => s
def setS : Sl → List PyData → Sl
  | .own _, ys => .own ys
  | _, ys => .bor ys
section
variable {K : PySem.W.Frag} {b : Bs} {G H H' : Hp} {L : List Cl}
theorem Hold.cool {x : Option V} {s : Sl} (h : Hold K b H ((x, s) :: L)) : Hold K b H ((x, DE.cool s) :: L) := by
  cases s with
  | own ys => exact h.freeze
  | _ => exact h
theorem Hold.coolAll : ∀ {vs : List V} {rs : List Sl} {L : List Cl}, Hold K b H ((vs.map some).zip rs ++ L) → Hold K b H ((vs.map some).zip (rs.map DE.cool) ++ L)
  | [], _, _, h => by simpa using h
  | _ :: _, [], _, h => h
  | v :: vs, r :: rs, L, h => by
    have h1 : Hold K b H ((some v, r) :: ((vs.map some).zip rs ++ L)) := h
    have h2 := h1.cool.perm (L' := (vs.map some).zip rs ++ ((some v, DE.cool r) :: L)) perm_in.symm
    exact (Hold.coolAll h2).perm perm_in
/-- no list held alone -/
def flatS : Sl → Bool
  | .d _ => true
  | .fact _ _ => true
  | .un => true
  | _ => false
theorem flat_ads : ∀ {L : List Cl}, (∀ c ∈ L, flatS c.2 = true) → ads L = []
  | [], _ => rfl
  | c :: L, h => by
    rw [ads_cons, flat_ads fun d hd => h d (List.mem_cons_of_mem _ hd)]
    have := h c List.mem_cons_self
    rcases c with ⟨_ | v, s⟩
    · cases s <;> simp [ads]
    · cases s <;> first | (simp [flatS] at this; done) | (cases v <;> simp [ads])
theorem HoldG.sub0 {M : List Cl} (h : HoldG K b G H (M ++ L)) (hf : ∀ c ∈ M, flatS c.2 = true) : HoldG K ⟨G, H, []⟩ G H M :=
  ⟨Same.refl _, h.up, fun a o e => .inl e, fun a o e _ => e, fun a ha => (nomatch ha), fun c hc => by
    have ok := h.ok c (List.mem_append_left _ hc)
    have := hf c hc
    rcases c with ⟨x, s⟩
    cases s with
    | un => trivial
    | d y => exact ok
    | fact φ st => exact ok
    | own ys => exact absurd this Bool.false_ne_true
    | bor ys => exact absurd this Bool.false_ne_true
    | dct o kvs => exact absurd this Bool.false_ne_true, by rw [flat_ads hf]; exact List.nodup_nil, h.fl⟩
theorem HoldG.subB {M : List Cl} {a : Addr} {s : Sl} {ys : List PyData} (h : HoldG K b G H ((some (.ref a), s) :: (M ++ L))) (hs : s = .own ys ∨ s = .bor ys) (hf : ∀ c ∈ M, flatS c.2 = true) : HoldG K ⟨G, H, [a]⟩ G H ((some (.ref a), .bor ys) :: M) := by
  have h0 : G a = none ∧ ∃ vs, H a = some (.lst vs) ∧ DpAll K G vs ys := by
    have ok := h.ok _ List.mem_cons_self
    rcases hs with rfl | rfl
    · obtain ⟨q, vs, e, _, h2, h3, h4⟩ := ok; cases e; exact ⟨h2, vs, h3, h4⟩
    · obtain ⟨q, vs, e, _, h2, h3, h4⟩ := ok; cases e; exact ⟨h2, vs, h3, h4⟩
  obtain ⟨g, vs, h3, h4⟩ := h0
  have f := (HoldG.sub0 h.drop hf)
  refine ⟨Same.refl _, h.up, fun a o e => .inl e, fun a o e _ => e, fun c hc => ?_, fun c hc => ?_, ?_, h.fl⟩
  · rw [List.mem_singleton.mp hc, h3]; rfl
  · rcases List.mem_cons.mp hc with rfl | hc
    · exact ⟨a, vs, rfl, List.mem_singleton_self _, g, h3, h4⟩
    · have ok := f.ok c hc
      have := hf c hc
      rcases c with ⟨x, s⟩
      cases s with
      | un => trivial
      | d y => exact ok
      | fact φ st => exact ok
      | own ys => exact absurd this Bool.false_ne_true
      | bor ys => exact absurd this Bool.false_ne_true
      | dct o kvs => exact absurd this Bool.false_ne_true
  · show (a :: ads M).Nodup
    rw [flat_ads hf]
    exact List.nodup_cons.mpr ⟨by simp, List.nodup_nil⟩
/-- behind a call: what the caller holds -/
theorem HoldG.after (h : HoldG K b G H L) {r : Sl} {v : V} (k : Hold K ⟨G, H, []⟩ H' [(some v, r)]) (hr : ∀ ys, r ≠ .bor ys) : Hold K b H' ((some v, r) :: L) := by
  obtain ⟨G', k⟩ := k
  have keep : ∀ a o, H a = some o → H' a = some o := fun a o e => k.rest a o e (by simp)
  have gn : ∀ a, G a = none → (H a).isSome = true → G' a = none := fun a e hs => by
    cases q : G' a with
    | none => rfl
    | some o =>
      rcases k.new a o q with z | z
      · have z : G a = some o := z; rw [e] at z; cases z
      · have z : H a = none := z; rw [z] at hs; cases hs
  refine ⟨G', h.old.trans k.old, k.up, fun a o e => ?_, fun a o e n => keep a o (h.rest a o e n), fun a ha => ?_, fun c hc => ?_, ?_, k.fl⟩
  · rcases k.new a o e with z | z
    · exact h.new a o z
    · exact .inr (h.fresh z)
  · have := h.bs a ha
    cases q : H a with
    | none => rw [q] at this; cases this
    | some o => rw [keep a o q]; rfl
  · rcases List.mem_cons.mp hc with rfl | hc
    · have ok := k.ok _ List.mem_cons_self
      cases r with
      | un => trivial
      | d y => exact ok
      | fact φ st => exact ok
      | bor ys => exact absurd rfl (hr ys)
      | dct o kvs => obtain ⟨q, vs, e, h1, h2, h3, h4⟩ := ok; exact ⟨q, vs, e, h1.imp (fun z => ⟨z.1, h.fresh z.2⟩) (fun z => absurd z.2.1 (by simp)), h2, h3, h4⟩
      | own ys => obtain ⟨q, vs, e, h1, h2, h3, h4⟩ := ok; exact ⟨q, vs, e, h.fresh h1, h2, h3, h4⟩
    · have ok := h.ok c hc
      rcases c with ⟨x, s⟩
      cases s with
      | un => trivial
      | d y => obtain ⟨v, e, z⟩ := ok; exact ⟨v, e, Dp.keep k.old z⟩
      | fact φ st => obtain ⟨v, e, z⟩ := ok; exact ⟨v, e, st _ _ _ k.old z⟩
      | own ys => obtain ⟨q, vs, e, h1, h2, h3, h4⟩ := ok; exact ⟨q, vs, e, h1, gn q h2 (by rw [h3]; rfl), keep _ _ h3, DpAll.keep k.old h4⟩
      | bor ys => obtain ⟨q, vs, e, h1, h2, h3, h4⟩ := ok; exact ⟨q, vs, e, h1, gn q h2 (by rw [h3]; rfl), keep _ _ h3, DpAll.keep k.old h4⟩
      | dct o kvs => obtain ⟨q, vs, e, h1, h2, h3, h4⟩ := ok; exact ⟨q, vs, e, h1, gn q h2 (by rw [h3]; rfl), keep _ _ h3, DpK.keep k.old h4⟩
  · rw [ads_cons]
    have ok := k.ok _ List.mem_cons_self
    cases r with
    | dct o kvs =>
      obtain ⟨q, vs, e, h1, h2, h3, h4⟩ := ok
      cases e
      refine List.nodup_cons.mpr ⟨fun hm => ?_, h.nd⟩
      obtain ⟨_, vs', e⟩ := h.adsH hm
      have h1 : H q = none := (h1.resolve_right (fun z => absurd z.2.1 (by simp))).2
      rw [h1] at e; cases e
    | own ys =>
      obtain ⟨q, vs, e, h1, h2, h3, h4⟩ := ok
      cases e
      refine List.nodup_cons.mpr ⟨fun hm => ?_, h.nd⟩
      obtain ⟨_, vs', e⟩ := h.adsH hm
      have h1 : H q = none := h1
      rw [h1] at e; cases e
    | bor ys => exact absurd rfl (hr ys)
    | un => cases v <;> simpa [ads] using h.nd
    | d y => cases v <;> simpa [ads] using h.nd
    | fact φ st => cases v <;> simpa [ads] using h.nd
theorem HoldG.afterB {a : Addr} {s s' : Sl} {ys ys' : List PyData} (h : HoldG K b G H ((some (.ref a), s) :: L)) {r : Sl} {v : V} (k : Hold K ⟨G, H, [a]⟩ H' [(some v, r), (some (.ref a), .bor ys')]) (hr : ∀ ys, r ≠ .bor ys) (hs : (s = .own ys ∧ s' = .own ys') ∨ (s = .bor ys ∧ s' = .bor ys')) : Hold K b H' ((some v, r) :: (some (.ref a), s') :: L) := by
  obtain ⟨G', k⟩ := k
  have keep : ∀ c o, H c = some o → c ≠ a → H' c = some o := fun c o e n => k.rest c o e (by simpa using n)
  have gn : ∀ c, G c = none → (H c).isSome = true → G' c = none := fun c e hs => by
    cases q : G' c with
    | none => rfl
    | some o =>
      rcases k.new c o q with z | z
      · have z : G c = some o := z; rw [e] at z; cases z
      · have z : H c = none := z; rw [z] at hs; cases hs
  obtain ⟨q0, us, e0, _, g0, h0, d0⟩ := k.ok _ (List.mem_cons_of_mem _ List.mem_cons_self)
  cases e0
  have nd : (a :: ads L).Nodup := by rcases hs with ⟨rfl, _⟩ | ⟨rfl, _⟩ <;> exact h.nd
  have na := (List.nodup_cons.mp nd).1
  have as : ads ((some (V.ref a), s') :: L) = a :: ads L := by rcases hs with ⟨_, rfl⟩ | ⟨_, rfl⟩ <;> rfl
  have base : b.H a = none ∨ a ∈ b.B := by
    have ok := h.ok _ List.mem_cons_self
    rcases hs with ⟨rfl, _⟩ | ⟨rfl, _⟩
    · obtain ⟨q, _, e, z, _⟩ := ok; cases e; exact .inl z
    · obtain ⟨q, _, e, z, _⟩ := ok; cases e; exact .inr z
  refine ⟨G', h.old.trans k.old, k.up, fun c o e => ?_, fun c o e n => ?_, fun c hc => ?_, fun c hc => ?_, ?_, k.fl⟩
  · rcases k.new c o e with z | z
    · exact h.new c o z
    · exact .inr (h.fresh z)
  · refine keep c o (h.rest c o e n) fun z => ?_
    subst z
    rcases base with z | z
    · rw [z] at e; cases e
    · exact n z
  · by_cases z : c = a
    · subst z; rw [h0]; rfl
    · have := h.bs c hc
      cases q : H c with
      | none => rw [q] at this; cases this
      | some o => rw [keep c o q z]; rfl
  · rcases List.mem_cons.mp hc with rfl | hc
    · have ok := k.ok _ List.mem_cons_self
      cases r with
      | un => trivial
      | d y => exact ok
      | fact φ st => exact ok
      | bor ys => exact absurd rfl (hr ys)
      | dct o kvs =>
        obtain ⟨q, vs, e, h1, h2, h3, h4⟩ := ok
        refine ⟨q, vs, e, h1.imp (fun z => ⟨z.1, h.fresh z.2⟩) (fun hm => ?_), h2, h3, h4⟩
        rw [List.mem_singleton.mp hm.2.1, h0] at h3
        cases h3
      | own ys => obtain ⟨q, vs, e, h1, h2, h3, h4⟩ := ok; exact ⟨q, vs, e, h.fresh h1, h2, h3, h4⟩
    · rcases List.mem_cons.mp hc with rfl | hm
      · have ok := h.ok _ List.mem_cons_self
        rcases hs with ⟨rfl, rfl⟩ | ⟨rfl, rfl⟩
        · obtain ⟨q, _, e, z, _⟩ := ok; cases e; exact ⟨a, us, rfl, z, g0, h0, d0⟩
        · obtain ⟨q, _, e, z, _⟩ := ok; cases e; exact ⟨a, us, rfl, z, g0, h0, d0⟩
      · have ok := h.ok c (List.mem_cons_of_mem _ hm)
        rcases c with ⟨x, t⟩
        cases t with
        | un => trivial
        | d y => obtain ⟨v, e, z⟩ := ok; exact ⟨v, e, Dp.keep k.old z⟩
        | fact φ st => obtain ⟨v, e, z⟩ := ok; exact ⟨v, e, st _ _ _ k.old z⟩
        | own zs =>
          obtain ⟨q, vs, e, h1, h2, h3, h4⟩ := ok
          have n : q ≠ a := fun n => na (by subst n; subst e; exact ads_mem (.inl ⟨_, rfl⟩) hm)
          exact ⟨q, vs, e, h1, gn q h2 (by rw [h3]; rfl), keep _ _ h3 n, DpAll.keep k.old h4⟩
        | bor zs =>
          obtain ⟨q, vs, e, h1, h2, h3, h4⟩ := ok
          have n : q ≠ a := fun n => na (by subst n; subst e; exact ads_mem (.inr ⟨_, rfl⟩) hm)
          exact ⟨q, vs, e, h1, gn q h2 (by rw [h3]; rfl), keep _ _ h3 n, DpAll.keep k.old h4⟩
        | dct o kvs =>
          obtain ⟨q, vs, e, h1, h2, h3, h4⟩ := ok
          have n : q ≠ a := fun n => na (by subst n; subst e; exact ads_memD hm)
          exact ⟨q, vs, e, h1, gn q h2 (by rw [h3]; rfl), keep _ _ h3 n, DpK.keep k.old h4⟩
  · rw [ads_cons, as]
    have ok := k.ok _ List.mem_cons_self
    cases r with
    | dct o kvs =>
      obtain ⟨q, vs, e, h1, h2, h3, h4⟩ := ok
      cases e
      have h1 : H q = none := (h1.resolve_right fun hm => by
        rw [List.mem_singleton.mp hm.2.1, h0] at h3
        cases h3).2
      refine List.nodup_cons.mpr ⟨fun hm => ?_, nd⟩
      have hm' : q ∈ ads ((some (V.ref a), s) :: L) := by rcases hs with ⟨rfl, _⟩ | ⟨rfl, _⟩ <;> exact hm
      obtain ⟨_, vs', e⟩ := h.adsH hm'
      rw [h1] at e; cases e
    | own zs =>
      obtain ⟨q, vs, e, h1, h2, h3, h4⟩ := ok
      cases e
      have h1 : H q = none := h1
      refine List.nodup_cons.mpr ⟨fun hm => ?_, nd⟩
      have hm' : q ∈ ads ((some (V.ref a), s) :: L) := by rcases hs with ⟨rfl, _⟩ | ⟨rfl, _⟩ <;> exact hm
      obtain ⟨_, vs', e⟩ := h.adsH hm'
      rw [h1] at e; cases e
    | bor ys => exact absurd rfl (hr ys)
    | un => cases v <;> simpa [ads] using nd
    | d y => cases v <;> simpa [ads] using nd
    | fact φ st => cases v <;> simpa [ads] using nd
end
/-- a def that changes nothing it is handed -/
def spP (K : PySem.W.Frag) (Pre : List Sl → Prop) (Res : List Sl → Sl → Prop) : Sp := fun vs H Q _ => ∃ (G : Hp) (as : List Sl), vs.length = as.length ∧ HoldG K ⟨G, H, []⟩ G H ((vs.map some).zip as) ∧ Pre as ∧ ∀ r, Res as r → (∀ ys, r ≠ .bor ys) → ∀ v H', Hold K ⟨G, H, []⟩ H' [(some v, r)] → Q v H'
/-- a def that changes the list in its first place -/
def spB (K : PySem.W.Frag) (Pre : List PyData → List Sl → Prop) (Res : List PyData → List Sl → Sl → List PyData → Prop) : Sp := fun vs H Q _ => ∃ (G : Hp) (a : Addr) (us : List V) (ys : List PyData) (as : List Sl), vs = .ref a :: us ∧ us.length = as.length ∧ HoldG K ⟨G, H, [a]⟩ G H ((some (.ref a), .bor ys) :: (us.map some).zip as) ∧
  Pre ys as ∧ ∀ r ys', Res ys as r ys' → (∀ zs, r ≠ .bor zs) → ∀ v H', Hold K ⟨G, H, [a]⟩ H' [(some v, r), (some (.ref a), .bor ys')] → Q v H'
section
variable {X : Cx} {b : Bs} {ρ : List Sl} {p : Sl → List Sl → Prop} {e : Expr} {es : List Expr}
theorem flat_zip {vs : List V} : ∀ {rs : List Sl}, (∀ r ∈ rs, flatS r = true) → ∀ c ∈ (vs.map some).zip rs, flatS c.2 = true := fun h c hc => h _ (List.of_mem_zip hc).2
theorem ev_call {CX : CXT} {k : Nat} {f : Addr} {fd : FuncData} {ps : List Str} {Pre : List Sl → Prop} {Res : List Sl → Sl → Prop} {x : Str} {p1 cp : Pos} (F : FnOk X.prog X.w X.K X.mg X.base CX k f fd ps (spP X.K Pre Res)) (hr : Room k X.A) (hg : Gl X x) (hm : X.mg x = some (.ref f)) (hk : PySem.W.keepIn X.K (.ref f) = true) (hb : Binds X.K fd ps []) {E : XK} (hx : Passes CX X E)
    (h : EA X b ρ (e :: es) fun rs ρ' => (∀ r ∈ rs.map cool, flatS r = true) ∧ Pre (rs.map cool) ∧ ∀ r, Res (rs.map cool) r → (∀ ys, r ≠ .bor ys) ∧ p r ρ')
    (hdb : (x == ("__debug__" : Str)) = false := by decide) (he : starEach (e :: es) X.env = (false, eval e X.env) :: starEach es X.env := by rfl) (hpl : (backTo cp (starEach es X.env)).any (·.1) = false := by rfl) : EV X b ρ (.Call (.Name x p1) (e :: es) [] cp) p := fun σ H L Q l hh q =>
  ⟨_, pe_call F hr hg hm hk hb .nil hx (wa_pa _) hdb he hpl, h σ H L _ l hh fun rs ρ' vs H' ⟨hf, hp, h2⟩ l' lv hh' => by
    obtain ⟨G, hG⟩ := hh'.coolAll
    refine ⟨G, rs.map cool, by simp [lv], by rw [List.append_nil]; exact HoldG.sub0 hG (flat_zip hf), hp, fun r hr n v H2 hh2 => ?_⟩
    exact q r ρ' v H2 (h2 r hr).2 l' (hG.dropM.after hh2 n)⟩
theorem ev_call0 {CX : CXT} {k : Nat} {f : Addr} {fd : FuncData} {Pre : List Sl → Prop} {Res : List Sl → Sl → Prop} {x : Str} {p1 cp : Pos} (F : FnOk X.prog X.w X.K X.mg X.base CX k f fd [] (spP X.K Pre Res)) (hr : Room k X.A) (hg : Gl X x) (hm : X.mg x = some (.ref f)) (hk : PySem.W.keepIn X.K (.ref f) = true) (hb : Binds X.K fd [] []) {E : XK} (hx : Passes CX X E)
    (h : Pre [] ∧ ∀ r, Res [] r → (∀ ys, r ≠ .bor ys) ∧ p r ρ) (hdb : (x == ("__debug__" : Str)) = false := by decide) : EV X b ρ (.Call (.Name x p1) [] [] cp) p := fun σ H L Q l hh q =>
  ⟨_, pe_call0 F hr hg hm hk hb .nil hx hdb, by
    obtain ⟨G, hG⟩ := hh
    refine ⟨G, [], rfl, HoldG.sub0 (M := []) (L := σ.zip ρ ++ L) hG (by simp), h.1, fun r hr n v H2 hh2 => ?_⟩
    exact q r ρ v H2 (h.2 r hr).2 l (hG.after hh2 n)⟩
/-- f(x, e, ..): the list that the name at slot i holds alone is changed -/
theorem ev_callL (i : Nat) {CX : CXT} {k : Nat} {f : Addr} {fd : FuncData} {ps : List Str} {Pre : List PyData → List Sl → Prop} {Res : List PyData → List Sl → Sl → List PyData → Prop} {x y : Str} {p1 p2 cp : Pos} (F : FnOk X.prog X.w X.K X.mg X.base CX k f fd ps (spB X.K Pre Res)) (hr : Room k X.A) (hg : Gl X x) (hm : X.mg x = some (.ref f)) (hk : PySem.W.keepIn X.K (.ref f) = true) (hb : Binds X.K fd ps []) {E : XK} (hx : Passes CX X E)
    (hN : X.N[i]? = some y) (hv : Vis X.env.scope y)
    (h : EA X b ρ es fun rs ρ' => (∀ r ∈ rs.map cool, flatS r = true) ∧ ∃ s ys, ρ'[i]? = some s ∧ (s = .own ys ∨ s = .bor ys) ∧ Pre ys (rs.map cool) ∧ ∀ r ys', Res ys (rs.map cool) r ys' → (∀ ys, r ≠ .bor ys) ∧ p r (ρ'.set i (setS s ys')))
    (hs0 : ∃ s ys, ρ[i]? = some s ∧ (s = .own ys ∨ s = .bor ys))
    (hdy : (y == ("__debug__" : Str)) = false := by decide) (hcy : (y == ("__classdict__" : Str)) = false := by decide) (hdb : (x == ("__debug__" : Str)) = false := by decide) (he : starEach (.Name y p2 :: es) X.env = (false, eval (.Name y p2) X.env) :: starEach es X.env := by rfl) (hpl : (backTo cp (starEach es X.env)).any (·.1) = false := by rfl) : EV X b ρ (.Call (.Name x p1) (.Name y p2 :: es) [] cp) p := fun σ H L Q l hh q => by
  obtain ⟨s0, ys0, h0, k0⟩ := hs0
  obtain ⟨x0, hx0, hm0⟩ := zip_mem l h0
  have hv0 : ∃ a, x0 = some (.ref a) := by
    obtain ⟨G, hG⟩ := hh
    have ok := hG.ok _ (List.mem_append_left _ hm0)
    rcases k0 with rfl | rfl
    · obtain ⟨q, _, e, _⟩ := ok; exact ⟨q, e⟩
    · obtain ⟨q, _, e, _⟩ := ok; exact ⟨q, e⟩
  obtain ⟨a, rfl⟩ := hv0
  refine ⟨_, pe_call F hr hg hm hk hb .nil hx (pa_cons (pe_var hN hv hdy hcy) (wa_pa es) he) hdb he hpl, .ref a, hx0, ?_⟩
  refine h σ H L _ l hh fun rs ρ' vs H' ⟨hf, s, ys, hs, ks, hp, h2⟩ l' lv hh' => ?_
  obtain ⟨G, hG⟩ := hh'.coolAll
  obtain ⟨M, q1, q2⟩ := set_perm (s' := setS s ys) hs hx0
  have hG2 : HoldG X.K b G H' ((some (.ref a), s) :: (((vs.map some).zip (rs.map cool)) ++ (M ++ L))) := hG.perm (by
    refine ((perm_in (A := (vs.map some).zip (rs.map cool)) (M := M ++ L)).trans ?_)
    exact List.Perm.append_left _ (q1.symm.append_right L))
  refine ⟨G, a, vs, ys, rs.map cool, by simp, by simp [lv], HoldG.subB hG2 ks (flat_zip hf), hp, fun r ys' hr n v H2 hh2 => ?_⟩
  have hG3 : HoldG X.K b G H' ((some (.ref a), s) :: (M ++ L)) := (hG.dropM (M := (vs.map some).zip (rs.map cool))).perm (q1.symm.append_right L)
  obtain ⟨M', r1, r2⟩ := set_perm (s' := setS s ys') hs hx0
  have hMM : M.Perm M' := (q1.symm.trans r1).cons_inv
  refine q r _ v H2 (h2 r ys' hr).2 (by rw [List.length_set]; exact l') ?_
  have hA := hG3.afterB (ys := ys) (s' := setS s ys') hh2 n (by rcases ks with rfl | rfl <;> simp [setS])
  refine hA.perm (List.Perm.cons _ ?_)
  exact (r2.append_right L).trans (List.Perm.cons _ (hMM.symm.append_right L))
end

end DE

namespace DE
open PySem PySem.Spec PyProof.Rows L2 SZ VR VX StX RT
/-! ### the body of a def -/
section
variable {P : Program} {w : World} {K : PySem.W.Frag} {mg : Str → Option Value} {base : Heap}
theorem zip_start {N : List Str} {vs : List V} {as : List Sl} (l : vs.length = as.length) : (L2.start N vs).zip (as ++ List.replicate (N.length - as.length) .un) = (vs.map some).zip as ++ (List.replicate (N.length - as.length) (none : Option V)).zip (List.replicate (N.length - as.length) .un) := by
  unfold L2.start
  rw [List.zip_append (by simp [l]), l]
theorem hold_start {b : Bs} {H : Hp} {L : List Cl} : ∀ n : Nat, Hold K b H L → Hold K b H (L ++ (List.replicate n (none : Option V)).zip (List.replicate n Sl.un))
  | 0, h => by simpa using h
  | n + 1, h => by
    have h1 := hold_start n h
    rw [List.replicate_succ, List.replicate_succ, List.zip_cons_cons]
    exact h1.un.perm perm_in.symm
/-- where a def's body stands -/
theorem fn_P {x qual : Str} {st : Stmt} {f : Addr} {fd : FuncData} {N ps : List Str} {k : Nat} {Pre : List Sl → Prop} {Res : List Sl → Sl → Prop} (F : Fun K x qual st f fd) (S : FnScope N ps (defScope st)) (len : ∀ as, Pre as → as.length = ps.length) (hN : ps.length ≤ N.length)
    (h : ∀ (cdv : Value) (A : Around) (outer : List Env) (s : Shared) (H : Hp) (E : XK), Room k (A.deeper (envOfC qual (defScope st) s.heap.objs.size f cdv)) → ∀ (b : Bs) (as : List Sl), Pre as → XB (cxOf CX0 P w K mg base N qual (defScope st) f cdv A outer s H E).nox b (as ++ List.replicate (N.length - as.length) .un) (defBody st)
      ⟨fun _ => Res as (.d .none), fun r _ => Res as r ∧ ∀ ys, r ≠ .bor ys, fun _ => False, fun _ => False⟩) : FnOk P w K mg base CX0 (k + 1) f fd ps (spP K Pre Res) := by
  refine F.ok S (fun vs H Q E z => ?_) (fun cdv A outer s H vs Q E hr z => ?_)
  · obtain ⟨G, as, l, _, hp, _⟩ := z
    exact l.trans (len as hp)
  · obtain ⟨G, as, l, hG, hp, q⟩ := z
    obtain ⟨t, ht, hq⟩ := h cdv A outer s H E hr ⟨G, H, []⟩ as hp (L2.start N vs) H [] { nx := fun _ H' => Q .non H', rt := Q } (by unfold L2.start; have := len as hp; simp [l])
      (by rw [List.append_nil, zip_start l]; exact hold_start _ ⟨G, hG⟩)
      ⟨fun ρ' σ' H' hn l' n' hh => q (.d .none) hn (by simp) .non H' (hh.dropL (M := σ'.zip ρ') (L := []) |>.non), fun r ρ' v σ' H' hn l' n' hh => q r hn.1 hn.2 v H' ((hh.perm (L' := σ'.zip ρ' ++ [(some v, r)]) (by rw [List.append_nil]; exact List.perm_append_singleton _ _)).dropL), fun _ _ _ z => z.elim, fun _ _ _ z => z.elim⟩
    exact ⟨t, ht, hq⟩
/-- .. that changes the list in its first place -/
theorem fn_B {x qual : Str} {st : Stmt} {f : Addr} {fd : FuncData} {N ps : List Str} {k : Nat} {Pre : List PyData → List Sl → Prop} {Res : List PyData → List Sl → Sl → List PyData → Prop} (F : Fun K x qual st f fd) (S : FnScope N ps (defScope st)) (len : ∀ ys as, Pre ys as → as.length + 1 = ps.length)
    (h : ∀ (cdv : Value) (A : Around) (outer : List Env) (s : Shared) (H : Hp) (E : XK), Room k (A.deeper (envOfC qual (defScope st) s.heap.objs.size f cdv)) → ∀ (b : Bs) (ys : List PyData) (as : List Sl), Pre ys as → XB (cxOf CX0 P w K mg base N qual (defScope st) f cdv A outer s H E).nox b (.bor ys :: (as ++ List.replicate (N.length - (as.length + 1)) .un)) (defBody st)
      ⟨fun ρ' => ∃ ys', ρ'[0]? = some (.bor ys') ∧ Res ys as (.d .none) ys', fun r ρ' => ∃ ys', ρ'[0]? = some (.bor ys') ∧ Res ys as r ys' ∧ ∀ zs, r ≠ .bor zs, fun _ => False, fun _ => False⟩) : FnOk P w K mg base CX0 (k + 1) f fd ps (spB K Pre Res) := by
  refine F.ok S (fun vs H Q E z => ?_) (fun cdv A outer s H vs Q E hr z => ?_)
  · obtain ⟨G, a, us, ys, as, rfl, l, _, hp, _⟩ := z
    rw [List.length_cons, l]
    exact len ys as hp
  · obtain ⟨G, a, us, ys, as, rfl, l, hG, hp, q⟩ := z
    have one : ∀ {b : Bs} {H' : Hp} {L : List Cl} {x : Option V} {zs : List PyData}, b.B = [a] → Hold K b H' ((x, .bor zs) :: L) → x = some (.ref a) := fun {b H' L x zs} eb hh => by
      obtain ⟨G', hg⟩ := hh
      obtain ⟨q, _, e, hm, _⟩ := hg.ok _ List.mem_cons_self
      rw [eb] at hm
      rw [e, List.mem_singleton.mp hm]
    have get : ∀ {ρ' : List Sl} {σ' : L2.St} {H' : Hp} {zs : List PyData} {M : List Cl}, ρ'[0]? = some (.bor zs) → σ'.length = ρ'.length → Hold K ⟨G, H, [a]⟩ H' (M ++ σ'.zip ρ') → Hold K ⟨G, H, [a]⟩ H' (M ++ [(some (.ref a), .bor zs)]) := fun {ρ' σ' H' zs M} h0 l' hh => by
      cases ρ' with
      | nil => simp at h0
      | cons r ρ' =>
        cases σ' with
        | nil => simp at l'
        | cons y σ' =>
          have h0 : r = .bor zs := by simpa using h0
          subst h0
          have h1 : Hold K ⟨G, H, [a]⟩ H' ((y, .bor zs) :: (M ++ σ'.zip ρ')) := hh.perm perm_in
          have ey := one rfl h1
          subst ey
          refine (h1.perm (L' := σ'.zip ρ' ++ (M ++ [(some (.ref a), .bor zs)])) ?_).dropL
          rw [← List.append_assoc]
          exact (List.perm_append_singleton _ _).trans (List.Perm.cons _ List.perm_append_comm)
    obtain ⟨t, ht, hq⟩ := h cdv A outer s H E hr ⟨G, H, [a]⟩ ys as hp (L2.start N (.ref a :: us)) H [] { nx := fun _ H' => Q .non H', rt := Q } (by unfold L2.start; simp [l])
      (by
        rw [List.append_nil]
        have := zip_start (N := N) (vs := .ref a :: us) (as := .bor ys :: as) (by simp [l])
        rw [List.cons_append] at this
        rw [show (List.length as + 1) = (Sl.bor ys :: as).length from rfl, this]
        exact hold_start _ ⟨G, hG⟩)
      ⟨fun ρ' σ' H' ⟨ys', e0, hn⟩ l' n' hh => q (.d .none) ys' hn (by simp) .non H' (get (M := [(some .non, .d .none)]) e0 l' (by rw [List.append_nil] at hh; exact hh.non)), fun r ρ' v σ' H' ⟨ys', e0, hn, nb⟩ l' n' hh => q r ys' hn nb v H' (get (M := [(some v, r)]) e0 l' (by rw [List.append_nil] at hh; exact hh)), fun _ _ _ z => z.elim, fun _ _ _ z => z.elim⟩
    exact ⟨t, ht, hq⟩
end
/-! ### loops -/
section
variable {X : Cx} {b : Bs} {ρ : List Sl} {p : Po} {e tg : Expr} {body : List Stmt} {pos : Pos}
/-- these are the items at v -/
def itemsL (K : PySem.W.Frag) (xs : List V) (ys : List PyData) : Sl := .fact (fun v G => ∃ a, v = .ref a ∧ SqL K G a xs ∧ DpAll K G xs ys) (fun _ _ _ s ⟨a, e, h1, h2⟩ => ⟨a, e, s.seq h1, DpAll.keep s h2⟩)
def itemsT (K : PySem.W.Frag) (xs : List V) (ys : List PyData) : Sl := .fact (fun v G => ∃ a, v = .ref a ∧ SqT K G a xs ∧ DpAll K G xs ys) (fun _ _ _ s ⟨a, e, h1, h2⟩ => ⟨a, e, s.tup h1, DpAll.keep s h2⟩)
def loopI (p : Po) (I : Nat → List Sl → Prop) (i : Nat) : Po := ⟨I (i + 1), p.rt, p.nx, I (i + 1)⟩
theorem xs_while {c : Expr} (hp : PassesOwn (model X.prog X.w) X.A X.env X.xe) (I : Nat → List Sl → Prop) (m0 : Nat) (h0 : I m0 ρ)
    (h : ∀ m ρ', ρ'.length = ρ.length → I m ρ' → ET X b ρ' c fun t ρ2 => ρ2.length = ρ.length → (t = true → XB X b ρ2 body ⟨fun ρ3 => ∃ m', m' < m ∧ I m' ρ3, p.rt, p.nx, fun ρ3 => ∃ m', m' < m ∧ I m' ρ3⟩) ∧ (t = false → p.nx ρ2)) : XS X b ρ (.While c body [] pos) p := fun σ H L D l hh k =>
  ⟨_, ps_while hp (wt_pt c) (wss_pss body), fun m σ' H' => ∃ ρ', I m ρ' ∧ σ'.length = ρ'.length ∧ ρ'.length = ρ.length ∧ Hold X.K b H' (σ'.zip ρ' ++ L), ⟨m0, ρ, h0, l, rfl, hh⟩, fun m σ' H' ⟨ρ', hi, l', n', hh'⟩ => h m ρ' n' hi σ' H' L _ l' hh' fun t ρ2 H2 h2 l2 hh2 => by
    have n2 := (l2.symm.trans l').trans n'
    obtain ⟨h3, h4⟩ := h2 n2
    cases t with
    | true => exact ⟨fun σ3 H3 => ∃ m', m' < m ∧ ∃ ρ', I m' ρ' ∧ σ3.length = ρ'.length ∧ ρ'.length = ρ.length ∧ Hold X.K b H3 (σ3.zip ρ' ++ L), fun _ _ z => z, h3 rfl σ' H2 L { D with nx := _, ct := _, bk := D.nx } l2 hh2 ⟨fun ρ3 σ3 H3 ⟨m', hm, z⟩ l3 n3 hh3 => ⟨m', hm, ρ3, z, l3, n3.trans n2, hh3⟩, fun r ρ3 v σ3 H3 z l3 n3 hh3 => k.rt r ρ3 v σ3 H3 z l3 (n3.trans n2) hh3, fun ρ3 σ3 H3 z l3 n3 hh3 => k.nx ρ3 σ3 H3 z l3 (n3.trans n2) hh3, fun ρ3 σ3 H3 ⟨m', hm, z⟩ l3 n3 hh3 => ⟨m', hm, ρ3, z, l3, n3.trans n2, hh3⟩⟩⟩
    | false => exact k.nx ρ2 σ' H2 (h4 rfl) l2 n2 hh2⟩
end

end DE

namespace DE
open PySem PySem.Spec PyProof.Rows L2 SZ VR VX StX RT
/-! ### comprehensions -/
def wipeR (ρ : List Sl) : List Nat → List Sl
  | [] => ρ
  | v :: vs => (wipeR ρ vs).set v .un
theorem wipeR_len (ρ : List Sl) : ∀ vs : List Nat, (wipeR ρ vs).length = ρ.length
  | [] => rfl
  | v :: vs => by unfold wipeR; rw [List.length_set, wipeR_len ρ vs]
def AllB (X : Cx) (scope : Scope) (φ : Cx → Prop) : Prop := ∀ (s : Shared) (H : Hp) (C : Addr) (cl : List (Str × Addr)) (fp : List Addr), φ (X.blk s H scope (compEnvC scope cl C X.env) fp)
def WTs (X : Cx) (es : List Expr) (σ : L2.St) (H : Hp) (Q : Bool → Hp → Prop) : Prop := ∃ t, PTs X es t ∧ t σ H Q
theorem wts_pts {X : Cx} (es : List Expr) : PTs X es (WTs X es) := ⟨fun pins s σ H Q I ⟨_, h, q⟩ => h.run pins s σ H Q I q⟩
def ETs (X : Cx) (b : Bs) (ρ : List Sl) (es : List Expr) (p : Bool → List Sl → Prop) : Prop := ∀ σ H L Q, σ.length = ρ.length → Hold X.K b H (σ.zip ρ ++ L) →
  (∀ c ρ' H', p c ρ' → σ.length = ρ'.length → Hold X.K b H' (σ.zip ρ' ++ L) → Q c H') → WTs X es σ H Q
section
variable {X : Cx} {b : Bs} {ρ : List Sl} {e : Expr} {q : Bool → List Sl → Prop}
theorem ets_nil (h : q true ρ) : ETs X b ρ [] q := fun σ H L Q l hh k => ⟨_, pts_nil, k true ρ H h l hh⟩
theorem ets_one (h : ET X b ρ e q) : ETs X b ρ [e] q := fun σ H L Q l hh k => ⟨_, pts_one (wt_pt e), h σ H L _ l hh k⟩
end
section
variable {K : PySem.W.Frag} {b : Bs} {H : Hp} {L : List Cl} {σ : L2.St} {ρ : List Sl}
theorem hold_setun {i : Nat} {x : Option V} (l : σ.length = ρ.length) (h : Hold K b H (σ.zip ρ ++ L)) : Hold K b H ((σ.set i x).zip (ρ.set i .un) ++ L) := by
  by_cases hi : i < ρ.length
  · obtain ⟨c, M, p1, p2⟩ := zip_set (r := .un) (x := x) hi l
    exact ((h.perm (p1.symm.append_right L)).drop.un (x := x)).perm (p2.append_right L)
  · rw [List.set_eq_of_length_le (by omega), List.set_eq_of_length_le (by omega)]
    exact h
theorem hold_wipe (l : σ.length = ρ.length) (h : Hold K b H (σ.zip ρ ++ L)) : ∀ vs : List Nat, Hold K b H ((L2.wipe σ vs).zip (wipeR ρ vs) ++ L)
  | [] => h
  | v :: vs => by
    unfold L2.wipe wipeR
    exact hold_setun (by rw [wipe_length, wipeR_len]; exact l) (hold_wipe l h vs)
theorem hold_unwipe {ρ : List Sl} (l : σ.length = ρ.length) : ∀ (vs : List Nat), (∀ v ∈ vs, ρ[v]? = some .un) → Hold K b H ((L2.wipe σ vs).zip ρ ++ L) → Hold K b H (σ.zip ρ ++ L)
  | [], _, h => h
  | v :: vs, hu, h => by
    unfold L2.wipe at h
    refine hold_unwipe l vs (fun u hu' => hu u (List.mem_cons_of_mem _ hu')) ?_
    have hv := hu v List.mem_cons_self
    have hi : v < ρ.length := (List.getElem?_eq_some_iff.mp hv).1
    have hs : (L2.wipe σ vs)[v]? = some ((L2.wipe σ vs)[v]'(by rw [wipe_length, l]; exact hi)) := List.getElem?_eq_getElem _
    have h2 := hold_setun (i := v) (x := (L2.wipe σ vs)[v]'(by rw [wipe_length, l]; exact hi)) (by rw [List.length_set, wipe_length]; exact l) h
    rw [List.set_set, List.set_getElem_self] at h2
    have e2 : ρ.set v .un = ρ := by
      refine List.ext_getElem? fun j => ?_
      by_cases e : v = j
      · subst e; rw [List.getElem?_set_self hi]; exact hv.symm
      · rw [List.getElem?_set_ne e]
    rw [e2] at h2
    exact h2
theorem wipeR_un {ρ : List Sl} : ∀ {vs : List Nat}, (∀ v ∈ vs, ρ[v]? = some .un) → wipeR ρ vs = ρ
  | [], _ => rfl
  | v :: vs, h => by
    unfold wipeR
    rw [wipeR_un fun u hu => h u (List.mem_cons_of_mem _ hu)]
    have hv := h v List.mem_cons_self
    have hi : v < ρ.length := (List.getElem?_eq_some_iff.mp hv).1
    refine List.ext_getElem? fun j => ?_
    by_cases e : v = j
    · subst e; rw [List.getElem?_set_self hi]; exact hv.symm
    · rw [List.getElem?_set_ne e]
theorem wipe_at {σ : L2.St} {u : Nat} : ∀ ws : List Nat, u ∈ ws → u < σ.length → (L2.wipe σ ws)[u]? = some none
  | t :: ws, h, hl => by
    show ((L2.wipe σ ws).set t none)[u]? = some none
    by_cases e : t = u
    · subst e; rw [List.getElem?_set_self (by rw [wipe_length]; exact hl)]
    · rw [List.getElem?_set_ne e]
      exact wipe_at ws (by rcases List.mem_cons.mp h with h | h; exact absurd h.symm e; exact h) hl
theorem wipe_sub {σ : L2.St} : ∀ us ws : List Nat, (∀ u ∈ us, u ∈ ws) → L2.wipe (L2.wipe σ ws) us = L2.wipe σ ws
  | [], _, _ => rfl
  | u :: us, ws, hs => by
    show (L2.wipe (L2.wipe σ ws) us).set u none = L2.wipe σ ws
    rw [wipe_sub us ws fun v hv => hs v (List.mem_cons_of_mem _ hv)]
    by_cases hl : u < (L2.wipe σ ws).length
    · refine List.ext_getElem? fun j => ?_
      by_cases e : u = j
      · subst e
        rw [List.getElem?_set_self hl]
        exact (wipe_at ws (hs u List.mem_cons_self) (by rw [wipe_length] at hl; exact hl)).symm
      · rw [List.getElem?_set_ne e]
    · rw [List.set_eq_of_length_le (by omega)]
theorem HoldG.app {G : Hp} {D : Addr} {acc : List PyData} {v : V} {z : PyData} (h : HoldG K b G H ((some v, .d z) :: (some (.ref D), .own acc) :: L)) : ∃ us, H D = some (.lst us) ∧ us.length = acc.length ∧ HoldG K b G (upd H D (.lst (us ++ [v]))) ((some (.ref D), .own (acc ++ [z])) :: L) := by
  obtain ⟨q, us, e, _, _, h3, h4⟩ := h.ok _ (List.mem_cons_of_mem _ List.mem_cons_self)
  cases e
  exact ⟨us, h3, DpAll.len h4, h.drop.put (.inl ⟨rfl, rfl⟩) (DpAll.app h4 (.cons h.seq .nil))⟩
end
section
variable {X : Cx} {b : Bs} {ρ : List Sl} {iter tg elt : Expr} {ifs : List Expr} {p : Sl → List Sl → Prop}
/-- one turn of a comprehension -/
def LcTurn (X : Cx) (b : Bs) (scope : Scope) (tg elt : Expr) (ifs : List Expr) (vs : List Nat) (y : PyData) (ρ' : List Sl) (acc : List PyData) (J : List PyData → List Sl → Prop) : Prop :=
  ∃ p1 : List Sl → Prop, AllB X scope (fun Y => EG Y b vs ρ' tg (.d y) p1) ∧ ∀ ρ2, p1 ρ2 → ∃ p2 : Bool → List Sl → Prop, AllB X scope (fun Y => ETs Y b ρ2 ifs p2) ∧ ∀ c ρ3, p2 c ρ3 →
    (c = false → J acc (wipeR ρ3 vs)) ∧ (c = true → acc.length < sizeLine ∧ AllB X scope fun Y => EV Y b ρ3 elt fun r ρ4 => ∃ z, cool r = .d z ∧ J (acc ++ [z]) (wipeR ρ4 vs))
theorem lc_go {scope : Scope} {vs : List Nat} {y : PyData} {x : V} {ρ' : List Sl} {acc : List PyData} {J : List PyData → List Sl → Prop} {σ : L2.St} {H : Hp} {D : Addr} {M : List Cl} {Nx : Hp → Prop} (ht : LcTurn X b scope tg elt ifs vs y ρ' acc J) (l : σ.length = ρ'.length)
    (hh : Hold X.K b H ((some x, .d y) :: ((L2.wipe σ vs).zip ρ' ++ (some (.ref D), .own acc) :: M)))
    (k : ∀ acc' ρ4 H', J acc' ρ4 → ρ4.length = ρ'.length → Hold X.K b H' ((L2.wipe σ vs).zip ρ4 ++ (some (.ref D), .own acc') :: M) → Nx H') :
    (fun v σ H Q => ∀ (s : Shared) (H0 : Hp) (C : Addr) (cl : List (Str × Addr)) (fp : List Addr), WG (X.blk s H0 scope (compEnvC scope cl C X.env) fp) tg v σ H Q) x (L2.wipe σ vs) H fun σ2 H2 => L2.wipe σ2 vs = L2.wipe σ vs ∧
      (fun σ H Q => ∀ (s : Shared) (H0 : Hp) (C : Addr) (cl : List (Str × Addr)) (fp : List Addr), WTs (X.blk s H0 scope (compEnvC scope cl C X.env) fp) ifs σ H Q) σ2 H2 fun c H3 =>
        if c = true then (fun σ H Q => ∀ (s : Shared) (H0 : Hp) (C : Addr) (cl : List (Str × Addr)) (fp : List Addr), WE (X.blk s H0 scope (compEnvC scope cl C X.env) fp) elt σ H Q) σ2 H3 fun y H4 => ∃ acc, H4 D = some (.lst acc) ∧ acc.length < sizeLine ∧ Nx (upd H4 D (.lst (acc ++ [y]))) else Nx H3 := by
  obtain ⟨p1, g1, t1⟩ := ht
  have lw : (L2.wipe σ vs).length = ρ'.length := by rw [wipe_length]; exact l
  intro s H0 C cl fp
  refine g1 s H0 C cl fp (L2.wipe σ vs) H _ x _ lw hh fun ρ2 σ2 H2 h2 l2 n2 w2 hh2 => ⟨?_, ?_⟩
  · rw [w2]
    exact wipe_sub vs vs fun _ h => h
  · have w2' : L2.wipe σ2 vs = L2.wipe σ vs := by
      rw [w2]
      exact wipe_sub vs vs fun _ h => h
    obtain ⟨p2, q2, t2⟩ := t1 ρ2 h2
    intro s H0 C cl fp
    refine q2 s H0 C cl fp σ2 H2 _ _ l2 hh2 fun c ρ3 H3 h3 l3 hh3 => ?_
    obtain ⟨tf, tt⟩ := t2 c ρ3 h3
    have n3 : ρ3.length = ρ'.length := l3.symm.trans (l2.trans n2)
    cases c with
    | false =>
      rw [if_neg Bool.false_ne_true]
      refine k acc _ H3 (tf rfl) (by rw [wipeR_len]; exact n3) ?_
      have := hold_wipe l3 hh3 vs
      rw [w2'] at this
      exact this
    | true =>
      rw [if_pos rfl]
      obtain ⟨hz, t3⟩ := tt rfl
      intro s H0 C cl fp
      refine t3 s H0 C cl fp σ2 H3 _ _ l3 hh3 fun r ρ4 v H4 ⟨z, er, hJ⟩ l4 hh4 => ?_
      have h5 := hh4.cool
      rw [er] at h5
      have n4 : ρ4.length = ρ'.length := l4.symm.trans (l3.trans n3)
      obtain ⟨G, hG⟩ := h5
      obtain ⟨us, e1, e2, hA⟩ := HoldG.app (hG.perm (L' := (some v, .d z) :: (some (.ref D), .own acc) :: (σ2.zip ρ4 ++ M)) (List.Perm.cons _ perm_in))
      refine ⟨us, e1, by rw [e2]; exact hz, k _ _ _ hJ (by rw [wipeR_len]; exact n4) ?_⟩
      have h6 : Hold X.K b (upd H4 D (.lst (us ++ [v]))) (σ2.zip ρ4 ++ (some (.ref D), .own (acc ++ [z])) :: M) := ⟨G, hA.perm perm_in.symm⟩
      have := hold_wipe l4 h6 vs
      rw [w2'] at this
      exact this
def lcG (X : Cx) (scope : Scope) (tg : Expr) : TG := fun v σ H Q => ∀ (s : Shared) (H0 : Hp) (C : Addr) (cl : List (Str × Addr)) (fp : List Addr), WG (X.blk s H0 scope (compEnvC scope cl C X.env) fp) tg v σ H Q
def lcT (X : Cx) (scope : Scope) (ifs : List Expr) : TT := fun σ H Q => ∀ (s : Shared) (H0 : Hp) (C : Addr) (cl : List (Str × Addr)) (fp : List Addr), WTs (X.blk s H0 scope (compEnvC scope cl C X.env) fp) ifs σ H Q
def lcE (X : Cx) (scope : Scope) (elt : Expr) : TE := fun σ H Q => ∀ (s : Shared) (H0 : Hp) (C : Addr) (cl : List (Str × Addr)) (fp : List Addr), WE (X.blk s H0 scope (compEnvC scope cl C X.env) fp) elt σ H Q
end

end DE

namespace DE
open PySem PySem.Spec PyProof.Rows L2 SZ VR VX StX RT
/-! ### what a for and a comprehension walk over -/
def EI (X : Cx) (b : Bs) (ρ : List Sl) (tg iter : Expr) (p : List PyData → List Sl → Prop) : Prop := ∃ wi, PI X tg iter wi ∧ ∀ σ H L R, σ.length = ρ.length → Hold X.K b H (σ.zip ρ ++ L) →
  (∀ (ys : List PyData) (ρ' : List Sl) (H' : Hp) (J : It) (G : Hp → Prop) (Y : Nat → Hp → V → Hp → Prop) (c : Cl), p ys ρ' → σ.length = ρ'.length → Walk J ys.length G Y → Hold X.K b H' (σ.zip ρ' ++ c :: L) → (∀ H2 L2, Hold X.K b H2 (c :: L2) → G H2) →
    (∀ i x H1 H2 L2, i < ys.length → Y i H1 x H2 → Hold X.K b H1 (c :: L2) → ∃ y, ys[i]? = some y ∧ Hold X.K b H2 ((some x, .d y) :: c :: L2)) → R J H') → wi σ H R
section
variable {X : Cx} {b : Bs} {ρ : List Sl} {tg e : Expr} {es : List Expr} {p : List PyData → List Sl → Prop}
theorem wlen {J : It} {n m : Nat} {G : Hp → Prop} {Y : Nat → Hp → V → Hp → Prop} (h : m = n) (w : Walk J n G Y) : Walk J m G Y := h ▸ w
theorem Hold.itemsL {H : Hp} {a : Addr} {xs : List V} {ys : List PyData} {L : List Cl} {K : PySem.W.Frag} (h : Hold K b H ((some (.ref a), DE.itemsL K xs ys) :: L)) : SqL K H a xs := by
  obtain ⟨G, hG⟩ := h
  obtain ⟨v, e, a', e', h1, _⟩ := hG.ok _ List.mem_cons_self
  cases e
  cases e'
  exact hG.up.seq h1
theorem Hold.itemsL_at {H : Hp} {a : Addr} {xs : List V} {ys : List PyData} {L : List Cl} {K : PySem.W.Frag} {i : Nat} {x : V} (h : Hold K b H ((some (.ref a), DE.itemsL K xs ys) :: L)) (hx : xs[i]? = some x) : ∃ y, ys[i]? = some y ∧ Hold K b H ((some x, .d y) :: (some (.ref a), DE.itemsL K xs ys) :: L) := by
  obtain ⟨G, hG⟩ := h
  obtain ⟨v, e, a', e', _, h2⟩ := hG.ok _ List.mem_cons_self
  cases e
  cases e'
  obtain ⟨y, hy, hd⟩ := DpAll.at h2 hx
  exact ⟨y, hy, G, hG.add hd⟩
theorem Hold.itemsT {H : Hp} {a : Addr} {xs : List V} {ys : List PyData} {L : List Cl} {K : PySem.W.Frag} (h : Hold K b H ((some (.ref a), DE.itemsT K xs ys) :: L)) : SqT K H a xs := by
  obtain ⟨G, hG⟩ := h
  obtain ⟨v, e, a', e', h1, _⟩ := hG.ok _ List.mem_cons_self
  cases e
  cases e'
  exact hG.up.tup h1
theorem Hold.itemsT_at {H : Hp} {a : Addr} {xs : List V} {ys : List PyData} {L : List Cl} {K : PySem.W.Frag} {i : Nat} {x : V} (h : Hold K b H ((some (.ref a), DE.itemsT K xs ys) :: L)) (hx : xs[i]? = some x) : ∃ y, ys[i]? = some y ∧ Hold K b H ((some x, .d y) :: (some (.ref a), DE.itemsT K xs ys) :: L) := by
  obtain ⟨G, hG⟩ := h
  obtain ⟨v, e, a', e', _, h2⟩ := hG.ok _ List.mem_cons_self
  cases e
  cases e'
  obtain ⟨y, hy, hd⟩ := DpAll.at h2 hx
  exact ⟨y, hy, G, hG.add hd⟩
theorem Hold.toL {K : PySem.W.Frag} {H : Hp} {v : V} {r : Sl} {ys : List PyData} {L : List Cl} (h : Hold K b H ((some v, r) :: L)) (er : DE.cool r = .d (.list ys)) : ∃ a xs, v = .ref a ∧ xs.length = ys.length ∧ Hold K b H ((some (.ref a), DE.itemsL K xs ys) :: L) := by
  have h2 := h.cool
  rw [er] at h2
  obtain ⟨G, hG⟩ := h2
  cases hG.seq with
  | @lst a xs _ s1 s2 => exact ⟨a, xs, rfl, DpAll.len s2, G, hG.drop.addF ⟨a, rfl, s1, s2⟩⟩
theorem Hold.toT {K : PySem.W.Frag} {H : Hp} {v : V} {ys : List PyData} {L : List Cl} (h : Hold K b H ((some v, .d (.tuple ys)) :: L)) : ∃ a xs, v = .ref a ∧ xs.length = ys.length ∧ Hold K b H ((some (.ref a), DE.itemsT K xs ys) :: L) := by
  obtain ⟨G, hG⟩ := h
  cases hG.seq with
  | @tup a xs _ s1 s2 => exact ⟨a, xs, rfl, DpAll.len s2, G, hG.drop.addF ⟨a, rfl, s1, s2⟩⟩
theorem ei_list (h : EV X b ρ e fun r ρ' => ∃ ys, cool r = .d (.list ys) ∧ p ys ρ') : EI X b ρ tg e p := ⟨_, pi_list (we_pe e), fun σ H L R l hh k => h σ H L _ l hh fun r ρ' v H' ⟨ys, er, hp⟩ l' hh' => by
  obtain ⟨a, xs, rfl, lx, h2⟩ := hh'.toL er
  refine ⟨a, rfl, ⟨xs, h2.itemsL⟩, k ys ρ' H' _ _ _ (some (.ref a), itemsL X.K xs ys) hp l' (wlen lx.symm walk_list) (h2.perm perm_in.symm) (fun H2 L2 z => z.itemsL) fun i x H1 H2 L2 hi ⟨e1, e2⟩ z => ?_⟩
  subst e1
  exact z.itemsL_at e2⟩
theorem ei_tup (h : EV X b ρ e fun r ρ' => ∃ ys, r = .d (.tuple ys) ∧ p ys ρ') : EI X b ρ tg e p := ⟨_, pi_tup (we_pe e), fun σ H L R l hh k => h σ H L _ l hh fun r ρ' v H' ⟨ys, er, hp⟩ l' hh' => by
  subst er
  obtain ⟨a, xs, rfl, lx, h2⟩ := hh'.toT
  refine ⟨a, rfl, ⟨xs, h2.itemsT⟩, k ys ρ' H' _ _ _ (some (.ref a), itemsT X.K xs ys) hp l' (wlen lx.symm walk_tup) (h2.perm perm_in.symm) (fun H2 L2 z => z.itemsT) fun i x H1 H2 L2 hi ⟨e1, e2⟩ z => ?_⟩
  subst e1
  exact z.itemsT_at e2⟩
def rngD (lo : Int) (n : Nat) : List PyData := (List.range n).map fun i : Nat => .int (lo + (i : Int))
theorem rngD_len (lo : Int) (n : Nat) : (rngD lo n).length = n := by unfold rngD; simp
theorem rngD_at {lo : Int} {n i : Nat} (h : i < n) : (rngD lo n)[i]? = some (.int (lo + (i : Int))) := by unfold rngD; simp [h]
theorem ei_range {a : Expr} {p1 p2 : Pos} (hg : Gl X "range") (hm : X.mg "range" = none) (h : EV X b ρ a fun r ρ' => ∃ n : Int, r = .d (.int n) ∧ -(2 ^ 62) ≤ n ∧ n < 2 ^ 62 ∧ p (rngD 0 n.toNat) ρ') (hs : starEach [a] X.env = [(false, eval a X.env)] := by rfl) : EI X b ρ tg (.Call (.Name "range" p1) [a] [] p2) p :=
  ⟨_, pi_range1 hg hm (pa_cons (we_pe a) pa_nil hs) hs, fun σ H L R l hh k => h σ H L _ l hh fun r ρ' v H' ⟨n, er, b1, b2, hp⟩ l' hh' => by
    subst er
    have ev := hh'.isI
    subst ev
    refine ⟨n, rfl, b1, b2, k _ ρ' H' _ _ _ (none, .un) hp l' (wlen (rngD_len 0 n.toNat) (walk_range (lo := 0))) (hh'.drop.un.perm perm_in.symm) (fun _ _ _ => trivial) fun i x H1 H2 L2 hi ⟨e1, e2⟩ hz => ?_⟩
    subst e1 e2
    rw [rngD_len] at hi
    exact ⟨_, rngD_at hi, hz.int _⟩⟩
/-! ### for and comprehensions -/
theorem xs_for {p : Po} {iter : Expr} {body : List Stmt} {pos : Pos} {ts : List Nat} (hp : PassesOwn (model X.prog X.w) X.A X.env X.xe) (hc : X.calm = true) (hst : ∀ x, foldedSetIterable iter X.env x = pure x := by intro _; rfl)
    (h : EI X b ρ tg iter fun ys ρ1 => ρ1.length = ρ.length → ∃ I : Nat → List Sl → Prop, I 0 ρ1 ∧ (∀ i y ρ', ys[i]? = some y → ρ'.length = ρ.length → I i ρ' → EG X b ts ρ' tg (.d y) fun ρ2 => ρ2.length = ρ.length → XB X b ρ2 body (loopI p I i)) ∧ ∀ ρ', I ys.length ρ' → p.nx ρ') : XS X b ρ (.For tg iter body [] pos) p := fun σ H L D l hh k => by
  obtain ⟨wi, hi, h⟩ := h
  refine ⟨_, ps_for hp hc hi (wg_pg tg) (wss_pss body) hst, h σ H L _ l hh fun ys ρ1 H1 J G Y c h1 l1 W hh1 hG hY => ?_⟩
  have n1 := l1.symm.trans l
  obtain ⟨I, i0, hs, hd⟩ := h1 n1
  refine for_it W (fun i σ' H' => ∃ ρ', I i ρ' ∧ σ'.length = ρ'.length ∧ ρ'.length = ρ.length ∧ Hold X.K b H' (σ'.zip ρ' ++ c :: L)) ⟨ρ1, i0, l1, n1, hh1⟩ (fun i σ' H' _ ⟨ρ', _, _, _, hh'⟩ => hG H' _ (hh'.perm perm_in)) (fun i x σ' H1' H2' hi ⟨ρ', hI, l', n', hh'⟩ hy => ?_) (fun σ' H' ⟨ρ', hI, l', n', hh'⟩ => k.nx ρ' σ' H' (hd ρ' hI) l' n' ((hh'.perm perm_in).drop))
  obtain ⟨y, ey, hz⟩ := hY i x H1' H2' _ hi hy (hh'.perm perm_in)
  refine hs i y ρ' ey n' hI σ' H2' (c :: L) x _ l' (hz.perm (List.Perm.cons _ perm_in.symm)) fun ρ2 σ2 H2 h3 l2 n2 _ hh2 => ?_
  exact h3 (n2.trans n') σ2 H2 _ { D with nx := _, ct := _, bk := D.nx } l2 hh2 ⟨fun ρ3 σ3 H3 z l3 n3 hh3 => ⟨ρ3, z, l3, n3.trans (n2.trans n'), hh3⟩, fun r ρ3 v σ3 H3 z l3 n3 hh3 => k.rt r ρ3 v σ3 H3 z l3 (n3.trans (n2.trans n')) ((hh3.perm (L' := c :: ((some v, r) :: (σ3.zip ρ3 ++ L))) ((List.Perm.swap ..).trans (List.Perm.cons _ perm_in))).drop),
          fun ρ3 σ3 H3 z l3 n3 hh3 => k.nx ρ3 σ3 H3 z l3 (n3.trans (n2.trans n')) ((hh3.perm perm_in).drop), fun ρ3 σ3 H3 z l3 n3 hh3 => ⟨ρ3, z, l3, n3.trans (n2.trans n'), hh3⟩⟩
theorem lc_all {p : Sl → List Sl → Prop} {iter elt : Expr} {ifs : List Expr} {scope : Scope} {own : List (Str × Nat)} 
    (h : EI X b ρ tg iter fun ys ρ1 => ρ1.length = ρ.length → ∃ I : Nat → List PyData → List Sl → Prop, I 0 [] ρ1 ∧ (∀ i acc ρ', I i acc ρ' → ∀ v ∈ own.map (·.2), ρ'[v]? = some .un) ∧
      (∀ i y acc ρ', ys[i]? = some y → ρ'.length = ρ.length → I i acc ρ' → LcTurn X b scope tg elt ifs (own.map (·.2)) y ρ' acc (I (i + 1))) ∧ ∀ acc ρ', I ys.length acc ρ' → p (.own acc) ρ') :
    ∃ wi, PI X tg iter wi ∧ ∀ σ H L Q, σ.length = ρ.length → Hold X.K b H (σ.zip ρ ++ L) → (∀ r ρ' v H', p r ρ' → σ.length = ρ'.length → Hold X.K b H' ((some v, r) :: (σ.zip ρ' ++ L)) → Q v H') → tLc wi (lcG X scope tg) (lcT X scope ifs) (lcE X scope elt) (own.map (·.2)) σ H Q := by
  obtain ⟨wi, hi, h⟩ := h
  refine ⟨wi, hi, fun σ H L Q l hh k => h σ H L _ l hh fun ys ρ1 H1 J G Y c h1 l1 W hh1 hG hY D hD => ?_⟩
  have n1 := l1.symm.trans l
  obtain ⟨I, i0, hun, hst, hd⟩ := h1 n1
  refine lc_it W (fun i H' => ∃ acc ρ', I i acc ρ' ∧ ρ'.length = ρ.length ∧ Hold X.K b H' ((L2.wipe σ (own.map (·.2))).zip ρ' ++ (some (.ref D), .own acc) :: c :: L))
    ⟨[], ρ1, i0, n1, ?_⟩ (fun i H' _ ⟨acc, ρ', _, _, hh'⟩ => hG H' ((L2.wipe σ (own.map (·.2))).zip ρ' ++ (some (.ref D), .own acc) :: L) (hh'.perm ?_)) (fun i x H1' H2' hi ⟨acc, ρ', hI, n', hh'⟩ hy => ?_) (fun H' ⟨acc, ρ', hI, n', hh'⟩ => ?_)
  · obtain ⟨G', h3⟩ := hh1
    have h4 : Hold X.K b (upd H1 D (.lst [])) (σ.zip ρ1 ++ (some (.ref D), .own []) :: c :: L) := ⟨G', (h3.newL hD .nil).perm perm_in.symm⟩
    have h5 := hold_wipe l1 h4 (own.map (·.2))
    rw [wipeR_un (hun 0 [] ρ1 i0)] at h5
    exact h5
  · exact perm_in.trans (List.Perm.append_left _ (List.Perm.swap ..))
  · obtain ⟨y, ey, hz⟩ := hY i x H1' H2' ((L2.wipe σ (own.map (·.2))).zip ρ' ++ (some (.ref D), .own acc) :: L) hi hy (hh'.perm (perm_in.trans (List.Perm.append_left _ (List.Perm.swap ..))))
    exact lc_go (M := c :: L) (hst i y acc ρ' ey n' hI) (l1.trans (n1.trans n'.symm)) (hz.perm (List.Perm.cons _ (perm_in.trans (List.Perm.append_left _ (List.Perm.swap ..))).symm)) fun acc' ρ4 H4 hJ n4 hh4 => ⟨acc', ρ4, hJ, n4.trans n', hh4⟩
  · have h2 := hold_unwipe (l1.trans (n1.trans n'.symm)) _ (hun _ _ _ hI) hh'
    exact k _ ρ' _ H' (hd acc ρ' hI) (l1.trans (n1.trans n'.symm)) ((h2.perm (L' := c :: (some (.ref D), .own acc) :: (σ.zip ρ' ++ L)) ((List.Perm.swap ..).trans ((List.Perm.cons _ perm_in).trans perm_in))).drop)
theorem ev_lc {p : Sl → List Sl → Prop} {iter elt : Expr} {ifs : List Expr} {scope : Scope} (own : List (Str × Nat)) {pos : Pos} (hc : X.calm = true) (hN : X.N.Nodup) (ok : BlkOk X.N X.env.scope scope own)
    (h : EI X b ρ tg iter fun ys ρ1 => ρ1.length = ρ.length → ∃ I : Nat → List PyData → List Sl → Prop, I 0 [] ρ1 ∧ (∀ i acc ρ', I i acc ρ' → ∀ v ∈ own.map (·.2), ρ'[v]? = some .un) ∧
      (∀ i y acc ρ', ys[i]? = some y → ρ'.length = ρ.length → I i acc ρ' → LcTurn X b scope tg elt ifs (own.map (·.2)) y ρ' acc (I (i + 1))) ∧ ∀ acc ρ', I ys.length acc ρ' → p (.own acc) ρ')
    (hs : ∀ x, foldedSetIterable iter X.env x = pure x := by intro _; rfl) : EV X b ρ (.ListComp elt [⟨tg, iter, ifs, 0⟩] scope pos) p := fun σ H L Q l hh k => by
  obtain ⟨wi, hi, g⟩ := lc_all h
  exact ⟨_, pe_lc (g := lcG X scope tg) (tt := lcT X scope ifs) (te := lcE X scope elt) hc hN hi ok (fun s H C cl fp => ⟨fun pins s' σ H' v u Q I r q => (wg_pg tg).run pins s' σ H' v u Q I r (q s H C cl fp)⟩) (fun s H C cl fp => ⟨fun pins s' σ H' Q I q => (wts_pts ifs).run pins s' σ H' Q I (q s H C cl fp)⟩) (fun s H C cl fp => ⟨fun pins s' σ H' Q I q => (we_pe elt).run pins s' σ H' Q I (q s H C cl fp)⟩) hs, g σ H L Q l hh k⟩
/-- name = [..] in one row -/
theorem xs_setLc {p : Po} (i : Nat) {y : Str} {py spos : Pos} {iter elt : Expr} {ifs : List Expr} {scope : Scope} (own : List (Str × Nat)) {pos : Pos} (hc : X.calm = true) (hN : X.N.Nodup) (hy : X.N[i]? = some y) (hl : i < ρ.length) (hyl : X.env.scope.names.lookup y = some .local)
    (hsw : swapsWith (.ListComp elt [⟨tg, iter, ifs, 0⟩] scope pos) (some (.Name y py)) spos.line X.env = pure true) (ok : BlkOk X.N X.env.scope scope own)
    (h : EI X b ρ tg iter fun ys ρ1 => ρ1.length = ρ.length → ∃ I : Nat → List PyData → List Sl → Prop, I 0 [] ρ1 ∧ (∀ i acc ρ', I i acc ρ' → ∀ v ∈ own.map (·.2), ρ'[v]? = some .un) ∧
      (∀ i y acc ρ', ys[i]? = some y → ρ'.length = ρ.length → I i acc ρ' → LcTurn X b scope tg elt ifs (own.map (·.2)) y ρ' acc (I (i + 1))) ∧ ∀ acc ρ', I ys.length acc ρ' → ρ'.length = ρ.length → p.nx (ρ'.set i (.own acc)))
    (hs : ∀ x, foldedSetIterable iter X.env x = pure x := by intro _; rfl) : XS X b ρ (.Assign [.Name y py] (.ListComp elt [⟨tg, iter, ifs, 0⟩] scope pos) spos) p := fun σ H L D l hh k => by
  obtain ⟨wi, hi, g⟩ := lc_all (p := fun r ρ' => ρ'.length = ρ.length → p.nx (ρ'.set i r)) h
  refine ⟨_, ps_setLc (g := lcG X scope tg) (tt := lcT X scope ifs) (te := lcE X scope elt) hc hN hy hyl hsw hi ok (fun s H C cl fp => ⟨fun pins s' σ H' v u Q I r q => (wg_pg tg).run pins s' σ H' v u Q I r (q s H C cl fp)⟩) (fun s H C cl fp => ⟨fun pins s' σ H' Q I q => (wts_pts ifs).run pins s' σ H' Q I (q s H C cl fp)⟩) (fun s H C cl fp => ⟨fun pins s' σ H' Q I q => (we_pe elt).run pins s' σ H' Q I (q s H C cl fp)⟩) hs, ?_⟩
  refine g σ H L _ l hh fun r ρ' v H' h1 l' hh' => ?_
  have n' := l'.symm.trans l
  obtain ⟨c, M, p1, p2⟩ := zip_set (r := r) (x := some v) (by rw [n']; exact hl) l'
  refine k.nx _ _ H' (h1 n') (by simp [l']) (by simp [n']) ?_
  have h2 : Hold X.K b H' (c :: ((some v, r) :: (M ++ L))) := hh'.perm ((List.Perm.swap ..).trans (List.Perm.cons _ (p1.symm.append_right L)))
  exact h2.drop.perm (p2.append_right L)
end

end DE

namespace DE
open PySem PySem.Spec PyProof.Rows L2 SZ VR VX StX RT
section
variable {X : Cx} {b : Bs} {ρ : List Sl} {p : Sl → List Sl → Prop} {e e1 e2 : Expr} {pos : Pos}
/-! ### x.append(e), x.extend(e): the list that the name at slot i holds alone -/
theorem slot_ref {i : Nat} {s : Sl} {ys : List PyData} {σ : L2.St} {H : Hp} {L : List Cl} (l : σ.length = ρ.length) (hr : ρ[i]? = some s) (hs : s = .own ys ∨ s = .bor ys) (hh : Hold X.K b H (σ.zip ρ ++ L)) : ∃ a, σ[i]? = some (some (.ref a)) := by
  obtain ⟨x, hx, hm⟩ := zip_mem l hr
  obtain ⟨G, hG⟩ := hh
  have ok := hG.ok _ (List.mem_append_left _ hm)
  rcases hs with rfl | rfl
  · obtain ⟨q, _, e, _⟩ := ok; subst e; exact ⟨q, hx⟩
  · obtain ⟨q, _, e, _⟩ := ok; subst e; exact ⟨q, hx⟩
theorem cell_lst {K : PySem.W.Frag} {G H : Hp} {a : Addr} {s : Sl} {ys : List PyData} {L : List Cl} (h : HoldG K b G H ((some (.ref a), s) :: L)) (hs : s = .own ys ∨ s = .bor ys) : ∃ us, H a = some (.lst us) ∧ us.length = ys.length ∧ DpAll K G us ys := by
  have ok := h.ok _ List.mem_cons_self
  rcases hs with rfl | rfl
  · obtain ⟨q, us, e, _, _, h3, h4⟩ := ok; cases e; exact ⟨us, h3, DpAll.len h4, h4⟩
  · obtain ⟨q, us, e, _, _, h3, h4⟩ := ok; cases e; exact ⟨us, h3, DpAll.len h4, h4⟩
theorem xs_append (i : Nat) {p : Po} {x : Str} {p1 p2 p3 p4 : Pos} (hN : X.N[i]? = some x) (hv : Vis X.env.scope x)
    (h : EV X b ρ e fun r ρ' => ρ'.length = ρ.length → ∃ s ys z, cool r = .d z ∧ ρ'[i]? = some s ∧ (s = .own ys ∨ s = .bor ys) ∧ ys.length < sizeLine ∧ p.nx (ρ'.set i (setS s (ys ++ [z])))) (h0 : ∃ s ys, ρ[i]? = some s ∧ (s = .own ys ∨ s = .bor ys))
    (hd : (x == ("__debug__" : Str)) = false := by decide) (hcd : (x == ("__classdict__" : Str)) = false := by decide)
    (hbase : attributeBase (.Name x p1) "append" X.env (eval (.Name x p1) X.env) = eval (.Name x p1) X.env := by rfl)
    (hfew : ((backTo p3 (starEach [e] X.env)).all (fun x => !x.1) && (backToKw p3 (keywordEach [] X.env)).all (fun x => x.1.isSome) && decide (([e] : List Expr).length + ([] : List Keyword).length + (if ([] : List Keyword).isEmpty then 0 else 1) < 30)) = true := by rfl)
    (hline : (p2.endLine == p3.line) = true := by rfl) (hse : starEach [e] X.env = (false, eval e X.env) :: starEach [] X.env := by rfl) (hpl : (backTo p3 (starEach [] X.env)).any (·.1) = false := by rfl)
    (hsw : swapsWith (.Call (.Attribute (.Name x p1) "append" p2) [e] [] p3) none p4.line X.env = pure false := by rfl) : XS X b ρ (.Expr (.Call (.Attribute (.Name x p1) "append" p2) [e] [] p3) p4) p := fun σ H L D l hh k => by
  obtain ⟨s0, ys0, h0r, h0s⟩ := h0
  obtain ⟨a, ha⟩ := slot_ref l h0r h0s hh
  refine ⟨_, ps_expr (pe_bm PySem.F.plainAttrs_list PySem.F.slot_list_append PySem.F.type_list_append mt_append (pe_var hN hv hd hcd) (pa_cons (we_pe e) pa_nil hse) hbase hfew hline hse hpl) hsw, .ref a, ha, ?_, ?_⟩
  · obtain ⟨x0, hx0, hm⟩ := zip_mem l h0r
    rw [ha] at hx0
    cases hx0
    obtain ⟨G, hG⟩ := hh
    have ok := hG.ok _ (List.mem_append_left _ hm)
    rcases h0s with rfl | rfl
    · obtain ⟨q, us, e, _, _, h3, _⟩ := ok; cases e; exact .inl ⟨rfl, us, .of h3⟩
    · obtain ⟨q, us, e, _, _, h3, _⟩ := ok; cases e; exact .inl ⟨rfl, us, .of h3⟩
  · refine h σ H L _ l hh fun r ρ' v H' h1 l' hh' => ?_
    have n' := l'.symm.trans l
    obtain ⟨s, ys, z, er, hr, hs, hz, hp⟩ := h1 n'
    have hh2 := hh'.cool
    rw [er] at hh2
    obtain ⟨M, q1, q2⟩ := set_perm (s' := setS s (ys ++ [z])) hr ha
    obtain ⟨G, hG⟩ := hh2
    have hG2 : HoldG X.K b G H' ((some (.ref a), s) :: (some v, .d z) :: (M ++ L)) := hG.perm ((List.Perm.swap ..).trans (List.Perm.cons _ (q1.symm.append_right L)))
    obtain ⟨us, e1, e2, e3⟩ := cell_lst hG2 hs
    refine ⟨a, us, v, rfl, rfl, e1, by rw [e2]; exact hz, k.nx _ _ _ hp (by simp [l']) (by simp [n']) ?_⟩
    have hv : Dp X.K G v z := hG.seq
    have hput := hG2.put (s' := setS s (ys ++ [z])) (ys := ys) (ys' := ys ++ [z]) (vs := us ++ [v]) (by rcases hs with rfl | rfl <;> simp [setS]) (DpAll.app e3 (.cons hv .nil))
    exact ⟨G, ((hput.perm ((List.Perm.swap ..))).drop).perm (q2.append_right L)⟩
theorem xs_extend (i : Nat) {p : Po} {x : Str} {p1 p2 p3 p4 : Pos} (hN : X.N[i]? = some x) (hv : Vis X.env.scope x)
    (h : EV X b ρ e fun r ρ' => ρ'.length = ρ.length → ∃ s ys zs, r = .own zs ∧ ρ'[i]? = some s ∧ (s = .own ys ∨ s = .bor ys) ∧ ys.length + zs.length ≤ sizeLine ∧ p.nx (ρ'.set i (setS s (ys ++ zs)))) (h0 : ∃ s ys, ρ[i]? = some s ∧ (s = .own ys ∨ s = .bor ys))
    (hd : (x == ("__debug__" : Str)) = false := by decide) (hcd : (x == ("__classdict__" : Str)) = false := by decide)
    (hbase : attributeBase (.Name x p1) "extend" X.env (eval (.Name x p1) X.env) = eval (.Name x p1) X.env := by rfl)
    (hfew : ((backTo p3 (starEach [e] X.env)).all (fun x => !x.1) && (backToKw p3 (keywordEach [] X.env)).all (fun x => x.1.isSome) && decide (([e] : List Expr).length + ([] : List Keyword).length + (if ([] : List Keyword).isEmpty then 0 else 1) < 30)) = true := by rfl)
    (hline : (p2.endLine == p3.line) = true := by rfl) (hse : starEach [e] X.env = (false, eval e X.env) :: starEach [] X.env := by rfl) (hpl : (backTo p3 (starEach [] X.env)).any (·.1) = false := by rfl)
    (hsw : swapsWith (.Call (.Attribute (.Name x p1) "extend" p2) [e] [] p3) none p4.line X.env = pure false := by rfl) : XS X b ρ (.Expr (.Call (.Attribute (.Name x p1) "extend" p2) [e] [] p3) p4) p := fun σ H L D l hh k => by
  obtain ⟨s0, ys0, h0r, h0s⟩ := h0
  obtain ⟨a, ha⟩ := slot_ref l h0r h0s hh
  refine ⟨_, ps_expr (pe_bm PySem.F.plainAttrs_list PySem.F.slot_list_extend PySem.F.type_list_extend mt_extend (pe_var hN hv hd hcd) (pa_cons (we_pe e) pa_nil hse) hbase hfew hline hse hpl) hsw, .ref a, ha, ?_, ?_⟩
  · obtain ⟨x0, hx0, hm⟩ := zip_mem l h0r
    rw [ha] at hx0
    cases hx0
    obtain ⟨G, hG⟩ := hh
    have ok := hG.ok _ (List.mem_append_left _ hm)
    rcases h0s with rfl | rfl
    · obtain ⟨q, us, e, _, _, h3, _⟩ := ok; cases e; exact .inl ⟨rfl, us, .of h3⟩
    · obtain ⟨q, us, e, _, _, h3, _⟩ := ok; cases e; exact .inl ⟨rfl, us, .of h3⟩
  · refine h σ H L _ l hh fun r ρ' v H' h1 l' hh' => ?_
    have n' := l'.symm.trans l
    obtain ⟨s, ys, zs, er, hr, hs, hz, hp⟩ := h1 n'
    subst er
    obtain ⟨M, q1, q2⟩ := set_perm (s' := setS s (ys ++ zs)) hr ha
    obtain ⟨G, hG⟩ := hh'
    have hG2 : HoldG X.K b G H' ((some (.ref a), s) :: (some v, .own zs) :: (M ++ L)) := hG.perm ((List.Perm.swap ..).trans (List.Perm.cons _ (q1.symm.append_right L)))
    obtain ⟨us, e1, e2, e3⟩ := cell_lst hG2 hs
    obtain ⟨q, ws, ev, _, _, w3, w4⟩ := hG2.ok _ (List.mem_cons_of_mem _ List.mem_cons_self)
    cases ev
    refine ⟨a, q, us, ws, rfl, rfl, e1, w3, by rw [e2, DpAll.len w4]; exact hz, k.nx _ _ _ hp (by simp [l']) (by simp [n']) ?_⟩
    have hput := hG2.put (s' := setS s (ys ++ zs)) (ys := ys) (ys' := ys ++ zs) (vs := us ++ ws) (by rcases hs with rfl | rfl <;> simp [setS]) (DpAll.app e3 w4)
    exact ⟨G, ((hput.perm ((List.Perm.swap ..))).drop).perm (q2.append_right L)⟩
/-! ### slices -/
def WO (X : Cx) (o : Option Expr) (σ : L2.St) (H : Hp) (Q : Option Int → Hp → Prop) : Prop := ∃ t, PO X o t ∧ t σ H Q
theorem wo_po (o : Option Expr) : PO X o (WO X o) := ⟨fun pins s σ H Q I ⟨_, h, q⟩ => h.run pins s σ H Q I q⟩
def EO (X : Cx) (b : Bs) (ρ : List Sl) (o : Option Expr) (p : Option Int → List Sl → Prop) : Prop := match o with
  | none => p none ρ
  | some e => EV X b ρ e fun r ρ' => ∃ i, r = .d (.int i) ∧ p (some i) ρ'
theorem eo_go {o : Option Expr} {p : Option Int → List Sl → Prop} (h : EO X b ρ o p) : ∀ σ H L Q, σ.length = ρ.length → Hold X.K b H (σ.zip ρ ++ L) → (∀ c ρ' H', p c ρ' → σ.length = ρ'.length → Hold X.K b H' (σ.zip ρ' ++ L) → Q c H') → WO X o σ H Q := fun σ H L Q l hh k => by
  cases o with
  | none => exact ⟨_, po_none, k none ρ H h l hh⟩
  | some e => exact ⟨_, po_some (we_pe e), h σ H L _ l hh fun r ρ' v H' ⟨i, er, hp⟩ l' hh' => by
      subst er
      have ev := hh'.isI
      subst ev
      exact ⟨i, rfl, k (some i) ρ' H' hp l' hh'.drop⟩⟩
def sSl (X : Cx) : V → Option Int → Option Int → Hp → VK → Prop := fun x lo hi H Q => ∃ rr : V → Option Int → Option Int → Hp → VK → Prop, SlR X rr ∧ rr x lo hi H Q
theorem ssl_ok : SlR X (sSl X) := fun pins s σ H x v vl vu lo hi sl Q I rx hs pl pu ⟨_, h, q⟩ => h pins s σ H x v vl vu lo hi sl Q I rx hs pl pu q
/-- the cut of a value -/
inductive Cut : Sl → Option Int → Option Int → (Sl → Prop) → Prop
  | str {z : Str} {lo hi : Option Int} {p : Sl → Prop} : z.length ≤ sizeLine → p (.d (.str (cutS z lo hi))) → Cut (.d (.str z)) lo hi p
  | lst {r : Sl} {ys : List PyData} {lo hi : Option Int} {p : Sl → Prop} : cool r = .d (.list ys) → p (.own (((ys.drop (HT.sIx ys.length 0 lo)).take (HT.sIx ys.length ys.length hi - HT.sIx ys.length 0 lo)))) → Cut r lo hi p
  | tup {ys : List PyData} {lo hi : Option Int} {p : Sl → Prop} : p (.d (.tuple (((ys.drop (HT.sIx ys.length 0 lo)).take (HT.sIx ys.length ys.length hi - HT.sIx ys.length 0 lo))))) → Cut (.d (.tuple ys)) lo hi p
theorem DpAll.drop2 {K : PySem.W.Frag} {G : Hp} : ∀ {xs : List V} {ys : List PyData} (n : Nat), DpAll K G xs ys → DpAll K G (xs.drop n) (ys.drop n)
  | _, _, 0, h => by simpa using h
  | _, _, _ + 1, .nil => by simpa using DpAll.nil
  | _, _, n + 1, .cons _ h => by simpa using DpAll.drop2 n h
theorem DpAll.take2 {K : PySem.W.Frag} {G : Hp} : ∀ {xs : List V} {ys : List PyData} (n : Nat), DpAll K G xs ys → DpAll K G (xs.take n) (ys.take n)
  | _, _, 0, h => by simpa using DpAll.nil
  | _, _, _ + 1, .nil => by simpa using DpAll.nil
  | _, _, n + 1, .cons g h => by simpa using DpAll.cons g (DpAll.take2 n h)
theorem ev_slice {lo hi : Option Expr} {p1 p2 : Pos} (h : EV X b ρ e fun r ρ1 => (∀ ys, r ≠ .bor ys) ∧ EO X b ρ1 lo fun l ρ2 => EO X b ρ2 hi fun u ρ3 => Cut r l u fun r' => p r' ρ3) : EV X b ρ (.Subscript e (.Slice lo hi none p1) p2) p := fun σ H L Q l hh k =>
  ⟨_, pe_slice ssl_ok (we_pe e) (wo_po lo) (wo_po hi), h σ H L _ l hh fun r ρ1 v H1 ⟨nb, h1⟩ l1 hh1 => eo_go h1 σ H1 ((some v, r) :: L) _ l1 (hh1.perm perm_in.symm) fun lv ρ2 H2 h2 l2 hh2 => eo_go h2 σ H2 ((some v, r) :: L) _ l2 hh2 fun uv ρ3 H3 h3 l3 hh3 => by
    have hh4 := hh3.perm (perm_in (A := σ.zip ρ3))
    cases h3 with
    | str hz hp =>
      have ev := hh4.isS
      subst ev
      exact ⟨_, sl_str, _, rfl, hz, k _ ρ3 _ H3 hp l3 (hh4.drop.str _)⟩
    | lst er hp =>
      obtain ⟨a, xs, rfl, lx, h5⟩ := hh4.toL er
      refine ⟨_, sl_list, a, xs, rfl, h5.itemsL, fun q hq => k _ ρ3 _ _ hp l3 ?_⟩
      obtain ⟨G, hG⟩ := h5
      obtain ⟨v', ev, a', ea, s1, s2⟩ := hG.ok _ List.mem_cons_self
      cases ev
      cases ea
      refine ⟨G, hG.drop.newL hq ?_⟩
      unfold cutV
      rw [lx]
      exact DpAll.take2 _ (DpAll.drop2 _ s2)
    | tup hp =>
      obtain ⟨a, xs, rfl, lx, h5⟩ := hh4.toT
      obtain ⟨G, hG⟩ := id h5
      obtain ⟨v', ev, a', ea, s1, s2⟩ := hG.ok _ List.mem_cons_self
      cases ev
      cases ea
      refine ⟨_, sl_tupA, a, xs, rfl, h5.itemsT, fun w => ?_, fun _ q hq => ?_⟩
      · refine k _ ρ3 _ H3 hp l3 ⟨G, hG.drop.add ?_⟩
        have w1 := w.1
        have w2 := w.2
        rw [lx] at w1 w2
        rw [w1, w2, List.drop_zero, Nat.sub_zero, List.take_of_length_le (Nat.le_refl _)]
        exact .tup s1 s2
      · refine k _ ρ3 _ _ hp l3 ⟨_, hG.drop.newT hq ?_⟩
        unfold cutV
        rw [lx]
        exact DpAll.take2 _ (DpAll.drop2 _ s2)⟩
/-- the operands are changed no more -/
theorem OV.cool {f : Value → Value → Sem Value} {r1 r2 : Sl} {p : Sl → Prop} (h : OV X b f (DE.cool r1) (DE.cool r2) p) : OV X b f r1 r2 p := by
  obtain ⟨rr, ho, k⟩ := h
  refine ⟨rr, ho, fun v1 v2 H L Q hh q => k v1 v2 H L Q ?_ q⟩
  have h1 := hh.cool
  exact ((h1.perm (List.Perm.swap ..)).cool).perm (List.Perm.swap ..)
theorem IV.cool {r1 r2 : Sl} {p : Sl → Prop} (h : IV X b (DE.cool r1) (DE.cool r2) p) : IV X b r1 r2 p := by
  obtain ⟨rr, ho, k⟩ := h
  refine ⟨rr, ho, fun v1 v2 H L Q hh q => k v1 v2 H L Q ?_ q⟩
  have h1 := hh.cool
  exact ((h1.perm (List.Perm.swap ..)).cool).perm (List.Perm.swap ..)
theorem dp_ints {K : PySem.W.Frag} {G : Hp} : ∀ {xs : List V} {ys : List Int}, DpAll K G xs (ys.map .int) → xs = ys.map .int
  | [], [], _ => rfl
  | [], _ :: _, h => by cases h
  | _ :: _, [], h => by cases h
  | x :: xs, y :: ys, h => by
    cases h with
    | cons h1 h2 =>
      cases h1
      rw [dp_ints h2, List.map_cons]
end

end DE

namespace DE
open PySem PySem.Spec PyProof.Rows L2 SZ VR VX StX RT
/-- the data of cells, lists held alone read for good -/
def datas : List Sl → Option (List PyData)
  | [] => some []
  | .d y :: rs => match datas rs with
    | some ys => some (y :: ys)
    | none => none
  | .own zs :: rs => match datas rs with
    | some ys => some (.list zs :: ys)
    | none => none
  | _ => none
theorem datas_cool : ∀ {rs : List Sl} {ys : List PyData}, datas rs = some ys → rs.map cool = ys.map .d
  | [], ys, h => by
    unfold datas at h
    cases h
    rfl
  | .d y :: rs, ys, h => by
    unfold datas at h
    cases e : datas rs with
    | none => rw [e] at h; cases h
    | some zs =>
      rw [e] at h
      cases h
      rw [List.map_cons, List.map_cons, datas_cool e]
      rfl
  | .own y :: rs, ys, h => by
    unfold datas at h
    cases e : datas rs with
    | none => rw [e] at h; cases h
    | some zs =>
      rw [e] at h
      cases h
      rw [List.map_cons, List.map_cons, datas_cool e]
      rfl
  | .un :: rs, ys, h => by simp [datas] at h
  | .bor _ :: rs, ys, h => by simp [datas] at h
  | .fact _ _ :: rs, ys, h => by simp [datas] at h
  | .dct _ _ :: rs, ys, h => by simp [datas] at h
section
variable {X : Cx} {b : Bs} {ρ : List Sl} {p : Sl → List Sl → Prop} {e : Expr} {es : List Expr} {pos : Pos}
theorem ev_tupD {k : Nat} (h : EA X b ρ es fun rs ρ' => ∃ ys : List PyData, datas rs = some ys ∧ ys.length ≤ 100000 ∧ p (.d (.tuple ys)) ρ') : EV X b ρ (.Tuple es k pos) p := fun σ H L Q l hh k =>
  ⟨_, pe_tup (wa_pa es), h σ H L _ l hh fun rs ρ' vs H' ⟨ys, e, n, hp⟩ l' lv hh' => by
    have h2 := hh'.coolAll
    have e2 := datas_cool e
    rw [e2] at h2
    have lr : rs.length = ys.length := by have := congrArg List.length e2; simpa using this
    refine ⟨by rw [lv, lr, sizeLine_eq]; omega, fun a ha => ?_⟩
    obtain ⟨G, hg⟩ := h2
    exact k _ ρ' _ _ hp l' ⟨_, hg.dropM.newT ha (HoldG.all (lv.trans lr) hg)⟩⟩
theorem ev_lstD (h : EA X b ρ es fun rs ρ' => ∃ ys : List PyData, datas rs = some ys ∧ ys.length ≤ 100000 ∧ p (.own ys) ρ') : EV X b ρ (.List es pos) p := fun σ H L Q l hh k =>
  ⟨_, pe_lst (wa_pa es), h σ H L _ l hh fun rs ρ' vs H' ⟨ys, e, n, hp⟩ l' lv hh' => by
    have h2 := hh'.coolAll
    have e2 := datas_cool e
    rw [e2] at h2
    have lr : rs.length = ys.length := by have := congrArg List.length e2; simpa using this
    refine ⟨by rw [lv, lr, sizeLine_eq]; omega, fun a ha => ?_⟩
    obtain ⟨G, hg⟩ := h2
    exact k _ ρ' _ _ hp l' ⟨_, hg.dropM.newL ha (HoldG.all (lv.trans lr) hg)⟩⟩
/-- a name of the module that holds data -/
def GlD (X : Cx) (x : Str) (y : PyData) : Prop := ∃ v u, X.mg x = some u ∧ RelV v u ∧ ∀ G, Dp X.K G v y
theorem ev_glob {x : Str} {y : PyData} (g : GlD X x y) (hg : Gl X x) (h : p (.d y) ρ) (hd : (x == ("__debug__" : Str)) = false := by decide) : EV X b ρ (.Name x pos) p := fun σ H L Q l hh k => by
  obtain ⟨v, u, hm, r, hv⟩ := g
  obtain ⟨G, hG⟩ := hh
  exact ⟨_, pe_glob hg hm r hd, k _ ρ v H h l ⟨G, hG.add (hv G)⟩⟩
/-- a def that is called: all that a call asks -/
structure CalP (P : Program) (w : World) (K : PySem.W.Frag) (mg : Str → Option Value) (base : Heap) (CX : CXT) (x : Str) (k : Nat) (Pre : List Sl → Prop) (Res : List Sl → Sl → Prop) : Prop where
  ex : ∃ f fd ps, FnOk P w K mg base CX k f fd ps (spP K Pre Res) ∧ mg x = some (.ref f) ∧ PySem.W.keepIn K (.ref f) = true ∧ Binds K fd ps []
structure CalB (P : Program) (w : World) (K : PySem.W.Frag) (mg : Str → Option Value) (base : Heap) (CX : CXT) (x : Str) (k : Nat) (Pre : List PyData → List Sl → Prop) (Res : List PyData → List Sl → Sl → List PyData → Prop) : Prop where
  ex : ∃ f fd ps, FnOk P w K mg base CX k f fd ps (spB K Pre Res) ∧ mg x = some (.ref f) ∧ PySem.W.keepIn K (.ref f) = true ∧ Binds K fd ps []
theorem ev_cal {CX : CXT} {k : Nat} {Pre : List Sl → Prop} {Res : List Sl → Sl → Prop} {x : Str} {p1 cp : Pos} (C : CalP X.prog X.w X.K X.mg X.base CX x k Pre Res) (hr : Room k X.A) (hg : Gl X x) {E : XK} (hx : Passes CX X E)
    (h : EA X b ρ (e :: es) fun rs ρ' => ∃ ys, datas rs = some ys ∧ Pre (ys.map .d) ∧ ∀ r, Res (ys.map .d) r → (∀ ys, r ≠ .bor ys) ∧ p r ρ')
    (hdb : (x == ("__debug__" : Str)) = false := by decide) (he : starEach (e :: es) X.env = (false, eval e X.env) :: starEach es X.env := by rfl) (hpl : (backTo cp (starEach es X.env)).any (·.1) = false := by rfl) : EV X b ρ (.Call (.Name x p1) (e :: es) [] cp) p := by
  obtain ⟨f, fd, ps, F, hm, hk, hb⟩ := C.ex
  refine ev_call F hr hg hm hk hb hx (fun σ H L Q l hh k => h σ H L Q l hh fun rs ρ' vs H' ⟨ys, ed, h1, h2⟩ => k rs ρ' vs H' ?_) hdb he hpl
  dsimp only
  rw [datas_cool ed]
  refine ⟨fun r hr => ?_, h1, h2⟩
  obtain ⟨y, _, rfl⟩ := List.mem_map.mp hr
  rfl
theorem ev_calL (i : Nat) {CX : CXT} {k : Nat} {Pre : List PyData → List Sl → Prop} {Res : List PyData → List Sl → Sl → List PyData → Prop} {x y : Str} {p1 p2 cp : Pos} (C : CalB X.prog X.w X.K X.mg X.base CX x k Pre Res) (hr : Room k X.A) (hg : Gl X x) {E : XK} (hx : Passes CX X E)
    (hN : X.N[i]? = some y) (hv : Vis X.env.scope y)
    (h : EA X b ρ es fun rs ρ' => ∃ zs, datas rs = some zs ∧ ∃ s ys, ρ'[i]? = some s ∧ (s = .own ys ∨ s = .bor ys) ∧ Pre ys (zs.map .d) ∧ ∀ r ys', Res ys (zs.map .d) r ys' → (∀ ys, r ≠ .bor ys) ∧ p r (ρ'.set i (setS s ys')))
    (hs0 : ∃ s ys, ρ[i]? = some s ∧ (s = .own ys ∨ s = .bor ys))
    (hdy : (y == ("__debug__" : Str)) = false := by decide) (hcy : (y == ("__classdict__" : Str)) = false := by decide) (hdb : (x == ("__debug__" : Str)) = false := by decide) (he : starEach (.Name y p2 :: es) X.env = (false, eval (.Name y p2) X.env) :: starEach es X.env := by rfl) (hpl : (backTo cp (starEach es X.env)).any (·.1) = false := by rfl) : EV X b ρ (.Call (.Name x p1) (.Name y p2 :: es) [] cp) p := by
  obtain ⟨f, fd, ps, F, hm, hk, hb⟩ := C.ex
  refine ev_callL i F hr hg hm hk hb hx hN hv (fun σ H L Q l hh k => h σ H L Q l hh fun rs ρ' vs H' ⟨zs, ed, h1⟩ => k rs ρ' vs H' ?_) hs0 hdy hcy hdb he hpl
  dsimp only
  rw [datas_cool ed]
  refine ⟨fun r hr => ?_, h1⟩
  obtain ⟨y, _, rfl⟩ := List.mem_map.mp hr
  rfl
end

end DE

namespace DE
open PySem PySem.Spec PyProof.Rows L2 SZ VR VX StX RT
/-! ### expressions that change nothing: what they come to -/
def EVr (X : Cx) (b : Bs) (ρ : List Sl) (e : Expr) (r : Sl) : Prop := ∀ p : Sl → List Sl → Prop, p r ρ → EV X b ρ e p
def ETr (X : Cx) (b : Bs) (ρ : List Sl) (e : Expr) (c : Bool) : Prop := ∀ p : Bool → List Sl → Prop, p c ρ → ET X b ρ e p
def EWr (X : Cx) (b : Bs) (ρ : List Sl) (e : Expr) (c : Bool) : Prop := ∀ p : Bool → List Sl → Prop, p c ρ → EW X b ρ e p
def EAr (X : Cx) (b : Bs) (ρ : List Sl) (es : List Expr) (rs : List Sl) : Prop := ∀ p : List Sl → List Sl → Prop, p rs ρ → EA X b ρ es p
def OVr (X : Cx) (b : Bs) (f : Value → Value → Sem Value) (r1 r2 r : Sl) : Prop := ∀ p : Sl → Prop, p r → OV X b f r1 r2 p
def IVr (X : Cx) (b : Bs) (r1 r2 r : Sl) : Prop := ∀ p : Sl → Prop, p r → IV X b r1 r2 p
def UVr (X : Cx) (b : Bs) (f : Value → Sem Value) (r1 r : Sl) : Prop := ∀ p : Sl → Prop, p r → UV X b f r1 p
def CVr (X : Cx) (b : Bs) (f : Value) (rs : List Sl) (r : Sl) : Prop := ∀ p : Sl → Prop, p r → CV X b f rs p
section
variable {X : Cx} {b : Bs} {ρ : List Sl} {e e1 e2 e3 : Expr} {es rest : List Expr} {pos : Pos} {r r1 r2 r3 : Sl} {x y z : PyData} {c c1 c2 : Bool}
theorem r_int {i : Int} {j} : EVr X b ρ (.Constant (.int i) j pos) (.d (.int i)) := fun _ h => ev_int h
theorem r_bl {i : Bool} {j} : EVr X b ρ (.Constant (.bool i) j pos) (.d (.bool i)) := fun _ h => ev_bl h
theorem r_str {i : Str} {j} : EVr X b ρ (.Constant (.str i) j pos) (.d (.str i)) := fun _ h => ev_str h
theorem r_non {j} : EVr X b ρ (.Constant .none j pos) (.d .none) := fun _ h => ev_non h
theorem r_var (i : Nat) {y : PyData} {x : Str} (hN : X.N[i]? = some x) (hv : Vis X.env.scope x) (hr : ρ[i]? = some (.d y)) (hd : (x == ("__debug__" : Str)) = false := by decide) (hcd : (x == ("__classdict__" : Str)) = false := by decide) : EVr X b ρ (.Name x pos) (.d y) := fun _ h => ev_var i hN hv hr h hd hcd
theorem r_glob {x : Str} {y : PyData} (g : GlD X x y) (hg : Gl X x) (hd : (x == ("__debug__" : Str)) = false := by decide) : EVr X b ρ (.Name x pos) (.d y) := fun _ h => ev_glob g hg h hd
theorem r_bin {op : Operator} (h1 : EVr X b ρ e1 r1) (h2 : EVr X b ρ e2 r2) (h3 : OVr X b (binaryOp op) r1 r2 r) : EVr X b ρ (.BinOp e1 op e2 pos) r := fun _ h => ev_bin (h1 _ (h2 _ (h3 _ h)))
theorem r_cmp {op : CmpOp} (h1 : EVr X b ρ e1 r1) (h2 : EVr X b ρ e2 r2) (h3 : OVr X b (compareOp op) r1 r2 r) (hm : behindInMarks op e2 = false := by first | exact nomark _ | rfl | with_unfolding_all rfl) : EVr X b ρ (.Compare e1 [op] [e2] pos) r := fun _ h => ev_cmp hm (h1 _ (h2 _ (h3 _ h)))
theorem t_cmp {op : CmpOp} (h1 : EVr X b ρ e1 r1) (h2 : EVr X b ρ e2 r2) (h3 : OVr X b (compareOp op) r1 r2 (.d (.bool c))) (hm : behindInMarks op e2 = false := by first | exact nomark _ | rfl | with_unfolding_all rfl) : ETr X b ρ (.Compare e1 [op] [e2] pos) c := fun _ h => et_cmp hm (h1 _ (h2 _ (h3 _ ⟨_, rfl, h⟩)))
theorem r_one {op : BoolOp} (h : EVr X b ρ e r) : EVr X b ρ (.BoolOp op [e] pos) r := fun _ k => ev_one (h _ k)
theorem r_and (h1 : EVr X b ρ e1 (.d (.bool c1))) (h2 : c1 = true → EVr X b ρ (.BoolOp .And (e2 :: rest) pos) (.d (.bool c2))) : EVr X b ρ (.BoolOp .And (e1 :: e2 :: rest) pos) (.d (.bool (c1 && c2))) := fun _ h =>
  ev_and (h1 _ ⟨c1, rfl, fun e => by subst e; exact h, fun e => h2 e _ (by subst e; exact h)⟩)
theorem r_or (h1 : EVr X b ρ e1 (.d (.bool c1))) (h2 : c1 = false → EVr X b ρ (.BoolOp .Or (e2 :: rest) pos) (.d (.bool c2))) : EVr X b ρ (.BoolOp .Or (e1 :: e2 :: rest) pos) (.d (.bool (c1 || c2))) := fun _ h =>
  ev_or (h1 _ ⟨c1, rfl, fun e => by subst e; exact h, fun e => h2 e _ (by subst e; exact h)⟩)
theorem r_not (h1 : EVr X b ρ e (.d (.bool c))) : EVr X b ρ (.UnaryOp .Not e pos) (.d (.bool (!c))) := fun _ h => ev_not (h1 _ ⟨c, rfl, h⟩)
theorem t_val (h1 : EVr X b ρ e (.d (.bool c))) (he : ∀ whole, isTrue e X.env whole = (do let v ← whole; standAt e.pos; holding [v] (truthy v)) := by intro _; rfl) : ETr X b ρ e c := fun _ h => et_val he (h1 _ ⟨c, rfl, h⟩)
theorem t_not (h1 : ETr X b ρ e c) : ETr X b ρ (.UnaryOp .Not e pos) (!c) := fun _ h => et_not (h1 _ h)
theorem t_w (h1 : EWr X b ρ e c) : ETr X b ρ e c := fun _ h => et_w (h1 _ h)
theorem w_and1 (h1 : ETr X b ρ e c) : EWr X b ρ (.BoolOp .And [e] pos) c := fun _ h => ew_and1 (h1 _ h)
theorem w_or1 (h1 : ETr X b ρ e c) : EWr X b ρ (.BoolOp .Or [e] pos) c := fun _ h => ew_or1 (h1 _ h)
theorem w_and (h1 : ETr X b ρ e1 c1) (h2 : c1 = true → EWr X b ρ (.BoolOp .And (e2 :: rest) pos) c2) : EWr X b ρ (.BoolOp .And (e1 :: e2 :: rest) pos) (c1 && c2) := fun _ h =>
  ew_and (h1 _ ⟨fun e => by subst e; exact h, fun e => h2 e _ (by subst e; exact h)⟩)
theorem w_or (h1 : ETr X b ρ e1 c1) (h2 : c1 = false → EWr X b ρ (.BoolOp .Or (e2 :: rest) pos) c2) : EWr X b ρ (.BoolOp .Or (e1 :: e2 :: rest) pos) (c1 || c2) := fun _ h =>
  ew_or (h1 _ ⟨fun e => by subst e; exact h, fun e => h2 e _ (by subst e; exact h)⟩)
theorem r_un {op : UnaryOp} (h1 : EVr X b ρ e r1) (h2 : UVr X b (unaryOp op) r1 r) : EVr X b ρ (.UnaryOp op e pos) r := fun _ h => ev_un (h1 _ (h2 _ h))
theorem a_nil : EAr X b ρ [] [] := fun _ h => ea_nil h
theorem a_cons {rs : List Sl} (h1 : EVr X b ρ e r) (h2 : EAr X b ρ es rs) (hs : starEach (e :: es) X.env = (false, eval e X.env) :: starEach es X.env := by rfl) : EAr X b ρ (e :: es) (r :: rs) := fun _ h => ea_cons hs (h1 _ (h2 _ h))
theorem r_tup {k : Nat} {rs : List Sl} {ys : List PyData} (h : EAr X b ρ es rs) (e : datas rs = some ys) (n : ys.length ≤ 100000 := by simp) : EVr X b ρ (.Tuple es k pos) (.d (.tuple ys)) := fun _ k => ev_tupD (h _ ⟨ys, e, n, k⟩)
theorem r_lst {rs : List Sl} {ys : List PyData} (h : EAr X b ρ es rs) (e : datas rs = some ys) (n : ys.length ≤ 100000 := by simp) : EVr X b ρ (.List es pos) (.own ys) := fun _ k => ev_lstD (h _ ⟨ys, e, n, k⟩)
theorem r_ix (h1 : EVr X b ρ e1 r1) (h2 : EVr X b ρ e2 r2) (h3 : IVr X b r1 r2 r) (hs : PlainIx e2 := by intro _ _; rfl) : EVr X b ρ (.Subscript e1 e2 pos) r := fun _ h => ev_ix hs (h1 _ (h2 _ (h3 _ h)))
theorem r_callB {id : String} {x : Str} {ps cp : Pos} {rs : List Sl} (hm : X.mg x = none) (h : EAr X b ρ (e :: es) rs) (h3 : CVr X b (.builtin id) rs r) (hg : Gl X x := by rfl) (hv : bootBuiltins x = some (.builtin id) := by decide +kernel) (hn : x ≠ "__name__" := by decide) (hdb : (x == ("__debug__" : Str)) = false := by decide)
    (he : starEach (e :: es) X.env = (false, eval e X.env) :: starEach es X.env := by rfl) (hpl : (backTo cp (starEach es X.env)).any (·.1) = false := by rfl) : EVr X b ρ (.Call (.Name x ps) (e :: es) [] cp) r := fun _ k => ev_callB hg hm hv (h _ (h3 _ k)) hn hdb he hpl
theorem r_callTy {T : String} {x : Str} {ps cp : Pos} {rs : List Sl} (hm : X.mg x = none) (h : EAr X b ρ (e :: es) rs) (h3 : CVr X b (.type T) rs r) (hg : Gl X x := by rfl) (hv : bootBuiltins x = some (.type T) := by decide +kernel) (hn : x ≠ "__name__" := by decide) (hdb : (x == ("__debug__" : Str)) = false := by decide)
    (he : starEach (e :: es) X.env = (false, eval e X.env) :: starEach es X.env := by rfl) (hpl : (backTo cp (starEach es X.env)).any (·.1) = false := by rfl) : EVr X b ρ (.Call (.Name x ps) (e :: es) [] cp) r := fun _ k => ev_callTy hg hm hv (h _ (h3 _ k)) hn hdb he hpl
theorem r_isi {t : String} {x : Str} {ps cp pn : Pos} (hm : X.mg "isinstance" = none) (hmt : X.mg x = none) (h : EVr X b ρ e (.d y)) (hg : Gl X "isinstance" := by rfl) (hgt : Gl X x := by rfl) (hv : bootBuiltins x = some (.type t) := by decide +kernel) (ht : t = "int" ∨ t = "bool" ∨ t = "str" ∨ t = "tuple" ∨ t = "list" ∨ t = "dict" := by decide)
    (hn : x ≠ "__name__" := by decide) (hd : (x == ("__debug__" : Str)) = false := by decide) (he : starEach [e, .Name x pn] X.env = (false, eval e X.env) :: starEach [.Name x pn] X.env := by rfl) (hpl : (backTo cp (starEach [.Name x pn] X.env)).any (·.1) = false := by rfl) :
    EVr X b ρ (.Call (.Name "isinstance" ps) [e, .Name x pn] [] cp) (.d (.bool (subTy (tyD y) t))) := fun _ k => ev_isi hg hm hgt hmt hv ht (h _ ⟨y, rfl, k⟩) hn hd he hpl
theorem r_cal {CX : CXT} {k : Nat} {Pre : List Sl → Prop} {Res : List Sl → Sl → Prop} {x : Str} {p1 cp : Pos} {rs : List Sl} {ys : List PyData} (C : CalP X.prog X.w X.K X.mg X.base CX x k Pre Res) (hr : Room k X.A) {E : XK} (hx : Passes CX X E)
    (h : EAr X b ρ (e :: es) rs) (ed : datas rs = some ys) (h1 : Pre (ys.map .d)) (h2 : ∀ r', Res (ys.map .d) r' → r' = r) (nb : ∀ ys, r ≠ .bor ys := by intro _; nofun) (hg : Gl X x := by rfl)
    (hdb : (x == ("__debug__" : Str)) = false := by decide) (he : starEach (e :: es) X.env = (false, eval e X.env) :: starEach es X.env := by rfl) (hpl : (backTo cp (starEach es X.env)).any (·.1) = false := by rfl) : EVr X b ρ (.Call (.Name x p1) (e :: es) [] cp) r := fun _ q =>
  ev_cal C hr hg hx (h _ ⟨ys, ed, h1, fun r' hr' => by rw [h2 r' hr']; exact ⟨nb, q⟩⟩) hdb he hpl
theorem r_slice {lo hi : Option Expr} {l u : Option Int} {p1 p2 : Pos} (h : EVr X b ρ e r) (hl : ∀ p, p l ρ → EO X b ρ lo p) (hu : ∀ p, p u ρ → EO X b ρ hi p) (h3 : ∀ p : Sl → Prop, p r2 → Cut r l u p) (nb : ∀ ys, r ≠ .bor ys := by intro _; nofun) : EVr X b ρ (.Subscript e (.Slice lo hi none p1) p2) r2 := fun _ k => ev_slice (h _ ⟨nb, hl _ (hu _ (h3 _ k))⟩)
theorem o_none {p : Option Int → List Sl → Prop} (h : p none ρ) : EO X b ρ none p := h
theorem o_some {i : Int} {p : Option Int → List Sl → Prop} (h1 : EVr X b ρ e (.d (.int i))) (h : p (some i) ρ) : EO X b ρ (some e) p := h1 _ ⟨i, rfl, h⟩
variable {p : Po} {st : List Stmt} {s1 s2 : List Stmt}
theorem x_ret (h : EVr X b ρ e r) (k : p.rt r ρ) : XS X b ρ (.Return (some e) pos) p := xs_ret (h _ fun _ => k)
theorem x_if {t : Expr} (h : ETr X b ρ t c) (h1 : c = true → XB X b ρ s1 p) (h2 : c = false → XB X b ρ s2 p) : XS X b ρ (.If t s1 s2 pos) p := xs_if (h _ fun _ => ⟨h1, h2⟩)
theorem x_set (i : Nat) {x : Str} {pos' : Pos} {ρ2 : List Sl} (h : EVr X b ρ e r) (hi : X.N[i]? = some x) (hx : Loc X.env.scope x) (hN : X.N.Nodup) (h2 : ρ.set i r = ρ2) (k : p.nx ρ2) (hl : i < ρ.length := by first | decide | simp) (hs : swapsWith e (some (.Name x pos')) pos.line X.env = pure false := by rfl) (hf : X.fn x = true ∨ X.env.scope.names.lookup x = some .local := by first | exact .inl rfl | exact .inr rfl | assumption) : XS X b ρ (.Assign [.Name x pos'] e pos) p :=
  xs_set i hN hi hx hl hs hf (h _ fun _ => by rw [h2]; exact k)
end

end DE

namespace DE
open PySem PySem.Spec PyProof.Rows L2 SZ VR VX StX RT
def strsOf : List PyData → Option (List Str)
  | [] => some []
  | .str x :: r => match strsOf r with
    | some l => some (x :: l)
    | none => none
  | _ => none
theorem strsOf_map : ∀ {ys : List PyData} {l : List Str}, strsOf ys = some l → ys = l.map .str
  | [], l, h => by
    unfold strsOf at h
    cases h
    rfl
  | .str x :: r, l, h => by
    unfold strsOf at h
    cases e : strsOf r with
    | none => rw [e] at h; cases h
    | some l' =>
      rw [e] at h
      cases h
      rw [strsOf_map e, List.map_cons]
  | .none :: _, l, h => by simp [strsOf] at h
  | .bool _ :: _, l, h => by simp [strsOf] at h
  | .int _ :: _, l, h => by simp [strsOf] at h
  | .list _ :: _, l, h => by simp [strsOf] at h
  | .tuple _ :: _, l, h => by simp [strsOf] at h
  | .dict _ :: _, l, h => by simp [strsOf] at h
section
variable {X : Cx} {b : Bs} {ρ : List Sl} {e e1 e2 tg elt iter : Expr} {es rest ifs : List Expr} {pos : Pos} {r r1 r2 : Sl} {x y z : PyData} {c : Bool}
theorem or_inS {z : Str} {ds : List PyData} {l : List Str} (er : cool r2 = .d (.list ds) ∨ cool r2 = .d (.tuple ds)) (e : strsOf ds = some l) : OVr X b (compareOp .In) (.d (.str z)) r2 (.d (.bool (l.contains z))) := fun _ h => OV.cool (by
  rcases er with er | er
  · rw [er]; exact ov_inS (.inr (by rw [strsOf_map e])) h
  · rw [er]; exact ov_inS (.inl (by rw [strsOf_map e])) h)
theorem or_notInS {z : Str} {ds : List PyData} {l : List Str} (er : cool r2 = .d (.list ds) ∨ cool r2 = .d (.tuple ds)) (e : strsOf ds = some l) : OVr X b (compareOp .NotIn) (.d (.str z)) r2 (.d (.bool (!l.contains z))) := fun _ h => OV.cool (by
  rcases er with er | er
  · rw [er]; exact ov_notInS (.inr (by rw [strsOf_map e])) h
  · rw [er]; exact ov_notInS (.inl (by rw [strsOf_map e])) h)
theorem or_addS {x y : Str} (hz : x.length + y.length ≤ sizeLine) : OVr X b (binaryOp .Add) (.d (.str x)) (.d (.str y)) (.d (.str (x ++ y))) := fun _ h => ov_addS hz h
theorem or_cat {xs ys : List PyData} (hz : xs.length + ys.length ≤ sizeLine) : OVr X b (binaryOp .Add) (.own xs) (.own ys) (.own (xs ++ ys)) := fun _ h => ov_cat hz h
theorem or_eqD {d1 d2 : PyData} (hu : X.A.units + 64 < cLine) (e1 : cool r1 = .d d1) (e2 : cool r2 = .d d2) (h1 : SeqAt.shaped d1 = true) (h2 : SeqAt.shaped d2 = true) : OVr X b (compareOp .Eq) r1 r2 (.d (.bool (PyData.eqv d1 d2))) := fun _ h => OV.cool (by rw [e1, e2]; exact ov_eqD hu h1 h2 h)
theorem or_neD {d1 d2 : PyData} (hu : X.A.units + 64 < cLine) (e1 : cool r1 = .d d1) (e2 : cool r2 = .d d2) (h1 : SeqAt.shaped d1 = true) (h2 : SeqAt.shaped d2 = true) : OVr X b (compareOp .NotEq) r1 r2 (.d (.bool (!PyData.eqv d1 d2))) := fun _ h => OV.cool (by rw [e1, e2]; exact ov_neD hu h1 h2 h)
theorem ir_at {ys : List PyData} {i : Int} (er : cool r1 = .d (.list ys) ∨ cool r1 = .d (.tuple ys)) (hi : atI ys i = some y) : IVr X b r1 (.d (.int i)) (.d y) := fun _ h => IV.cool (by
  rcases er with er | er
  · rw [er]; exact iv_lst hi h
  · rw [er]; exact iv_tup hi h)
theorem ir_str {z : Str} {i : Int} {a : Nat} (hz : z.length ≤ sizeLine) (hi : atI z.cps.toList i = some a) : IVr X b (.d (.str z)) (.d (.int i)) (.d (.str ⟨#[a]⟩)) := fun _ h => iv_str hz hi h
theorem cr_strI {i : Int} (hz : i.natAbs.log2 < 1920) : CVr X b (.type "str") [.d (.int i)] (.d (.str (toString i))) := fun _ h => cv_strI hz h
/-! ### comprehensions that change nothing -/
def EIr (X : Cx) (b : Bs) (ρ : List Sl) (tg iter : Expr) (ys : List PyData) : Prop := ∀ p : List PyData → List Sl → Prop, p ys ρ → EI X b ρ tg iter p
def ETsr (X : Cx) (b : Bs) (ρ : List Sl) (es : List Expr) (c : Bool) : Prop := ∀ p : Bool → List Sl → Prop, p c ρ → ETs X b ρ es p
theorem ts_nil : ETsr X b ρ [] true := fun _ h => ets_nil h
theorem ts_one (h : ETr X b ρ e c) : ETsr X b ρ [e] c := fun _ k => ets_one (h _ k)
theorem i_list {ys : List PyData} (h : EVr X b ρ e r) (er : cool r = .d (.list ys)) : EIr X b ρ tg e ys := fun _ k => ei_list (h _ ⟨ys, er, k⟩)
theorem i_tup {ys : List PyData} (h : EVr X b ρ e (.d (.tuple ys))) : EIr X b ρ tg e ys := fun _ k => ei_tup (h _ ⟨ys, rfl, k⟩)
theorem i_range {n : Int} {p1 p2 : Pos} (hm : X.mg "range" = none) (h : EVr X b ρ e (.d (.int n))) (b1 : -(2 ^ 62) ≤ n) (b2 : n < 2 ^ 62) (hg : Gl X "range" := by rfl) (hs : starEach [e] X.env = [(false, eval e X.env)] := by rfl) : EIr X b ρ tg (.Call (.Name "range" p1) [e] [] p2) (rngD 0 n.toNat) := fun _ k => ei_range hg hm (h _ ⟨n, rfl, b1, b2, k⟩) hs
/-- stores that are told -/
def EGr (X : Cx) (b : Bs) (ts : List Nat) (ρ : List Sl) (tg : Expr) (r : Sl) (ρ2 : List Sl) : Prop := ∀ p : List Sl → Prop, p ρ2 → EG X b ts ρ tg r p
theorem g_name (i : Nat) {ts : List Nat} {x : Str} {ρ2 : List Sl} (hi : X.N[i]? = some x) (hx : Loc X.env.scope x) (hN : X.N.Nodup) (e : ρ.set i r = ρ2) (hl : i < ρ.length := by first | decide | simp) (ht : i ∈ ts := by first | decide | simp) (hf : X.fn x = true ∨ X.env.scope.names.lookup x = some .local := by first | exact .inl rfl | exact .inr rfl | assumption) : EGr X b ts ρ (.Name x pos) r ρ2 := fun _ k => eg_name i hN hi hx hl ht (by rw [e]; exact k) hf
def EGsr (X : Cx) (b : Bs) (ts : List Nat) (ρ : List Sl) (tgs : List Expr) (rs : List Sl) (ρ2 : List Sl) : Prop := ∀ p : List Sl → Prop, p ρ2 → EGs X b ts ρ tgs rs p
theorem gs_nil {ts : List Nat} : EGsr X b ts ρ [] [] ρ := fun _ k => egs_nil k
theorem gs_cons {ts : List Nat} {tgs : List Expr} {rs : List Sl} {ρ1 ρ2 : List Sl} (h1 : EGr X b ts ρ tg r ρ1) (h2 : EGsr X b ts ρ1 tgs rs ρ2) (hs : (assignEach (tg :: tgs) X.env).map (·.2) = assign tg X.env :: (assignEach tgs X.env).map (·.2) := by rfl) : EGsr X b ts ρ (tg :: tgs) (r :: rs) ρ2 := fun _ k => egs_cons hs (h1 _ fun _ => h2 _ k)
theorem g_tup {ts : List Nat} {tgs : List Expr} {k0 : Nat} {ys : List PyData} {ρ2 : List Sl} (hc : X.calm = true) (h : EGsr X b ts ρ tgs (ys.map .d) ρ2) (hn : ys.length = tgs.length := by rfl) (hna : (assignEach tgs X.env).length = tgs.length := by rfl) (hst : (assignEach tgs X.env).findIdx? (·.1) = none := by rfl) : EGr X b ts ρ (.Tuple tgs k0 pos) (.d (.tuple ys)) ρ2 := fun _ k => eg_tup hc hn hna hst (h _ k)
theorem lc_turn {scope : Scope} {vs : List Nat} {y : PyData} {ρ2 : List Sl} {acc : List PyData} {J : List PyData → List Sl → Prop} (hg : AllB X scope fun Y => EGr Y b vs ρ tg (.d y) ρ2) (ht : AllB X scope fun Y => ETsr Y b ρ2 ifs c) (hw : wipeR ρ2 vs = ρ)
    (h0 : c = false → J acc ρ) (h1 : c = true → ∃ r z, (AllB X scope fun Y => EVr Y b ρ2 elt r) ∧ cool r = .d z ∧ acc.length < sizeLine ∧ J (acc ++ [z]) ρ) : LcTurn X b scope tg elt ifs vs y ρ acc J :=
  ⟨fun ρ' => ρ' = ρ2, fun s H C cl fp => hg s H C cl fp _ rfl, fun ρ' e => by
    subst e
    refine ⟨fun c' ρ3 => c' = c ∧ ρ3 = ρ', fun s H C cl fp => ht s H C cl fp _ ⟨rfl, rfl⟩, fun c' ρ3 ⟨e1, e2⟩ => ?_⟩
    subst e1 e2
    refine ⟨fun e => by rw [hw]; exact h0 e, fun e => ?_⟩
    obtain ⟨r, z, hr, er, hz, hJ⟩ := h1 e
    exact ⟨hz, fun s H C cl fp => hr s H C cl fp _ ⟨z, er, by rw [hw]; exact hJ⟩⟩⟩
theorem r_lc {α : Type} {scope : Scope} (own : List (Str × Nat)) (l : List α) (g : α → PyData) (cf : α → Bool) (f : α → PyData) (ρt : α → List Sl) {ys : List PyData} (hi : EIr X b ρ tg iter ys) (ey : ys = l.map g) (hc : X.calm = true) (hN : X.N.Nodup) (ok : BlkOk X.N X.env.scope scope own) (hun : ∀ v ∈ own.map (·.2), ρ[v]? = some .un) (hlen : l.length ≤ 100000)
    (hg : ∀ y ∈ l, AllB X scope fun Y => EGr Y b (own.map (·.2)) ρ tg (.d (g y)) (ρt y)) (hw : ∀ y ∈ l, wipeR (ρt y) (own.map (·.2)) = ρ) (ht : ∀ y ∈ l, AllB X scope fun Y => ETsr Y b (ρt y) ifs (cf y))
    (he : ∀ y ∈ l, cf y = true → ∃ r, (AllB X scope fun Y => EVr Y b (ρt y) elt r) ∧ cool r = .d (f y)) (hs : ∀ x, foldedSetIterable iter X.env x = pure x := by intro _; rfl) : EVr X b ρ (.ListComp elt [⟨tg, iter, ifs, 0⟩] scope pos) (.own ((l.filter cf).map f)) := fun p k => by
  refine ev_lc own hc hN ok (hi _ fun _ => ⟨fun i acc ρ' => acc = (((l.take i).filter cf).map f) ∧ ρ' = ρ, ⟨by simp, rfl⟩, fun i acc ρ' ⟨_, e⟩ => by subst e; exact hun, fun i y acc ρ' hy _ ⟨ea, e⟩ => ?_, fun acc ρ' ⟨ea, e⟩ => by subst ea e ey; rw [List.length_map, List.take_length]; exact k⟩) hs
  subst e ey
  rw [List.getElem?_map] at hy
  cases hx : l[i]? with
  | none => rw [hx] at hy; cases hy
  | some x =>
    rw [hx] at hy
    cases hy
    have hm : x ∈ l := List.mem_of_getElem? hx
    have htk : l.take (i + 1) = l.take i ++ [x] := by rw [List.take_add_one, hx]; rfl
    refine lc_turn (hg x hm) (ht x hm) (hw x hm) (fun e => ⟨?_, rfl⟩) fun e => ?_
    · rw [htk, List.filter_append, List.filter_cons, e, ea]
      simp
    · obtain ⟨r, hr, er⟩ := he x hm e
      refine ⟨r, f x, hr, er, ?_, ?_, rfl⟩
      · rw [ea, List.length_map, sizeLine_eq]
        have h1 := List.length_filter_le cf (l.take i)
        have hb : i < l.length := (List.getElem?_eq_some_iff.mp hx).1
        rw [List.length_take] at h1
        omega
      · rw [htk, List.filter_append, List.filter_cons, e, ea]
        simp
end

end DE

namespace DE
open PySem PySem.Spec PyProof.Rows L2 SZ VR VX StX RT
section
variable {X : Cx} {b : Bs} {ρ : List Sl} {p : Sl → List Sl → Prop} {e e2 : Expr} {pos : Pos}
/-- a list held alone is handed on: the name keeps nothing -/
theorem ev_mov (i : Nat) {ys : List PyData} {x : Str} (hN : X.N[i]? = some x) (hv : Vis X.env.scope x) (hr : ρ[i]? = some (.own ys)) (h : p (.own ys) (ρ.set i .un)) (hd : (x == ("__debug__" : Str)) = false := by decide) (hcd : (x == ("__classdict__" : Str)) = false := by decide) : EV X b ρ (.Name x pos) p := fun σ H L Q l hh q => by
  obtain ⟨a, ha⟩ := slot_ref l hr (.inl rfl) hh
  obtain ⟨M, p1, p2⟩ := set_perm (s' := .un) hr ha
  refine ⟨_, pe_var hN hv hd hcd, .ref a, ha, q _ _ _ H h (by simp [l]) ?_⟩
  have h1 : Hold X.K b H ((some (.ref a), .own ys) :: (M ++ L)) := hh.perm (p1.symm.append_right L)
  have h2 := (h1.un (x := some (.ref a))).perm (L' := (some (.ref a), .own ys) :: ((some (.ref a), .un) :: (M ++ L))) (List.Perm.swap ..)
  exact h2.perm (List.Perm.cons _ (p2.append_right L))
theorem x_retO (i : Nat) {po : Po} {ys : List PyData} {x : Str} {pos' : Pos} (hN : X.N[i]? = some x) (hv : Vis X.env.scope x) (hr : ρ[i]? = some (.own ys)) (h : po.rt (.own ys) (ρ.set i .un)) (hd : (x == ("__debug__" : Str)) = false := by decide) (hcd : (x == ("__classdict__" : Str)) = false := by decide) : XS X b ρ (.Return (some (.Name x pos)) pos') po := xs_ret (ev_mov i hN hv hr (fun _ => h) hd hcd)
end

end DE

namespace DE
open PySem PySem.Spec PyProof.Rows L2 SZ VR VX StX RT
/-! ### a call that knows a part of the heap -/
section
variable {P : Program} {w : World} {G G' H : Hp} {h h' : Heap} {a : Addr} {o : HO}
theorem objok_flat : ∀ {o : HO}, flatO o = true → ObjOk P w H h a o → ObjOk P w G h a o
  | .lst _, _, x => x
  | .tup _, _, x => x
  | .dK _, _, x => x
  | .set _ _, _, x => x
  | .xd _, _, x => x
  | .rng _ _, _, x => x
  | .tbl _, _, x => x
  | .met _ _, _, x => x
  | .ext _, _, x => x
  | .frz _ u, e, x => ⟨x.1, objok_flat (o := u) e x.2⟩
theorem objok_ex {o : HO} (x : ObjOk P w H h a o) : ∃ ob, h.get? a = some ob := by
  cases o with
  | lst _ => exact ⟨_, x.2.choose_spec.choose_spec.2⟩
  | tup _ => obtain ⟨_, _, _, ob, e, _⟩ := x; exact ⟨ob, e⟩
  | dK _ => obtain ⟨_, _, _, _, o, _, _, e, _⟩ := x; exact ⟨o, e⟩
  | dT _ => obtain ⟨_, _, _, _, o, _, _, e, _⟩ := x; exact ⟨o, e⟩
  | set _ _ => obtain ⟨o, _, _, _, e, _⟩ := x; exact ⟨o, e⟩
  | ins _ _ _ => exact ⟨_, x.2.2.2.1⟩
  | own _ => exact x
  | xd _ => obtain ⟨_, ⟨o, _, _, e, _⟩, _⟩ := x; exact ⟨o, e⟩
  | rng _ _ => obtain ⟨_, _, _, e⟩ := x; exact ⟨_, e⟩
  | frz ob _ => exact ⟨ob, x.1⟩
  | tbl _ => exact ⟨_, x⟩
  | met _ _ => exact ⟨_, x⟩
  | ext _ => exact x.2.1
theorem hok_sub (hs : Same G H) (fl : FlO G) (x : HOk P w H h) : HOk P w G h := fun a o e => by
  have ok := x a o (hs a o e)
  rcases fl a o e with ⟨C, dx, fs, rfl, e2⟩ | ⟨y, rfl, _⟩ | hf
  · obtain ⟨_, r⟩ := ok
    exact ⟨e2, r⟩
  · exact ok
  · exact objok_flat hf ok
/-- what is known behind it -/
def uni (G G' H : Hp) : Hp := fun b => match G' b with
  | some o => some o
  | none => if (G b).isSome = true then none else H b
theorem uni_in (e : G' a = some o) : uni G G' H a = some o := by unfold uni; rw [e]
theorem uni_out (e1 : G' a = none) (e2 : G a = none) : uni G G' H a = H a := by unfold uni; rw [e1, e2]; rfl
theorem uni_ok {fs : List Addr} (hs : Same G H) (fl : FlO G) (x : HOk P w H h) (x' : HOk P w G' h') (u : Un fs [] G G' h h') (hf : ∀ b ∈ fs, H b = none) : HOk P w (uni G G' H) h' ∧ Un fs [] H (uni G G' H) h h' ∧ Same G' (uni G G' H) ∧ (∀ b o, H b = some o → G b = none → uni G G' H b = some o) ∧ ∀ b o, G' b = some o → (G b).isSome = true ∨ H b = none := by
  have ex : ∀ {b o}, H b = some o → ∃ ob, h.get? b = some ob := fun {b o} e => objok_ex (x b o e)
  have out : ∀ {b o}, H b = some o → G b = none → G' b = none := fun {b o} e n => by
    obtain ⟨ob, eo⟩ := ex e
    exact u.free b ob eo n (by simp)
  have keepU : ∀ b o, H b = some o → G b = none → uni G G' H b = some o := fun b o e n => by rw [uni_out (out e n) n]; exact e
  have gnone : ∀ {b}, H b = none → G b = none := fun {b} e => by
    cases q : G b with
    | none => rfl
    | some o => rw [hs b o q] at e; cases e
  have tup : ∀ b xs, H b = some (.tup xs) → uni G G' H b = some (.tup xs) := fun b xs e => by
    cases q : G b with
    | none => exact keepU b _ e q
    | some o =>
      have := hs b o q
      rw [e] at this
      cases this
      exact uni_in (u.tups b xs q)
  refine ⟨fun b o e => ?_, ⟨fun b ob q n hb hx => u.keep b ob q (gnone n) hb hx, fun b ob q n hb hx => u.slot b ob q (gnone n) hb hx, fun b ob q n hx => ?_, u.there, tup, fun b ob v e => ?_, fun b ps e => ?_⟩, fun b o e => uni_in e, keepU, fun b o e => ?_⟩
  · cases q : G' b with
    | some o' =>
      rw [uni_in q] at e
      cases e
      exact (x' b o q).stay (fun _ _ _ z => z) (fun c z => uni_in z) fun c xs z => uni_in z
    | none =>
      have n : G b = none := by
        cases r : G b with
        | none => rfl
        | some o' => unfold uni at e; rw [q, r] at e; simp at e
      rw [uni_out q n] at e
      have nb : b ∉ fs := fun z => by rw [hf b z] at e; cases e
      have own : ∀ c, H c = some (.own b) → G c = none := fun c ec => by
        cases r : G c with
        | none => rfl
        | some o' =>
          have := hs c o' r
          rw [ec] at this
          cases this
          rcases fl c _ r with ⟨_, _, _, z, _⟩ | ⟨y, z, k⟩ | z
          · cases z
          · cases z; rw [n] at k; cases k
          · cases z
      refine (x b o e).stay (fun c v hc z => ?_) (fun c ec => keepU c _ ec (own c ec)) tup
      rcases hc with rfl | hc
      · exact u.keep c v z n nb (by simp)
      · exact u.keep c v z (own c hc) (fun zz => by rw [hf c zz] at hc; cases hc) (by simp)
  · rw [uni_out (u.free b ob q (gnone n) hx) (gnone n)]
    exact n
  · cases q : G b with
    | none => exact keepU b _ e q
    | some o =>
      have := hs b o q
      rw [e] at this
      cases this
      exact uni_in (u.frzs b ob v q)
  · cases q : G b with
    | none => exact ⟨#[], by rw [keepU b _ e q]; simp⟩
    | some o =>
      have := hs b o q
      rw [e] at this
      cases this
      obtain ⟨more, z⟩ := u.tbls b ps q
      exact ⟨more, uni_in z⟩
  · cases q : H b with
    | none => exact .inr rfl
    | some v =>
      cases r : G b with
      | some _ => exact .inl rfl
      | none => rw [out q r] at e; cases e
end
section
variable {P : Program} {w : World} {K : PySem.W.Frag} {mg : Str → Option Value} {base : Heap} {k : Nat} {f : Addr} {fd : FuncData} {ps : List Str} {sp : Sp}
/-- sp, asked of a part G of the heap; the rest stays -/
def frm (sp : Sp) : Sp := fun vs H Q E => ∃ G : Hp, Same G H ∧ FlO G ∧ sp vs G (fun v G' => ∀ H', Same G' H' → (∀ b o, H b = some o → G b = none → H' b = some o) → (∀ b o, G' b = some o → (G b).isSome = true ∨ H b = none) → Q v H') E
theorem frm_run {A : Around} {outer : List Env} {s : Shared} {H : Hp} {args : Args} {vs : List V} {Q : VK} {E : XK} (run : ∀ (H : Hp) (Q : VK), Env0 P w K mg base A outer s H → sp vs H Q E → codeAny (model P w) A (.call (.ref f) args) (CR CX0 outer P w H s Q E) s)
    (e0 : Env0 P w K mg base A outer s H) (h : frm sp vs H Q E) : codeAny (model P w) A (.call (.ref f) args) (CR CX0 outer P w H s Q E) s := by
  obtain ⟨G, hs, fl, h⟩ := h
  have gn : ∀ {b}, H b = none → G b = none := fun {b} e => hs.free e
  refine codeAny_mono (run G _ ⟨e0.frames, e0.mod, fun b o e => ⟨(e0.bs b o e).1, gn (e0.bs b o e).2⟩, e0.bsz, e0.funs, fun b hb => gn (e0.frf b hb), hok_sub hs fl e0.hok, e0.bare⟩ h) fun r s' hr => ?_
  match r, hr with
  | .ok (.ret u), ⟨v, G', os, bare, un, hok, rv, q⟩ =>
    obtain ⟨h1, h2, h3, h4, h5⟩ := uni_ok hs fl e0.hok hok un e0.frf
    exact ⟨v, uni G G' H, os, bare, h2, h1, rv, q _ h3 h4 h5⟩
  | .ok .next, hr => exact hr.elim
  | .ok .brk, hr => exact hr.elim
  | .ok .cont, hr => exact hr.elim
  | .error e, hr => exact hr.elim
theorem _root_.VX.RunG.frm (F : RunG P w K mg base CX0 k f fd ps sp) : RunG P w K mg base CX0 k f fd ps (DE.frm sp) :=
  fun A outer s H args us vs Q E hg hr e0 hb hv h => frm_run (fun H Q e1 h1 => F A outer s H args us vs Q E hg hr e1 hb hv h1) e0 h
theorem _root_.VX.RunG.imp {CX : CXT} {sp' : Sp} (F : RunG P w K mg base CX k f fd ps sp) (h : ∀ vs H Q E, sp' vs H Q E → sp vs H Q E) : RunG P w K mg base CX k f fd ps sp' :=
  fun A outer s H args us vs Q E hg hr e0 hb hv hh => F A outer s H args us vs Q E hg hr e0 hb hv (h _ _ _ _ hh)
/-- what is new and leans on nothing -/
def flt (G G' : Hp) : Hp := fun b => match G b with
  | some o => some o
  | none => match G' b with
    | some o => if flatO o = true then some o else none
    | none => none
theorem flt_same {G G' : Hp} : Same G (flt G G') := fun b o e => by unfold flt; rw [e]
theorem flt_up {G G' : Hp} (s : Same G G') : Same (flt G G') G' := fun b o e => by
  unfold flt at e
  cases q : G b with
  | some u => rw [q] at e; cases e; exact s b _ q
  | none =>
    rw [q] at e
    cases r : G' b with
    | none => rw [r] at e; cases e
    | some u =>
      rw [r] at e
      by_cases hf : flatO u = true
      · simp [hf] at e; rw [e]
      · simp [hf] at e
theorem flt_fl {G G' : Hp} (f : FlO G) : FlO (flt G G') := fun b o e => by
  cases q : G b with
  | some u =>
    have : flt G G' b = some u := flt_same b u q
    rw [this] at e
    cases e
    rcases f b _ q with ⟨C, dx, fs, e1, e2⟩ | ⟨x, e1, e2⟩ | h
    · exact .inl ⟨C, dx, fs, e1, flt_same _ _ e2⟩
    · refine .inr (.inl ⟨x, e1, ?_⟩)
      cases r : G x with
      | none => rw [r] at e2; cases e2
      | some o => rw [flt_same _ _ r]; rfl
    · exact .inr (.inr h)
  | none =>
    unfold flt at e
    rw [q] at e
    cases r : G' b with
    | none => rw [r] at e; cases e
    | some u =>
      rw [r] at e
      by_cases hf : flatO u = true
      · simp [hf] at e; subst e; exact .inr (.inr hf)
      · simp [hf] at e
theorem flt_in {G G' : Hp} (s : Same G G') {b : Addr} {o : HO} (e : G' b = some o) (hf : flatO o = true) : flt G G' b = some o := by
  unfold flt
  cases q : G b with
  | some u =>
    have := s b u q
    rw [e] at this
    cases this
    rfl
  | none => rw [e]; simp [hf]
theorem flt_rd {G G' : Hp} (s : Same G G') {a : Addr} {u : HO} (h : Rd G' a u) (hf : flatO u = true) : Rd (flt G G') a u := by
  rcases h with h | ⟨o, h⟩
  · exact .inl (flt_in s h hf)
  · exact .inr ⟨o, flt_in s h hf⟩
mutual
theorem flt_dp {G G' : Hp} (s : Same G G') : ∀ {v : V} {y : PyData}, Dp K G' v y → Dp K (flt G G') v y
  | _, _, .non => .non
  | _, _, .bl b => .bl b
  | _, _, .int i => .int i
  | _, _, .str x => .str x
  | _, _, .lst h1 h2 => .lst (h1.imp (fun z => flt_rd s z rfl) id) (flt_dpA s h2)
  | _, _, .tup h1 h2 => .tup (h1.imp (fun z => flt_rd s z rfl) id) (flt_dpA s h2)
theorem flt_dpA {G G' : Hp} (s : Same G G') : ∀ {vs : List V} {ys : List PyData}, DpAll K G' vs ys → DpAll K (flt G G') vs ys
  | _, _, .nil => .nil
  | _, _, .cons h1 h2 => .cons (flt_dp s h1) (flt_dpA s h2)
end
/-- behind a call of the elder kind that hands back data -/
theorem HoldG.oldD {b : Bs} {G G' H H' : Hp} {v : V} {y : PyData} {L : List Cl} (h : HoldG K b G H L) (s : Same G G') (d : Dp K G' v y) (h1 : Same G' H') (h2 : ∀ b o, H b = some o → G b = none → H' b = some o) (h3 : ∀ b o, G' b = some o → (G b).isSome = true ∨ H b = none) : Hold K ⟨G, H, []⟩ H' [(some v, .d y)] :=
  ⟨flt G G', flt_same, (flt_up s).trans h1, fun a o e => (h3 a o (flt_up s a o e)).imp (fun z => by
      cases q : G a with
      | none => rw [q] at z; cases z
      | some o' => rw [flt_same a o' q] at e; cases e; exact q) id, fun a o e _ => by
      cases q : G a with
      | none => exact h2 a o e q
      | some o' =>
        have e1 := h.up a o' q
        have e2 : H a = some o := e
        rw [e2] at e1
        cases e1
        exact h1 a o (s a o q), fun a ha => (nomatch ha), fun c hc => by
      rw [List.mem_singleton.mp hc]
      exact ⟨v, rfl, flt_dp s d⟩, by cases v <;> simp [ads], flt_fl h.fl⟩
end

end DE

namespace DE
open PySem PySem.Spec PyProof.Rows L2 SZ VR VX StX RT
/-! ### words of the elder kind; defs that show; menus -/
section
variable {K : PySem.W.Frag} {b : Bs} {G H H' : Hp} {L : List Cl}
end
section
variable {X : Cx} {b : Bs} {ρ : List Sl} {e e1 e2 : Expr} {es : List Expr} {r : Sl} {c : Bool} {pos : Pos}
theorem r_cool {ys : List PyData} (h : EVr X b ρ e (.own ys)) : EVr X b ρ e (.d (.list ys)) := fun _ k σ H L Q l hh q =>
  h (fun r ρ' => r = .own ys ∧ ρ' = ρ) ⟨rfl, rfl⟩ σ H L Q l hh fun r ρ' v H' ⟨e1, e2⟩ l' hh' => by
    subst e1 e2
    exact q _ ρ' v H' k l' hh'.cool
theorem ev_cool {p : Sl → List Sl → Prop} (h : EV X b ρ e fun r ρ' => p (cool r) ρ') : EV X b ρ e p := fun σ H L Q l hh q =>
  h σ H L Q l hh fun r ρ' v H' k l' hh' => q _ ρ' v H' k l' hh'.cool
/-- a list at hand and a drawn place -/
theorem ev_menu {ys : List PyData} {p : Sl → List Sl → Prop} (h1 : EVr X b ρ e1 r) (er : cool r = .d (.list ys) ∨ cool r = .d (.tuple ys)) (h2 : EV X b ρ e2 fun r2 ρ' => ∃ i : Int, r2 = .d (.int i) ∧ 0 ≤ i ∧ i < ys.length ∧ ∀ y, ys[i.toNat]? = some y → p (.d y) ρ') (hs : PlainIx e2 := by intro _ _; rfl) : EV X b ρ (.Subscript e1 e2 pos) p :=
  ev_ix hs (h1 _ (h2.imp fun r2 ρ' ⟨i, e, i0, i1, k⟩ => by
    subst e
    have hl : i.toNat < ys.length := by omega
    have hy : ys[i.toNat]? = some ys[i.toNat] := List.getElem?_eq_getElem hl
    refine ir_at er ?_ _ (k _ hy)
    unfold atI
    have : ixN ys.length i = some i.toNat := by
      have := ixN_nat (k := i.toNat) hl
      rwa [Int.toNat_of_nonneg i0] at this
    rw [this]
    exact hy))
end
section
variable {P : Program} {w : World} {K : PySem.W.Frag} {mg : Str → Option Value} {base : Heap}
theorem fn_PG {x qual : Str} {st : Stmt} {f : Addr} {fd : FuncData} {N ps : List Str} {k : Nat} {Pre : List Sl → Prop} {Res : List Sl → Sl → Prop} (F : Fun K x qual st f fd) (S : FnScope N ps (defScope st)) (len : ∀ as, Pre as → as.length = ps.length) (hN : ps.length ≤ N.length)
    (h : ∀ (cdv : Value) (A : Around) (outer : List Env) (s : Shared) (H : Hp) (E : XK), A.guards = some [] → Room k (A.deeper (envOfC qual (defScope st) s.heap.objs.size f cdv)) → ∀ (b : Bs) (as : List Sl), Pre as → XB (cxOf CX0 P w K mg base N qual (defScope st) f cdv A outer s H E).nox b (as ++ List.replicate (N.length - as.length) .un) (defBody st)
      ⟨fun _ => Res as (.d .none), fun r _ => Res as r ∧ ∀ ys, r ≠ .bor ys, fun _ => False, fun _ => False⟩) : RunG P w K mg base CX0 (k + 1) f fd ps (spP K Pre Res) := by
  refine okG F S (fun vs H Q E z => ?_) (fun cdv A outer s H vs Q E hg hr z => ?_)
  · obtain ⟨G, as, l, _, hp, _⟩ := z
    exact l.trans (len as hp)
  · obtain ⟨G, as, l, hG, hp, q⟩ := z
    obtain ⟨t, ht, hq⟩ := h cdv A outer s H E hg hr ⟨G, H, []⟩ as hp (L2.start N vs) H [] { nx := fun _ H' => Q .non H', rt := Q } (by unfold L2.start; have := len as hp; simp [l])
      (by rw [List.append_nil, zip_start l]; exact hold_start _ ⟨G, hG⟩)
      ⟨fun ρ' σ' H' hn l' n' hh => q (.d .none) hn (by simp) .non H' (hh.dropL (M := σ'.zip ρ') (L := []) |>.non), fun r ρ' v σ' H' hn l' n' hh => q r hn.1 hn.2 v H' ((hh.perm (L' := σ'.zip ρ' ++ [(some v, r)]) (by rw [List.append_nil]; exact List.perm_append_singleton _ _)).dropL), fun _ _ _ z => z.elim, fun _ _ _ z => z.elim⟩
    exact ⟨t, ht, hq⟩
end

end DE

namespace DE
open PySem PySem.Spec PyProof.Rows L2 SZ VR VX StX RT
/-! ### lists joined, also lists that stay -/
section
open Builtin
theorem add_lists (l : Addr) (xs : Array Value) (n : Nat) (t : Array (Option Value)) (b : Addr) (ys : Array Value) (m : Nat) (u : Array (Option Value)) (hc0 : xs.size + ys.size ≤ sizeLine) :
    Meets (Builtin.«list.__add__» ⟨[.ref l, .ref b], []⟩) (fun _ R s =>
      (s.heap.get? l = some ⟨.type "list", none, .seq xs n, t⟩ ∧ s.heap.get? b = some ⟨.type "list", none, .seq ys m, u⟩) ∧
        R (.ok (.ret (Value.ref s.heap.objs.size))) { s with heap := s.heap.push { cls := Value.type "list", data := Data.seq (xs ++ ys) }, toks := s.toks }) :=
  .of_wp fun prog w A R s h => by
    obtain ⟨hp, g, d, tk, os⟩ := s
    obtain ⟨⟨hl, hb⟩, h⟩ := h
    have f1 := PySem.AutoSeq1.idx_int
    have f3 := PySem.AutoSeq1.sub_list_list
    have f2 := PySem.AutoSeq1.sub_tuple_tuple
    have f4 := PySem.AutoSeq1.sub_tuple_list
    have f5 := PySem.AutoSeq1.sub_list_tuple
    wp_walk using PySem.AutoSeq1.wpAny_loadPart' hl, PySem.AutoSeq1.wpAny_loadPart' hb
    exact ⟨_, rfl, h⟩
end
theorem op_catS {X : Cx} : OpR X (binaryOp .Add) (fun x y H Q => ∃ a b xs zs, x = .ref a ∧ y = .ref b ∧ SqL X.K H a xs ∧ SqL X.K H b zs ∧ xs.length + zs.length ≤ sizeLine ∧ ∀ p, H p = none → Q (.ref p) (upd H p (.lst (xs ++ zs)))) := by
  intro pins s σ H x y v u Q I rx ry h
  obtain ⟨l, b, xs, zs, rfl, rfl, hH, hB, hz, q⟩ := h
  cases rx
  cases ry
  obtain ⟨its, r, ⟨o, n, e, c1, c2, c3⟩, z⟩ := I.list hH
  obtain ⟨its2, r2, ⟨o2, n2, e2, d1, d2, d3⟩, z2⟩ := I.list hB
  obtain ⟨cls, dict, data, slots⟩ := o
  obtain ⟨cls2, dict2, data2, slots2⟩ := o2
  simp only at c1 c2 c3 d1 d2 d3
  subst c1 c2 c3 d1 d2 d3
  have l1 := r.length
  have l2 := r2.length
  have ea : its.toArray ++ its2.toArray = (its ++ its2).toArray := by simp
  refine concat_meets ⟨_, e, rfl⟩ ⟨_, e2, rfl⟩ noFill_list_add seq_list_add F.slot_list_add F.entry_list_add (F.args_list_add_2 _ _) (add_lists l its.toArray n slots b its2.toArray n2 slots2 (by rw [List.size_toArray, List.size_toArray]; omega)) ⟨⟨e, e2⟩, ?_⟩
  rw [ea]
  exact ⟨.ref _, _, I.lnew (t' := s.toks) (r.append r2) (by rw [List.length_append]; omega), rfl, q _ I.fresh⟩
section
variable {X : Cx} {b : Bs} {r1 r2 : Sl} {xs ys : List PyData}
theorem or_catS (e1 : cool r1 = .d (.list xs)) (e2 : cool r2 = .d (.list ys)) (hz : xs.length + ys.length ≤ sizeLine) : OVr X b (binaryOp .Add) r1 r2 (.own (xs ++ ys)) := fun p h => OV.cool (by
  rw [e1, e2]
  refine ⟨_, op_catS, fun v1 v2 H L Q hh k => ?_⟩
  obtain ⟨G, hg⟩ := hh
  obtain ⟨_, f1, d1⟩ := hg.ok (some v1, .d (.list xs)) List.mem_cons_self
  obtain ⟨_, f2, d2⟩ := hg.ok (some v2, .d (.list ys)) (List.mem_cons_of_mem _ List.mem_cons_self)
  cases f1
  cases f2
  cases d1 with
  | @lst a us _ s1 t1 =>
    cases d2 with
    | @lst c ws _ s2 t2 =>
      exact ⟨a, c, us, ws, rfl, rfl, hg.up.seq s1, hg.up.seq s2, by rw [DpAll.len t1, DpAll.len t2]; exact hz, fun q hq => k _ _ _ h ⟨G, hg.drop.drop.newL hq (DpAll.app t1 t2)⟩⟩)
end

end DE

namespace DE
open PySem PySem.Spec PyProof.Rows L2 SZ VR VX StX RT
/-! ### written parts of a text -/
section
variable {X : Cx} {b : Bs} {ρ : List Sl} {e : Expr} {es : List Expr} {pos : Pos}
end
/-! ### reversed(range(n)) -/
section
variable {X : Cx} {b : Bs} {ρ : List Sl} {tg : Expr}
end

end DE

namespace DE
open PySem PySem.Spec PyProof.Rows L2 SZ VR VX StX RT
/-! ### data that is flat, numerals -/
theorem eqv_nilL {ys : List PyData} : PyData.eqv (.list ys) (.list []) = ys.isEmpty := by
  cases ys <;> simp [PyData.eqv, PyData.eqvAll]
theorem eqv_nilT {ys : List PyData} : PyData.eqv (.tuple ys) (.tuple []) = ys.isEmpty := by
  cases ys <;> simp [PyData.eqv, PyData.eqvAll]
theorem layA : ∀ {ys : List PyData}, (∀ y ∈ ys, y.canLay0 = true) → PyData.canLayAll0 ys = true
  | [], _ => rfl
  | y :: ys, h => by
    unfold PyData.canLayAll0
    rw [h y List.mem_cons_self, layA fun z hz => h z (List.mem_cons_of_mem _ hz)]
    rfl
theorem depthA : ∀ {ys : List PyData} {n : Nat}, (∀ y ∈ ys, y.depth ≤ n) → PyData.depthAll ys ≤ n
  | [], _, _ => by simp [PyData.depthAll]
  | y :: ys, n, h => by
    unfold PyData.depthAll
    exact Nat.max_le.mpr ⟨h y List.mem_cons_self, depthA fun z hz => h z (List.mem_cons_of_mem _ hz)⟩
/-- what may be laid out, n deep -/
def Lay (n : Nat) (y : PyData) : Prop := y.canLay0 = true ∧ y.depth ≤ n
theorem Lay.mono {n m : Nat} {y : PyData} (h : Lay n y) (k : n ≤ m) : Lay m y := ⟨h.1, Nat.le_trans h.2 k⟩
theorem Lay.lst {n : Nat} {ys : List PyData} (h : ∀ y ∈ ys, Lay n y) : Lay (n + 1) (.list ys) := by
  have h1 := layA fun y hy => (h y hy).1
  have h2 := depthA fun y hy => (h y hy).2
  refine ⟨by simpa only [PyData.canLay0] using h1, ?_⟩
  simp only [PyData.depth]
  omega
theorem Lay.tup {n : Nat} {ys : List PyData} (h : ∀ y ∈ ys, Lay n y) : Lay (n + 1) (.tuple ys) := by
  have h1 := layA fun y hy => (h y hy).1
  have h2 := depthA fun y hy => (h y hy).2
  refine ⟨by simpa only [PyData.canLay0] using h1, ?_⟩
  simp only [PyData.depth]
  omega
theorem Lay.str {z : Str} (h : PyData.strOk z = true) : Lay 0 (.str z) := ⟨h, Nat.le_refl _⟩
theorem Lay.int {i : Int} : Lay 0 (.int i) := ⟨rfl, Nat.le_refl _⟩
theorem Lay.shaped {n : Nat} {y : PyData} (h : Lay n y) (hn : n ≤ 64) : SeqAt.shaped y = true := by
  unfold SeqAt.shaped
  rw [h.1, decide_eq_true (Nat.le_trans h.2 hn)]
  rfl
theorem ofS (s : String) : Str.ofString s = ⟨(s.toList.map Char.toNat).toArray⟩ := congrFun Str.ofString_eq_byList s
theorem ofS_len (s : String) : (Str.ofString s).length = s.length := by
  rw [ofS]
  show (s.toList.map Char.toNat).toArray.size = s.length
  rw [List.size_toArray, List.length_map, String.length_toList]
theorem num_len {n : Int} (h0 : 0 ≤ n) {k : Nat} (hk : 0 < k) (h1 : n < 10 ^ k) : (Str.ofString (toString n)).length ≤ k := by
  rw [ofS_len]
  obtain ⟨m, rfl⟩ : ∃ m : Nat, n = m := ⟨n.toNat, (Int.toNat_of_nonneg h0).symm⟩
  have hm : m < 10 ^ k := by exact_mod_cast h1
  exact (Nat.length_repr_le_iff hk).mpr hm

end DE

/-! the words that the walks below find by themselves -/
local macro_rules | `(tactic| walk_at "v") => `(tactic| first | exact Or.inl rfl | exact Or.inr (Or.inl rfl) | exact Or.inr (Or.inr rfl))
local macro_rules | `(tactic| walk_at "o") => `(tactic| first
  | (refine fun _ h => DE.ov_eqInt h) | (refine fun _ h => DE.ov_eqStr h) | (refine fun _ h => DE.ov_add h) | (refine fun _ h => DE.ov_sub h) | (refine fun _ h => DE.ov_mod (by decide) h) | (refine fun _ h => DE.ov_lt h) | (refine fun _ h => DE.ov_le h) | (refine fun _ h => DE.ov_gt h) | (refine fun _ h => DE.ov_ge h)
  | (refine fun _ h => DE.ov_neInt h) | (refine fun _ h => DE.ov_neStr h) | (refine fun _ h => DE.ov_isN h) | (refine fun _ h => DE.ov_notN h)
  | exact DE.or_inS (.inl rfl) rfl | exact DE.or_inS (.inr rfl) rfl | exact DE.or_inI (.inl rfl) rfl | exact DE.or_inI (.inr rfl) rfl | exact DE.or_notInS (.inl rfl) rfl | exact DE.or_notInS (.inr rfl) rfl | exact DE.or_notInC | exact DE.or_inC
  | (refine fun _ h => DE.ov_mul (by first | exact .inl ⟨by omega, by omega⟩ | exact .inr ⟨by omega, by omega⟩) h))
local macro_rules | `(tactic| walk_at "c") => `(tactic| first
  | (refine fun _ h => DE.cv_int h) | (refine fun _ h => DE.cv_intB h) | (refine fun _ h => DE.cv_lenT h) | (refine fun _ h => DE.cv_lenL h) | (refine fun _ h => DE.cv_lenO h))

namespace K08
open PySem L2 SZ VR VX StX RT DE
/-! ### show: sums -/
def termT (n : Int) (ws : List Str) : Str := if n = 1 ∧ ws ≠ [] then Txt.join (Str.ofString "*") ws else Txt.join (Str.ofString "*") (Str.ofString (toString n) :: ws)
theorem big_log {n : Int} (h0 : 0 ≤ n) (h1 : n < 10 ^ 200) : n.natAbs.log2 < 1920 := by
  by_cases h : n.natAbs = 0
  · rw [h]; decide
  · rw [Nat.log2_lt h]
    have h2 : n.natAbs < 10 ^ 200 := by omega
    exact Nat.lt_trans h2 (by decide +kernel)
theorem sum_leN {N : Nat} : ∀ {ws : List Str}, (∀ z ∈ ws, z.length ≤ N) → (ws.map (·.length)).sum ≤ N * ws.length
  | [], _ => by simp
  | z :: r, h => by
    have h1 := h z List.mem_cons_self
    have h2 := sum_leN fun x hx => h x (List.mem_cons_of_mem z hx)
    rw [List.map_cons, List.sum_cons, List.length_cons, Nat.mul_succ]
    omega
section
variable {X : Cx} {b : Bs}
theorem cr_abs {i : Int} : CVr X b (.builtin "abs") [.d (.int i)] (.d (.int (if i < 0 then -i else i))) := fun _ h => ⟨_, call_abs, fun vs H L Q lv hh k => by
  obtain ⟨v, rfl⟩ := one_in (rs := [.d (.int i)]) (r := .d (.int i)) lv
  have ev := hh.isI
  subst ev
  exact ⟨i, rfl, k _ _ _ h (hh.drop.int _)⟩⟩
end
section
variable {P : Program} {w : World} {K : PySem.W.Frag} {mg : Str → Option Value} {base : Heap}
end

end K08

namespace K08
open PySem L2 SZ VR VX StX RT DE
theorem joinL_len (sp : List Nat) : ∀ L : List (List Nat), (TL.joinL sp L).length ≤ (L.map List.length).sum + L.length * sp.length
  | [] => by simp [TL.joinL]
  | [p] => by simp [TL.joinL]
  | p :: q :: r => by
    have ih := joinL_len sp (q :: r)
    show (p ++ (sp ++ TL.joinL sp (q :: r))).length ≤ _
    rw [List.length_append, List.length_append, List.map_cons, List.sum_cons, List.length_cons, Nat.succ_mul]
    omega
theorem join_len (a : Str) (ws : List Str) : (Txt.join a ws).length ≤ (ws.map (·.length)).sum + ws.length * a.length := by
  have e : ∀ z : Str, z = SX.S z.cps.toList := fun z => rfl
  have e1 : ws = (ws.map fun z => z.cps.toList).map SX.S := by
    rw [List.map_map]
    conv => lhs; rw [← List.map_id ws]
    rfl
  have h := SX.join_S a.cps.toList (ws.map fun z => z.cps.toList)
  rw [← e1, ← e a] at h
  rw [h]
  have hl := joinL_len a.cps.toList (ws.map fun z => z.cps.toList)
  have e2 : (SX.S (TL.joinL a.cps.toList (ws.map fun z => z.cps.toList))).length = (TL.joinL a.cps.toList (ws.map fun z => z.cps.toList)).length := by
    show (TL.joinL a.cps.toList (ws.map fun z => z.cps.toList)).toArray.size = _
    rw [List.size_toArray]
  have e3 : (ws.map fun z => z.cps.toList).map List.length = ws.map (·.length) := by
    rw [List.map_map]
    refine List.map_congr_left fun z _ => ?_
    show z.cps.toList.length = z.cps.size
    exact Array.length_toList
  have e4 : a.cps.toList.length = a.length := Array.length_toList
  rw [e2]
  rw [e3, e4, List.length_map] at hl
  exact hl
abbrev Tm := Int × List Str
def absI (n : Int) : Int := if n < 0 then -n else n
def sgnT (acc : Str) (n : Int) : Str := if acc = "" then (if n < 0 then "-" else "") else (if n < 0 then " - " else " + ")
def stepT (acc : Str) (t : Tm) : Str := (acc ++ sgnT acc t.1) ++ termT (absI t.1) t.2
def rawT (ts : List Tm) : Str := ts.foldl stepT ""
def sumT (ts : List Tm) : Str := if rawT ts = "" then "0" else rawT ts
theorem sgn_len {acc : Str} {n : Int} : (sgnT acc n).length ≤ 3 := by
  unfold sgnT
  split
  · split <;> decide +kernel
  · split <;> decide +kernel
theorem raw_snoc (ts : List Tm) (t : Tm) : rawT (ts ++ [t]) = stepT (rawT ts) t := by
  unfold rawT
  rw [List.foldl_append]
  rfl
section
variable {P : Program} {w : World} {K : PySem.W.Frag} {mg : Str → Option Value} {base : Heap}
end

end K08

namespace K08
open PySem L2 SZ VR VX StX RT DE
/-! ### words of a sum, and what the reader makes of them -/
open TL (numL numL_digits numL_ne numL_val numL_len numL_lt numL_step tl_num)
end K08

namespace K08
open PySem L2 SZ VR VX StX RT DE
/-! ### what a sum adds up to -/
abbrev T3 := Int × Nat × List Nat
theorem get_trim : ∀ (xs : List Int) (i : Nat), (trim xs).getD i 0 = xs.getD i 0
  | [], i => rfl
  | x :: r, i => by
    have ih := get_trim r
    simp only [trim]
    cases e : trim r with
    | nil =>
      rw [e] at ih
      dsimp only
      by_cases h : x = 0
      · rw [if_pos h]
        cases i with
        | zero => simp [h]
        | succ i => simpa using ih i
      · rw [if_neg h]
        cases i with
        | zero => rfl
        | succ i => simpa using ih i
    | cons y ys =>
      rw [e] at ih
      cases i with
      | zero => rfl
      | succ i => simpa using ih i
theorem trim_last {b : List Int} (h : trim b = b) (hb : b ≠ []) : b.getD (b.length - 1) 0 ≠ 0 := by
  intro z
  have e := List.dropLast_concat_getLast hb
  have el : b.getLast hb = 0 := by
    rw [List.getLast_eq_getElem]
    rw [List.getD_eq_getElem?_getD, List.getElem?_eq_getElem (by have := List.length_pos_iff.mpr hb; omega)] at z
    exact z
  rw [el] at e
  rw [← e, trim_app0] at h
  have h1 := trim_len b.dropLast
  rw [h] at h1
  rw [List.length_append] at h1
  simp at h1
  omega
theorem trimmed_ext {a b : List Int} (ha : trim a = a) (hb : trim b = b) (h : ∀ i, a.getD i 0 = b.getD i 0) : a = b := by
  refine ext_getD ?_ h
  refine Nat.le_antisymm (Nat.le_of_not_lt fun l => ?_) (Nat.le_of_not_lt fun l => ?_)
  · refine trim_last ha (fun z => by rw [z] at l; simp at l) ?_
    rw [h, getD_of_ge (by omega)]
  · refine trim_last hb (fun z => by rw [z] at l; simp at l) ?_
    rw [← h, getD_of_ge (by omega)]
/-- two lists of texts in order are one where they hold the same -/
theorem rising_pw : ∀ (p : Str) (l : List Str), PyProof.Rows.risingS p l = true → (p :: l).Pairwise (fun a b => a.cps.toList ≤ b.cps.toList)
  | p, [], _ => List.pairwise_singleton _ _
  | p, x :: r, h => by
    have h : (!PySem.Spec.ltCps x.cps.toList p.cps.toList && PyProof.Rows.risingS x r) = true := h
    rw [Bool.and_eq_true, Bool.not_eq_true', PyProof.Rows.ltCps_eq, decide_eq_false_iff_not, List.not_lt] at h
    have ih := rising_pw x r h.2
    refine List.pairwise_cons.mpr ⟨fun y hy => ?_, ih⟩
    rcases List.mem_cons.mp hy with rfl | hy
    · exact h.1
    · exact List.le_trans h.1 (List.rel_of_pairwise_cons ih hy)
theorem sorted_pw : ∀ {l : List Str}, PyProof.Rows.sortedS l = true → l.Pairwise (fun a b => a.cps.toList ≤ b.cps.toList)
  | [], _ => List.Pairwise.nil
  | p :: l, h => rising_pw p l h
theorem str_cps {a b : Str} (h : a.cps.toList = b.cps.toList) : a = b := by
  have e1 : a = ⟨a.cps.toList.toArray⟩ := rfl
  have e2 : b = ⟨b.cps.toList.toArray⟩ := rfl
  rw [e1, e2, h]
end K08

namespace K08
open PySem L2 SZ VR VX StX RT DE
def oneT (ps : List Int) (cs : List Str) (i : Nat) : Option Tm := if ps.getD (ps.length - 1 - i) 0 ≠ 0 then some (ps.getD (ps.length - 1 - i) 0, List.replicate (ps.length - 1 - i) ("n" : Str) ++ cs) else none
def termsT (ps : List Int) (cs : List Str) : List Tm := (List.range ps.length).filterMap (oneT ps cs)
def PsOk (ps : List Int) : Prop := ps.length ≤ 8 ∧ ∀ p ∈ ps, -(10 ^ 200) < p ∧ p < 10 ^ 200
theorem atNat {α : Type} {xs : List α} {j : Nat} {x : α} (h : xs[j]? = some x) : atI xs (j : Int) = some x := by
  have hl : j < xs.length := (List.getElem?_eq_some_iff.mp h).1
  unfold atI
  rw [ixN_nat hl]
  exact h
section
variable {P : Program} {w : World} {K : PySem.W.Frag} {mg : Str → Option Value} {base : Heap}
end

end K08

namespace K08
open PySem L2 SZ VR VX StX RT DE
abbrev Fc := Str × List Int
def fcD (f : Fc) : PyData := .tuple [.str f.1, .tuple (f.2.map .int)]
def idxD (ps : List Int) (fs : List Fc) : PyData := .tuple [.tuple (ps.map .int), .tuple (fs.map fcD)]
def FsOk (fs : List Fc) : Prop := fs.length ≤ 5 ∧ ∀ f ∈ fs, PsOk f.2 ∧ f.1.length ≤ 100 ∧ PyData.strOk f.1 = true
def facTs (fs : List Fc) : List Tm := fs.flatMap fun f => termsT f.2 [f.1]
def idxTs (ps : List Int) (fs : List Fc) : List Tm := facTs fs ++ termsT ps []
theorem ints_inj : ∀ {a b : List Int}, a.map PyData.int = b.map PyData.int → a = b
  | [], [], _ => rfl
  | [], y :: b, h => by cases h
  | x :: a, [], h => by cases h
  | x :: a, y :: b, h => by
    rw [List.map_cons, List.map_cons] at h
    injection h with h1 h2
    injection h1 with h1
    rw [h1, ints_inj h2]
section
variable {P : Program} {w : World} {K : PySem.W.Frag} {mg : Str → Option Value} {base : Heap}
end

end K08

namespace DE
open PySem PySem.Spec PyProof.Rows L2 SZ VR VX StX RT
theorem cutA_to {α : Type} (xs : List α) (i : Nat) : (xs.drop (HT.sIx xs.length 0 none)).take (HT.sIx xs.length xs.length (some (i : Int)) - HT.sIx xs.length 0 none) = xs.take i := by
  rw [HT.sIx_nat, HT.sIx_none, List.drop_zero, Nat.sub_zero, List.take_eq_take_iff]
  omega
theorem cutA_from {α : Type} (xs : List α) (i : Nat) : (xs.drop (HT.sIx xs.length 0 (some (i : Int)))).take (HT.sIx xs.length xs.length none - HT.sIx xs.length 0 (some (i : Int))) = xs.drop i := by
  rw [HT.sIx_nat, HT.sIx_none]
  by_cases h : i ≤ xs.length
  · rw [Nat.min_eq_left h, List.take_of_length_le (by rw [List.length_drop]; omega)]
  · rw [Nat.min_eq_right (by omega), List.drop_length, List.take_nil, List.drop_eq_nil_of_le (by omega)]
theorem cut_take {r : Sl} {ys : List PyData} {i : Int} {p : Sl → Prop} (er : cool r = .d (.list ys)) (i0 : 0 ≤ i) (h : p (.own (ys.take i.toNat))) : Cut r none (some i) p := .lst er (by
  have := cutA_to ys i.toNat
  rw [Int.toNat_of_nonneg i0] at this
  rw [this]
  exact h)
end DE

namespace K08
open PySem L2 SZ VR VX StX RT DE
/-! ### the law's own texts of sums -/
def clN (ps : List Int) : Nat → Nat
  | 0 => 0
  | n + 1 => if ps.getD n 0 = 0 then clN ps n else n + 1
def clearL (ps : List Int) : List Int := ps.take (clN ps ps.length)
theorem clN_le (ps : List Int) : ∀ n, clN ps n ≤ n
  | 0 => Nat.le_refl _
  | n + 1 => by
    unfold clN
    split
    · exact Nat.le_succ_of_le (clN_le ps n)
    · exact Nat.le_refl _
def lawW (j : Nat) (c : Str) : List Str := List.replicate j ("n" : Str) ++ (if c = "" then [] else [c])
section
variable {P : Program} {w : World} {K : PySem.W.Frag} {mg : Str → Option Value} {base : Heap}
abbrev PreCl : List Sl → Prop := fun as => ∃ ps : List Int, as = [.d (.list (ps.map .int))] ∧ ps.length ≤ 100
abbrev ResCl : List Sl → Sl → Prop := fun as r => ∃ ps : List Int, as = [.d (.list (ps.map .int))] ∧ r = .d (.tuple ((clearL ps).map .int))
theorem t_cleared {f : Addr} {fd : FuncData} (F : Fun K "_law_cleared" "_law_cleared" S_law_cleared f fd) (z_len : mg "len" = none) (z_tuple : mg "tuple" = none) : FnOk P w K mg base CX0 1 f fd ["_law_parts_here"] (spP K PreCl ResCl) := by
  refine fn_P F sc_law_cleared (fun as h => ?_) (by decide) fun cdv A outer s H E hr b as hp => ?_
  · obtain ⟨ps, rfl, _⟩ := h; rfl
  obtain ⟨ps, rfl, hps⟩ := hp
  have hpl : (ps.map PyData.int).length = ps.length := List.length_map _
  show XB _ _ [.d (.list (ps.map .int)), .un] _ _
  refine xb_cons (x_set 1 (r_callB (id := "len") z_len (a_cons (r_var 0 rfl (by walk_at "v") rfl) a_nil) (by walk_at "c")) rfl (by walk_at "v") sc_law_cleared.nd rfl (fun _ => ?_))
  rw [hpl]
  refine xb_cons (xs_while PassesOwn.never (fun m ρ' => ρ' = [.d (.list (ps.map .int)), .d (.int (m : Int))] ∧ m ≤ ps.length ∧ clN ps ps.length = clN ps m) ps.length ⟨rfl, Nat.le_refl _, rfl⟩ ?_)
  rintro m ρ' hl ⟨rfl, hm, hcl⟩
  have hat : decide ((0 : Int) < (m : Int)) = true → atI (ps.map PyData.int) ((m : Int) - 1) = some (.int (ps.getD (m - 1) 0)) := fun h => by
    have h := of_decide_eq_true h
    have e : ((m : Int) - 1) = ((m - 1 : Nat) : Int) := by omega
    rw [e]
    refine atNat ?_
    rw [List.getElem?_map, List.getD_eq_getElem?_getD, List.getElem?_eq_getElem (show m - 1 < ps.length by omega)]
    rfl
  refine (t_w (w_and (t_cmp (r_var 1 rfl (by walk_at "v") rfl) r_int (by walk_at "o")) fun hc => (w_and1 (t_cmp (r_ix (r_var 0 rfl (by walk_at "v") rfl) (r_bin (r_var 1 rfl (by walk_at "v") rfl) r_int (by walk_at "o")) (ir_at (.inl rfl) (hat hc))) r_int (by walk_at "o"))))) _ fun _ => ⟨fun hc => ?_, fun hc => fun _ => ?_⟩
  · rw [Bool.and_eq_true, decide_eq_true_iff, decide_eq_true_iff] at hc
    obtain ⟨h0, h1⟩ := hc
    obtain ⟨j, rfl⟩ : ∃ j : Nat, m = j + 1 := ⟨m - 1, by omega⟩
    refine xb_one (x_set 1 (r_bin (r_var 1 rfl (by walk_at "v") rfl) r_int (by walk_at "o")) rfl (by walk_at "v") sc_law_cleared.nd rfl ⟨j, Nat.lt_succ_self _, ?_, by omega, ?_⟩)
    · have e : ((j + 1 : Nat) : Int) - 1 = (j : Int) := by omega
      rw [← e]
      rfl
    · rw [hcl]
      show clN ps (j + 1) = clN ps j
      unfold clN
      rw [Nat.add_sub_cancel] at h1
      rw [if_pos h1]
      cases j <;> rfl
  · have hfin : clN ps m = m := by
      cases m with
      | zero => rfl
      | succ j =>
        unfold clN
        have e : decide ((0 : Int) < ((j + 1 : Nat) : Int)) = true := decide_eq_true (by omega)
        rw [e, Bool.true_and, decide_eq_false_iff_not, Nat.add_sub_cancel] at hc
        exact if_neg hc
    refine xb_one (x_ret (r_callTy (T := "tuple") z_tuple (a_cons (r_slice (r_var 0 rfl (by walk_at "v") rfl) (fun _ => o_none) (fun _ => o_some (r_var 1 rfl (by walk_at "v") rfl)) (fun _ h => cut_take rfl (by omega) h)) a_nil) (fun _ h => cv_tupO h)) ?_)
    refine ⟨⟨ps, rfl, ?_⟩, nofun⟩
    unfold clearL
    rw [hcl, hfin, Int.toNat_natCast, List.map_take]
end

end K08

namespace K08
open PySem L2 SZ VR VX StX RT DE
section
variable {P : Program} {w : World} {K : PySem.W.Frag} {mg : Str → Option Value} {base : Heap}
end

end K08

namespace DE
open PySem PySem.Spec PyProof.Rows L2 SZ VR VX StX RT
/-! ### tuples joined, lists reversed, list(range(n)) -/
section
variable {X : Cx} {b : Bs} {ρ : List Sl} {r1 r2 r : Sl} {xs ys : List PyData} {e : Expr}
theorem or_catT (hz : xs.length + ys.length ≤ sizeLine) : OVr X b (binaryOp .Add) (.d (.tuple xs)) (.d (.tuple ys)) (.d (.tuple (xs ++ ys))) := fun p h => ⟨_, op_catA, fun v1 v2 H L Q hh k => by
  obtain ⟨G, hg⟩ := hh
  obtain ⟨_, f1, d1⟩ := hg.ok (some v1, .d (.tuple xs)) List.mem_cons_self
  obtain ⟨_, f2, d2⟩ := hg.ok (some v2, .d (.tuple ys)) (List.mem_cons_of_mem _ List.mem_cons_self)
  cases f1
  cases f2
  have d1' := d1
  have d2' := d2
  cases d1 with
  | @tup a us _ s1 t1 =>
    cases d2 with
    | @tup c ws _ s2 t2 =>
      refine ⟨a, c, us, ws, rfl, rfl, hg.up.tup s1, hg.up.tup s2, by rw [DpAll.len t1, DpAll.len t2]; exact hz, fun e => ?_, fun _ e => ?_, fun _ _ q hq => ?_⟩
      · subst e
        cases t1
        exact k _ _ _ h ⟨G, hg.drop.drop.add d2'⟩
      · subst e
        cases t2
        rw [List.append_nil] at h
        exact k _ _ _ h ⟨G, hg.drop.drop.add d1'⟩
      · have gq : G q = none := hg.up.free hq
        have sg := Same.new (o := .tup (us ++ ws)) gq
        exact k _ _ _ h ⟨_, (hg.drop.drop.grow hq (o := .tup (us ++ ws)) rfl).add (.tup (.of upd_same) (DpAll.app (DpAll.keep sg t1) (DpAll.keep sg t2)))⟩⟩
end

end DE

namespace K08
open PySem L2 SZ VR VX StX RT DE
abbrev tlF (ps : List Int) : Fc := (("" : Str), ps)
def oneL (ps : List Int) (c : Str) (i : Nat) : Option Tm := if ps.getD (ps.length - 1 - i) 0 ≠ 0 then some (ps.getD (ps.length - 1 - i) 0, lawW (ps.length - 1 - i) c) else none
def lawTs (f : Fc) : List Tm := (List.range f.2.length).filterMap (oneL f.2 f.1)
theorem flat_congr {α β : Type} {f g : α → List β} : ∀ {l : List α}, (∀ x ∈ l, f x = g x) → l.flatMap f = l.flatMap g
  | [], _ => rfl
  | x :: l, h => by rw [List.flatMap_cons, List.flatMap_cons, h x List.mem_cons_self, flat_congr fun y hy => h y (List.mem_cons_of_mem x hy)]
/-- the law's terms are the package's own -/
theorem law_one {ps : List Int} {c : Str} (hc : c ≠ "") (i : Nat) : oneL ps c i = oneT ps [c] i := by
  unfold oneL oneT lawW
  rw [if_neg hc]
theorem law_nil {ps : List Int} (i : Nat) : oneL ps "" i = oneT ps [] i := by
  unfold oneL oneT lawW
  rw [if_pos rfl]
theorem law_terms {ps : List Int} {fs : List Fc} (h : ∀ f ∈ fs, f.1 ≠ "") : (fs ++ [tlF ps]).flatMap lawTs = idxTs ps fs := by
  unfold idxTs facTs
  rw [List.flatMap_append]
  congr 1
  · refine flat_congr fun f hf => ?_
    unfold lawTs termsT
    exact congrArg (fun g => (List.range f.2.length).filterMap g) (funext fun i => law_one (h f hf) i)
  · rw [List.flatMap_cons, List.flatMap_nil, List.append_nil]
    unfold lawTs termsT
    exact congrArg (fun g => (List.range ps.length).filterMap g) (funext fun i => law_nil i)
section
variable {P : Program} {w : World} {K : PySem.W.Frag} {mg : Str → Option Value} {base : Heap}
end

end K08

namespace K08
open PySem L2 SZ VR VX StX RT DE
/-! ### the law's own sums, and an index written out -/
theorem clN_spec (ps : List Int) : ∀ n, (∀ i, clN ps n ≤ i → i < n → ps.getD i 0 = 0) ∧ (clN ps n ≠ 0 → ps.getD (clN ps n - 1) 0 ≠ 0)
  | 0 => ⟨fun i _ h => absurd h (Nat.not_lt_zero i), fun h => absurd rfl h⟩
  | n + 1 => by
    obtain ⟨a, b⟩ := clN_spec ps n
    by_cases h : ps.getD n 0 = 0
    · have e : clN ps (n + 1) = clN ps n := by
        show (if _ then _ else _) = _
        rw [if_pos h]
      rw [e]
      refine ⟨fun i h1 h2 => ?_, b⟩
      by_cases h3 : i = n
      · rw [h3]; exact h
      · exact a i h1 (by omega)
    · have e : clN ps (n + 1) = n + 1 := by
        show (if _ then _ else _) = _
        rw [if_neg h]
      rw [e]
      exact ⟨fun i h1 h2 => by omega, fun _ => h⟩
theorem getD_take (ps : List Int) (m i : Nat) : (ps.take m).getD i 0 = if i < m then ps.getD i 0 else 0 := by
  rw [List.getD_eq_getElem?_getD, List.getElem?_take]
  split
  · rw [List.getD_eq_getElem?_getD]
  · rfl
theorem trim_of_last {b : List Int} (h : b ≠ [] → b.getD (b.length - 1) 0 ≠ 0) : trim b = b := by
  by_cases hb : b = []
  · rw [hb]; rfl
  · have e := List.dropLast_concat_getLast hb
    have el : b.getLast hb ≠ 0 := by
      have h1 := h hb
      rw [List.getLast_eq_getElem]
      rw [List.getD_eq_getElem?_getD, List.getElem?_eq_getElem (by have := List.length_pos_iff.mpr hb; omega)] at h1
      exact h1
    rw [← e]
    exact trim_app _ el
theorem clear_trim (ps : List Int) : clearL ps = trim ps := by
  obtain ⟨a, b⟩ := clN_spec ps ps.length
  have hle := clN_le ps ps.length
  have hl : (clearL ps).length = clN ps ps.length := by
    unfold clearL
    rw [List.length_take]
    omega
  have hg : ∀ i, (clearL ps).getD i 0 = ps.getD i 0 := fun i => by
    unfold clearL
    rw [getD_take]
    by_cases h : i < clN ps ps.length
    · rw [if_pos h]
    · rw [if_neg h]
      by_cases h2 : i < ps.length
      · exact (a i (by omega) h2).symm
      · exact (getD_of_ge (by omega)).symm
  refine trimmed_ext (trim_of_last fun hb => ?_) (trim_trim _) fun i => by rw [hg, get_trim]
  rw [hl, hg]
  exact b fun z => hb (List.eq_nil_of_length_eq_zero (hl.trans z))
theorem str_iff {a b : Str} : a.cps.toList = b.cps.toList ↔ a = b := ⟨str_cps, fun h => by rw [h]⟩
/-! ### the factors that the reader tells -/
/-! ### the rows of an index that is written -/
def t3One (ps : List Int) (c : List Nat) (i : Nat) : Option T3 := if ps.getD (ps.length - 1 - i) 0 ≠ 0 then some (ps.getD (ps.length - 1 - i) 0, ps.length - 1 - i, c) else none
def t3L (ps : List Int) (c : List Nat) : List T3 := (List.range ps.length).filterMap (t3One ps c)
def t3I (ps : List Int) (fs : List Fc) : List T3 := (fs ++ [tlF ps]).flatMap fun f => t3L f.2 f.1.cps.toList
def tmT (t : T3) : Tm := (t.1, lawW t.2.1 ⟨t.2.2.toArray⟩)
theorem t3_terms (ps : List Int) (fs : List Fc) : (t3I ps fs).map tmT = (fs ++ [tlF ps]).flatMap lawTs := by
  unfold t3I
  rw [List.map_flatMap]
  refine flat_congr fun f _ => ?_
  unfold t3L lawTs
  rw [List.map_filterMap]
  congr 1
  funext i
  unfold t3One oneL
  split <;> rfl
theorem t3L_c {ps : List Int} {c : List Nat} {t : T3} (h : t ∈ t3L ps c) : t.2.2 = c ∧ t.2.1 < ps.length ∧ t.1 = ps.getD t.2.1 0 := by
  unfold t3L at h
  obtain ⟨i, hi, e⟩ := List.mem_filterMap.mp h
  have hi := List.mem_range.mp hi
  unfold t3One at e
  split at e
  · cases e
    exact ⟨rfl, by show ps.length - 1 - i < _; omega, rfl⟩
  · cases e
/-- an index in its own form -/
def FormOk (ps : List Int) (fs : List Fc) : Prop := trim ps = ps ∧ ps.length ≤ 4 ∧ (fs.map (·.1)).Nodup ∧ (fs.map (·.1)).Pairwise (fun a b => a.cps.toList ≤ b.cps.toList) ∧ ∀ f ∈ fs, f.1 ≠ "" ∧ trim f.2 = f.2 ∧ f.2 ≠ [] ∧ f.2.length ≤ 4
theorem t3I_j {ps : List Int} {fs : List Fc} (h : FormOk ps fs) : ∀ t ∈ t3I ps fs, t.2.1 < 4 := fun t ht => by
  unfold t3I at ht
  obtain ⟨f, hf, ht⟩ := List.mem_flatMap.mp ht
  have h1 := (t3L_c ht).2.1
  rcases List.mem_append.mp hf with hf | hf
  · have := (h.2.2.2.2 f hf).2.2.2
    omega
  · rw [List.mem_singleton.mp hf] at h1
    have h2 := h.2.1
    have h1 : t.2.1 < ps.length := h1
    omega
end K08

namespace K08
open PySem L2 SZ VR VX StX RT DE
/-! ### texts made of pieces -/
/-! ### a sum's text in pieces -/
open TL (numL numL_digits numL_ne numL_val numL_len numL_lt numL_step tl_num)
/-! ### words of rows -/
end K08

namespace K08
open PySem L2 SZ VR VX StX RT DE
/-! ### written texts as pieces -/
theorem absI_nat (n : Int) : absI n = (n.natAbs : Int) := by
  unfold absI
  split <;> omega
/-! the package's own text of a sum -/
end K08

namespace K08
open PySem L2 SZ VR VX StX RT DE
/-! ### what the reader makes of the texts -/
/-! a size alone -/
end K08

namespace K08
open PySem L2 SZ VR VX StX RT DE
/-! ### show: blocks -/
inductive Tre where
  | acc (w a : Str) (ps : List Int) (fs : List Fc)
  | flush
  | loop (c : Str) (ps : List Int) (b : List Tre)
mutual
def trD : Tre → PyData
  | .acc w a ps fs => .tuple [.str w, .str a, idxD ps fs]
  | .flush => .tuple [.str "flush"]
  | .loop c ps b => .tuple [.str "for", .str c, .tuple (ps.map .int), .tuple (blD b)]
def blD : List Tre → List PyData
  | [] => []
  | s :: b => trD s :: blD b
end
def fj (zs : List Str) : Str := zs.foldl (· ++ ·) Str.empty
mutual
def lnM : Tre → Str → List Str
  | .acc w a ps fs, ind => [ind ++ fj [w, " ", a, "[", sumT (idxTs ps fs), "]"]]
  | .flush, ind => [ind ++ "flush"]
  | .loop c ps b, ind => ((ind ++ fj ["for ", c, " ", sumT (termsT ps []), " "]) ++ "{") :: (lnsM b (ind ++ "  ") ++ [ind ++ "}"])
def lnsM : List Tre → Str → List Str
  | [], _ => []
  | s :: b, ind => lnM s ind ++ lnsM b ind
end
def NmOk (c : Str) : Prop := c.length ≤ 100 ∧ PyData.strOk c = true
mutual
def TrOk : Tre → Nat → Prop
  | .acc w a ps fs, _ => (w = "read" ∨ w = "write") ∧ NmOk a ∧ PsOk ps ∧ FsOk fs
  | .flush, _ => True
  | .loop c ps b, d => ∃ e, d = e + 1 ∧ NmOk c ∧ PsOk ps ∧ BtOk b e
def BtOk : List Tre → Nat → Prop
  | [], _ => True
  | s :: b, d => TrOk s d ∧ BtOk b d
end
theorem blD_map : ∀ b : List Tre, blD b = b.map trD
  | [] => rfl
  | s :: b => by unfold blD; rw [blD_map b]; rfl
theorem blOk_all : ∀ {b : List Tre} {d : Nat}, BtOk b d → ∀ s ∈ b, TrOk s d
  | [], _, _, s, h => by cases h
  | x :: b, d, hb, s, h => by
    unfold BtOk at hb
    rcases List.mem_cons.mp h with rfl | h
    · exact hb.1
    · exact blOk_all hb.2 s h
theorem fold_len : ∀ (zs : List Str) (acc : Str), (zs.foldl (· ++ ·) acc).length = acc.length + (zs.map (·.length)).sum
  | [], acc => by simp
  | z :: zs, acc => by
    rw [List.foldl_cons, fold_len zs, Str.length_append, List.map_cons, List.sum_cons]
    omega
theorem fj_len (zs : List Str) : (fj zs).length = (zs.map (·.length)).sum := by
  unfold fj
  rw [fold_len]
  have : Str.empty.length = 0 := rfl
  omega
section
variable {P : Program} {w : World} {K : PySem.W.Frag} {mg : Str → Option Value} {base : Heap}
end

end K08

namespace K08
open PySem L2 SZ VR VX StX RT DE
/-! ### what is shown of data, and how long it is -/
def Shw (n d : Nat) (y : PyData) : Prop := Lay d y ∧ y.showable = true ∧ y.shown.length ≤ n
theorem Shw.mono {n m d e : Nat} {y : PyData} (h : Shw n d y) (hn : n ≤ m) (hd : d ≤ e) : Shw m e y := ⟨h.1.mono hd, h.2.1, Nat.le_trans h.2.2 hn⟩
theorem piled_le : ∀ {ys : List PyData} {n : Nat}, (∀ y ∈ ys, y.shown.length ≤ n) → piled (PyData.shownAll ys) ≤ ys.length * (n + 2)
  | [], _, _ => by simp [PyData.shownAll, piled]
  | y :: ys, n, h => by
    have ih := piled_le (n := n) fun z hz => h z (List.mem_cons_of_mem y hz)
    have h1 := h y List.mem_cons_self
    have e : piled (PyData.shownAll (y :: ys)) = y.shown.length + 2 + piled (PyData.shownAll ys) := by
      simp [PyData.shownAll, piled]
    rw [e, List.length_cons, Nat.succ_mul]
    omega
theorem showA : ∀ {ys : List PyData}, (∀ y ∈ ys, y.showable = true) → PyData.showableAll ys = true
  | [], _ => rfl
  | y :: ys, h => by
    unfold PyData.showableAll
    rw [h y List.mem_cons_self, showA fun z hz => h z (List.mem_cons_of_mem y hz)]
    rfl
theorem tupText_len (ts : List Str) : (tupleText ts).length ≤ piled ts + 3 := by
  have z1 : (Str.ofString "(").length = 1 := by decide +kernel
  have z2 : (Str.ofString ")").length = 1 := by decide +kernel
  have z3 : (Str.ofString ",)").length = 2 := by decide +kernel
  unfold tupleText
  rw [Str.length_append, Str.length_append, z1]
  have h1 : (Str.ofString (if (ts.length == 1) = true then ",)" else ")")).length ≤ 2 := by
    split
    · rw [z3]; exact Nat.le_refl _
    · rw [z2]; decide
  by_cases h : ts = []
  · subst h
    have : (Str.join ", " ([] : List Str)).length = 0 := by decide +kernel
    rw [this]
    omega
  · have := join_length_add ts h
    omega
theorem Shw.tup {n d : Nat} {ys : List PyData} (h : ∀ y ∈ ys, Shw n d y) : Shw (ys.length * (n + 2) + 3) (d + 1) (.tuple ys) := by
  refine ⟨Lay.tup fun y hy => (h y hy).1, by simpa only [PyData.showable] using showA fun y hy => (h y hy).2.1, ?_⟩
  have h1 := piled_le fun y hy => (h y hy).2.2
  have h2 := tupText_len (PyData.shownAll ys)
  simp only [PyData.shown]
  omega
theorem Shw.tupN {n d m k : Nat} {ys : List PyData} (h : ∀ y ∈ ys, Shw n d y) (hl : ys.length ≤ m) (hk : m * (n + 2) + 3 ≤ k) : Shw k (d + 1) (.tuple ys) :=
  (Shw.tup h).mono (Nat.le_trans (Nat.add_le_add_right (Nat.mul_le_mul_right _ hl) 3) hk) (Nat.le_refl _)
theorem toStr_neg {m : Nat} : toString (-((m : Nat) : Int)) = (if m = 0 then "0" else "-" ++ toString ((m : Nat) : Int)) := by
  cases m with
  | zero => rfl
  | succ m => rfl
theorem int_len {n : Int} {k : Nat} (hk : 0 < k) (h1 : -(10 ^ k) < n) (h2 : n < 10 ^ k) : (Str.ofString (toString n)).length ≤ k + 1 := by
  by_cases h0 : 0 ≤ n
  · have := num_len h0 hk h2
    omega
  · obtain ⟨m, rfl⟩ : ∃ m : Nat, n = -(m : Int) := ⟨n.natAbs, by omega⟩
    have hm : m ≠ 0 := fun z => by subst z; exact h0 (Int.le_refl _)
    have := num_len (n := (m : Int)) (by omega) hk (by omega)
    rw [ofS_len] at this
    rw [toStr_neg, if_neg hm, ofS_len, String.length_append]
    have z : "-".length = 1 := by decide +kernel
    omega
theorem Shw.int {n : Int} (h1 : -(10 ^ 200) < n) (h2 : n < 10 ^ 200) : Shw 201 0 (.int n) := by
  refine ⟨Lay.int, ?_, int_len (k := 200) (by decide) h1 h2⟩
  show decide (n.natAbs.log2 < 1920) = true
  rw [decide_eq_true_iff]
  by_cases h : n.natAbs = 0
  · rw [h]; decide
  · rw [Nat.log2_lt h]
    have h3 : n.natAbs < 10 ^ 200 := by
      have e1 : ((10 ^ 200 : Nat) : Int) = (10 : Int) ^ 200 := by decide +kernel
      generalize (10 : Int) ^ 200 = m at h1 h2 e1
      generalize (10 : Nat) ^ 200 = k at e1 ⊢
      omega
    exact Nat.lt_trans h3 (by decide +kernel)
theorem ints_shw {ps : List Int} (h : PsOk ps) : Shw 2000 1 (.tuple (ps.map .int)) :=
  Shw.tupN (n := 201) (m := 8) (fun y hy => by
    obtain ⟨p, hp, rfl⟩ := List.mem_map.mp hy
    exact Shw.int (h.2 p hp).1 (h.2 p hp).2) (by rw [List.length_map]; exact h.1) (by decide)
def NmS (c : Str) : Prop := Shw 2000 0 (.str c)
theorem idx_shw {ps : List Int} {fs : List Fc} (h : PsOk ps) (k : FsOk fs) (n : ∀ f ∈ fs, NmS f.1) : Shw 50000 4 (idxD ps fs) := by
  have hf : ∀ y ∈ fs.map fcD, Shw 4007 2 y := fun y hy => by
    obtain ⟨f, hf, rfl⟩ := List.mem_map.mp hy
    refine Shw.tupN (n := 2000) (m := 2) (d := 1) (fun z hz => ?_) (Nat.le_refl _) (by decide)
    simp only [List.mem_cons, List.not_mem_nil, or_false] at hz
    rcases hz with rfl | rfl
    · exact (n f hf).mono (Nat.le_refl _) (by decide)
    · exact ints_shw (k.2 f hf).1
  have hF : Shw 20048 3 (.tuple (fs.map fcD)) := Shw.tupN (n := 4007) (m := 5) (d := 2) hf (by rw [List.length_map]; exact k.1) (by decide)
  refine Shw.tupN (n := 20048) (m := 2) (d := 3) (fun z hz => ?_) (Nat.le_refl _) (by decide)
  simp only [List.mem_cons, List.not_mem_nil, or_false] at hz
  rcases hz with rfl | rfl
  · exact (ints_shw h).mono (by decide) (by decide)
  · exact hF

end K08

namespace K08
open PySem L2 SZ VR VX StX RT DE
/-! ### bounds -/
def Bd111 (ps : List Int) : Prop := ps.length ≤ 4 ∧ ∀ p ∈ ps, -(10 ^ 111) < p ∧ p < 10 ^ 111
theorem Bd111.ps {ps : List Int} (h : Bd111 ps) : PsOk ps := ⟨by have := h.1; omega, fun p hp => by
  obtain ⟨a, b⟩ := h.2 p hp
  have e : (10 : Int) ^ 111 < 10 ^ 200 := by decide +kernel
  generalize (10 : Int) ^ 111 = B at a b e
  generalize (10 : Int) ^ 200 = C at e ⊢
  omega⟩
theorem Bd111.abs {ps : List Int} (h : Bd111 ps) {p : Int} (hp : p ∈ ps) : p.natAbs < 10 ^ 150 := by
  obtain ⟨a, b⟩ := h.2 p hp
  have e : (10 : Nat) ^ 111 < 10 ^ 150 := by decide +kernel
  have e1 : ((10 ^ 111 : Nat) : Int) = (10 : Int) ^ 111 := by decide +kernel
  generalize (10 : Int) ^ 111 = m at a b e1
  generalize (10 : Nat) ^ 111 = k at e e1
  omega
/-! ### the text that is due -/
/-- an index that is due: its own form, small numbers, good names -/
structure DueOk (A : List Int) (F : List Fc) : Prop where
  form : FormOk A F
  bd : Bd111 A
  fs : ∀ f ∈ F, Bd111 f.2 ∧ isNmL f.1.cps.toList = true ∧ (f.1.length ≤ 100 ∧ PyData.strOk f.1 = true) ∧ NmS f.1
  len : F.length ≤ 4
theorem DueOk.ps {A : List Int} {F : List Fc} (h : DueOk A F) : PsOk A := h.bd.ps
theorem DueOk.fok {A : List Int} {F : List Fc} (h : DueOk A F) : FsOk F := ⟨by have := h.len; omega, fun f hf => ⟨(h.fs f hf).1.ps, (h.fs f hf).2.2.1⟩⟩
theorem due_ts {A : List Int} {F : List Fc} (h : DueOk A F) : (t3I A F).map tmT = idxTs A F := by
  rw [t3_terms]
  exact law_terms fun f hf => (h.form.2.2.2.2 f hf).1
theorem t3L_len (ps : List Int) (c : List Nat) : (t3L ps c).length ≤ ps.length := by
  unfold t3L
  refine Nat.le_trans (List.length_filterMap_le _ _) ?_
  rw [List.length_range]
  exact Nat.le_refl _
theorem flat_len {α β : Type} {g : α → List β} {n : Nat} : ∀ {l : List α}, (∀ x ∈ l, (g x).length ≤ n) → (l.flatMap g).length ≤ n * l.length
  | [], _ => by simp
  | x :: l, h => by
    have ih := flat_len (l := l) fun y hy => h y (List.mem_cons_of_mem x hy)
    have h1 := h x List.mem_cons_self
    rw [List.flatMap_cons, List.length_append, List.length_cons, Nat.mul_succ]
    omega
theorem t3I_len {A : List Int} {F : List Fc} (h : DueOk A F) : (t3I A F).length ≤ 20 := by
  have hl : (t3I A F).length ≤ 4 * (F ++ [tlF A]).length := flat_len fun f hf => by
    refine Nat.le_trans (t3L_len _ _) ?_
    rcases List.mem_append.mp hf with hf | hf
    · exact (h.fs f hf).1.1
    · rw [List.mem_singleton.mp hf]
      exact h.bd.1
  have := h.len
  rw [List.length_append, List.length_singleton] at hl
  omega
theorem sz_terms (A : List Int) : idxTs A [] = termsT A [] := rfl
end K08

namespace K08
open PySem L2 SZ VR VX StX RT DE
/-! ### parse and parse_size: the data that they tell -/
section
variable {P : Program} {w : World} {K : PySem.W.Frag} {mg : Str → Option Value} {base : Heap} {k : Nat} {f : Addr} {fd : FuncData} {ps : List Str} {sp sp' : Sp}
end
section
variable {P : Program} {w : World} {K : PySem.W.Frag} {mg : Str → Option Value} {base : Heap} {C CV CS CT : Addr}
end
/-! the trees as data -/
section
variable {K : PySem.W.Frag} {H : Hp}
end
section
variable {P : Program} {w : World} {K : PySem.W.Frag} {mg : Str → Option Value} {base : Heap} {CV CS CT : Addr}
end

end K08

namespace K08
open PySem L2 SZ VR VX StX RT DE
/-! ### words of blocks, and what the reader makes of them -/
mutual
def StV : Tre → Nat → Prop
  | .acc w a A F, _ => (w = "read" ∨ w = "write") ∧ isNmL a.cps.toList = true ∧ DueOk A F
  | .flush, _ => True
  | .loop c ps b, d => ∃ e, d = e + 1 ∧ isNmL c.cps.toList = true ∧ DueOk ps [] ∧ BlV b e
def BlV : List Tre → Nat → Prop
  | [], _ => True
  | s :: b, d => StV s d ∧ BlV b d
end
end K08

namespace K08
open PySem L2 SZ VR VX StX RT DE
/-! ### a block's lines in pieces -/
def linesL (zs : List Str) : List Nat := zs.flatMap fun z => z.cps.toList ++ [10]
theorem linesL_app (a b : List Str) : linesL (a ++ b) = linesL a ++ linesL b := List.flatMap_append
mutual
def NmT (N : List (List Nat)) : Tre → Prop
  | .acc _ a _ F => a.cps.toList ∈ N ∧ ∀ f ∈ F, f.1.cps.toList ∈ N
  | .flush => True
  | .loop c _ b => c.cps.toList ∈ N ∧ NmB N b
def NmB (N : List (List Nat)) : List Tre → Prop
  | [] => True
  | s :: b => NmT N s ∧ NmB N b
end
end K08

namespace K08
open PySem L2 SZ VR VX StX RT DE
/-! ### few counters: by the names of a text -/
/-! ### places of tokens -/
theorem len_cps (z : Str) : z.length = z.cps.toList.length := Array.length_toList.symm
end K08

namespace K08
open PySem L2 SZ VR VX StX RT DE
/-! ### texts that are cut off -/
end K08

namespace K08
open PySem L2 SZ VR VX StX RT DE
/-! ### blocks that are cut off -/
end K08

namespace K08
open PySem L2 SZ VR VX StX RT DE
/-! ### what is wrong behind a size -/
end K08

namespace K08
open PySem L2 SZ VR VX StX RT DE
/-! ### show -/
section
variable {P : Program} {w : World} {K : PySem.W.Frag} {mg : Str → Option Value} {base : Heap}
end

end K08

namespace K08
open PySem L2 SZ VR VX StX RT DE
/-! ### the text of a block, and what is wrong behind it -/
end K08

namespace DE
open PySem PySem.Spec PyProof.Rows L2 SZ VR VX StX RT
/-! ### x[i] = e, x a list that the name at a slot holds alone -/
section
variable {X : Cx} {b : Bs} {ρ : List Sl}
end

end DE

namespace DE
open PySem PySem.Spec PyProof.Rows L2 SZ VR VX StX RT
/-! ### powers -/
theorem or_pow {X : Cx} {b : Bs} {i j : Int} (hc : CPow i j) : OVr X b (binaryOp .Pow) (.d (.int i)) (.d (.int j)) (.d (.int (i ^ j.toNat))) := fun _ h => ov_intC (g := fun i j => i ^ j.toNat) op_pow hc h
theorem u_neg {X : Cx} {b : Bs} {i : Int} : UVr X b (unaryOp .USub) (.d (.int i)) (.d (.int (-i))) := fun _ h => ⟨_, un_neg, fun v1 H L Q hh k => by
  have e1 := hh.isI
  subst e1
  exact ⟨i, rfl, k _ _ _ h (hh.drop.int _)⟩⟩

end DE

namespace DE
open PySem PySem.Spec PyProof.Rows L2 SZ VR VX StX RT
/-! ### sorted(texts) -/
section
variable {X : Cx} {b : Bs}
theorem dp_strsI {K : PySem.W.Frag} {G : Hp} : ∀ ws : List Str, DpAll K G (ws.map V.str) (ws.map PyData.str)
  | [] => .nil
  | w :: ws => .cons (.str w) (dp_strsI ws)
/-- some order of them, sorted -/
theorem cv_sortedS {ws : List Str} {r : Sl} {p : Sl → Prop} (er : cool r = .d (.list (ws.map .str))) (hn : ws.length < 64) (h : ∀ ys : List Str, ys.Perm ws → PyProof.Rows.sortedS ys = true → p (.own (ys.map .str))) : CV X b (.builtin "sorted") [r] p := ⟨_, cr_sortedS, fun vs H L Q lv hh k => by
  obtain ⟨v, rfl⟩ := one_in (rs := [r]) (r := r) lv
  have hc : Hold X.K b H ((some v, r) :: L) := hh
  have hc := hc.cool
  rw [er] at hc
  obtain ⟨G, hg⟩ := hc
  obtain ⟨_, f1, d1⟩ := hg.ok (some v, .d (.list (ws.map .str))) List.mem_cons_self
  cases f1
  cases d1 with
  | @lst a us _ s1 t1 =>
    have e := dp_strs t1
    subst e
    exact ⟨a, ws, rfl, hg.up.seq s1, hn, fun ys q hp hs hq => k _ _ _ (h ys hp hs) ⟨G, hg.drop.newL hq (dp_strsI ys)⟩⟩⟩
end

end DE

namespace DE
open PySem PySem.Spec PyProof.Rows L2 SZ VR VX StX RT
/-! ### max, min of two, repr, a list that is kept from here on -/
section
variable {X : Cx} {b : Bs}
theorem cr_max2 {i j : Int} (hc : X.calm = true) : CVr X b (.builtin "max") [.d (.int i), .d (.int j)] (.d (.int (if j > i then j else i))) := fun _ h => ⟨_, call_max2 hc, fun vs H L Q lv hh k => by
  match vs, lv with
  | [u1, u2], _ =>
    have e1 := hh.isI
    subst e1
    have e2 := hh.drop.isI
    subst e2
    exact ⟨i, j, rfl, k _ _ _ h (hh.drop.drop.int _)⟩⟩
theorem cr_min2 {i j : Int} (hc : X.calm = true) : CVr X b (.builtin "min") [.d (.int i), .d (.int j)] (.d (.int (if j < i then j else i))) := fun _ h => ⟨_, call_min2 hc, fun vs H L Q lv hh k => by
  match vs, lv with
  | [u1, u2], _ =>
    have e1 := hh.isI
    subst e1
    have e2 := hh.drop.isI
    subst e2
    exact ⟨i, j, rfl, k _ _ _ h (hh.drop.drop.int _)⟩⟩
end
section
variable {X : Cx} {b : Bs} {ρ : List Sl} {p : Sl → List Sl → Prop} {e : Expr} {pos : Pos}
theorem xb_frz (i : Nat) {ys : List PyData} {st : List Stmt} {q : Po} {ρ2 : List Sl} (hs : ρ[i]? = some (.own ys)) (h2 : ρ.set i (.d (.list ys)) = ρ2) (h : XB X b ρ2 st q) : XB X b ρ st q := by
  subst h2
  intro σ H L D l hh k
  obtain ⟨x, hx, _⟩ := zip_mem l hs
  obtain ⟨M, p1, p2⟩ := set_perm (s' := .d (.list ys)) hs hx
  exact h σ H L D (by rw [List.length_set]; exact l) (((hh.perm ((p1.append_right L).symm)).freeze).perm (p2.append_right L)) (by rw [List.length_set]; exact k)
end

end DE

namespace DE
open PySem PySem.Spec PyProof.Rows L2 SZ VR VX StX RT
/-! ### a dict of texts, held by a name; defs that change a list and a dict -/
def getK (kvs : List (Str × PyData)) (k : Str) : Option PyData := (kvs.find? fun p => decide (p.1 = k)).map (·.2)
def setK (kvs : List (Str × PyData)) (k : Str) (y : PyData) : List (Str × PyData) := kvs.map fun p => if p.1 = k then (p.1, y) else p
section
variable {K : PySem.W.Frag} {b : Bs} {G H H' : Hp} {L : List Cl}
theorem inr_ne {a k : Str} (h : ¬ a = k) : ¬ (.inr a : Key) = .inr k := fun e => h (by injection e)
theorem dpk_get {k : Str} {y : PyData} : ∀ {us : List (Key × V)} {kvs : List (Str × PyData)}, DpK K G us kvs → getK kvs k = some y → ∃ v, valV us (.inr k) = some v ∧ Dp K G v y
  | [], [], _, h => by cases h
  | [], _ :: _, h, _ => h.elim
  | _ :: _, [], h, _ => h.elim
  | u :: us, p :: kvs, ⟨h1, h2, h3⟩, h => by
    by_cases e : p.1 = k
    · unfold getK at h
      rw [List.find?_cons, decide_eq_true e] at h
      cases h
      exact ⟨u.2, valV_pos (h1.trans (by rw [e])), h2⟩
    · unfold getK at h
      rw [List.find?_cons, decide_eq_false e] at h
      obtain ⟨v, a, c⟩ := dpk_get h3 h
      exact ⟨v, (valV_neg (by rw [h1]; exact inr_ne e)).trans a, c⟩
theorem dpk_map {k : Str} {v : V} {y : PyData} (hv : Dp K G v y) : ∀ {us : List (Key × V)} {kvs : List (Str × PyData)}, DpK K G us kvs → DpK K G (us.map fun kv => if kv.1 = .inr k then (kv.1, v) else kv) (setK kvs k y)
  | [], [], _ => trivial
  | [], _ :: _, h => h.elim
  | _ :: _, [], h => h.elim
  | u :: us, p :: kvs, ⟨h1, h2, h3⟩ => by
    have ih := dpk_map hv (k := k) h3
    show DpK K G ((if u.1 = .inr k then (u.1, v) else u) :: us.map _) ((if p.1 = k then (p.1, y) else p) :: setK kvs k y)
    by_cases e : p.1 = k
    · rw [if_pos e, if_pos (h1.trans (by rw [e]))]
      exact ⟨h1, hv, ih⟩
    · rw [if_neg e, if_neg (by rw [h1]; exact inr_ne e)]
      exact ⟨h1, h2, ih⟩
theorem dpk_put {k : Str} {v : V} {y y0 : PyData} {us : List (Key × V)} {kvs : List (Str × PyData)} (h : DpK K G us kvs) (hk : getK kvs k = some y0) (hv : Dp K G v y) : DpK K G (putK us (.inr k) v) (setK kvs k y) := by
  obtain ⟨w, e, _⟩ := dpk_get h hk
  unfold putK
  rw [valV_any, e]
  exact dpk_map hv h
theorem dpk_len : ∀ {us : List (Key × V)} {kvs : List (Str × PyData)}, DpK K G us kvs → us.length = kvs.length
  | [], [], _ => rfl
  | [], _ :: _, h => h.elim
  | _ :: _, [], h => h.elim
  | _ :: _, _ :: _, ⟨_, _, h⟩ => by rw [List.length_cons, List.length_cons, dpk_len h]
theorem HoldG.putD {p : Addr} {o : Bool} {kvs kvs' : List (Str × PyData)} {us : List (Key × V)} (h : HoldG K b G H ((some (.ref p), .dct o kvs) :: L)) (hv : DpK K G us kvs') : HoldG K b G (upd H p (.dK us)) ((some (.ref p), .dct o kvs') :: L) := by
  obtain ⟨q0, us0, e0, b0, g0, h0, d0⟩ := h.ok _ List.mem_cons_self
  cases e0
  have nd' := (List.nodup_cons.mp (show (p :: ads L).Nodup from h.nd)).1
  refine ⟨h.old, fun a u e => ?_, h.new, fun a u e n => ?_, fun a ha => ?_, fun c hc => ?_, h.nd, h.fl⟩
  · have := h.up a u e
    rw [upd_ne (ne_of_none e g0)]; exact this
  · by_cases ha : a = p
    · subst ha
      rcases b0 with z | z
      · rw [z.2] at e; cases e
      · exact absurd z.2.1 n
    · rw [upd_ne ha]; exact h.rest a u e n
  · by_cases e : a = p
    · subst e; rw [upd_same]; rfl
    · rw [upd_ne e]; exact h.bs a ha
  · rcases List.mem_cons.mp hc with rfl | hm
    · exact ⟨p, us, rfl, b0, g0, upd_same, hv⟩
    · have ok := h.ok c (List.mem_cons_of_mem _ hm)
      rcases c with ⟨x, t⟩
      cases t with
      | un => trivial
      | d y => exact ok
      | fact φ st => exact ok
      | dct o kvs =>
        obtain ⟨q, vs', e, k1, k2, k3, k4⟩ := ok
        have n : q ≠ p := fun n => by
          subst n; subst e
          exact nd' (ads_memD hm)
        exact ⟨q, vs', e, k1, k2, by rw [upd_ne n]; exact k3, k4⟩
      | own ys2 =>
        obtain ⟨q, vs', e, k1, k2, k3, k4⟩ := ok
        have n : q ≠ p := fun n => by
          subst n; subst e
          exact nd' (ads_mem (.inl ⟨_, rfl⟩) hm)
        exact ⟨q, vs', e, k1, k2, by rw [upd_ne n]; exact k3, k4⟩
      | bor ys2 =>
        obtain ⟨q, vs', e, k1, k2, k3, k4⟩ := ok
        have n : q ≠ p := fun n => by
          subst n; subst e
          exact nd' (ads_mem (.inr ⟨_, rfl⟩) hm)
        exact ⟨q, vs', e, k1, k2, by rw [upd_ne n]; exact k3, k4⟩
theorem HoldG.newD (h : HoldG K b G H L) {p : Addr} (hp : H p = none) : HoldG K b G (upd H p (.dK [])) ((some (.ref p), .dct true []) :: L) := by
  have g := h.growH (o := .dK []) hp
  refine ⟨g.old, g.up, g.new, g.rest, g.bs, fun c hc => ?_, ?_, g.fl⟩
  · rcases List.mem_cons.mp hc with rfl | hc
    · exact ⟨p, [], rfl, .inl ⟨rfl, h.fresh hp⟩, h.up.free hp, upd_same, trivial⟩
    · exact g.ok c hc
  · show (p :: ads L).Nodup
    refine List.nodup_cons.mpr ⟨fun hm => ?_, h.nd⟩
    obtain ⟨_, vs', e⟩ := h.adsH hm
    rw [hp] at e; cases e
theorem HoldG.subD {M : List Cl} {a d : Addr} {o : Bool} {s : Sl} {ys : List PyData} {kvs : List (Str × PyData)} (h : HoldG K b G H ((some (.ref a), s) :: (some (.ref d), .dct o kvs) :: (M ++ L))) (hs : s = .own ys ∨ s = .bor ys) (hf : ∀ c ∈ M, flatS c.2 = true) : HoldG K ⟨G, H, [a, d]⟩ G H ((some (.ref a), .bor ys) :: (some (.ref d), .dct false kvs) :: M) := by
  have h0 : G a = none ∧ ∃ vs, H a = some (.lst vs) ∧ DpAll K G vs ys := by
    have ok := h.ok _ List.mem_cons_self
    rcases hs with rfl | rfl
    · obtain ⟨q, vs, e, _, h2, h3, h4⟩ := ok; cases e; exact ⟨h2, vs, h3, h4⟩
    · obtain ⟨q, vs, e, _, h2, h3, h4⟩ := ok; cases e; exact ⟨h2, vs, h3, h4⟩
  obtain ⟨g, vs, h3, h4⟩ := h0
  obtain ⟨d', us, e, _, gd, hd, kd⟩ := h.ok _ (List.mem_cons_of_mem _ List.mem_cons_self)
  cases e
  have f := (HoldG.sub0 h.drop.drop hf)
  have nd : a ≠ d := fun e => by
    subst e
    rw [h3] at hd; cases hd
  refine ⟨Same.refl _, h.up, fun a o e => .inl e, fun a o e _ => e, fun c hc => ?_, fun c hc => ?_, ?_, h.fl⟩
  · simp only [List.mem_cons, List.not_mem_nil, or_false] at hc
    rcases hc with rfl | rfl
    · show (H c).isSome = true; rw [h3]; rfl
    · show (H c).isSome = true; rw [hd]; rfl
  · rcases List.mem_cons.mp hc with rfl | hc
    · exact ⟨a, vs, rfl, List.mem_cons_self, g, h3, h4⟩
    · rcases List.mem_cons.mp hc with rfl | hc
      · exact ⟨d, us, rfl, .inr ⟨rfl, by simp, us, hd⟩, gd, hd, kd⟩
      · have ok := f.ok c hc
        have := hf c hc
        rcases c with ⟨x, s⟩
        cases s with
        | un => trivial
        | d y => exact ok
        | fact φ st => exact ok
        | own ys => exact absurd this Bool.false_ne_true
        | bor ys => exact absurd this Bool.false_ne_true
        | dct o kvs => exact absurd this Bool.false_ne_true
  · show (a :: d :: ads M).Nodup
    rw [flat_ads hf]
    simp [nd]
theorem HoldG.afterD {a d : Addr} {o : Bool} {s s' : Sl} {ys ys' : List PyData} {kvs kvs' : List (Str × PyData)} (h : HoldG K b G H ((some (.ref a), s) :: (some (.ref d), .dct o kvs) :: L)) {v : V} {y : PyData} (k : Hold K ⟨G, H, [a, d]⟩ H' [(some v, .d y), (some (.ref a), .bor ys'), (some (.ref d), .dct false kvs')]) (hs : (s = .own ys ∧ s' = .own ys') ∨ (s = .bor ys ∧ s' = .bor ys')) : Hold K b H' ((some v, .d y) :: (some (.ref a), s') :: (some (.ref d), .dct o kvs') :: L) := by
  obtain ⟨G', k⟩ := k
  have keep : ∀ c o, H c = some o → c ≠ a → c ≠ d → H' c = some o := fun c o e n m => k.rest c o e (by simp [n, m])
  have gn : ∀ c, G c = none → (H c).isSome = true → G' c = none := fun c e hs => by
    cases q : G' c with
    | none => rfl
    | some o =>
      rcases k.new c o q with z | z
      · have z : G c = some o := z; rw [e] at z; cases z
      · have z : H c = none := z; rw [z] at hs; cases hs
  obtain ⟨q0, us, e0, _, g0, h0, d0⟩ := k.ok _ (List.mem_cons_of_mem _ List.mem_cons_self)
  cases e0
  obtain ⟨q1, ks, e1, _, g1, h1, d1⟩ := k.ok _ (List.mem_cons_of_mem _ (List.mem_cons_of_mem _ List.mem_cons_self))
  cases e1
  have nd : (a :: d :: ads L).Nodup := by rcases hs with ⟨rfl, _⟩ | ⟨rfl, _⟩ <;> exact h.nd
  have na := (List.nodup_cons.mp nd).1
  have nd2 := (List.nodup_cons.mp (List.nodup_cons.mp nd).2).1
  have nal : a ∉ ads L := fun z => na (List.mem_cons_of_mem _ z)
  have as : ads ((some (V.ref a), s') :: (some (V.ref d), Sl.dct o kvs') :: L) = a :: d :: ads L := by rcases hs with ⟨_, rfl⟩ | ⟨_, rfl⟩ <;> rfl
  have base : b.H a = none ∨ a ∈ b.B := by
    have ok := h.ok _ List.mem_cons_self
    rcases hs with ⟨rfl, _⟩ | ⟨rfl, _⟩
    · obtain ⟨q, _, e, z, _⟩ := ok; cases e; exact .inl z
    · obtain ⟨q, _, e, z, _⟩ := ok; cases e; exact .inr z
  have based : (o = true ∧ b.H d = none) ∨ (o = false ∧ d ∈ b.B ∧ ∃ u0, b.H d = some (.dK u0)) := by
    obtain ⟨q, _, e, z, _⟩ := h.ok _ (List.mem_cons_of_mem _ List.mem_cons_self)
    cases e; exact z
  refine ⟨G', h.old.trans k.old, k.up, fun c o e => ?_, fun c o e n => ?_, fun c hc => ?_, fun c hc => ?_, ?_, k.fl⟩
  · rcases k.new c o e with z | z
    · exact h.new c o z
    · exact .inr (h.fresh z)
  · refine keep c o (h.rest c o e n) (fun z => ?_) (fun z => ?_)
    · subst z
      rcases base with z | z
      · rw [z] at e; cases e
      · exact n z
    · subst z
      rcases based with z | z
      · rw [z.2] at e; cases e
      · exact n z.2.1
  · by_cases z : c = a
    · subst z; rw [h0]; rfl
    · by_cases z2 : c = d
      · subst z2; rw [h1]; rfl
      · have := h.bs c hc
        cases q : H c with
        | none => rw [q] at this; cases this
        | some o => rw [keep c o q z z2]; rfl
  · rcases List.mem_cons.mp hc with rfl | hc
    · exact k.ok _ List.mem_cons_self
    · rcases List.mem_cons.mp hc with rfl | hm1
      · have ok := h.ok _ List.mem_cons_self
        rcases hs with ⟨rfl, rfl⟩ | ⟨rfl, rfl⟩
        · obtain ⟨q, _, e, z, _⟩ := ok; cases e; exact ⟨a, us, rfl, z, g0, h0, d0⟩
        · obtain ⟨q, _, e, z, _⟩ := ok; cases e; exact ⟨a, us, rfl, z, g0, h0, d0⟩
      · rcases List.mem_cons.mp hm1 with rfl | hm
        · exact ⟨d, ks, rfl, based, g1, h1, d1⟩
        · clear hm1 hc
          have ok := h.ok c (List.mem_cons_of_mem _ (List.mem_cons_of_mem _ hm))
          rcases c with ⟨x, t⟩
          cases t with
          | un => trivial
          | d y => obtain ⟨v, e, z⟩ := ok; exact ⟨v, e, Dp.keep k.old z⟩
          | fact φ st => obtain ⟨v, e, z⟩ := ok; exact ⟨v, e, st _ _ _ k.old z⟩
          | own zs =>
            obtain ⟨q, vs, e, h1, h2, h3, h4⟩ := ok
            have n : q ≠ a := fun n => nal (by subst n; subst e; exact ads_mem (.inl ⟨_, rfl⟩) hm)
            have m : q ≠ d := fun n => nd2 (by subst n; subst e; exact ads_mem (.inl ⟨_, rfl⟩) hm)
            exact ⟨q, vs, e, h1, gn q h2 (by rw [h3]; rfl), keep _ _ h3 n m, DpAll.keep k.old h4⟩
          | bor zs =>
            obtain ⟨q, vs, e, h1, h2, h3, h4⟩ := ok
            have n : q ≠ a := fun n => nal (by subst n; subst e; exact ads_mem (.inr ⟨_, rfl⟩) hm)
            have m : q ≠ d := fun n => nd2 (by subst n; subst e; exact ads_mem (.inr ⟨_, rfl⟩) hm)
            exact ⟨q, vs, e, h1, gn q h2 (by rw [h3]; rfl), keep _ _ h3 n m, DpAll.keep k.old h4⟩
          | dct o zs =>
            obtain ⟨q, vs, e, h1, h2, h3, h4⟩ := ok
            have n : q ≠ a := fun n => nal (by subst n; subst e; exact ads_memD hm)
            have m : q ≠ d := fun n => nd2 (by subst n; subst e; exact ads_memD hm)
            exact ⟨q, vs, e, h1, gn q h2 (by rw [h3]; rfl), keep _ _ h3 n m, DpK.keep k.old h4⟩
  · rw [ads_cons, as]
    cases v <;> simpa [ads] using nd
end
/-- a def that changes the list in its first place and the dict in its second, and hands out data -/
def spD (K : PySem.W.Frag) (Pre : List PyData → List (Str × PyData) → List Sl → Prop) (Res : List PyData → List (Str × PyData) → List Sl → PyData → List PyData → List (Str × PyData) → Prop) : Sp := fun vs H Q _ => ∃ (G : Hp) (a d : Addr) (us : List V) (ys : List PyData) (kvs : List (Str × PyData)) (as : List Sl), vs = .ref a :: .ref d :: us ∧ us.length = as.length ∧ HoldG K ⟨G, H, [a, d]⟩ G H ((some (.ref a), .bor ys) :: (some (.ref d), .dct false kvs) :: (us.map some).zip as) ∧
  Pre ys kvs as ∧ ∀ y ys' kvs', Res ys kvs as y ys' kvs' → ∀ v H', Hold K ⟨G, H, [a, d]⟩ H' [(some v, .d y), (some (.ref a), .bor ys'), (some (.ref d), .dct false kvs')] → Q v H'
structure CalD (P : Program) (w : World) (K : PySem.W.Frag) (mg : Str → Option Value) (base : Heap) (CX : CXT) (x : Str) (k : Nat) (Pre : List PyData → List (Str × PyData) → List Sl → Prop) (Res : List PyData → List (Str × PyData) → List Sl → PyData → List PyData → List (Str × PyData) → Prop) : Prop where
  ex : ∃ f fd ps, FnOk P w K mg base CX k f fd ps (spD K Pre Res) ∧ mg x = some (.ref f) ∧ PySem.W.keepIn K (.ref f) = true ∧ Binds K fd ps []
section
variable {X : Cx} {b : Bs} {ρ : List Sl} {p : Sl → List Sl → Prop} {e : Expr} {es : List Expr}
theorem slot_dct {i : Nat} {o : Bool} {σ : L2.St} {H : Hp} {L : List Cl} {kvs : List (Str × PyData)} (l : σ.length = ρ.length) (hs : ρ[i]? = some (.dct o kvs)) (hh : Hold X.K b H (σ.zip ρ ++ L)) : ∃ a us, σ[i]? = some (some (.ref a)) ∧ H a = some (.dK us) := by
  obtain ⟨x0, hx0, hm0⟩ := zip_mem l hs
  obtain ⟨G, hG⟩ := hh
  obtain ⟨q, us, e, _, _, h, _⟩ := hG.ok _ (List.mem_append_left _ hm0)
  exact ⟨q, us, by rw [hx0, e], h⟩
theorem r_dget (i : Nat) {o : Bool} {kvs : List (Str × PyData)} {x k : Str} {y : PyData} {p1 pos : Pos} (hu : X.A.units + 1 < cLine) (hN : X.N[i]? = some x) (hv : Vis X.env.scope x) (hs : ρ[i]? = some (.dct o kvs)) (he : EVr X b ρ e (.d (.str k))) (hk : getK kvs k = some y) (hsl : NoSl e := by intro _ _; rfl)
    (hd : (x == ("__debug__" : Str)) = false := by decide) (hcd : (x == ("__classdict__" : Str)) = false := by decide) : EVr X b ρ (.Subscript (.Name x p1) e pos) (.d y) := fun p kp σ H L Q l hh q => by
  obtain ⟨a, us0, hx, _⟩ := slot_dct l hs hh
  refine ⟨_, pe_dget hu (pe_var hN hv hd hcd) (we_pe e) hsl, .ref a, hx, ?_⟩
  refine he (fun r' ρ' => r' = .d (.str k) ∧ ρ' = ρ) ⟨rfl, rfl⟩ σ H L _ l hh fun r' ρ' u H' ⟨e1, e2⟩ l' hh' => ?_
  subst e1 e2
  obtain ⟨G, hG⟩ := hh'
  obtain ⟨u', eu, du⟩ := hG.ok _ List.mem_cons_self
  cases eu
  cases du
  obtain ⟨x0, hx0, hm0⟩ := zip_mem l' hs
  obtain ⟨a', us, e2, _, _, h3, h4⟩ := hG.ok _ (List.mem_cons_of_mem _ (List.mem_append_left _ hm0))
  rw [hx] at hx0
  cases hx0
  cases e2
  obtain ⟨v, ev, dv⟩ := dpk_get h4 hk
  refine ⟨a, v, rfl, ?_, ?_⟩
  · have := DGet.k (k := .inr k) h3
    rw [ev] at this
    exact this
  · exact q _ ρ' v H' kp l' ⟨G, hG.drop.add dv⟩
theorem eg_dset (i : Nat) {o : Bool} {ts : List Nat} {idx : Expr} {r : Sl} {kvs : List (Str × PyData)} {k : Str} {z y0 : PyData} {x : Str} {p1 pos : Pos} {p : List Sl → Prop} (hu : X.A.units + 1 < cLine) (hN : X.N[i]? = some x) (hv : Vis X.env.scope x) (hr : ρ[i]? = some (.dct o kvs)) (hi : EVr X b ρ idx (.d (.str k))) (hk : getK kvs k = some y0) (hl : kvs.length ≤ 100) (er : cool r = .d z) (h : p (ρ.set i (.dct o (setK kvs k z))))
    (hd : (x == ("__debug__" : Str)) = false := by decide) (hcd : (x == ("__classdict__" : Str)) = false := by decide)
    (ha : ∀ v, assign (.Subscript (.Name x p1) idx pos) X.env v = (do
      let ov ← holding [v] (eval (.Name x p1) X.env)
      let iv ← holding [v, ov] (eval idx X.env)
      standAt pos
      holding [v, ov, iv] (setItem ov iv v)
      release [v, ov, iv] []) := by intro _; rfl) : EG X b ts ρ (.Subscript (.Name x p1) idx pos) r p := fun σ H L v Q l hh q => by
  obtain ⟨a, us0, hx, _⟩ := slot_dct l hr hh.drop
  refine ⟨_, pg_sub (pe_var hN hv hd hcd) (we_pe idx) (set_dict hu) ha, .ref a, hx, ?_⟩
  refine hi (fun r' ρ' => r' = .d (.str k) ∧ ρ' = ρ) ⟨rfl, rfl⟩ σ H ((some v, r) :: L) _ l (hh.perm perm_in.symm) fun r' ρ' u H' ⟨e1, e2⟩ l' hh' => ?_
  subst e1 e2
  have eu : u = .str k := by
    obtain ⟨G, hG⟩ := hh'
    obtain ⟨u', eu, du⟩ := hG.ok _ List.mem_cons_self
    cases eu
    cases du
    rfl
  subst eu
  have h3 : Hold X.K b H' ((some v, r) :: (σ.zip ρ' ++ L)) := hh'.drop.perm perm_in
  have h4 := h3.cool
  rw [er] at h4
  obtain ⟨M, q1, q2⟩ := set_perm (s' := .dct o (setK kvs k z)) hr hx
  obtain ⟨G, hG⟩ := h4
  have hG2 : HoldG X.K b G H' ((some (.ref a), .dct o kvs) :: (some v, .d z) :: (M ++ L)) := hG.perm ((List.Perm.swap ..).trans (List.Perm.cons _ (q1.symm.append_right L)))
  obtain ⟨a', us, e2, _, _, hH, hD⟩ := hG2.ok _ List.mem_cons_self
  cases e2
  obtain ⟨v', ev, dz⟩ := hG2.ok _ (List.mem_cons_of_mem _ List.mem_cons_self)
  cases ev
  have hput := hG2.putD (us := putK us (.inr k) v) (dpk_put hD hk dz)
  refine ⟨a, _, rfl, DPut.k (k := .inr k) hH (by rw [dpk_len hD, sizeLine_eq]; omega), ?_⟩
  exact q _ σ _ h (by simp [l']) (by simp) rfl ⟨G, ((hput.perm ((List.Perm.swap ..))).drop).perm (q2.append_right L)⟩
end

end DE

namespace DE
open PySem PySem.Spec PyProof.Rows L2 SZ VR VX StX RT
/-! ### calls of defs that change a list and a dict; a dict's display -/
section
variable {X : Cx} {b : Bs} {ρ : List Sl} {p : Sl → List Sl → Prop} {e : Expr} {es : List Expr}
theorem set_perm2 {σ : L2.St} {i j : Nat} {s t s' t' : Sl} {x y : Option V} (hij : i ≠ j) (hi : ρ[i]? = some s) (hj : ρ[j]? = some t) (hx : σ[i]? = some x) (hy : σ[j]? = some y) : ∃ M, (σ.zip ρ).Perm ((x, s) :: (y, t) :: M) ∧ (σ.zip ((ρ.set i s').set j t')).Perm ((x, s') :: (y, t') :: M) := by
  obtain ⟨M1, a1, a2⟩ := set_perm (s' := s') hi hx
  have hj2 : (ρ.set i s')[j]? = some t := by rw [List.getElem?_set_ne hij]; exact hj
  obtain ⟨M2, c1, c2⟩ := set_perm (s' := t') hj2 hy
  -- (y, t) stands in M1
  have hm : (y, t) ∈ M1 := by
    have hz : (σ.zip ρ)[j]? = some (y, t) := by
      rw [List.getElem?_zip_eq_some]
      exact ⟨hy, hj⟩
    have hz2 : (σ.zip (ρ.set i s'))[j]? = some (y, t) := by
      rw [List.getElem?_zip_eq_some]
      exact ⟨hy, hj2⟩
    have e1 : ((σ.zip ρ).eraseIdx i)[(if j < i then j else j - 1)]? = some (y, t) := by
      by_cases h : j < i
      · rw [if_pos h, List.getElem?_eraseIdx, if_pos h]
        exact hz
      · rw [if_neg h, List.getElem?_eraseIdx, if_neg (by omega), show j - 1 + 1 = j by omega]
        exact hz
    have e2 : (σ.zip ρ).Perm ((x, s) :: (σ.zip ρ).eraseIdx i) := by
      have hl : i < (σ.zip ρ).length := by
        have h1 := (List.getElem?_eq_some_iff.mp hi).1
        have h2 := (List.getElem?_eq_some_iff.mp hx).1
        rw [List.length_zip]; omega
      have h3 : (σ.zip ρ)[i] = (x, s) := by
        have : (σ.zip ρ)[i]? = some (x, s) := by rw [List.getElem?_zip_eq_some]; exact ⟨hx, hi⟩
        rw [List.getElem?_eq_getElem hl] at this
        exact Option.some.inj this
      have h4 : σ.zip ρ = (σ.zip ρ).take i ++ (x, s) :: (σ.zip ρ).drop (i + 1) := by
        rw [← h3, ← List.drop_eq_getElem_cons hl, List.take_append_drop]
      rw [List.eraseIdx_eq_take_drop_succ]
      conv => lhs; rw [h4]
      exact List.perm_middle
    have e3 : M1.Perm ((σ.zip ρ).eraseIdx i) := (a1.symm.trans e2).cons_inv
    exact e3.mem_iff.mpr (List.mem_of_getElem? e1)
  obtain ⟨l1, l2, el⟩ := List.append_of_mem hm
  have pm : M1.Perm ((y, t) :: (l1 ++ l2)) := by rw [el]; exact List.perm_middle
  refine ⟨l1 ++ l2, a1.trans (List.Perm.cons _ pm), ?_⟩
  -- behind both
  have q1 : ((y, t) :: M2).Perm ((x, s') :: (y, t) :: (l1 ++ l2)) := c1.symm.trans (a2.trans (List.Perm.cons _ pm))
  have q2 : M2.Perm ((x, s') :: (l1 ++ l2)) := (q1.trans (List.Perm.swap ..)).cons_inv
  exact c2.trans ((List.Perm.cons _ q2).trans (List.Perm.swap ..))
/-- f(x, z, e, ..): the list at slot i and the dict at slot j are changed -/
theorem ev_calD (i j : Nat) {CX : CXT} {k : Nat} {Pre : List PyData → List (Str × PyData) → List Sl → Prop} {Res : List PyData → List (Str × PyData) → List Sl → PyData → List PyData → List (Str × PyData) → Prop} {x y z : Str} {p1 p2 p3 cp : Pos} (C : CalD X.prog X.w X.K X.mg X.base CX x k Pre Res) (hij : i ≠ j) (hr : Room k X.A) (hg : Gl X x) {E : XK} (hx : Passes CX X E)
    (hN : X.N[i]? = some y) (hv : Vis X.env.scope y) (hN2 : X.N[j]? = some z) (hv2 : Vis X.env.scope z)
    (h : EA X b ρ es fun rs ρ' => ∃ zs, datas rs = some zs ∧ ∃ s ys o kvs, ρ'[i]? = some s ∧ (s = .own ys ∨ s = .bor ys) ∧ ρ'[j]? = some (.dct o kvs) ∧ Pre ys kvs (zs.map .d) ∧ ∀ r ys' kvs', Res ys kvs (zs.map .d) r ys' kvs' → p (.d r) ((ρ'.set i (setS s ys')).set j (.dct o kvs')))
    (hs0 : ∃ s ys, ρ[i]? = some s ∧ (s = .own ys ∨ s = .bor ys)) (hs1 : ∃ o kvs, ρ[j]? = some (.dct o kvs))
    (hdy : (y == ("__debug__" : Str)) = false := by decide) (hcy : (y == ("__classdict__" : Str)) = false := by decide) (hdz : (z == ("__debug__" : Str)) = false := by decide) (hcz : (z == ("__classdict__" : Str)) = false := by decide) (hdb : (x == ("__debug__" : Str)) = false := by decide)
    (he : starEach (.Name y p2 :: .Name z p3 :: es) X.env = (false, eval (.Name y p2) X.env) :: starEach (.Name z p3 :: es) X.env := by rfl) (he2 : starEach (.Name z p3 :: es) X.env = (false, eval (.Name z p3) X.env) :: starEach es X.env := by rfl) (hpl : (backTo cp (starEach (.Name z p3 :: es) X.env)).any (·.1) = false := by rfl) : EV X b ρ (.Call (.Name x p1) (.Name y p2 :: .Name z p3 :: es) [] cp) p := fun σ H L Q l hh q => by
  obtain ⟨f, fd, ps, F, hm, hk, hb⟩ := C.ex
  obtain ⟨s0, ys0, h0, k0⟩ := hs0
  obtain ⟨o0, kvs0, h1⟩ := hs1
  obtain ⟨a, hx0⟩ := slot_ref l h0 k0 hh
  obtain ⟨d, us0, hx1, _⟩ := slot_dct l h1 hh
  refine ⟨_, pe_call F hr hg hm hk hb .nil hx (pa_cons (pe_var hN hv hdy hcy) (pa_cons (pe_var hN2 hv2 hdz hcz) (wa_pa es) he2) he) hdb he hpl, .ref a, hx0, .ref d, hx1, ?_⟩
  refine h σ H L _ l hh fun rs ρ' vs H' ⟨zs, ed, s, ys, o, kvs, hs, ks, hd, hp, h2⟩ l' lv hh' => ?_
  have ec := datas_cool ed
  obtain ⟨G, hG⟩ := hh'.coolAll
  rw [ec] at hG
  have hf : ∀ c ∈ (vs.map some).zip (zs.map Sl.d), flatS c.2 = true := flat_zip fun r hr => by
    obtain ⟨y, _, rfl⟩ := List.mem_map.mp hr
    rfl
  obtain ⟨M0, m1, _⟩ := set_perm2 (s' := s) (t' := .dct o kvs) hij hs hd hx0 hx1
  have hG2 : HoldG X.K b G H' ((some (.ref a), s) :: (some (.ref d), .dct o kvs) :: (((vs.map some).zip (zs.map Sl.d)) ++ (M0 ++ L))) := hG.perm (by
    have q0 := m1.append_right L
    refine List.Perm.trans ?_ (List.Perm.append_left _ q0.symm)
    show ((some (V.ref a), s) :: (some (V.ref d), Sl.dct o kvs) :: _).Perm (_ ++ ((some (V.ref a), s) :: (some (V.ref d), Sl.dct o kvs) :: (M0 ++ L)))
    exact (List.Perm.cons _ perm_in).trans perm_in)
  refine ⟨G, a, d, vs, ys, kvs, zs.map .d, by simp, by rw [← ec]; simp [lv], HoldG.subD hG2 ks hf, hp, fun r ys' kvs' hr v H2 hh2 => ?_⟩
  have hG3 : HoldG X.K b G H' ((some (.ref a), s) :: (some (.ref d), .dct o kvs) :: (M0 ++ L)) := (hG.dropM (M := (vs.map some).zip (zs.map Sl.d))).perm (m1.symm.append_right L)
  obtain ⟨M, n1, n2⟩ := set_perm2 (s' := setS s ys') (t' := .dct o kvs') hij hs hd hx0 hx1
  have hMM : M0.Perm M := ((m1.symm.trans n1).cons_inv).cons_inv
  refine q _ _ v H2 (h2 r ys' kvs' hr) (by rw [List.length_set, List.length_set]; exact l') ?_
  have hA := hG3.afterD (ys := ys) (s' := setS s ys') hh2 (by rcases ks with rfl | rfl <;> simp [setS])
  refine hA.perm (List.Perm.cons _ ?_)
  exact (n2.append_right L).trans (List.Perm.cons _ (List.Perm.cons _ (hMM.symm.append_right L)))
/-- {'..': e1, '..': e2, '..': e3} -/
theorem ev_dict3 {k1 k2 k3 : String} {n1 n2 n3 : Nat} {q1 q2 q3 pos : Pos} {e1 e2 e3 : Expr} (hd : ([k1, k2, k3].map Str.ofString).Nodup)
    (h : EV X b ρ e1 fun r1 ρ1 => ∃ y1, cool r1 = .d y1 ∧ EV X b ρ1 e2 fun r2 ρ2 => ∃ y2, cool r2 = .d y2 ∧ EV X b ρ2 e3 fun r3 ρ3 => ∃ y3, cool r3 = .d y3 ∧ p (.dct true [(Str.ofString k1, y1), (Str.ofString k2, y2), (Str.ofString k3, y3)]) ρ3) :
    EV X b ρ (.Dict [some (.Constant (.str (Str.ofString k1)) n1 q1), some (.Constant (.str (Str.ofString k2)) n2 q2), some (.Constant (.str (Str.ofString k3)) n3 q3)] [e1, e2, e3] pos) p := fun σ H L Q l hh q => by
  refine ⟨_, pe_disp (pps_cons pe_str (we_pe e1) (pps_cons pe_str (we_pe e2) (pps_cons pe_str (we_pe e3) pps_nil))) (by rfl) rfl (by simp) (show (3 : Nat) ≤ 15 by decide), fun a ha => ?_⟩
  obtain ⟨G, hG⟩ := hh
  have h0 : Hold X.K b (upd H a (.dK [])) (σ.zip ρ ++ ((some (.ref a), .dct true []) :: L)) := (show Hold X.K b _ ((some (V.ref a), Sl.dct true []) :: (σ.zip ρ ++ L)) from ⟨G, hG.newD ha⟩).perm perm_in.symm
  refine h σ _ _ _ l h0 fun r1 ρ1 v1 H1 ⟨y1, c1, h1⟩ l1 hh1 => ?_
  have hh1 := hh1.cool
  rw [c1] at hh1
  refine h1 σ H1 ((some v1, .d y1) :: (some (.ref a), .dct true []) :: L) _ l1 (hh1.perm perm_in.symm) fun r2 ρ2 v2 H2 ⟨y2, c2, h2⟩ l2 hh2 => ?_
  have hh2 := hh2.cool
  rw [c2] at hh2
  refine h2 σ H2 ((some v2, .d y2) :: (some v1, .d y1) :: (some (.ref a), .dct true []) :: L) _ l2 (hh2.perm perm_in.symm) fun r3 ρ3 v3 H3 ⟨y3, c3, hp⟩ l3 hh3 => ?_
  have hh3 := hh3.cool
  rw [c3] at hh3
  obtain ⟨G3, hG3⟩ := hh3
  have ok : ∀ c ∈ [(some v3, Sl.d y3), (some v2, Sl.d y2), (some v1, Sl.d y1), (some (V.ref a), Sl.dct true [])], SlOk X.K b G3 H3 c := fun c hc => hG3.ok c (by
    simp only [List.mem_cons, List.not_mem_nil, or_false] at hc
    rcases hc with rfl | rfl | rfl | rfl <;> simp)
  obtain ⟨w3, e3', d3⟩ := ok (some v3, .d y3) (by simp)
  cases e3'
  obtain ⟨w2, e2', d2⟩ := ok (some v2, .d y2) (by simp)
  cases e2'
  obtain ⟨w1, e1', d1⟩ := ok (some v1, .d y1) (by simp)
  cases e1'
  obtain ⟨a', us, ea, _, _, hH, hD⟩ := ok (some (.ref a), .dct true []) (by simp)
  cases ea
  have hus : us = [] := List.length_eq_zero_iff.mp (dpk_len hD)
  subst hus
  refine ⟨hH, [(.inr (Str.ofString k1), v1), (.inr (Str.ofString k2), v2), (.inr (Str.ofString k3), v3)], rfl, by simp, ?_⟩
  have n12 : Str.ofString k1 ≠ Str.ofString k2 := fun e => by simp [e] at hd
  have n13 : Str.ofString k1 ≠ Str.ofString k3 := fun e => by simp [e] at hd
  have n23 : Str.ofString k2 ≠ Str.ofString k3 := fun e => by simp [e] at hd
  have em : mergeK [] [((.inr (Str.ofString k1) : Key), v1), (.inr (Str.ofString k2), v2), (.inr (Str.ofString k3), v3)] = [(.inr (Str.ofString k1), v1), (.inr (Str.ofString k2), v2), (.inr (Str.ofString k3), v3)] := by
    have a12 : ¬ ((.inr (Str.ofString k1) : Key) = .inr (Str.ofString k2)) := inr_ne n12
    have a13 : ¬ ((.inr (Str.ofString k1) : Key) = .inr (Str.ofString k3)) := inr_ne n13
    have a23 : ¬ ((.inr (Str.ofString k2) : Key) = .inr (Str.ofString k3)) := inr_ne n23
    unfold mergeK
    simp only [List.foldl_cons, List.foldl_nil]
    unfold putK
    simp [n12, n13, n23]
  rw [em]
  have hP : HoldG X.K b G3 H3 ((some (.ref a), .dct true []) :: (some v3, .d y3) :: (some v2, .d y2) :: (some v1, .d y1) :: (σ.zip ρ3 ++ L)) := hG3.perm (by
    have b1 : ((some (V.ref a), Sl.dct true []) :: (some v3, Sl.d y3) :: (some v2, Sl.d y2) :: (some v1, Sl.d y1) :: (σ.zip ρ3 ++ L)).Perm ((some v3, Sl.d y3) :: (some v2, Sl.d y2) :: (some v1, Sl.d y1) :: (some (V.ref a), Sl.dct true []) :: (σ.zip ρ3 ++ L)) :=
      (List.Perm.swap ..).trans (List.Perm.cons _ ((List.Perm.swap ..).trans (List.Perm.cons _ (List.Perm.swap ..))))
    refine b1.trans (List.Perm.cons _ ?_)
    have b2 : ((some v2, Sl.d y2) :: (some v1, Sl.d y1) :: (some (V.ref a), Sl.dct true []) :: (σ.zip ρ3 ++ L)).Perm (σ.zip ρ3 ++ ((some v2, Sl.d y2) :: (some v1, Sl.d y1) :: (some (V.ref a), Sl.dct true []) :: L)) :=
      (List.Perm.cons _ (List.Perm.cons _ perm_in)).trans ((List.Perm.cons _ perm_in).trans perm_in)
    exact b2)
  have hput := hP.putD (us := [(.inr (Str.ofString k1), v1), (.inr (Str.ofString k2), v2), (.inr (Str.ofString k3), v3)]) (kvs' := [(Str.ofString k1, y1), (Str.ofString k2, y2), (Str.ofString k3, y3)]) ⟨rfl, d1, rfl, d2, rfl, d3, trivial⟩
  refine q _ ρ3 (.ref a) _ hp l3 ⟨G3, ?_⟩
  exact ((((hput.perm (List.Perm.swap ..)).drop.perm (List.Perm.swap ..)).drop.perm (List.Perm.swap ..)).drop)
end

end DE

namespace DE
open PySem PySem.Spec PyProof.Rows L2 SZ VR VX StX RT
/-! ### the body of a def that changes a list and a dict -/
section
variable {P : Program} {w : World} {K : PySem.W.Frag} {mg : Str → Option Value} {base : Heap}
theorem fn_D {x qual : Str} {st : Stmt} {f : Addr} {fd : FuncData} {N ps : List Str} {k : Nat} {Pre : List PyData → List (Str × PyData) → List Sl → Prop} {Res : List PyData → List (Str × PyData) → List Sl → PyData → List PyData → List (Str × PyData) → Prop} (F : Fun K x qual st f fd) (S : FnScope N ps (defScope st)) (len : ∀ ys kvs as, Pre ys kvs as → as.length + 2 = ps.length)
    (h : ∀ (cdv : Value) (A : Around) (outer : List Env) (s : Shared) (H : Hp) (E : XK), Room k (A.deeper (envOfC qual (defScope st) s.heap.objs.size f cdv)) → ∀ (b : Bs) (ys : List PyData) (kvs : List (Str × PyData)) (as : List Sl), Pre ys kvs as → XB (cxOf CX0 P w K mg base N qual (defScope st) f cdv A outer s H E).nox b (.bor ys :: .dct false kvs :: (as ++ List.replicate (N.length - (as.length + 2)) .un)) (defBody st)
      ⟨fun _ => False, fun r ρ' => ∃ y ys' kvs', r = .d y ∧ ρ'[0]? = some (.bor ys') ∧ ρ'[1]? = some (.dct false kvs') ∧ Res ys kvs as y ys' kvs', fun _ => False, fun _ => False⟩) : FnOk P w K mg base CX0 (k + 1) f fd ps (spD K Pre Res) := by
  refine F.ok S (fun vs H Q E z => ?_) (fun cdv A outer s H vs Q E hr z => ?_)
  · obtain ⟨G, a, d, us, ys, kvs, as, rfl, l, _, hp, _⟩ := z
    rw [List.length_cons, List.length_cons, l]
    exact len ys kvs as hp
  · obtain ⟨G, a, d, us, ys, kvs, as, rfl, l, hG, hp, q⟩ := z
    have nd0 : a ≠ d := by
      obtain ⟨q1, v1, e1, _, _, h1, _⟩ := hG.ok _ List.mem_cons_self
      obtain ⟨q2, v2, e2, _, _, h2, _⟩ := hG.ok _ (List.mem_cons_of_mem _ List.mem_cons_self)
      cases e1; cases e2
      intro e
      subst e
      rw [h1] at h2
      cases h2
    have hHa : ∃ vs, H a = some (.lst vs) := by
      obtain ⟨q1, v1, e1, _, _, h1, _⟩ := hG.ok _ List.mem_cons_self
      cases e1
      exact ⟨_, h1⟩
    have hHd : ∃ vs, H d = some (.dK vs) := by
      obtain ⟨q1, v1, e1, _, _, h1, _⟩ := hG.ok _ (List.mem_cons_of_mem _ List.mem_cons_self)
      cases e1
      exact ⟨_, h1⟩
    have get : ∀ {ρ' : List Sl} {σ' : L2.St} {H' : Hp} {zs : List PyData} {ks : List (Str × PyData)} {v : V} {y : PyData}, ρ'[0]? = some (.bor zs) → ρ'[1]? = some (.dct false ks) → σ'.length = ρ'.length → Hold K ⟨G, H, [a, d]⟩ H' ((some v, .d y) :: (σ'.zip ρ' ++ [])) → Hold K ⟨G, H, [a, d]⟩ H' [(some v, .d y), (some (.ref a), .bor zs), (some (.ref d), .dct false ks)] := fun {ρ' σ' H' zs ks v y} h0 h1 l' hh => by
      rw [List.append_nil] at hh
      obtain ⟨x0, hx0, hm0⟩ := zip_mem l' h0
      obtain ⟨x1, hx1, hm1⟩ := zip_mem l' h1
      obtain ⟨G', hG'⟩ := id hh
      obtain ⟨q9, vs, e0, hq, _, h3, _⟩ := hG'.ok _ (List.mem_cons_of_mem _ hm0)
      obtain ⟨p, ws, e1, hp', _, h4, _⟩ := hG'.ok _ (List.mem_cons_of_mem _ hm1)
      obtain ⟨va, ea⟩ := hHa
      have hpd : p = d := by
        obtain ⟨_, hpm, u0, hpH⟩ := hp'.resolve_left (fun z => by cases z.1)
        have hpm : p ∈ [a, d] := hpm
        have hpH : H p = some (.dK u0) := hpH
        simp only [List.mem_cons, List.not_mem_nil, or_false] at hpm
        rcases hpm with rfl | rfl
        · exact absurd (ea.symm.trans hpH) (fun z => by cases z)
        · rfl
      have hqa : q9 = a := by
        have hq : q9 ∈ [a, d] := hq
        simp only [List.mem_cons, List.not_mem_nil, or_false] at hq
        rcases hq with rfl | rfl
        · rfl
        · rw [hpd, h3] at h4; cases h4
      subst hpd
      subst hqa
      subst e0
      subst e1
      obtain ⟨M, m1, _⟩ := set_perm2 (s' := .un) (t' := .un) (show (0 : Nat) ≠ 1 by decide) h0 h1 hx0 hx1
      refine (hh.perm (L' := M ++ [(some v, .d y), (some (.ref q9), .bor zs), (some (.ref p), .dct false ks)]) ?_).dropL
      refine List.Perm.trans ?_ (List.Perm.cons _ m1.symm)
      exact (List.perm_append_comm).trans (List.Perm.refl _)
    obtain ⟨t, ht, hq⟩ := h cdv A outer s H E hr ⟨G, H, [a, d]⟩ ys kvs as hp (L2.start N (.ref a :: .ref d :: us)) H [] { nx := fun _ H' => Q .non H', rt := Q } (by
        have := len ys kvs as hp
        unfold L2.start; simp [l])
      (by
        rw [List.append_nil]
        have := zip_start (N := N) (vs := .ref a :: .ref d :: us) (as := .bor ys :: .dct false kvs :: as) (by simp [l])
        rw [List.cons_append, List.cons_append] at this
        rw [show (List.length as + 2) = (Sl.bor ys :: Sl.dct false kvs :: as).length from rfl, this]
        exact hold_start _ ⟨G, hG⟩)
      ⟨fun ρ' σ' H' hn l' n' hh => hn.elim, fun r ρ' v σ' H' ⟨y, ys', kvs', er, e0, e1, hn⟩ l' n' hh => by
        subst er
        exact q y ys' kvs' hn v H' (get e0 e1 l' hh), fun _ _ _ z => z.elim, fun _ _ _ z => z.elim⟩
    exact ⟨t, ht, hq⟩
end

end DE

namespace K08
open PySem L2 SZ VR VX StX RT DE
/-! ### the draws -/
structure Bn2 (mg : Str → Option Value) : Prop where
  len : mg "len" = none
  int : mg "int" = none
  abs : mg "abs" = none
/-- a pool stands at a -/
def PoolAt (H : Hp) (a : Addr) : Prop := ∃ p q : Int, H a = some (.lst [.int p, .int q]) ∧ 0 ≤ p
theorem b01 (b : Bool) : -(2 ^ 64) < (if b = true then (1 : Int) else 0) ∧ (if b = true then (1 : Int) else 0) < 2 ^ 64 := by cases b <;> decide
theorem nn01 (c : Int) (b : Bool) : 0 ≤ (if c < 0 then -c else c) * (if b = true then (1 : Int) else 0) := by
  refine Int.mul_nonneg ?_ ?_
  · split <;> omega
  · cases b <;> decide
def spPool (K : PySem.W.Frag) : Sp := fun vs H Q _ => ∃ (a : Addr) (ns : List Int) (k : Nat), vs = [.ref a, .int k] ∧ SqL K H a (iz ns) ∧ k ≤ 63 ∧ ns.length ≤ 63 ∧ ∀ p H', H p = none → Same H H' → PoolAt H' p → Q (.ref p) H'
def spTake : Sp := fun vs H Q _ => ∃ (a : Addr) (wd : Int), vs = [.ref a, .int wd] ∧ PoolAt H a ∧ 0 < wd ∧ wd < 1073741824 ∧ ∀ (r : Int) (H' : Hp), 0 ≤ r → r < wd → PoolAt H' a → (∀ b o, H b = some o → b ≠ a → H' b = some o) → (∀ b, H b = none → H' b = none) → Q (.int r) H'
section
variable {P : Program} {w : World} {K : PySem.W.Frag} {mg : Str → Option Value} {base : Heap}
theorem ok_pool {f : Addr} {fd : FuncData} (F : Fun K "_law_pool" "_law_pool" S_law_pool f fd) (B : Bn2 mg) : FnOk P w K mg base CX0 1 f fd ["_law_script", "_law_k"] (spPool K) := by
  refine F.ok sc_law_pool (fun vs H Q E h => ?_) (fun cdv A outer s H vs Q E hr h => ?_)
  · obtain ⟨a, ns, k, rfl, _⟩ := h; rfl
  · obtain ⟨a, ns, k, rfl, ha, hk, hl, q⟩ := h
    refine ⟨_, pss_cons (ps_set (i := 2) sc_law_pool.nd rfl (Or.inl rfl) pe_int)
      (pss_cons (ps_if (pt_cmpR op_lt (pv 1) (pe_callB call_len_seq (by rfl) B.len PySem.boot_len (pa_cons (pv 0) pa_nil)) (nomark _)) (pss_one (ps_set (i := 2) sc_law_pool.nd rfl (Or.inl rfl) (pe_ix ix_list (pv 0) (pv 1) (fun _ _ => rfl)))) pss_nil)
      (pss_cons (ps_set (i := 3) sc_law_pool.nd rfl (Or.inl rfl) (pe_callB call_abs (by rfl) B.abs (by decide +kernel) (pa_cons (pv 2) pa_nil)))
      (pss_cons (ps_set (i := 4) sc_law_pool.nd rfl (Or.inl rfl) (pe_op op_mod (pe_op op_mul (pe_callTy call_int1 (by rfl) B.int (by decide +kernel) (pa_cons (pe_op op_add (pe_op op_mod (pe_callTy call_int1 (by rfl) B.int (by decide +kernel) (pa_cons (pv 2) pa_nil)) pe_int) (pe_op op_mul pe_int (pe_op op_add (pv 1) pe_int))) pa_nil)) (pe_op op_add (pv 1) pe_int)) pe_int))
      (pss_cons (ps_set (i := 5) sc_law_pool.nd rfl (Or.inl rfl) (pe_op op_mod (pe_op op_mul (pe_op op_mod (pe_callTy call_int1 (by rfl) B.int (by decide +kernel) (pa_cons (pe_op op_mul (pv 4) (pv 4)) pa_nil)) pe_int) pe_int) pe_int))
      (pss_one (ps_ret (pe_lst (pa_cons (pe_op op_mul (pv 3) (pe_callTy call_int1 (by rfl) B.int (by decide +kernel) (pa_cons (pe_cmpR op_ge (pv 3) (pe_op op_pow pe_int pe_int) (nomark _)) pa_nil))) (pa_cons (pv 5) pa_nil))))))))), ?_⟩
    refine ⟨_, rfl, _, rfl, a, iz ns, rfl, .inl ha, _, _, rfl, rfl, _, rfl, ?_⟩
    rw [iz_len]
    have m0 : (0 : Int) < 2147483629 := by decide
    have m1 : (0 : Int) < 2147483647 := by decide
    refine ite2 (fun h => ?_) (fun h => ?_)
    · have hlt : k < ns.length := by have := of_decide_eq_true h; omega
      have hx : ns[k]? = some ns[k] := List.getElem?_eq_getElem hlt
      refine ⟨_, rfl, _, rfl, a, iz ns, _, _, rfl, rfl, ha, at_of (j := k) rfl (iz_get hx), ?_⟩
      generalize ns[k] = c
      refine ⟨_, rfl, c, rfl, ?_⟩
      refine ⟨_, rfl, .inl ⟨_, rfl, _, _, rfl, rfl, m0, _, rfl, _, _, rfl, rfl, _, _, rfl, rfl, .inl ⟨by decide, by decide⟩, _, _, rfl, rfl, .inl ⟨_, rfl, _, rfl, _, _, rfl, rfl, _, _, rfl, rfl, .inr ⟨by omega, by omega⟩, _, _, rfl, rfl, m0, ?_⟩⟩⟩
      have b0 := Int.emod_nonneg ((c % 2147483629 + 104729 * ((k : Int) + 1)) * ((k : Int) + 7)) (Int.ne_of_gt m0)
      have b1 := Int.emod_lt_of_pos ((c % 2147483629 + 104729 * ((k : Int) + 1)) * ((k : Int) + 7)) m0
      generalize (c % 2147483629 + 104729 * ((k : Int) + 1)) * ((k : Int) + 7) % 2147483629 = bl at b0 b1
      refine ⟨_, rfl, _, rfl, _, _, rfl, rfl, .inl ⟨by omega, by omega⟩, .inl ⟨_, rfl, _, _, rfl, rfl, m0, _, _, rfl, rfl, .inr ⟨by decide, by decide⟩, _, _, rfl, rfl, m1, ?_⟩⟩
      refine ⟨_, rfl, _, rfl, _, _, rfl, rfl, ⟨by decide, by decide, by decide⟩, _, _, rfl, rfl, .inr ⟨_, rfl, _, _, rfl, rfl, (.inr (b01 _)), _, rfl, by show 2 ≤ sizeLine; decide, fun p hp => q p _ hp (Same.new hp) ⟨_, _, upd_same, nn01 c _⟩⟩⟩
    · refine ⟨_, rfl, (0 : Int), rfl, ?_⟩
      refine ⟨_, rfl, .inl ⟨_, rfl, _, _, rfl, rfl, m0, _, rfl, _, _, rfl, rfl, _, _, rfl, rfl, .inl ⟨by decide, by decide⟩, _, _, rfl, rfl, .inl ⟨_, rfl, _, rfl, _, _, rfl, rfl, _, _, rfl, rfl, .inr ⟨by omega, by omega⟩, _, _, rfl, rfl, m0, ?_⟩⟩⟩
      have b0 := Int.emod_nonneg (((0 : Int) % 2147483629 + 104729 * ((k : Int) + 1)) * ((k : Int) + 7)) (Int.ne_of_gt m0)
      have b1 := Int.emod_lt_of_pos (((0 : Int) % 2147483629 + 104729 * ((k : Int) + 1)) * ((k : Int) + 7)) m0
      generalize ((0 : Int) % 2147483629 + 104729 * ((k : Int) + 1)) * ((k : Int) + 7) % 2147483629 = bl at b0 b1
      refine ⟨_, rfl, _, rfl, _, _, rfl, rfl, .inl ⟨by omega, by omega⟩, .inl ⟨_, rfl, _, _, rfl, rfl, m0, _, _, rfl, rfl, .inr ⟨by decide, by decide⟩, _, _, rfl, rfl, m1, ?_⟩⟩
      refine ⟨_, rfl, _, rfl, _, _, rfl, rfl, ⟨by decide, by decide, by decide⟩, _, _, rfl, rfl, .inr ⟨_, rfl, _, _, rfl, rfl, (.inr (b01 _)), _, rfl, by show 2 ≤ sizeLine; decide, fun p hp => q p _ hp (Same.new hp) ⟨_, _, upd_same, nn01 0 _⟩⟩⟩
end

section
variable {P : Program} {w : World} {K : PySem.W.Frag} {mg : Str → Option Value} {base : Heap}
theorem ok_take {f : Addr} {fd : FuncData} (F : Fun K "_law_take" "_law_take" S_law_take f fd) (B : Bn2 mg) : FnOk P w K mg base CX0 1 f fd ["_law_pool_here", "_law_wide"] spTake := by
  refine F.ok sc_law_take (fun vs H Q E h => ?_) (fun cdv A outer s H vs Q E hr h => ?_)
  · obtain ⟨a, wd, rfl, _⟩ := h; rfl
  · obtain ⟨a, wd, rfl, ⟨p, q, ha, hp⟩, hw, hw2, k⟩ := h
    refine ⟨_, pss_cons (ps_if (pt_cmpR op_gt (pe_ix ix_list (pv 0) pe_int (fun _ _ => rfl)) pe_int (nomark _))
        (pss_cons (ps_set (i := 2) sc_law_take.nd rfl (Or.inl rfl) (pe_op op_mod (pe_callTy call_int1 (by rfl) B.int (by decide +kernel) (pa_cons (pe_ix ix_list (pv 0) pe_int (fun _ _ => rfl)) pa_nil)) (pv 1)))
        (pss_cons (ps_asg (pe_op op_fdiv (pe_ix ix_list (pv 0) pe_int (fun _ _ => rfl)) (pv 1)) (pg_sub (pv 0) pe_int set_list))
        (pss_one (ps_ret (pv 2))))) pss_nil)
      (pss_cons (ps_asg (pe_op op_mod (pe_callTy call_int1 (by rfl) B.int (by decide +kernel) (pa_cons (pe_op op_add (pe_op op_mul (pe_ix ix_list (pv 0) pe_int (fun _ _ => rfl)) pe_int) pe_int) pa_nil)) pe_int) (pg_sub (pv 0) pe_int set_list))
      (pss_one (ps_ret (pe_op op_mod (pe_op op_fdiv (pe_op op_mod (pe_callTy call_int1 (by rfl) B.int (by decide +kernel) (pa_cons (pe_op op_mul (pe_ix ix_list (pv 0) pe_int (fun _ _ => rfl)) (pe_ix ix_list (pv 0) pe_int (fun _ _ => rfl))) pa_nil)) pe_int) pe_int) (pv 1))))), ?_⟩
    have m0 : (0 : Int) < 2147483629 := by decide
    have m1 : (0 : Int) < 2147483647 := by decide
    have L : SqL K H a [.int p, .int q] := .of ha
    refine ⟨_, rfl, a, _, _, .int p, rfl, rfl, L, at_of (j := 0) rfl rfl, _, _, rfl, rfl, _, rfl, ?_⟩
    refine ite2 (fun h => ?_) (fun h => ?_)
    · refine ⟨_, rfl, a, _, _, .int p, rfl, rfl, L, at_of (j := 0) rfl rfl, .inl ⟨_, rfl, _, rfl, _, _, rfl, rfl, hw, ?_⟩⟩
      refine ⟨_, rfl, a, _, _, .int p, rfl, rfl, L, at_of (j := 0) rfl rfl, _, rfl, _, _, rfl, rfl, ⟨hw, hw2⟩, _, rfl, a, _, _, 0, rfl, rfl, ha, rfl, ?_⟩
      refine ⟨_, rfl, k _ _ (Int.emod_nonneg _ (Int.ne_of_gt hw)) (Int.emod_lt_of_pos _ hw) ⟨p / wd, q, upd_same, Int.ediv_nonneg hp (Int.le_of_lt hw)⟩ (fun b o hb hne => by rw [upd_ne hne]; exact hb) (fun b hb => ?_)⟩
      rw [upd_ne (fun e => by rw [e, ha] at hb; cases hb)]; exact hb
    · refine ⟨_, rfl, a, _, _, .int q, rfl, rfl, L, at_of (j := 1) rfl rfl, _, _, rfl, rfl, .inr ⟨by decide, by decide⟩, _, _, rfl, rfl, .inl ⟨_, rfl, _, _, rfl, rfl, m1, ?_⟩⟩
      refine ⟨_, rfl, a, _, _, 1, rfl, rfl, ha, rfl, ?_⟩
      dsimp only [List.set]
      have b0 := Int.emod_nonneg (q * 48271 + 12345) (Int.ne_of_gt m1)
      have b1 := Int.emod_lt_of_pos (q * 48271 + 12345) m1
      generalize (q * 48271 + 12345) % 2147483647 = z at b0 b1
      have L2 : SqL K (upd H a (.lst [.int p, .int z])) a [.int p, .int z] := .of upd_same
      refine ⟨_, rfl, a, _, _, .int z, rfl, rfl, L2, at_of (j := 1) rfl rfl, _, rfl, a, _, _, .int z, rfl, rfl, L2, at_of (j := 1) rfl rfl, _, _, rfl, rfl, .inl ⟨by omega, by omega⟩, .inl ⟨_, rfl, _, _, rfl, rfl, m0, _, _, rfl, rfl, ⟨by decide, by decide⟩, _, rfl, _, _, rfl, rfl, hw, ?_⟩⟩
      refine k _ _ (Int.emod_nonneg _ (Int.ne_of_gt hw)) (Int.emod_lt_of_pos _ hw) ⟨p, z, upd_same, hp⟩ (fun b o hb hne => by rw [upd_ne hne]; exact hb) (fun b hb => ?_)
      rw [upd_ne (fun e => by rw [e, ha] at hb; cases hb)]; exact hb
end

/-! ### the draws as data -/
def PoolD (ys : List PyData) : Prop := ∃ p q : Int, ys = [.int p, .int q] ∧ 0 ≤ p
abbrev PreT : List PyData → List Sl → Prop := fun ys as => PoolD ys ∧ ∃ wd : Int, as = [.d (.int wd)] ∧ 0 < wd ∧ wd < 1073741824
abbrev ResT : List PyData → List Sl → Sl → List PyData → Prop := fun _ as r ys' => PoolD ys' ∧ ∃ wd i : Int, as = [.d (.int wd)] ∧ r = .d (.int i) ∧ 0 ≤ i ∧ i < wd
abbrev PreP : List Sl → Prop := fun as => ∃ (ns : List Int) (k : Nat), as = [.d (.list (ns.map .int)), .d (.int k)] ∧ k ≤ 63 ∧ ns.length ≤ 63
abbrev ResP : List Sl → Sl → Prop := fun _ r => ∃ ys, r = .own ys ∧ PoolD ys
theorem dp_iz {K : PySem.W.Frag} {G : Hp} : ∀ {ns : List Int} {xs : List V}, DpAll K G xs (ns.map .int) → xs = iz ns
  | [], _, h => by cases h; rfl
  | n :: ns, _, h => by
    rw [List.map_cons] at h
    cases h with
    | cons h1 h2 =>
      cases h1
      rw [dp_iz h2]
      rfl
theorem dp_two {K : PySem.W.Frag} {G : Hp} {p q : Int} {vs : List V} (h : DpAll K G vs [.int p, .int q]) : vs = [.int p, .int q] := by
  cases h with
  | cons h1 h2 =>
    cases h1
    cases h2 with
    | cons h3 h4 =>
      cases h3
      cases h4
      rfl
section
variable {P : Program} {w : World} {K : PySem.W.Frag} {mg : Str → Option Value} {base : Heap}
theorem take_B {f : Addr} {fd : FuncData} {k : Nat} {ps : List Str} (F : FnOk P w K mg base CX0 k f fd ps spTake) : FnOk P w K mg base CX0 k f fd ps (spB K PreT ResT) := F.imp fun vs H Q E z => by
  obtain ⟨G, a, us, ys, as, rfl, l, hG, ⟨⟨p, q, rfl, hp⟩, wd, rfl, w0, w1⟩, h⟩ := z
  obtain ⟨u, rfl⟩ : ∃ u, us = [u] := List.length_eq_one_iff.mp (by simpa using l)
  have ok0 := hG.ok _ List.mem_cons_self
  obtain ⟨a', us0, e, hm, hg0, hl, hd⟩ := ok0
  cases e
  have := dp_two hd
  subst this
  obtain ⟨v, e, hv⟩ := hG.ok (some u, .d (.int wd)) (by simp)
  cases e
  cases hv
  refine ⟨a, wd, rfl, ⟨p, q, hl, hp⟩, w0, w1, fun r H' r0 r1 ⟨p', q', hl', hp'⟩ hb hn => ?_⟩
  refine h (.d (.int r)) [.int p', .int q'] ⟨⟨p', q', rfl, hp'⟩, wd, r, rfl, rfl, r0, r1⟩ (by simp) _ H' ⟨G, hG.old, fun b o e => hb b o (hG.up _ _ e) (fun n => by rw [n, hg0] at e; cases e), fun b o e => .inl e, fun b o e n => hb b o e (by simpa using n), fun b hb' => ?_, fun c hc => ?_, by simp [ads], hG.fl⟩
  · rw [List.mem_singleton.mp hb', hl']
    rfl
  · simp only [List.mem_cons, List.not_mem_nil, or_false] at hc
    rcases hc with rfl | rfl
    · exact ⟨_, rfl, .int r⟩
    · exact ⟨a, [.int p', .int q'], rfl, List.mem_singleton_self _, hg0, hl', .cons (.int _) (.cons (.int _) .nil)⟩
theorem pool_P {f : Addr} {fd : FuncData} {k : Nat} {ps : List Str} (F : FnOk P w K mg base CX0 k f fd ps (spPool K)) : FnOk P w K mg base CX0 k f fd ps (spP K PreP ResP) := F.imp fun vs H Q E z => by
  obtain ⟨G, as, l, hG, ⟨ns, k, rfl, hk, hn⟩, h⟩ := z
  obtain ⟨u1, u2, rfl⟩ : ∃ u1 u2, vs = [u1, u2] := by
    match vs, l with
    | [u1, u2], _ => exact ⟨u1, u2, rfl⟩
  obtain ⟨v1, e1, d1⟩ := hG.ok (some u1, .d (.list (ns.map .int))) (by simp)
  obtain ⟨v2, e2, d2⟩ := hG.ok (some u2, .d (.int k)) (by simp)
  cases e1; cases e2; cases d2
  cases d1 with
  | @lst a xs _ g1 g2 =>
    have := dp_iz g2
    subst this
    refine ⟨a, ns, k, rfl, hG.up.seq g1, hk, hn, fun p H' hp s ⟨p1, q1, hl, h0⟩ => ?_⟩
    have gp : G p = none := hG.up.free hp
    refine h _ ⟨[.int p1, .int q1], rfl, p1, q1, rfl, h0⟩ (by simp) _ H' ⟨G, hG.old, hG.up.trans s, fun b o e => .inl e, fun b o e _ => s _ _ e, fun b hb => (nomatch hb), fun c hc => ?_, by simp [ads], hG.fl⟩
    rw [List.mem_singleton.mp hc]
    exact ⟨p, [.int p1, .int q1], rfl, hp, gp, hl, .cons (.int _) (.cons (.int _) .nil)⟩
end
section
variable {X : Cx} {b : Bs} {ρ : List Sl} {p : Sl → List Sl → Prop} {e : Expr} {es : List Expr} {pos : Pos}
/-- a draw -/
theorem ev_take (i : Nat) {k : Nat} {wd : Int} {s : Sl} {ys : List PyData} {p1 p2 cp : Pos} (C : CalB X.prog X.w X.K X.mg X.base CX0 "_law_take" k PreT ResT) (hr : Room k X.A) (hN : X.N[i]? = some "_law_pool_here") (hv : Vis X.env.scope "_law_pool_here") {E : XK} (hx : Passes CX0 X E)
    (hs : ρ[i]? = some s) (ks : s = .own ys ∨ s = .bor ys) (hy : PoolD ys) (h : EVr X b ρ e (.d (.int wd))) (w0 : 0 < wd) (w1 : wd < 1073741824) (k : ∀ (r : Int) (ys' : List PyData), 0 ≤ r → r < wd → PoolD ys' → p (.d (.int r)) (ρ.set i (setS s ys'))) (hg : Gl X "_law_take" := by rfl)
    (he0 : starEach [e] X.env = (false, eval e X.env) :: starEach [] X.env := by rfl) (he : starEach [.Name "_law_pool_here" p2, e] X.env = (false, eval (.Name "_law_pool_here" p2) X.env) :: starEach [e] X.env := by rfl) (hpl : (backTo cp (starEach [e] X.env)).any (·.1) = false := by rfl) : EV X b ρ (.Call (.Name "_law_take" p1) [.Name "_law_pool_here" p2, e] [] cp) p :=
  ev_calL i C hr hg hx hN hv (a_cons h a_nil he0 _ ⟨[.int wd], rfl, s, ys, hs, ks, ⟨hy, wd, rfl, w0, w1⟩, fun r ys' ⟨h1, wd', j, e1, e2, j0, j1⟩ => by
    cases e1
    subst e2
    exact ⟨by simp, k j ys' j0 j1 h1⟩⟩) ⟨s, ys, hs, ks⟩ (by decide) (by decide) (by decide) he hpl
end

end K08

namespace DE
open PySem PySem.Spec PyProof.Rows L2 SZ VR VX StX RT
/-! ### a comprehension whose element changes what is held -/
section
variable {X : Cx} {b : Bs} {ρ : List Sl} {tg elt : Expr}
theorem lc_turnE {scope : Scope} {vs : List Nat} {y : PyData} {ρ2 : List Sl} {acc : List PyData} {J : List PyData → List Sl → Prop} (hg : AllB X scope fun Y => EGr Y b vs ρ tg (.d y) ρ2) (hl : acc.length < sizeLine)
    (he : AllB X scope fun Y => EV Y b ρ2 elt fun r ρ4 => ∃ z, cool r = .d z ∧ J (acc ++ [z]) (wipeR ρ4 vs)) : LcTurn X b scope tg elt [] vs y ρ acc J :=
  ⟨fun ρ' => ρ' = ρ2, fun s H C cl fp => hg s H C cl fp _ rfl, fun ρ' e => by
    subst e
    refine ⟨fun c' ρ3 => c' = true ∧ ρ3 = ρ', fun s H C cl fp => ts_nil _ ⟨rfl, rfl⟩, fun c' ρ3 ⟨e1, e2⟩ => ?_⟩
    subst e1 e2
    exact ⟨(fun e => (nomatch e)), fun _ => ⟨hl, he⟩⟩⟩
end

end DE

namespace K08
open PySem L2 SZ VR VX StX RT DE
/-! ### drawn parts, drawn forms -/
abbrev QMENU : List Int := [0, 0, 1, -1, 2, 3, -7, 12, 10 ^ 30]
def QOk (m : Nat) (ps : List Int) : Prop := trim ps = ps ∧ ps.length ≤ m ∧ ∀ p ∈ ps, p ∈ QMENU
abbrev PreQ : List PyData → List Sl → Prop := fun ys as => PoolD ys ∧ ∃ m : Nat, as = [.d (.int (m : Int))] ∧ m ≤ 8
abbrev ResQ : List PyData → List Sl → Sl → List PyData → Prop := fun _ as r ys' => PoolD ys' ∧ ∃ (m : Nat) (ps : List Int), as = [.d (.int (m : Int))] ∧ r = .d (.tuple (ps.map .int)) ∧ QOk m ps
theorem cl_uniq {ps : List Int} {r : Sl} (h : ResCl ([.list (ps.map .int)].map .d) r) : r = .d (.tuple ((clearL ps).map .int)) := by
  obtain ⟨p', e, rfl⟩ := h
  injection e with e1 _
  injection e1 with e1
  injection e1 with e1
  rw [ints_inj e1]
theorem clear_q {qs : List Int} {m : Nat} (hl : qs.length ≤ m) (h : ∀ q ∈ qs, q ∈ QMENU) : QOk m (clearL qs) := by
  rw [clear_trim]
  exact ⟨trim_trim _, Nat.le_trans (trim_len _) hl, fun p hp => h p (trim_mem hp)⟩
section
variable {P : Program} {w : World} {K : PySem.W.Frag} {mg : Str → Option Value} {base : Heap}
theorem t_parts {f : Addr} {fd : FuncData} (F : Fun K "_law_parts" "_law_parts" S_law_parts f fd) (CT : CalB P w K mg base CX0 "_law_take" 1 PreT ResT) (CC : CalP P w K mg base CX0 "_law_cleared" 1 PreCl ResCl) (z_range : mg "range" = none) : FnOk P w K mg base CX0 2 f fd ["_law_pool_here", "_law_most"] (spB K PreQ ResQ) := by
  refine fn_B F sc_law_parts (fun ys as h => by obtain ⟨_, m, rfl, _⟩ := h; rfl) fun cdv A outer s H E hr b ys as hp => ?_
  obtain ⟨hy, m, rfl, hm⟩ := hp
  show XB _ _ [.bor ys, .d (.int (m : Int)), .un, .un] _ _
  refine xb_cons (xs_set 2 sc_law_parts.nd rfl (.inr rfl) (by simp) rfl (.inl rfl) ((r_cool (r_lst (a_cons r_int (a_cons r_int (a_cons r_int (a_cons (r_un r_int u_neg) (a_cons r_int (a_cons r_int (a_cons (r_un r_int u_neg) (a_cons r_int (a_cons (r_bin r_int r_int (or_pow ⟨by decide +kernel, by decide +kernel, by decide +kernel⟩)) a_nil))))))))) rfl)) _ fun _ _ => ?_))
  show XB _ _ [.bor ys, .d (.int (m : Int)), .d (.list (QMENU.map .int)), .un] _ _
  refine xb_one (xs_ret (ev_cal CC hr rfl pass0 (ea_cons (h := ev_lc (own := [("_law_turn", 3)]) rfl sc_law_parts.nd (blkOk_by (N := ["_law_pool_here", "_law_most", "_law_menu", "_law_turn"]) (sc := defScope S_law_parts) (by decide +kernel)) (ei_range rfl z_range (ev_take 0 CT hr rfl (by walk_at "v") pass0 rfl (.inr rfl) hy (wd := (m : Int) + 1) (r_bin (r_var 1 rfl (by walk_at "v") rfl) r_int (by walk_at "o")) (by omega) (by omega) fun n ys1 n0 n1 hy1 => ⟨_, rfl, by omega, by omega, fun _ => ?_⟩))))))
  refine ⟨fun i acc ρ' => ∃ ys qs, acc = qs.map .int ∧ qs.length = i ∧ (∀ q ∈ qs, q ∈ QMENU) ∧ PoolD ys ∧ ρ' = [.bor ys, .d (.int (m : Int)), .d (.list (QMENU.map .int)), .un], ⟨ys1, [], rfl, rfl, by simp, hy1, rfl⟩, ?_, ?_, ?_⟩
  · rintro i acc ρ' ⟨ys, qs, _, _, _, _, rfl⟩ v hv
    rw [List.mem_singleton.mp hv]
    rfl
  · rintro i y acc ρ' hyi hl ⟨ys, qs, rfl, hq, hqm, hy, rfl⟩
    have hi : i < m + 1 := by
      have h := (List.getElem?_eq_some_iff.mp hyi).1
      rw [rngD_len] at h
      omega
    refine lc_turnE (ρ2 := [.bor ys, .d (.int (m : Int)), .d (.list (QMENU.map .int)), .d y]) (fun s H C cl fp => g_name 3 rfl (by walk_at "v") sc_law_parts.nd rfl) (by rw [List.length_map, sizeLine_eq]; omega) (fun s H C cl fp => ?_)
    refine ev_menu (r_var 2 rfl (by walk_at "v") rfl) (.inl rfl) (ev_take 0 CT hr rfl (by walk_at "v") pass0 rfl (.inr rfl) hy (wd := 9) r_int (by decide) (by decide) fun j ys2 j0 j1 hy2 => ⟨_, rfl, j0, j1, fun y1 hm1 => ?_⟩)
    obtain ⟨q, hqq, rfl⟩ := List.mem_map.mp (List.mem_of_getElem? hm1)
    refine ⟨.int q, rfl, ys2, qs ++ [q], by rw [List.map_append]; rfl, by rw [List.length_append, hq]; rfl, fun x hx => ?_, hy2, rfl⟩
    rcases List.mem_append.mp hx with hx | hx
    · exact hqm x hx
    · rw [List.mem_singleton.mp hx]
      exact hqq
  · rintro acc ρ' ⟨ys, qs, rfl, hq, hqm, hy, rfl⟩
    rw [rngD_len] at hq
    have hql : qs.length ≤ m := by omega
    refine ea_nil ?_
    refine ⟨[.list (qs.map .int)], rfl, ⟨qs, rfl, by omega⟩, fun r hr' => ?_⟩
    have er := cl_uniq hr'
    subst er
    refine ⟨by simp, fun _ => ?_⟩
    exact ⟨ys, rfl, ⟨hy, m, clearL qs, rfl, rfl, clear_q hql hqm⟩, nofun⟩
end

end K08

namespace K08
open PySem L2 SZ VR VX StX RT DE
/-! ### drawn forms -/
def FmD (cs : List Str) (A : List Int) (F : List Fc) : Prop := QOk 4 A ∧ (∃ zs : List Str, zs.Perm cs ∧ PyProof.Rows.sortedS zs = true ∧ (F.map (·.1)).Sublist zs) ∧ ∀ f ∈ F, QOk 3 f.2 ∧ f.2 ≠ []
abbrev PreF (cs : List Str) : List PyData → List Sl → Prop := fun ys as => PoolD ys ∧ as = [.d (.list (cs.map .str))]
abbrev ResF (cs : List Str) : List PyData → List Sl → Sl → List PyData → Prop := fun _ _ r ys' => PoolD ys' ∧ ∃ A F, r = .d (idxD A F) ∧ FmD cs A F
section
variable {P : Program} {w : World} {K : PySem.W.Frag} {mg : Str → Option Value} {base : Heap}
theorem q_lay {ps : List Int} : Lay 1 (.tuple (ps.map .int)) := Lay.tup (n := 0) fun y hy => by
  obtain ⟨i, _, rfl⟩ := List.mem_map.mp hy
  exact Lay.int
theorem t_dform {f : Addr} {fd : FuncData} (F : Fun K "_law_form" "_law_form" S_law_form f fd) (CT : CalB P w K mg base CX0 "_law_take" 1 PreT ResT) (CP : CalB P w K mg base CX0 "_law_parts" 2 PreQ ResQ) (z_sorted : mg "sorted" = none) (z_tuple : mg "tuple" = none) (cs : List Str) (hcs : cs.length ≤ 5) : FnOk P w K mg base CX0 3 f fd ["_law_pool_here", "_law_counters"] (spB K (PreF cs) (ResF cs)) := by
  refine fn_B F sc_law_form (fun ys as h => by rw [h.2]; rfl) fun cdv A outer s H E hr b ys as hp => ?_
  obtain ⟨hy, rfl⟩ := hp
  have hu := hr.units
  have hr1 := hr.mono (show 1 ≤ 2 by decide)
  show XB _ _ [.bor ys, .d (.list (cs.map .str)), .un, .un, .un] _ _
  refine xb_cons (x_set 2 (r_lst a_nil rfl) rfl (by walk_at "v") sc_law_form.nd rfl (fun _ => ?_))
  refine xb_cons (xs_for (ts := [3]) PassesOwn.never rfl (by intro _; rfl) (ei_list (ev_callB rfl z_sorted (by decide +kernel) ((r_var 1 rfl (by walk_at "v") rfl) _ |> fun h => ea_cons (h := h (ea_nil (cv_sortedS rfl (by omega) fun zs hp hs => ⟨_, rfl, fun _ => ?_⟩)))))))
  have hzl : zs.length ≤ 5 := by rw [hp.length_eq]; exact hcs
  refine ⟨fun i ρ' => ∃ ys F s3 s4, ρ' = [.bor ys, .d (.list (cs.map .str)), .own (F.map fcD), s3, s4] ∧ PoolD ys ∧ (F.map (·.1)).Sublist (zs.take i) ∧ ∀ f ∈ F, QOk 3 f.2 ∧ f.2 ≠ [], ⟨ys, [], _, _, rfl, hy, List.Sublist.refl _, by simp⟩, ?_, ?_⟩
  · rintro i y ρ' hyi hl ⟨ys, F, s3, s4, rfl, hy, hF, hq⟩
    rw [List.getElem?_map] at hyi
    obtain ⟨z, hz, rfl⟩ := Option.map_eq_some_iff.mp hyi
    have hi : i < zs.length := (List.getElem?_eq_some_iff.mp hz).1
    have htk : zs.take (i + 1) = zs.take i ++ [z] := by rw [List.take_add_one, hz]; rfl
    have hFl : F.length ≤ 5 := by
      have := hF.length_le
      rw [List.length_map, List.length_take] at this
      omega
    refine (g_name 3 rfl (by walk_at "v") sc_law_form.nd rfl) _ fun _ => ?_
    refine xb_cons (xs_set 4 sc_law_form.nd rfl (by walk_at "v") (by simp) rfl (.inl rfl) (ev_calL 0 CP hr rfl pass0 rfl (by walk_at "v") ((a_cons r_int a_nil) _ ⟨[.int 3], rfl, _, ys, rfl, .inr rfl, ⟨hy, 3, rfl, by decide⟩, fun r ys2 hr' => ?_⟩) ⟨_, _, rfl, .inr rfl⟩))
    obtain ⟨hy2, m, ps, em, rfl, hps⟩ := hr'
    have em : m = 3 := by
      injection em with em _
      injection em with em
      injection em with em
      omega
    subst em
    refine ⟨by simp, fun _ _ => ?_⟩
    show XB _ _ [.bor ys2, .d (.list (cs.map .str)), .own (F.map fcD), .d (.str z), .d (.tuple (ps.map .int))] _ _
    have hne : (!PyData.eqv (.tuple (ps.map .int)) (.tuple [])) = !ps.isEmpty := by rw [eqv_nilT, List.isEmpty_map]
    have stay : ∀ (ys : List PyData) (s3 s4 : Sl), PoolD ys → ∃ (ys' : List PyData) (F' : List Fc) (s3' s4' : Sl), [Sl.bor ys, Sl.d (.list (cs.map .str)), .own (F.map fcD), s3, s4] = [.bor ys', .d (.list (cs.map .str)), .own (F'.map fcD), s3', s4'] ∧ PoolD ys' ∧ (F'.map (·.1)).Sublist (zs.take (i + 1)) ∧ ∀ f ∈ F', QOk 3 f.2 ∧ f.2 ≠ [] := fun ys s3 s4 h => ⟨ys, F, s3, s4, rfl, h, by rw [htk]; exact hF.trans (List.sublist_append_left _ _), hq⟩
    refine xb_one (xs_if (et_w (ew_and ((t_cmp (r_var 4 rfl (by walk_at "v") rfl) (r_tup a_nil rfl) (or_neD (by exact hu) rfl rfl (q_lay.shaped (by decide)) (by decide +kernel))) _ ⟨fun h0 => fun _ => ⟨fun h => (nomatch h), fun _ => xb_nil (stay _ _ _ hy2)⟩, fun h0 => ew_and1 (et_cmp rfl (ev_take 0 CT hr1 rfl (by walk_at "v") pass0 rfl (.inr rfl) hy2 (wd := 3) r_int (by decide) (by decide) fun q ys3 q0 q1 hy3 => r_int _ (ov_gt ⟨_, rfl, fun _ => ⟨fun h2 => ?_, fun h2 => xb_nil (stay _ _ _ hy3)⟩⟩)))⟩))))
    refine xb_one (xs_append 2 rfl (by walk_at "v") ((r_tup (a_cons (r_var 3 rfl (by walk_at "v") rfl) (a_cons (r_var 4 rfl (by walk_at "v") rfl) a_nil)) rfl) _ fun _ => ⟨_, _, _, rfl, rfl, .inl rfl, by rw [List.length_map, sizeLine_eq]; omega, ?_⟩) ⟨_, _, rfl, .inl rfl⟩)
    refine ⟨ys3, F ++ [(z, ps)], .d (.str z), .d (.tuple (ps.map .int)), by rw [List.map_append]; rfl, hy3, ?_, fun f hf => ?_⟩
    · rw [htk, List.map_append]
      exact hF.append (List.Sublist.refl _)
    · rcases List.mem_append.mp hf with hf | hf
      · exact hq f hf
      · rw [List.mem_singleton.mp hf]
        refine ⟨hps, fun e => ?_⟩
        have e : ps = [] := e
        rw [hne, e] at h0
        cases h0
  · rintro ρ' ⟨ys, F, s3, s4, rfl, hy, hF, hq⟩ hl
    rw [List.length_map, List.take_length] at hF
    have hFl : F.length ≤ 5 := by
      have := hF.length_le
      rw [List.length_map] at this
      omega
    refine xb_one (xs_ret (ev_tupD (ea_cons (h := ev_calL 0 CP hr rfl pass0 rfl (by walk_at "v") ((a_cons r_int a_nil) _ ⟨[.int 4], rfl, _, ys, rfl, .inr rfl, ⟨hy, 4, rfl, by decide⟩, fun r ys2 hr' => ?_⟩) ⟨_, _, rfl, .inr rfl⟩))))
    obtain ⟨hy2, m, ps, em, rfl, hps⟩ := hr'
    have em : m = 4 := by
      injection em with em _
      injection em with em
      injection em with em
      omega
    subst em
    refine ⟨by simp, ea_cons (h := ev_callTy (T := "tuple") rfl z_tuple (by decide +kernel) (ea_cons (h := ev_mov 2 rfl (by walk_at "v") rfl (ea_nil (cv_tupO (ea_nil ⟨_, rfl, by simp, fun _ => ?_⟩))))))⟩
    exact ⟨ys2, rfl, ⟨hy2, ps, F, rfl, hps, ⟨zs, hp, hs, hF⟩, hq⟩, nofun⟩
end

end K08

namespace K08
open PySem L2 SZ VR VX StX RT DE
/-! ### drawn statements and blocks -/
mutual
def DrS (ar nm : List Str) : Tre → List Str → Prop
  | .acc w a ps fs, cs => (w = "read" ∨ w = "write") ∧ a ∈ ar ∧ FmD cs ps fs
  | .flush, _ => True
  | .loop c ps b, cs => c ∈ nm ∧ c ∉ cs ∧ cs.length < 4 ∧ QOk 3 ps ∧ DrB ar nm b (cs ++ [c])
def DrB (ar nm : List Str) : List Tre → List Str → Prop
  | [], _ => True
  | s :: b, cs => DrS ar nm s cs ∧ DrB ar nm b cs
end
mutual
def cntS : Tre → Nat
  | .acc _ _ _ _ => 1
  | .flush => 1
  | .loop _ _ b => 1 + cntB b
def cntB : List Tre → Nat
  | [] => 0
  | s :: b => cntS s + cntB b
end
theorem drB_snoc {ar nm : List Str} {cs : List Str} {s : Tre} : ∀ {b : List Tre}, DrB ar nm b cs → DrS ar nm s cs → DrB ar nm (b ++ [s]) cs
  | [], _, h => ⟨h, trivial⟩
  | x :: b, h, k => by
    unfold DrB at h
    exact ⟨h.1, drB_snoc h.2 k⟩
theorem cntB_app : ∀ (a b : List Tre), cntB (a ++ b) = cntB a + cntB b
  | [], b => by
    show cntB b = 0 + cntB b
    omega
  | s :: a, b => by
    show cntS s + cntB (a ++ b) = (cntS s + cntB a) + cntB b
    rw [cntB_app a b]
    omega
theorem blD_app (a b : List Tre) : blD (a ++ b) = blD a ++ blD b := by rw [blD_map, blD_map, blD_map, List.map_append]
def EnvD (ar nm : List Str) (L : Int) : List (Str × PyData) := [("arrays", .list (ar.map .str)), ("names", .list (nm.map .str)), ("left", .int L)]
theorem env_ne : ("arrays" : Str) ≠ "left" ∧ ("names" : Str) ≠ "left" ∧ ("arrays" : Str) ≠ "names" := by decide +kernel
theorem env_left {ar nm : List Str} {L : Int} : getK (EnvD ar nm L) "left" = some (.int L) := by
  unfold getK EnvD
  rw [List.find?_cons, decide_eq_false env_ne.1, List.find?_cons, decide_eq_false env_ne.2.1, List.find?_cons, decide_eq_true rfl]
  rfl
theorem env_names {ar nm : List Str} {L : Int} : getK (EnvD ar nm L) "names" = some (.list (nm.map .str)) := by
  unfold getK EnvD
  rw [List.find?_cons, decide_eq_false env_ne.2.2, List.find?_cons, decide_eq_true rfl]
  rfl
theorem env_arrays {ar nm : List Str} {L : Int} : getK (EnvD ar nm L) "arrays" = some (.list (ar.map .str)) := by
  unfold getK EnvD
  rw [List.find?_cons, decide_eq_true rfl]
  rfl
theorem env_set {ar nm : List Str} {L M : Int} : setK (EnvD ar nm L) "left" (.int M) = EnvD ar nm M := by
  unfold setK EnvD
  rw [List.map_cons, List.map_cons, List.map_cons, if_neg env_ne.1, if_neg env_ne.2.1, if_pos rfl]
  rfl
def NmsOk (l : List Str) : Prop := l.length ≤ 20 ∧ ∀ z ∈ l, PyData.strOk z = true
abbrev PreS (ar nm cs : List Str) (L : Nat) : List PyData → List (Str × PyData) → List Sl → Prop := fun ys kvs as => PoolD ys ∧ kvs = EnvD ar nm ((L + 1 : Nat) : Int) ∧ as = [.d (.list (cs.map .str))]
abbrev ResS (ar nm cs : List Str) (L : Nat) : List PyData → List (Str × PyData) → List Sl → PyData → List PyData → List (Str × PyData) → Prop := fun _ _ _ y ys' kvs' => PoolD ys' ∧ ∃ (M : Nat) (s : Tre), y = trD s ∧ kvs' = EnvD ar nm (M : Int) ∧ DrS ar nm s cs ∧ cntS s + M ≤ L + 1
abbrev PreK (ar nm cs : List Str) (L : Nat) : List PyData → List (Str × PyData) → List Sl → Prop := fun ys kvs as => PoolD ys ∧ kvs = EnvD ar nm (L : Int) ∧ as = [.d (.list (cs.map .str))]
abbrev ResK (ar nm cs : List Str) (L : Nat) : List PyData → List (Str × PyData) → List Sl → PyData → List PyData → List (Str × PyData) → Prop := fun _ _ _ y ys' kvs' => PoolD ys' ∧ ∃ (M : Nat) (b : List Tre), y = .tuple (blD b) ∧ kvs' = EnvD ar nm (M : Int) ∧ DrB ar nm b cs ∧ cntB b + M ≤ L
theorem strs_of : ∀ l : List Str, strsOf (l.map .str) = some l
  | [] => rfl
  | z :: l => by
    have ih := strs_of l
    rw [List.map_cons]
    unfold strsOf
    rw [ih]
theorem strs_lay {l : List Str} (h : ∀ z ∈ l, PyData.strOk z = true) : Lay 1 (.list (l.map .str)) := Lay.lst (n := 0) fun y hy => by
  obtain ⟨z, hz, rfl⟩ := List.mem_map.mp hy
  exact Lay.str (h z hz)
section
variable {P : Program} {w : World} {K : PySem.W.Frag} {mg : Str → Option Value} {base : Heap}
theorem t_stm {f : Addr} {fd : FuncData} {k kb : Nat} (F : Fun K "_law_statement" "_law_statement" S_law_statement f fd) (CT : CalB P w K mg base CX0 "_law_take" 1 PreT ResT) (CP : CalB P w K mg base CX0 "_law_parts" 2 PreQ ResQ) (ar nm cs : List Str) (har : NmsOk ar) (hnm : NmsOk nm) (hcs : NmsOk cs) (hc4 : cs.length ≤ 4) (CF : CalB P w K mg base CX0 "_law_form" 3 (PreF cs) (ResF cs))
    (CB : ∀ (c : Str) (M : Nat), c ∈ nm → cs.length < 4 → CalD P w K mg base CX0 "_law_block" kb (PreK ar nm (cs ++ [c]) M) (ResK ar nm (cs ++ [c]) M)) (hk : 3 ≤ k) (hkb : kb ≤ k) (z_len : mg "len" = none) (L : Nat) : FnOk P w K mg base CX0 (k + 1) f fd ["_law_pool_here", "_law_env", "_law_counters"] (spD K (PreS ar nm cs L) (ResS ar nm cs L)) := by
  refine fn_D F sc_law_statement (fun ys kvs as h => by rw [h.2.2]; rfl) fun cdv A outer s H E hr b ys kvs as hp => ?_
  obtain ⟨hy, rfl, rfl⟩ := hp
  have hu := hr.units
  have hu1 := Nat.lt_of_le_of_lt (Nat.add_le_add_left (show 1 ≤ 64 by decide) _) hu
  have hr1 := hr.mono (show 1 ≤ k by omega)
  have hr2 := hr.mono (show 2 ≤ k by omega)
  have hr3 := hr.mono (show 3 ≤ k by omega)
  have hrb := hr.mono hkb
  show XB _ _ [.bor ys, .dct false (EnvD ar nm ((L + 1 : Nat) : Int)), .d (.list (cs.map .str)), .un, .un, .un, .un] _ _
  refine xb_cons (xs_asg (ts := []) (h := (r_bin (r_dget 1 (by exact hu1) rfl (by walk_at "v") rfl r_str env_left) r_int (by walk_at "o")) _ fun _ => eg_dset 1 (by exact hu1) rfl (by walk_at "v") rfl r_str env_left (by show (3:Nat) ≤ 100; decide) rfl fun _ => fun _ => ?_))
  have eL : ((L + 1 : Nat) : Int) - 1 = (L : Int) := by omega
  rw [eL, env_set]
  show XB _ _ [.bor ys, .dct false (EnvD ar nm (L : Int)), .d (.list (cs.map .str)), .un, .un, .un, .un] _ _
  refine xb_cons (xs_set 3 sc_law_statement.nd rfl (by walk_at "v") (by simp) rfl (.inl rfl) (ev_take 0 CT hr1 rfl (by walk_at "v") pass0 rfl (.inr rfl) hy (wd := 6) r_int (by decide) (by decide) fun way ys1 w0 w1 hy1 => fun _ => fun _ => ?_))
  show XB _ _ [.bor ys1, .dct false (EnvD ar nm (L : Int)), .d (.list (cs.map .str)), .d (.int way), .un, .un, .un] _ _
  refine xb_cons (xs_setLc 4 (own := [("_law_name", 6)]) rfl sc_law_statement.nd rfl (by simp) rfl rfl (blkOk_by (N := ["_law_pool_here", "_law_env", "_law_counters", "_law_way", "_law_free", "_law_array", "_law_name"]) (sc := defScope S_law_statement) (by decide +kernel)) ((i_list (r_dget 1 (by exact hu1) rfl (by walk_at "v") rfl r_str env_names) rfl) _ fun _ => ?_))
  have hsl := hcs.1
  have hnl := hnm.1
  refine ⟨fun i acc ρ' => acc = ((nm.take i).filter fun z => !cs.contains z).map .str ∧ ρ' = [.bor ys1, .dct false (EnvD ar nm (L : Int)), .d (.list (cs.map .str)), .d (.int way), .un, .un, .un], ⟨by simp, rfl⟩, ?_, ?_, ?_⟩
  · rintro i acc ρ' ⟨_, rfl⟩ v hv
    rw [List.mem_singleton.mp hv]
    rfl
  · rintro i y acc ρ' hyi hl ⟨rfl, rfl⟩
    rw [List.getElem?_map] at hyi
    obtain ⟨z, hz, rfl⟩ := Option.map_eq_some_iff.mp hyi
    have hi : i < nm.length := (List.getElem?_eq_some_iff.mp hz).1
    have hfl := List.length_filter_le (fun z => !cs.contains z) (nm.take i)
    rw [List.length_take] at hfl
    refine lc_turn (c := !cs.contains z) (ρ2 := [.bor ys1, .dct false (EnvD ar nm (L : Int)), .d (.list (cs.map .str)), .d (.int way), .un, .un, .d (.str z)]) (fun s H C cl fp => g_name 6 rfl (by walk_at "v") sc_law_statement.nd rfl) (fun s H C cl fp => ts_one (t_cmp (r_var 6 rfl (by walk_at "v") rfl) (r_var 2 rfl (by walk_at "v") rfl) (or_notInS (.inl rfl) (strs_of cs)))) rfl (fun h => ?_) fun h => ⟨.d (.str z), .str z, fun s H C cl fp => r_var 6 rfl (by walk_at "v") rfl, rfl, by rw [List.length_map, sizeLine_eq]; omega, ?_, rfl⟩
    · refine ⟨?_, rfl⟩
      rw [List.take_add_one, hz, List.filter_append]
      simp only [Option.toList, List.filter_cons, h, List.filter_nil]
      simp
    · rw [List.take_add_one, hz, List.filter_append]
      simp only [Option.toList, List.filter_cons, h, List.filter_nil]
      simp
  rintro acc ρ' ⟨rfl, rfl⟩ hl1 hl2
  rw [List.length_map, List.take_length]
  have hfree : ∀ z ∈ nm.filter (fun z => !cs.contains z), z ∈ nm ∧ z ∉ cs := fun z hz => by
    obtain ⟨h1, h2⟩ := List.mem_filter.mp hz
    exact ⟨h1, by simpa using h2⟩
  have hfl := List.length_filter_le (fun z => !cs.contains z) nm
  generalize nm.filter (fun z => !cs.contains z) = fr at hfree hfl
  show XB _ _ [.bor ys1, .dct false (EnvD ar nm (L : Int)), .d (.list (cs.map .str)), .d (.int way), .own (fr.map .str), .un, .un] _ _
  refine xb_frz 4 rfl rfl ?_
  show XB _ _ [.bor ys1, .dct false (EnvD ar nm (L : Int)), .d (.list (cs.map .str)), .d (.int way), .d (.list (fr.map .str)), .un, .un] _ _
  have hfrl : Lay 1 (.list (fr.map .str)) := strs_lay fun z hz => hnm.2 z (hfree z hz).1
  have hfe : (!PyData.eqv (.list (fr.map .str)) (.list [])) = !fr.isEmpty := by rw [eqv_nilL, List.isEmpty_map]
  refine xb_cons (x_if (t_w (w_and (t_cmp (r_var 3 rfl (by walk_at "v") rfl) r_int (by walk_at "o")) fun _ => (w_and (t_cmp (r_callB (id := "len") z_len (a_cons (r_var 2 rfl (by walk_at "v") rfl) a_nil) (by walk_at "c")) r_int (by walk_at "o")) fun _ => (w_and1 (t_cmp (r_var 4 rfl (by walk_at "v") rfl) (r_lst a_nil rfl) (or_neD (by exact hu) rfl rfl (hfrl.shaped (by decide)) (by decide +kernel))))))) (fun h0 => ?_) (fun h0 => xb_nil fun _ => ?_))
  · rw [Bool.and_eq_true, Bool.and_eq_true, hfe, decide_eq_true_iff, decide_eq_true_iff, List.length_map] at h0
    obtain ⟨_, hc3, hne⟩ := h0
    have hc3 : cs.length < 4 := by omega
    have hfn : 0 < fr.length := by
      cases fr with
      | nil => cases hne
      | cons x l => simp
    refine xb_cons (xs_set 6 sc_law_statement.nd rfl (by walk_at "v") (by simp) rfl (.inl rfl) (ev_menu (r_var 4 rfl (by walk_at "v") rfl) (.inl rfl) (ev_take 0 CT hr1 rfl (by walk_at "v") pass0 rfl (.inr rfl) hy1 (wd := ((fr.map PyData.str).length : Int)) (r_callB (id := "len") z_len (a_cons (r_var 4 rfl (by walk_at "v") rfl) a_nil) (by walk_at "c")) (by rw [List.length_map]; omega) (by rw [List.length_map]; omega) fun j ys2 j0 j1 hy2 => ⟨_, rfl, j0, j1, fun y hm => ?_⟩)))
    obtain ⟨c, hcf, rfl⟩ := List.mem_map.mp (List.mem_of_getElem? hm)
    obtain ⟨hcn, hcc⟩ := hfree c hcf
    refine fun _ _ => ?_
    show XB _ _ [.bor ys2, .dct false (EnvD ar nm (L : Int)), .d (.list (cs.map .str)), .d (.int way), .d (.list (fr.map .str)), .un, .d (.str c)] _ _
    refine xb_one (xs_ret (ev_tupD (ea_cons (h := r_str _ (ea_cons (h := (r_var 6 rfl (by walk_at "v") rfl) _ (ea_cons (h := ev_calL 0 CP hr2 rfl pass0 rfl (by walk_at "v") ((a_cons r_int a_nil) _ ⟨[.int 3], rfl, _, ys2, rfl, .inr rfl, ⟨hy2, 3, rfl, by decide⟩, fun r ys3 hr' => ?_⟩) ⟨_, _, rfl, .inr rfl⟩))))))))
    obtain ⟨hy3, m, ps, em, rfl, hps⟩ := hr'
    have em : m = 3 := by
      injection em with em _
      injection em with em
      injection em with em
      omega
    subst em
    refine ⟨by simp, ?_⟩
    refine ea_cons (h := ev_calD 0 1 (CB c L hcn hc3) (by decide) hrb rfl pass0 rfl (by walk_at "v") rfl (by walk_at "v") ((a_cons (r_bin (r_var 2 rfl (by walk_at "v") rfl) (r_lst (a_cons (r_var 6 rfl (by walk_at "v") rfl) a_nil) rfl) (or_catS rfl rfl (by rw [List.length_map, sizeLine_eq]; simp only [List.length_cons, List.length_nil]; omega))) a_nil) _ ⟨[.list (cs.map .str ++ [.str c])], rfl, _, ys3, false, _, rfl, .inr rfl, rfl, ⟨hy3, rfl, by rw [List.map_append]; rfl⟩, fun y ys4 kvs4 hr' => ?_⟩) ⟨_, _, rfl, .inr rfl⟩ ⟨_, _, rfl⟩)
    obtain ⟨hy4, M, bl, rfl, rfl, hdr, hcnt⟩ := hr'
    refine ea_nil ⟨_, rfl, by simp, fun _ => ?_⟩
    refine ⟨trD (.loop c ps bl), ys4, _, rfl, rfl, rfl, hy4, M, .loop c ps bl, rfl, rfl, ⟨hcn, hcc, hc3, hps, hdr⟩, ?_⟩
    show (1 + cntB bl) + M ≤ L + 1
    omega
  have harl : Lay 1 (.list (ar.map .str)) := strs_lay har.2
  have har1 := har.1
  have hae : PyData.eqv (.list (ar.map .str)) (.list []) = ar.isEmpty := by rw [eqv_nilL, List.isEmpty_map]
  refine xb_cons (x_if (t_w (w_or (t_cmp (r_var 3 rfl (by walk_at "v") rfl) r_int (by walk_at "o")) fun _ => (w_or1 (t_cmp (r_dget 1 (by exact hu1) rfl (by walk_at "v") rfl r_str env_arrays) (r_lst a_nil rfl) (or_eqD (by exact hu) rfl rfl (harl.shaped (by decide)) (by decide +kernel)))))) (fun h1 => ?_) (fun h1 => xb_nil fun _ => ?_))
  · refine xb_one (x_ret (r_tup (a_cons r_str a_nil) rfl) ?_)
    exact ⟨trD .flush, ys1, _, rfl, rfl, rfl, hy1, L, .flush, rfl, rfl, trivial, by show 1 + L ≤ L + 1; omega⟩
  rw [Bool.or_eq_false_iff, hae] at h1
  have han : 0 < ar.length := by
    cases ar with
    | nil => exact absurd h1.2 (by decide)
    | cons x l => simp
  refine xb_cons (xs_set 5 sc_law_statement.nd rfl (by walk_at "v") (by simp) rfl (.inl rfl) (ev_menu (r_dget 1 (by exact hu1) rfl (by walk_at "v") rfl r_str env_arrays) (.inl rfl) (ev_take 0 CT hr1 rfl (by walk_at "v") pass0 rfl (.inr rfl) hy1 (wd := ((ar.map PyData.str).length : Int)) (r_callB (id := "len") z_len (a_cons (r_dget 1 (by exact hu1) rfl (by walk_at "v") rfl r_str env_arrays) a_nil) (by walk_at "c")) (by rw [List.length_map]; omega) (by rw [List.length_map]; omega) fun j ys2 j0 j1 hy2 => ⟨_, rfl, j0, j1, fun y hm => ?_⟩)))
  obtain ⟨a, haa, rfl⟩ := List.mem_map.mp (List.mem_of_getElem? hm)
  refine fun _ _ => ?_
  show XB _ _ [.bor ys2, .dct false (EnvD ar nm (L : Int)), .d (.list (cs.map .str)), .d (.int way), .d (.list (fr.map .str)), .d (.str a), .un] _ _
  refine xb_one (xs_ret (ev_tupD (ea_cons (h := ev_menu (r_lst (a_cons r_str (a_cons r_str a_nil)) rfl) (.inl rfl) (ev_take 0 CT hr1 rfl (by walk_at "v") pass0 rfl (.inr rfl) hy2 (wd := 2) r_int (by decide) (by decide) fun j ys3 j0 j1 hy3 => ⟨_, rfl, j0, j1, fun y hm => ?_⟩)))))
  obtain ⟨wd, hwd, rfl⟩ : ∃ wd : Str, (wd = "read" ∨ wd = "write") ∧ y = .str wd := by
    have h := List.mem_of_getElem? hm
    simp only [List.mem_cons, List.not_mem_nil, or_false] at h
    rcases h with rfl | rfl
    · exact ⟨"read", .inl rfl, rfl⟩
    · exact ⟨"write", .inr rfl, rfl⟩
  refine ea_cons (h := (r_var 5 rfl (by walk_at "v") rfl) _ (ea_cons (h := ev_calL 0 CF hr3 rfl pass0 rfl (by walk_at "v") ((a_cons (r_var 2 rfl (by walk_at "v") rfl) a_nil) _ ⟨[.list (cs.map .str)], rfl, _, ys3, rfl, .inr rfl, ⟨hy3, rfl⟩, fun r ys4 hr' => ?_⟩) ⟨_, _, rfl, .inr rfl⟩)))
  obtain ⟨hy4, A0, F0, rfl, hF⟩ := hr'
  refine ⟨by simp, ea_nil ⟨_, rfl, by simp, fun _ => ?_⟩⟩
  exact ⟨trD (.acc wd a A0 F0), ys4, _, rfl, rfl, rfl, hy4, L, .acc wd a A0 F0, rfl, rfl, ⟨hwd, haa, hF⟩, by show 1 + L ≤ L + 1; omega⟩
end

end K08

namespace K08
open PySem L2 SZ VR VX StX RT DE
section
variable {P : Program} {w : World} {K : PySem.W.Frag} {mg : Str → Option Value} {base : Heap}
theorem t_blk {f : Addr} {fd : FuncData} {k ks : Nat} (F : Fun K "_law_block" "_law_block" S_law_block f fd) (CT : CalB P w K mg base CX0 "_law_take" 1 PreT ResT) (ar nm cs : List Str)
    (CS : ∀ M : Nat, CalD P w K mg base CX0 "_law_statement" ks (PreS ar nm cs M) (ResS ar nm cs M)) (hk : 1 ≤ k) (hks : ks ≤ k) (z_range : mg "range" = none) (z_tuple : mg "tuple" = none) (L : Nat) : FnOk P w K mg base CX0 (k + 1) f fd ["_law_pool_here", "_law_env", "_law_counters"] (spD K (PreK ar nm cs L) (ResK ar nm cs L)) := by
  refine fn_D F sc_law_block (fun ys kvs as h => by rw [h.2.2]; rfl) fun cdv A outer s H E hr b ys kvs as hp => ?_
  obtain ⟨hy, rfl, rfl⟩ := hp
  have hu := hr.units
  have hu1 := Nat.lt_of_le_of_lt (Nat.add_le_add_left (show 1 ≤ 64 by decide) _) hu
  have hr1 := hr.mono hk
  have hrs := hr.mono hks
  show XB _ _ [.bor ys, .dct false (EnvD ar nm (L : Int)), .d (.list (cs.map .str)), .un, .un] _ _
  refine xb_cons (x_set 3 (r_lst a_nil rfl) rfl (by walk_at "v") sc_law_block.nd rfl (fun _ => ?_))
  refine xb_cons (xs_for (ts := [4]) PassesOwn.never rfl (by intro _; rfl) (ei_range rfl z_range (ev_take 0 CT hr1 rfl (by walk_at "v") pass0 rfl (.inr rfl) hy (wd := 4) r_int (by decide) (by decide) fun n ys1 n0 n1 hy1 => ⟨_, rfl, by omega, by omega, fun _ => ?_⟩)))
  refine ⟨fun i ρ' => ∃ (ys : List PyData) (M : Nat) (bl : List Tre) (s4 : Sl), ρ' = [.bor ys, .dct false (EnvD ar nm (M : Int)), .d (.list (cs.map .str)), .own (blD bl), s4] ∧ PoolD ys ∧ DrB ar nm bl cs ∧ cntB bl + M ≤ L ∧ bl.length ≤ i, ⟨ys1, L, [], _, rfl, hy1, trivial, by show 0 + L ≤ L; omega, Nat.le_refl _⟩, ?_, ?_⟩
  · rintro i y ρ' hyi hl ⟨ys, M, bl, s4, rfl, hy, hdr, hcnt, hbl⟩
    have hi : i < 4 := by
      have h := (List.getElem?_eq_some_iff.mp hyi).1
      rw [rngD_len] at h
      omega
    refine (g_name 4 rfl (by walk_at "v") sc_law_block.nd rfl) _ fun _ => ?_
    refine xb_one (x_if (t_cmp (r_dget 1 (by exact hu1) rfl (by walk_at "v") rfl r_str env_left) r_int (by walk_at "o")) (fun h0 => ?_) (fun h0 => xb_nil ⟨ys, M, bl, _, rfl, hy, hdr, hcnt, by omega⟩))
    obtain ⟨M', rfl⟩ : ∃ M', M = M' + 1 := ⟨M - 1, by have := of_decide_eq_true h0; omega⟩
    refine xb_one (xs_append 3 rfl (by walk_at "v") (ev_calD 0 1 (CS M') (by decide) hrs rfl pass0 rfl (by walk_at "v") rfl (by walk_at "v") ((a_cons (r_var 2 rfl (by walk_at "v") rfl) a_nil) _ ⟨[.list (cs.map .str)], rfl, _, ys, false, _, rfl, .inr rfl, rfl, ⟨hy, rfl, rfl⟩, fun y ys2 kvs2 hr' => ?_⟩) ⟨_, _, rfl, .inr rfl⟩ ⟨_, _, rfl⟩) ⟨_, _, rfl, .inl rfl⟩)
    obtain ⟨hy2, M2, s, rfl, rfl, hs, hc⟩ := hr'
    have hbb : (blD bl).length = bl.length := by rw [blD_map, List.length_map]
    refine fun _ => ⟨_, _, _, rfl, rfl, .inl rfl, by rw [hbb, sizeLine_eq]; omega, ?_⟩
    refine ⟨ys2, M2, bl ++ [s], .d y, ?_, hy2, drB_snoc hdr hs, ?_, by rw [List.length_append, List.length_singleton]; omega⟩
    · rw [blD_app]
      rfl
    · rw [cntB_app]
      show cntB bl + (cntS s + 0) + M2 ≤ L
      omega
  · rintro ρ' ⟨ys, M, bl, s4, rfl, hy, hdr, hcnt, hbl⟩ hl
    refine xb_one (xs_ret (ev_callTy (T := "tuple") rfl z_tuple (by decide +kernel) (ea_cons (h := ev_mov 3 rfl (by walk_at "v") rfl (ea_nil (cv_tupO fun _ => ?_))))))
    exact ⟨.tuple (blD bl), ys, _, rfl, rfl, rfl, hy, M, bl, rfl, rfl, hdr, hcnt⟩
/-- both, by depth -/
theorem t_blocks {fS fB : Addr} {dS dB : FuncData} (FS : Fun K "_law_statement" "_law_statement" S_law_statement fS dS) (gS : mg "_law_statement" = some (.ref fS)) (bS : Binds K dS ["_law_pool_here", "_law_env", "_law_counters"] []) (FB : Fun K "_law_block" "_law_block" S_law_block fB dB) (gB : mg "_law_block" = some (.ref fB)) (bB : Binds K dB ["_law_pool_here", "_law_env", "_law_counters"] [])
    (CT : CalB P w K mg base CX0 "_law_take" 1 PreT ResT) (CP : CalB P w K mg base CX0 "_law_parts" 2 PreQ ResQ) (CF : ∀ cs : List Str, cs.length ≤ 5 → CalB P w K mg base CX0 "_law_form" 3 (PreF cs) (ResF cs)) (z_len : mg "len" = none) (z_range : mg "range" = none) (z_tuple : mg "tuple" = none) (ar nm : List Str) (har : NmsOk ar) (hnm : NmsOk nm) :
    ∀ (d : Nat) (cs : List Str) (L : Nat), cs.length + d = 4 → (∀ z ∈ cs, PyData.strOk z = true) → CalD P w K mg base CX0 "_law_block" (5 + 2 * d) (PreK ar nm cs L) (ResK ar nm cs L)
  | 0, cs, L, hd, hz => by
    have hcs : NmsOk cs := ⟨by omega, hz⟩
    have CS : ∀ M : Nat, CalD P w K mg base CX0 "_law_statement" 4 (PreS ar nm cs M) (ResS ar nm cs M) := fun M => ⟨⟨_, _, _, t_stm (k := 3) (kb := 0) FS CT CP ar nm cs har hnm hcs (by omega) (CF cs (by omega)) (fun c M _ h => by omega) (by decide) (by decide) z_len M, gS, FS.kp, bS⟩⟩
    exact ⟨⟨_, _, _, t_blk (k := 4) FB CT ar nm cs CS (by decide) (by decide) z_range z_tuple L, gB, FB.kp, bB⟩⟩
  | d + 1, cs, L, hd, hz => by
    have hcs : NmsOk cs := ⟨by omega, hz⟩
    have CS : ∀ M : Nat, CalD P w K mg base CX0 "_law_statement" (6 + 2 * d) (PreS ar nm cs M) (ResS ar nm cs M) := fun M => ⟨⟨_, _, _, by
      have h := t_stm (k := 5 + 2 * d) (kb := 5 + 2 * d) FS CT CP ar nm cs har hnm hcs (by omega) (CF cs (by omega)) (fun c M hc h => t_blocks FS gS bS FB gB bB CT CP CF z_len z_range z_tuple ar nm har hnm d (cs ++ [c]) M (by rw [List.length_append, List.length_singleton]; omega) (fun z hz' => (List.mem_append.mp hz').elim (hz z) (fun h => by rw [List.mem_singleton.mp h]; exact hnm.2 c hc))) (by omega) (by omega) z_len M
      rw [show 6 + 2 * d = 5 + 2 * d + 1 by omega]
      exact h, gS, FS.kp, bS⟩⟩
    have := t_blk (k := 6 + 2 * d) FB CT ar nm cs CS (by omega) (by omega) z_range z_tuple L
    exact ⟨⟨_, _, _, by rw [show 5 + 2 * (d + 1) = 6 + 2 * d + 1 by omega]; exact this, gB, FB.kp, bB⟩⟩
end

end K08

namespace K08
open PySem L2 SZ VR VX StX RT DE
/-! ### drawn trees -/
def wrd (s i : Nat) : Str := (⟨#[(("axkz" : Str).cps.toList.getD (i % 4) 0)]⟩ : Str) ++ Str.ofString (toString ((7 * (i : Int) + (s : Int)) % 16))
def WRD (s : Nat) : List Str := (List.range 16).map (wrd s)
def gdB (z : Str) : Bool := isNmL z.cps.toList && decide (z.length ≤ 3) && PyData.strOk z && !decide (z = "") && decide ((PyData.str z).shown.length ≤ 2000)
theorem wrd_ok : ∀ s ∈ List.range 16, (decide (WRD s).Nodup && (WRD s).all gdB) = true := by decide +kernel
structure GoodN (z : Str) : Prop where
  is : isNmL z.cps.toList = true
  len : z.length ≤ 3
  ok : PyData.strOk z = true
  ne : z ≠ ""
  sh : NmS z
theorem good_of {z : Str} (h : gdB z = true) : GoodN z := by
  unfold gdB at h
  simp only [Bool.and_eq_true, decide_eq_true_iff, Bool.not_eq_true', decide_eq_false_iff_not] at h
  obtain ⟨⟨⟨⟨h1, h2⟩, h3⟩, h4⟩, h5⟩ := h
  exact ⟨h1, h2, h3, h4, Lay.str h3, rfl, h5⟩
structure NmG (ar nm : List Str) : Prop where
  nd : (ar ++ nm).Nodup
  good : ∀ z ∈ ar ++ nm, GoodN z
  la : ar.length ≤ 3
  ln : nm.length ≤ 5
theorem wrd_nm {s k m : Nat} (hs : s < 16) (hk : k ≤ 3) (hm : m ≤ 5) : NmG ((WRD s).take k) (((WRD s).drop 4).take m) := by
  have h := wrd_ok s (List.mem_range.mpr hs)
  rw [Bool.and_eq_true, decide_eq_true_iff, List.all_eq_true] at h
  have hsub : ((WRD s).take k ++ ((WRD s).drop 4).take m).Sublist (WRD s) := by
    have h1 : ((WRD s).take k).Sublist ((WRD s).take 4) := by
      have : (WRD s).take k = ((WRD s).take 4).take k := by rw [List.take_take, Nat.min_eq_left (by omega)]
      rw [this]
      exact List.take_sublist _ _
    have h2 := h1.append (List.take_sublist m ((WRD s).drop 4))
    rw [List.take_append_drop] at h2
    exact h2
  refine ⟨hsub.nodup h.1, fun z hz => good_of (h.2 z (hsub.subset hz)), ?_, ?_⟩
  · rw [List.length_take]; omega
  · rw [List.length_take]; omega
theorem drB_app {ar nm cs : List Str} : ∀ {a b : List Tre}, DrB ar nm a cs → DrB ar nm b cs → DrB ar nm (a ++ b) cs
  | [], _, _, k => k
  | s :: a, b, h, k => by
    unfold DrB at h
    exact ⟨h.1, drB_app h.2 k⟩
theorem cnt_one (s : Tre) : 1 ≤ cntS s := by
  cases s with
  | acc w a ps fs => exact Nat.le_refl _
  | flush => exact Nat.le_refl _
  | loop c ps b => show 1 ≤ 1 + cntB b; omega
theorem cnt_len : ∀ b : List Tre, b.length ≤ cntB b
  | [] => Nat.le_refl _
  | s :: b => by
    have h1 := cnt_one s
    have h2 := cnt_len b
    show b.length + 1 ≤ cntS s + cntB b
    omega
/-- a tree as the law draws it -/
structure TrD (ars : List Fc) (bl : List Tre) (nm : List Str) : Prop where
  nmg : NmG (ars.map (·.1)) nm
  ps : ∀ f ∈ ars, QOk 4 f.2
  dr : DrB (ars.map (·.1)) nm bl []
  cnt : cntB bl ≤ 12
abbrev ResTr : List PyData → List Sl → Sl → List PyData → Prop := fun _ _ r ys' => PoolD ys' ∧ ∃ ars bl nm, r = .d (.tuple [.tuple (ars.map fcD), .tuple (blD bl)]) ∧ TrD ars bl nm
theorem cut_mid {r : Sl} {ys : List PyData} {a b : Nat} {p : Sl → Prop} (er : cool r = .d (.list ys)) (hab : a ≤ b) (hb : b ≤ ys.length) (h : p (.own ((ys.drop a).take (b - a)))) : Cut r (some (a : Int)) (some (b : Int)) p := .lst er (by
  rw [HT.sIx_nat, HT.sIx_nat, Nat.min_eq_left (show a ≤ ys.length by omega), Nat.min_eq_left hb]
  exact h)
theorem wrd_len (s : Nat) : (WRD s).length = 16 := by unfold WRD; rw [List.length_map, List.length_range]
section
variable {P : Program} {w : World} {K : PySem.W.Frag} {mg : Str → Option Value} {base : Heap}
theorem t_tree {f : Addr} {fd : FuncData} (F : Fun K "_law_tree" "_law_tree" S_law_tree f fd) (CT : CalB P w K mg base CX0 "_law_take" 1 PreT ResT) (CP : CalB P w K mg base CX0 "_law_parts" 2 PreQ ResQ) (CB : ∀ (ar nm : List Str) (L : Nat), NmsOk ar → NmsOk nm → CalD P w K mg base CX0 "_law_block" 13 (PreK ar nm [] L) (ResK ar nm [] L))
    (z_range : mg "range" = none) (z_tuple : mg "tuple" = none) (z_str : mg "str" = none) : FnOk P w K mg base CX0 14 f fd ["_law_pool_here"] (spB K (fun ys as => PoolD ys ∧ as = []) ResTr) := by
  refine fn_B F sc_law_tree (fun ys as h => by rw [h.2]; rfl) fun cdv A outer s H E hr b ys as hp => ?_
  obtain ⟨hy, rfl⟩ := hp
  have hr1 := hr.mono (show 1 ≤ 13 by decide)
  have hr2 := hr.mono (show 2 ≤ 13 by decide)
  show XB _ _ [.bor ys, .un, .un, .un, .un, .un, .un, .un, .un, .un] _ _
  refine xb_cons (xs_set 1 sc_law_tree.nd rfl (.inr rfl) (by simp) rfl (.inl rfl) (ev_take 0 CT hr1 rfl (by walk_at "v") pass0 rfl (.inr rfl) hy (wd := 16) r_int (by decide) (by decide) fun sh ys1 s0 s1 hy1 => fun _ => fun _ => ?_))
  obtain ⟨sn, rfl⟩ : ∃ sn : Nat, sh = sn := ⟨sh.toNat, by omega⟩
  have hsn : sn < 16 := by omega
  show XB _ _ [.bor ys1, .d (.int (sn : Int)), .un, .un, .un, .un, .un, .un, .un, .un] _ _
  refine xb_cons (xs_setLc 2 (own := [("_law_at", 8)]) rfl sc_law_tree.nd rfl (by simp) rfl rfl (blkOk_by (N := ["_law_pool_here", "_law_shift", "_law_words", "_law_arrays", "_law_env", "_law_lengths", "_law_block_here", "_law_turn", "_law_at", "_law_name"]) (sc := defScope S_law_tree) (by decide +kernel)) (ei_range rfl z_range (r_int _ ⟨_, rfl, by decide, by decide, fun _ => ?_⟩)))
  refine ⟨fun i acc ρ' => acc = ((WRD sn).take i).map .str ∧ ρ' = [.bor ys1, .d (.int (sn : Int)), .un, .un, .un, .un, .un, .un, .un, .un], ⟨by simp, rfl⟩, ?_, ?_, ?_⟩
  · rintro i acc ρ' ⟨_, rfl⟩ v hv
    rw [List.mem_singleton.mp hv]
    rfl
  · rintro i y acc ρ' hyi hl ⟨rfl, rfl⟩
    have hi : i < 16 := by
      have h := (List.getElem?_eq_some_iff.mp hyi).1
      rw [rngD_len] at h
      exact h
    obtain rfl : y = .int (i : Int) := by
      rw [rngD_at (by exact hi)] at hyi
      cases hyi
      simp
    have e4 : (i : Int) % 4 = ((i % 4 : Nat) : Int) := by omega
    have hz4 : ("axkz" : Str).cps.toList.length = 4 := by decide +kernel
    have hat : atI ("axkz" : Str).cps.toList ((i : Int) % 4) = some (("axkz" : Str).cps.toList.getD (i % 4) 0) := by
      rw [e4]
      refine atNat ?_
      rw [List.getD_eq_getElem?_getD, List.getElem?_eq_getElem (by rw [hz4]; omega)]
      rfl
    have hm16 : 0 ≤ (7 * (i : Int) + (sn : Int)) % 16 ∧ (7 * (i : Int) + (sn : Int)) % 16 < 10 ^ 2 := by constructor <;> omega
    have hnl := num_len hm16.1 (k := 2) (by decide) hm16.2
    have z1 : (⟨#[(("axkz" : Str).cps.toList.getD (i % 4) 0)]⟩ : Str).length = 1 := rfl
    refine lc_turn (c := true) (ρ2 := [.bor ys1, .d (.int (sn : Int)), .un, .un, .un, .un, .un, .un, .d (.int (i : Int)), .un]) (fun s H C cl fp => g_name 8 rfl (by walk_at "v") sc_law_tree.nd rfl) (fun s H C cl fp => ts_nil) rfl (fun h => (nomatch h)) fun _ => ⟨.d (.str (wrd sn i)), .str (wrd sn i), fun s H C cl fp => r_bin (r_ix r_str (r_bin (r_var 8 rfl (by walk_at "v") rfl) r_int (by walk_at "o")) (ir_str (by decide) hat)) (r_callTy (T := "str") z_str (a_cons (r_bin (r_bin (r_bin r_int (r_var 8 rfl (by walk_at "v") rfl) (by walk_at "o")) (r_var 1 rfl (by walk_at "v") rfl) (by walk_at "o")) r_int (by walk_at "o")) a_nil) (cr_strI (big_log hm16.1 (by omega)))) (or_addS (by rw [z1, sizeLine_eq]; omega)), rfl, by rw [List.length_map, List.length_take, wrd_len, sizeLine_eq]; omega, ?_, rfl⟩
    have hw : (WRD sn)[i]? = some (wrd sn i) := by
      unfold WRD
      rw [List.getElem?_map, List.getElem?_range hi]
      rfl
    rw [List.take_add_one, hw, List.map_append]
    rfl
  rintro acc ρ' ⟨rfl, rfl⟩ hl1 hl2
  rw [rngD_len]
  have e16 : (WRD sn).take (16 : Int).toNat = WRD sn := List.take_of_length_le (by rw [wrd_len]; decide)
  rw [e16]
  have hwl := wrd_len sn
  have hwm := fun k m (hk : k ≤ 3) (hm : m ≤ 5) => wrd_nm (s := sn) (k := k) (m := m) hsn hk hm
  generalize WRD sn = W at hwl hwm
  show XB _ _ [.bor ys1, .d (.int (sn : Int)), .own (W.map .str), .un, .un, .un, .un, .un, .un, .un] _ _
  refine xb_frz 2 rfl rfl ?_
  show XB _ _ [.bor ys1, .d (.int (sn : Int)), .d (.list (W.map .str)), .un, .un, .un, .un, .un, .un, .un] _ _
  have hwm16 : (W.map PyData.str).length = 16 := by rw [List.length_map, hwl]
  refine xb_cons (xs_set 3 sc_law_tree.nd rfl (by walk_at "v") (by simp) rfl (.inl rfl) (ev_cool (ev_slice ((r_var 2 rfl (by walk_at "v") rfl) _ ⟨by intro _; nofun, o_none (ev_take 0 CT hr1 rfl (by walk_at "v") pass0 rfl (.inr rfl) hy1 (wd := 4) r_int (by decide) (by decide) fun ka ys2 k0 k1 hy2 => ⟨_, rfl, cut_take rfl k0 fun _ => fun _ => ?_⟩)⟩))))
  obtain ⟨kn, rfl⟩ : ∃ kn : Nat, ka = kn := ⟨ka.toNat, by omega⟩
  have ek : (W.map PyData.str).take (kn : Int).toNat = (W.take kn).map .str := by rw [Int.toNat_natCast, List.map_take]
  rw [ek]
  show XB _ _ [.bor ys2, .d (.int (sn : Int)), .d (.list (W.map .str)), .d (.list ((W.take kn).map .str)), .un, .un, .un, .un, .un, .un] _ _
  refine xb_cons (xs_set 4 sc_law_tree.nd rfl (by walk_at "v") (by simp) rfl (.inl rfl) (ev_dict3 (by decide +kernel) ((r_var 3 rfl (by walk_at "v") rfl) _ ⟨_, rfl, ev_slice ((r_var 2 rfl (by walk_at "v") rfl) _ ⟨by intro _; nofun, o_some r_int (ev_bin ((r_bin r_int r_int (by walk_at "o")) _ (ev_take 0 CT hr1 rfl (by walk_at "v") pass0 rfl (.inr rfl) hy2 (wd := 4) r_int (by decide) (by decide) fun t ys3 t0 t1 hy3 => ov_add ⟨_, rfl, ?_⟩)))⟩)⟩)))
  obtain ⟨tn, rfl⟩ : ∃ tn : Nat, t = tn := ⟨t.toNat, by omega⟩
  have e6 : (4 + 2 + (tn : Int)) = ((6 + tn : Nat) : Int) := by omega
  rw [e6]
  refine cut_mid (a := 4) (b := 6 + tn) rfl (by omega) (by omega) ?_
  have en : ((W.map PyData.str).drop 4).take (6 + tn - 4) = ((W.drop 4).take (2 + tn)).map .str := by
    rw [show 6 + tn - 4 = 2 + tn by omega, List.map_take, List.map_drop]
  rw [en]
  refine ⟨_, rfl, r_int _ ⟨_, rfl, fun _ => fun _ => ?_⟩⟩
  have hnm := hwm kn (2 + tn) (by omega) (by omega)
  generalize W.take kn = ar at hnm
  generalize (W.drop 4).take (2 + tn) = nm at hnm
  show XB _ _ [.bor ys3, .d (.int (sn : Int)), .d (.list (W.map .str)), .d (.list (ar.map .str)), .dct true (EnvD ar nm ((12 : Nat) : Int)), .un, .un, .un, .un, .un] _ _
  have har : NmsOk ar := ⟨by have := hnm.la; omega, fun z hz => (hnm.good z (List.mem_append_left _ hz)).ok⟩
  have hnn : NmsOk nm := ⟨by have := hnm.ln; omega, fun z hz => (hnm.good z (List.mem_append_right _ hz)).ok⟩
  have hal := hnm.la
  refine xb_cons (xs_setLc 5 (own := [("_law_name", 9)]) rfl sc_law_tree.nd rfl (by simp) rfl rfl (blkOk_by (N := ["_law_pool_here", "_law_shift", "_law_words", "_law_arrays", "_law_env", "_law_lengths", "_law_block_here", "_law_turn", "_law_at", "_law_name"]) (sc := defScope S_law_tree) (by decide +kernel)) ((i_list (r_var 3 rfl (by walk_at "v") rfl) rfl) _ fun _ => ?_))
  refine ⟨fun i acc ρ' => ∃ ys ars, acc = ars.map fcD ∧ ars.map (·.1) = ar.take i ∧ (∀ f ∈ ars, QOk 4 f.2) ∧ PoolD ys ∧ ρ' = [.bor ys, .d (.int (sn : Int)), .d (.list (W.map .str)), .d (.list (ar.map .str)), .dct true (EnvD ar nm ((12 : Nat) : Int)), .un, .un, .un, .un, .un], ⟨ys3, [], rfl, by simp, by simp, hy3, rfl⟩, ?_, ?_, ?_⟩
  · rintro i acc ρ' ⟨ys, ars, _, _, _, _, rfl⟩ v hv
    rw [List.mem_singleton.mp hv]
    rfl
  · rintro i y acc ρ' hyi hl ⟨ys, ars, rfl, hm, hq, hy, rfl⟩
    rw [List.getElem?_map] at hyi
    obtain ⟨z, hz, rfl⟩ := Option.map_eq_some_iff.mp hyi
    have hi : i < ar.length := (List.getElem?_eq_some_iff.mp hz).1
    have hlen : ars.length = i := by
      have := congrArg List.length hm
      rw [List.length_map, List.length_take] at this
      omega
    refine lc_turnE (ρ2 := [.bor ys, .d (.int (sn : Int)), .d (.list (W.map .str)), .d (.list (ar.map .str)), .dct true (EnvD ar nm ((12 : Nat) : Int)), .un, .un, .un, .un, .d (.str z)]) (fun s H C cl fp => g_name 9 rfl (by walk_at "v") sc_law_tree.nd rfl) (by rw [List.length_map, sizeLine_eq]; omega) (fun s H C cl fp => ?_)
    refine ev_tupD (ea_cons (h := (r_var 9 rfl (by walk_at "v") rfl) _ (ea_cons (h := ev_calL 0 CP hr2 rfl pass0 rfl (by walk_at "v") ((a_cons r_int a_nil) _ ⟨[.int 4], rfl, _, ys, rfl, .inr rfl, ⟨hy, 4, rfl, by decide⟩, fun r ys4 hr' => ?_⟩) ⟨_, _, rfl, .inr rfl⟩))))
    obtain ⟨hy4, m, ps, em, rfl, hps⟩ := hr'
    have em : m = 4 := by
      injection em with em _
      injection em with em
      injection em with em
      omega
    subst em
    refine ⟨by simp, ea_nil ⟨_, rfl, by simp, ?_⟩⟩
    refine ⟨fcD (z, ps), rfl, ys4, ars ++ [(z, ps)], by rw [List.map_append]; rfl, ?_, fun f hf => ?_, hy4, rfl⟩
    · rw [List.map_append, hm, List.take_add_one, hz]
      rfl
    · rcases List.mem_append.mp hf with hf | hf
      · exact hq f hf
      · rw [List.mem_singleton.mp hf]
        exact hps
  rintro acc ρ' ⟨ys5, ars, rfl, hm, hq, hy5, rfl⟩ hl3 hl4
  rw [List.length_map, List.take_length] at hm
  subst hm
  show XB _ _ [.bor ys5, .d (.int (sn : Int)), .d (.list (W.map .str)), .d (.list ((ars.map (·.1)).map .str)), .dct true (EnvD (ars.map (·.1)) nm ((12 : Nat) : Int)), .own (ars.map fcD), .un, .un, .un, .un] _ _
  refine xb_cons (x_set 6 (r_tup a_nil rfl) rfl (by walk_at "v") sc_law_tree.nd rfl (fun _ => ?_))
  refine xb_cons (xs_for (ts := [7]) PassesOwn.never rfl (by intro _; rfl) (ei_range rfl z_range (ev_bin (r_int _ (ev_take 0 CT hr1 rfl (by walk_at "v") pass0 rfl (.inr rfl) hy5 (wd := 3) r_int (by decide) (by decide) fun r ys6 r0 r1 hy6 => ov_add ⟨_, rfl, by omega, by omega, fun _ => ?_⟩)))))
  refine ⟨fun i ρ' => ∃ (ys : List PyData) (M : Nat) (bl : List Tre) (s7 : Sl), ρ' = [.bor ys, .d (.int (sn : Int)), .d (.list (W.map .str)), .d (.list ((ars.map (·.1)).map .str)), .dct true (EnvD (ars.map (·.1)) nm (M : Int)), .own (ars.map fcD), .d (.tuple (blD bl)), s7, .un, .un] ∧ PoolD ys ∧ DrB (ars.map (·.1)) nm bl [] ∧ cntB bl + M ≤ 12 ∧ bl.length ≤ cntB bl, ⟨ys6, 12, [], _, rfl, hy6, trivial, Nat.le_refl _, Nat.le_refl _⟩, ?_, ?_⟩
  · rintro i y ρ' hyi hl ⟨ys, M, bl, s7, rfl, hy, hdr, hcnt, hbl⟩
    refine (g_name 7 rfl (by walk_at "v") sc_law_tree.nd rfl) _ fun _ => ?_
    refine xb_one (xs_set 6 sc_law_tree.nd rfl (by walk_at "v") (by simp) rfl (.inl rfl) (ev_bin ((r_var 6 rfl (by walk_at "v") rfl) _ (ev_calD 0 4 (CB (ars.map (·.1)) nm M har hnn) (by decide) hr rfl pass0 rfl (by walk_at "v") rfl (by walk_at "v") ((a_cons (r_lst a_nil rfl) a_nil) _ ⟨[.list []], rfl, _, ys, true, _, rfl, .inr rfl, rfl, ⟨hy, rfl, rfl⟩, fun y ys2 kvs2 hr' => ?_⟩) ⟨_, _, rfl, .inr rfl⟩ ⟨_, _, rfl⟩))))
    obtain ⟨hy2, M2, b2, rfl, rfl, hs, hc⟩ := hr'
    have hb2 := cnt_len b2
    have l1 : (blD bl).length = bl.length := by rw [blD_map, List.length_map]
    have l2 : (blD b2).length = b2.length := by rw [blD_map, List.length_map]
    refine or_catT (by rw [l1, l2, sizeLine_eq]; omega) _ fun _ => ?_
    rw [← blD_app]
    exact ⟨ys2, M2, bl ++ b2, _, rfl, hy2, drB_app hdr hs, by rw [cntB_app]; omega, by rw [cntB_app, List.length_append]; omega⟩
  · rintro ρ' ⟨ys, M, bl, s7, rfl, hy, hdr, hcnt, hbl⟩ hl
    refine xb_one (xs_ret (ev_tupD (ea_cons (h := ev_callTy (T := "tuple") rfl z_tuple (by decide +kernel) (ea_cons (h := ev_mov 5 rfl (by walk_at "v") rfl (ea_nil (cv_tupO (ea_cons (h := (r_var 6 rfl (by walk_at "v") rfl) _ (ea_nil ⟨_, rfl, by simp, fun _ => ?_⟩)))))))))))
    exact ⟨ys, rfl, ⟨hy, ars, bl, nm, rfl, hnm, hq, hdr, by omega⟩, nofun⟩
end

end K08

namespace K08
open PySem L2 SZ VR VX StX RT DE
/-! ### drawn trees as the reader and show want them -/
theorem qmenu_b : ∀ p ∈ QMENU, -(10 ^ 31) < p ∧ p < 10 ^ 31 := by decide +kernel
theorem q_bd {m : Nat} {ps : List Int} (h : QOk m ps) (hm : m ≤ 4) : Bd111 ps := ⟨Nat.le_trans h.2.1 hm, fun p hp => by
  obtain ⟨a, b⟩ := qmenu_b p (h.2.2 p hp)
  have e : (10 : Int) ^ 31 < 10 ^ 111 := by decide +kernel
  generalize (10 : Int) ^ 31 = B at a b e
  generalize (10 : Int) ^ 111 = C at e ⊢
  omega⟩
structure CsG (nm cs : List Str) (d : Nat) : Prop where
  sub : ∀ z ∈ cs, z ∈ nm
  nd : cs.Nodup
  len : cs.length + d = 4
theorem fm_due {ar nm cs : List Str} {d : Nat} (hn : NmG ar nm) (hc : CsG nm cs d) {A : List Int} {F : List Fc} (h : FmD cs A F) : DueOk A F ∧ ∀ f ∈ F, f.1 ∈ nm ∧ QOk 3 f.2 := by
  obtain ⟨hA, ⟨zs, hp, hs, hsub⟩, hF⟩ := h
  have hmem : ∀ f ∈ F, f.1 ∈ nm := fun f hf => hc.sub _ (hp.mem_iff.mp (hsub.subset (List.mem_map.mpr ⟨f, hf, rfl⟩)))
  have hg : ∀ f ∈ F, GoodN f.1 := fun f hf => hn.good _ (List.mem_append_right _ (hmem f hf))
  refine ⟨⟨⟨hA.1, hA.2.1, hsub.nodup (hp.nodup_iff.mpr hc.nd), (sorted_pw hs).sublist hsub, fun f hf => ⟨(hg f hf).ne, (hF f hf).1.1, (hF f hf).2, Nat.le_trans (hF f hf).1.2.1 (by decide)⟩⟩, q_bd hA (Nat.le_refl _), fun f hf => ⟨q_bd (hF f hf).1 (by decide), (hg f hf).is, ⟨by have := (hg f hf).len; omega, (hg f hf).ok⟩, (hg f hf).sh⟩, ?_⟩, fun f hf => ⟨hmem f hf, (hF f hf).1⟩⟩
  have := hsub.length_le
  rw [List.length_map, hp.length_eq] at this
  have := hc.len
  omega
theorem q_due {m : Nat} {ps : List Int} (h : QOk m ps) (hm : m ≤ 4) : DueOk ps [] := ⟨⟨h.1, Nat.le_trans h.2.1 hm, List.nodup_nil, List.Pairwise.nil, fun f hf => (nomatch hf)⟩, q_bd h hm, fun f hf => (nomatch hf), by decide⟩
def NN (ar nm : List Str) : List (List Nat) := (ar ++ nm).map fun z => z.cps.toList
theorem nn_mem {ar nm : List Str} {z : Str} (h : z ∈ ar ++ nm) : z.cps.toList ∈ NN ar nm := List.mem_map.mpr ⟨z, h, rfl⟩
/-! lengths of the drawn texts -/
def TmC (t : Tm) : Prop := -(10 ^ 31) < t.1 ∧ t.1 < 10 ^ 31 ∧ t.2.length ≤ 4 ∧ ∀ w ∈ t.2, w.length ≤ 3
theorem term_lenC {t : Tm} (h : TmC t) : (termT (absI t.1) t.2).length ≤ 48 := by
  obtain ⟨h1, h2, hn, hw⟩ := h
  have h3 := sum_leN (N := 3) hw
  have z2 : (Str.ofString "*").length = 1 := by decide +kernel
  have ha : 0 ≤ absI t.1 ∧ absI t.1 < 10 ^ 31 := by
    unfold absI
    split <;> omega
  have h4 := num_len ha.1 (k := 31) (by decide) ha.2
  unfold termT
  split
  · have := join_len (Str.ofString "*") t.2
    rw [z2] at this
    omega
  · have := join_len (Str.ofString "*") (Str.ofString (toString (absI t.1)) :: t.2)
    rw [z2, List.map_cons, List.sum_cons, List.length_cons] at this
    omega
theorem raw_lenC : ∀ (n : Nat) (ts : List Tm), ts.length = n → (∀ t ∈ ts, TmC t) → (rawT ts).length ≤ 51 * n
  | 0, ts, hn, h => by
    rw [List.length_eq_zero_iff.mp hn]
    decide +kernel
  | n + 1, ts, hn, h => by
    obtain ⟨ini, t, rfl⟩ : ∃ ini t, ts = ini ++ [t] := by
      have hne : ts ≠ [] := fun e => by rw [e] at hn; cases hn
      exact ⟨ts.dropLast, ts.getLast hne, (List.dropLast_concat_getLast hne).symm⟩
    rw [List.length_append] at hn
    have ih := raw_lenC n ini (by simpa using hn) fun x hx => h x (List.mem_append_left _ hx)
    have ht := term_lenC (h t (by simp))
    have hs := sgn_len (acc := rawT ini) (n := t.1)
    rw [raw_snoc]
    unfold stepT
    rw [Str.length_append, Str.length_append]
    omega
theorem sumT_lenC {ts : List Tm} (h : ∀ t ∈ ts, TmC t) : (sumT ts).length ≤ 51 * ts.length + 1 := by
  have := raw_lenC _ ts rfl h
  unfold sumT
  split
  · have : (Str.ofString "0").length = 1 := by decide +kernel
    rw [this]
    omega
  · omega
theorem due_lenC {A : List Int} {F : List Fc} (h : DueOk A F) (hA : ∀ p ∈ A, p ∈ QMENU) (hF : ∀ f ∈ F, f.1.length ≤ 3 ∧ ∀ p ∈ f.2, p ∈ QMENU) : (sumT (idxTs A F)).length ≤ 1021 := by
  have h3 : (idxTs A F).length = (t3I A F).length := by rw [← due_ts h, List.length_map]
  have h2 := t3I_len h
  have h1 := sumT_lenC (ts := idxTs A F) fun t ht => by
    rw [← due_ts h] at ht
    obtain ⟨u, hu, rfl⟩ := List.mem_map.mp ht
    have hj := t3I_j h.form u hu
    have hx : u.1 ∈ QMENU ∧ (⟨u.2.2.toArray⟩ : Str).length ≤ 3 := by
      unfold t3I at hu
      obtain ⟨f, hf, hu⟩ := List.mem_flatMap.mp hu
      obtain ⟨e1, e2, e3⟩ := t3L_c hu
      have hm : u.1 ∈ f.2 := by
        rw [e3, List.getD_eq_getElem?_getD, List.getElem?_eq_getElem e2]
        exact List.getElem_mem e2
      rcases List.mem_append.mp hf with hf | hf
      · exact ⟨(hF f hf).2 _ hm, by rw [e1]; exact (hF f hf).1⟩
      · have ef : f = tlF A := List.mem_singleton.mp hf
        subst ef
        exact ⟨hA _ hm, by rw [e1]; show ("" : Str).length ≤ 3; decide⟩
    obtain ⟨q1, q2⟩ := qmenu_b _ hx.1
    refine ⟨q1, q2, ?_, fun w hw => ?_⟩
    · show (lawW u.2.1 ⟨u.2.2.toArray⟩).length ≤ 4
      unfold lawW
      rw [List.length_append, List.length_replicate]
      have : (if (⟨u.2.2.toArray⟩ : Str) = "" then [] else [(⟨u.2.2.toArray⟩ : Str)]).length ≤ 1 := by split <;> simp
      omega
    · have hw : w ∈ lawW u.2.1 ⟨u.2.2.toArray⟩ := hw
      unfold lawW at hw
      rcases List.mem_append.mp hw with hw | hw
      · rw [(List.mem_replicate.mp hw).2]
        decide +kernel
      · split at hw
        · cases hw
        · rw [List.mem_singleton.mp hw]
          exact hx.2
  omega
theorem line_len (z : Str) : (linesL [z]).length = z.length + 1 := by
  have e : linesL [z] = (z.cps.toList ++ [10]) ++ [] := rfl
  rw [e, List.append_nil, List.length_append, ← len_cps]
  rfl
theorem lines_cons (z : Str) (zs : List Str) : (linesL (z :: zs)).length = z.length + 1 + (linesL zs).length := by
  have e : linesL (z :: zs) = (z.cps.toList ++ [10]) ++ linesL zs := rfl
  rw [e, List.length_append, List.length_append, ← len_cps]
  rfl
theorem tre_all {ar nm : List Str} (hn : NmG ar nm) : ∀ n : Nat,
    (∀ (s : Tre) (cs : List Str) (d : Nat) (ind : Str), sizeOf s < n → CsG nm cs d → DrS ar nm s cs → StV s d ∧ NmT (NN ar nm) s ∧ TrOk s d ∧ (lnM s ind).length ≤ 2 * cntS s ∧ (∀ z ∈ lnM s ind, z.length ≤ ind.length + 2 * d + 1040) ∧ (ind.length + 2 * d ≤ 8 → (linesL (lnM s ind)).length ≤ 1100 * cntS s)) ∧
    (∀ (b : List Tre) (cs : List Str) (d : Nat) (ind : Str), sizeOf b < n → CsG nm cs d → DrB ar nm b cs → BlV b d ∧ NmB (NN ar nm) b ∧ BtOk b d ∧ (lnsM b ind).length ≤ 2 * cntB b ∧ (∀ z ∈ lnsM b ind, z.length ≤ ind.length + 2 * d + 1040) ∧ (ind.length + 2 * d ≤ 8 → (linesL (lnsM b ind)).length ≤ 1100 * cntB b)) := by
  intro n
  have z1 : (Str.ofString " ").length = 1 := by decide +kernel
  have z2 : (Str.ofString "[").length = 1 := by decide +kernel
  have z3 : (Str.ofString "]").length = 1 := by decide +kernel
  have z4 : (Str.ofString "flush").length = 5 := by decide +kernel
  have z5 : (Str.ofString "for ").length = 4 := by decide +kernel
  have z6 : (Str.ofString "{").length = 1 := by decide +kernel
  have z7 : (Str.ofString "}").length = 1 := by decide +kernel
  have z8 : (Str.ofString "  ").length = 2 := by decide +kernel
  have zr : (Str.ofString "read").length = 4 := by decide +kernel
  have zw : (Str.ofString "write").length = 5 := by decide +kernel
  induction n with
  | zero => exact ⟨fun s cs d ind h => absurd h (Nat.not_lt_zero _), fun b cs d ind h => absurd h (Nat.not_lt_zero _)⟩
  | succ n ih =>
    refine ⟨fun s cs d ind hn' hc hd => ?_, fun b cs d ind hn' hc hd => ?_⟩
    · cases s with
      | flush =>
        refine ⟨trivial, trivial, trivial, ?_, fun z hz => ?_, fun hi => ?_⟩
        · show 1 ≤ 2 * 1
          decide
        · have hz : z ∈ [ind ++ "flush"] := hz
          rw [List.mem_singleton.mp hz, Str.length_append, z4]
          omega
        · show (linesL [ind ++ "flush"]).length ≤ 1100 * 1
          rw [line_len, Str.length_append, z4]
          omega
      | acc w a A F =>
        obtain ⟨hw, ha, hf⟩ := hd
        obtain ⟨hdue, hF⟩ := fm_due hn hc hf
        have hga := hn.good a (List.mem_append_left _ ha)
        have hla := hga.len
        have hS := due_lenC hdue hf.1.2.2 fun f hf => ⟨(hn.good _ (List.mem_append_right _ (hF f hf).1)).len, (hF f hf).2.2.2⟩
        refine ⟨⟨hw, hga.is, hdue⟩, ⟨nn_mem (List.mem_append_left _ ha), fun f hf => nn_mem (List.mem_append_right _ (hF f hf).1)⟩, ⟨hw, ⟨by omega, hga.ok⟩, hdue.ps, hdue.fok⟩, ?_, fun z hz => ?_, fun hi => ?_⟩
        · show 1 ≤ 2 * 1
          decide
        · have hz : z ∈ [ind ++ fj [w, " ", a, "[", sumT (idxTs A F), "]"]] := hz
          have hwl : w.length ≤ 5 := by rcases hw with rfl | rfl <;> omega
          rw [List.mem_singleton.mp hz, Str.length_append, fj_len]
          simp only [List.map_cons, List.map_nil, List.sum_cons, List.sum_nil, z1, z2, z3]
          omega
        · show (linesL [ind ++ fj [w, " ", a, "[", sumT (idxTs A F), "]"]]).length ≤ 1100 * 1
          have hwl : w.length ≤ 5 := by rcases hw with rfl | rfl <;> omega
          rw [line_len, Str.length_append, fj_len]
          simp only [List.map_cons, List.map_nil, List.sum_cons, List.sum_nil, z1, z2, z3]
          omega
      | loop c ps b =>
        obtain ⟨hcn, hcc, hc4, hps, hb⟩ := hd
        have hgc := hn.good c (List.mem_append_right _ hcn)
        have hlc := hgc.len
        have hdue := q_due hps (by decide)
        have hS := due_lenC hdue hps.2.2 fun f hf => (nomatch hf)
        rw [sz_terms] at hS
        have hlen := hc.len
        obtain ⟨e, rfl⟩ : ∃ e, d = e + 1 := ⟨d - 1, by omega⟩
        have hc' : CsG nm (cs ++ [c]) e := ⟨fun z hz => (List.mem_append.mp hz).elim (hc.sub z) (fun h => by rw [List.mem_singleton.mp h]; exact hcn), List.nodup_append.mpr ⟨hc.nd, by simp, fun x hx y hy => by rw [List.mem_singleton.mp hy]; exact fun e => hcc (e ▸ hx)⟩, by rw [List.length_append, List.length_singleton]; omega⟩
        obtain ⟨i1, i2, i3, i4, i5, i6⟩ := ih.2 b (cs ++ [c]) e (ind ++ "  ") (by simp only [Tre.loop.sizeOf_spec] at hn'; omega) hc' hb
        refine ⟨⟨e, rfl, hgc.is, hdue, i1⟩, ⟨nn_mem (List.mem_append_right _ hcn), i2⟩, ⟨e, rfl, ⟨by omega, hgc.ok⟩, hdue.ps, i3⟩, ?_, fun z hz => ?_, fun hi => ?_⟩
        · show (_ :: (lnsM b (ind ++ "  ") ++ [ind ++ "}"])).length ≤ 2 * (1 + cntB b)
          rw [List.length_cons, List.length_append, List.length_singleton]
          omega
        · have hz : z ∈ ((ind ++ fj ["for ", c, " ", sumT (termsT ps []), " "]) ++ "{") :: (lnsM b (ind ++ "  ") ++ [ind ++ "}"]) := hz
          rcases List.mem_cons.mp hz with rfl | hz
          · rw [Str.length_append, Str.length_append, fj_len]
            simp only [List.map_cons, List.map_nil, List.sum_cons, List.sum_nil, z1, z5, z6]
            omega
          · rcases List.mem_append.mp hz with hz | hz
            · have := i5 z hz
              rw [Str.length_append, z8] at this
              omega
            · rw [List.mem_singleton.mp hz, Str.length_append, z7]
              omega
        · show (linesL (((ind ++ fj ["for ", c, " ", sumT (termsT ps []), " "]) ++ "{") :: (lnsM b (ind ++ "  ") ++ [ind ++ "}"]))).length ≤ 1100 * (1 + cntB b)
          have h6 := i6 (by rw [Str.length_append, z8]; omega)
          rw [lines_cons, linesL_app, List.length_append, line_len, Str.length_append, Str.length_append, Str.length_append, fj_len]
          simp only [List.map_cons, List.map_nil, List.sum_cons, List.sum_nil, z1, z5, z6, z7]
          omega
    · cases b with
      | nil => exact ⟨trivial, trivial, trivial, Nat.zero_le _, fun z hz => (nomatch hz), fun _ => Nat.zero_le _⟩
      | cons s b =>
        have hd : DrS ar nm s cs ∧ DrB ar nm b cs := hd
        obtain ⟨a1, a2, a3, a4, a5, a6⟩ := ih.1 s cs d ind (by simp only [List.cons.sizeOf_spec] at hn'; omega) hc hd.1
        obtain ⟨b1, b2, b3, b4, b5, b6⟩ := ih.2 b cs d ind (by simp only [List.cons.sizeOf_spec] at hn'; omega) hc hd.2
        refine ⟨⟨a1, b1⟩, ⟨a2, b2⟩, ⟨a3, b3⟩, ?_, fun z hz => ?_, fun hi => ?_⟩
        · show (lnM s ind ++ lnsM b ind).length ≤ 2 * (cntS s + cntB b)
          rw [List.length_append]
          omega
        · have hz : z ∈ lnM s ind ++ lnsM b ind := hz
          exact (List.mem_append.mp hz).elim (a5 z) (b5 z)
        · show (linesL (lnM s ind ++ lnsM b ind)).length ≤ 1100 * (cntS s + cntB b)
          have q1 := a6 hi
          have q2 := b6 hi
          rw [linesL_app, List.length_append]
          omega
/-- how deep the data of a tree is -/
theorem lay_all : ∀ n : Nat, (∀ (s : Tre) (d : Nat), sizeOf s < n → TrOk s d → Lay (2 * d + 5) (trD s)) ∧ (∀ (b : List Tre) (d : Nat), sizeOf b < n → BtOk b d → ∀ y ∈ blD b, Lay (2 * d + 5) y) := by
  intro n
  induction n with
  | zero => exact ⟨fun s d h => absurd h (Nat.not_lt_zero _), fun b d h => absurd h (Nat.not_lt_zero _)⟩
  | succ n ih =>
    refine ⟨fun s d hn h => ?_, fun b d hn h => ?_⟩
    · cases s with
      | flush =>
        refine (Lay.tup (n := 0) fun y hy => ?_).mono (by omega)
        rw [List.mem_singleton.mp hy]
        exact Lay.str (by decide +kernel)
      | acc w a A F =>
        obtain ⟨hw, ha, hA, hF⟩ := h
        have hi : ∀ {ps : List Int}, Lay 1 (.tuple (ps.map .int)) := fun {ps} => Lay.tup (n := 0) fun y hy => by
          obtain ⟨i, _, rfl⟩ := List.mem_map.mp hy
          exact Lay.int
        have hf : Lay 3 (.tuple (F.map fcD)) := Lay.tup (n := 2) fun y hy => by
          obtain ⟨f, hf, rfl⟩ := List.mem_map.mp hy
          refine Lay.tup (n := 1) fun z hz => ?_
          simp only [List.mem_cons, List.not_mem_nil, or_false] at hz
          rcases hz with rfl | rfl
          · exact (Lay.str (hF.2 f hf).2.2).mono (by decide)
          · exact hi
        have hx : Lay 4 (idxD A F) := Lay.tup (n := 3) fun z hz => by
          simp only [List.mem_cons, List.not_mem_nil, or_false] at hz
          rcases hz with rfl | rfl
          · exact hi.mono (by decide)
          · exact hf
        refine (Lay.tup (n := 4) fun z hz => ?_).mono (by omega)
        simp only [List.mem_cons, List.not_mem_nil, or_false] at hz
        rcases hz with rfl | rfl | rfl
        · refine (Lay.str ?_).mono (by decide)
          rcases hw with rfl | rfl <;> decide +kernel
        · exact (Lay.str ha.2).mono (by decide)
        · exact hx
      | loop c ps b =>
        obtain ⟨e, rfl, hc, hps, hb⟩ := h
        have hi : Lay 1 (.tuple (ps.map .int)) := Lay.tup (n := 0) fun y hy => by
          obtain ⟨i, _, rfl⟩ := List.mem_map.mp hy
          exact Lay.int
        have hbl := Lay.tup (ih.2 b e (by simp only [Tre.loop.sizeOf_spec] at hn; omega) hb)
        refine (Lay.tup (n := 2 * e + 6) fun z hz => ?_).mono (by omega)
        simp only [List.mem_cons, List.not_mem_nil, or_false] at hz
        rcases hz with rfl | rfl | rfl | rfl
        · exact (Lay.str (by decide +kernel)).mono (by omega)
        · exact (Lay.str hc.2).mono (by omega)
        · exact hi.mono (by omega)
        · exact hbl
    · cases b with
      | nil => exact fun y hy => (nomatch hy)
      | cons s b =>
        intro y hy
        have h : TrOk s d ∧ BtOk b d := h
        rcases List.mem_cons.mp (show y ∈ trD s :: blD b from hy) with rfl | hy
        · exact ih.1 s d (by simp only [List.cons.sizeOf_spec] at hn; omega) h.1
        · exact ih.2 b d (by simp only [List.cons.sizeOf_spec] at hn; omega) h.2 y hy
end K08

namespace K08
open PySem L2 SZ VR VX StX RT DE
/-! ### the law's own tokens -/
section
variable {P : Program} {w : World} {K : PySem.W.Frag} {mg : Str → Option Value} {base : Heap}
end

end K08

namespace DE
open PySem PySem.Spec PyProof.Rows L2 SZ VR VX StX RT
/-! ### list.count of texts -/
section
variable {X : Cx} {b : Bs} {ρ : List Sl} {e1 e2 : Expr} {r : Sl}
end

end DE

namespace SS
open PySem PySem.Spec PyProof.Rows L2 PySem.Froz
theorem str_at : ∀ {vs : List Value} {zs : List Str}, StrsAre vs zs → ∀ (i : Nat) (v : Value), vs[i]? = some v → ∃ t, v = .str (zs.getD i "") t
  | [], [], _, i, v, h => by simp at h
  | u :: vs, z :: zs, h, 0, v, e => by
    cases h with
    | cons y t h2 =>
      cases e
      exact ⟨_, rfl⟩
  | u :: vs, z :: zs, h, i + 1, v, e => by
    cases h with
    | cons y t h2 => exact str_at h2 i v e

/-! ### set(texts), sorted(set of texts) -/
/-- a set of these texts that can be walked -/
def GS (P : Program) (w : World) (h : Heap) (a : Addr) (l : List Str) : Prop := ∃ D : SD, h.get? a = some (sObj "set" D) ∧ TxOk P w D l ∧ Ris D.2.2.place.toList ∧ (w.params.followText "set-order" = true ∨ D.2.2.led = true)
theorem GS.at {P : Program} {w : World} {h h' : Heap} {a : Addr} {l : List Str} (g : GS P w h a l) (k : ∀ o, h.get? a = some o → h'.get? a = some o) : GS P w h' a l := by
  obtain ⟨D, ho, r⟩ := g
  exact ⟨D, k _ ho, r⟩
theorem tail_ris {c : Prop} {ep : Nat} {es : Array (Int × Value)} {t : SetTable} {wd : Bool} (r : Ris t.place.toList) (l : c ∨ t.led = true) : Ris (tailTx ep es t wd).2.2.place.toList ∧ (c ∨ (tailTx ep es t wd).2.2.led = true) := by
  unfold tailTx
  split
  · exact ⟨relayAll_ris _ _ _, l.imp id fun z => (relayAll_led _ _ _).trans z⟩
  · exact ⟨r, l⟩
theorem add_ris {c : Prop} {D : SD} {hh : Int} {v : Value} (r : Ris D.2.2.place.toList) (l : c ∨ D.2.2.led = true) : Ris (addTx hh v D).2.2.place.toList ∧ (c ∨ (addTx hh v D).2.2.led = true) := by
  unfold addTx
  refine tail_ris ?_ (l.imp id fun z => ?_)
  · split
    · exact layNew_ris _ _ _ _ r
    · exact layNew_ris _ _ _ _ r
  · split
    · exact (layNew_led _ _ _ _).trans z
    · exact (layNew_led _ _ _ _).trans z
section
variable {P : Program} {w : World} {A : Around} {R : Result → Shared → Prop} {I : Addr} {fp wr : List Addr} {G : Array GenState → Array GenState → Prop} {n : Nat} {Pv : Nat → Value → Prop} {St : Nat → Shared → Prop}
end
section
variable {P : Program} {w : World} {A : Around} {E : Value → Shared → Prop} {s : Shared}
/-- the new set, its table led by nothing -/
theorem set_made (a : Value) {Q₁ : Value → Shared → Prop}
    (h : Q₁ (.ref s.heap.objs.size) { s with heap := s.heap.push { cls := .type "set", dict := none, data := .set #[] 0 (.fresh 0 0 (!w.params.followText "set-order")) } }) :
    codeAny (model P w) A (.call (.builtin "set.__new__") ⟨[.type "set", a], []⟩) (wants Q₁ E) s := by
  refine codeAny_of_tree ?_
  show wpAny _ A.in1 (do checkBuiltinCall "set.__new__" ⟨[.type "set", a], []⟩; again (.builtin "set.__new__" ⟨[.type "set", a], []⟩)) _ _ s
  refine wpAny_bind (wpAny_of_eq (F.newCall_set_1 a) (wpAny_pure ⟨plainId_quiet F.plain_set_new _, codeAny_builtin F.entry_set_new ?_⟩))
  rw [Around.under_plainId F.plain_set_new _]
  unfold Builtin.«set.__new__» Builtin.Frozenset.newClass
  have hsub := sub_set_self
  obtain ⟨hp, g, d, tk, os⟩ := s
  dsimp only
  wp_walk
  refine wpAny_askSetting (wpAny_pure ?_)
  dsimp only
  simp only [newObj]
  refine wpAny_bind (wpAny_alloc (wpAny_pure ?_))
  exact wpAny_pure h
theorem set_empty (h : Heap) (P : Program) (w : World) : GS P w (h.push { cls := .type "set", dict := none, data := .set #[] 0 (.fresh 0 0 (!w.params.followText "set-order")) }) h.objs.size [] := by
  refine ⟨(#[], 0, .fresh 0 0 (!w.params.followText "set-order")), Heap.get?_push_size _ rfl, TxOk.nil rfl, List.Pairwise.nil, ?_⟩
  show _ ∨ (!w.params.followText "set-order") = true
  cases w.params.followText "set-order"
  · exact .inr rfl
  · exact .inl rfl
end

end SS

namespace SS
open PySem PySem.Spec PyProof.Rows L2 PySem.Froz
theorem perm_of_sub {α : Type} [DecidableEq α] : ∀ {l m : List α}, l.Nodup → (∀ x ∈ l, x ∈ m) → m.length = l.length → m.Perm l
  | [], m, _, _, h => by
    have : m = [] := List.length_eq_zero_iff.mp h
    rw [this]
  | x :: l, m, nd, hs, h => by
    have hx := hs x List.mem_cons_self
    have p := List.perm_cons_erase hx
    have nd2 := List.nodup_cons.mp nd
    refine p.trans (List.Perm.cons x (perm_of_sub nd2.2 (fun y hy => ?_) ?_))
    · have hy2 := p.mem_iff.mp (hs y (List.mem_cons_of_mem _ hy))
      rcases List.mem_cons.mp hy2 with e | e
      · subst e; exact absurd hy nd2.1
      · exact e
    · have := p.length_eq
      rw [List.length_cons, h, List.length_cons] at this
      omega
theorem is_strOf {P : Program} {w : World} {k : Str} {v : Value} (h : (strKind P w).is k v = true) : ∃ t, v = .str k t := by
  have h : Value.isStrOf k v = true := h
  cases v <;> simp [Value.isStrOf] at h
  subst h
  exact ⟨_, rfl⟩
theorem gs_vals {P : Program} {w : World} {D : SD} {l : List Str} (F : TxOk P w D l) (nd : l.Nodup) : (∀ v ∈ D.1.toList.map (·.2), ∃ x t, v = Value.str x t) ∧ ((D.1.toList.map (·.2)).map strOf).Perm l := by
  have h1 : ∀ v ∈ D.1.toList.map (·.2), ∃ x t, v = Value.str x t := fun v hv => by
    obtain ⟨e, he, rfl⟩ := List.mem_map.mp hv
    obtain ⟨⟨k, hk, _⟩, _⟩ := F.el e he
    obtain ⟨t, ht⟩ := is_strOf hk
    exact ⟨k, t, ht⟩
  refine ⟨h1, perm_of_sub nd (fun x hx => ?_) ?_⟩
  · obtain ⟨e, he, hk⟩ := (F.mem x).mp hx
    obtain ⟨t, ht⟩ := is_strOf hk
    refine List.mem_map.mpr ⟨e.2, List.mem_map.mpr ⟨e, he, rfl⟩, ?_⟩
    rw [ht] <;> rfl
  · rw [List.length_map, List.length_map, Array.length_toList]
    exact F.sz
section
variable {P : Program} {w : World} {A : Around} {E : Value → Shared → Prop} {s : Shared}
/-- sorted(set), fewer than 64 texts -/
theorem sorted_setS {a : Addr} {l : List Str} {Q : Value → Shared → Prop} (R : GS P w s.heap a l) (hh : A.handled = none) (h64 : l.length < 64) (nd : l.Nodup)
    (hQ : ∀ s' p (out : Array Value) (c : Nat) (ys : List Str), (∀ b o, s.heap.get? b = some o → s'.heap.get? b = some o) → s'.gens = s.gens → s'.os = s.os → s.heap.objs.size ≤ p →
      s'.heap.get? p = some (seqObj "list" out c) → StrsAre out.toList ys → ys.Perm l → sortedS ys = true → Q (.ref p) s') :
    wpAny (model P w) A (call (.builtin "sorted") [.ref a]) Q E s := by
  obtain ⟨⟨es, ep, t⟩, ho, TX, r, ld⟩ := R
  obtain ⟨g1, g2⟩ := gs_vals TX nd
  have hsz : es.size = l.length := TX.sz
  have hf : t.fits es.size = true := TX.fit
  have hb : es.size < scanBound := by unfold scanBound; omega
  refine Calls.call_function_entry kind_sorted plain_sorted entry_sorted (args_sorted1 _) ?_
  unfold Builtin.«sorted»
  refine wpAny_bind (m := checkCount "sorted" 1 1 _) (wpAny_pure ?_)
  refine wpAny_bind (collect_set (A := A.in1) hh ⟨_, ho, rfl, rfl⟩ hf hb r ld fun s1 vs k1 hz q1 o1 pm => ?_)
  have hvl : vs.length = l.length := by rw [pm.length_eq, List.length_map, Array.length_toList]; exact hsz
  have hS : StrsAre vs (vs.map strOf) := strsAre_map vs fun v hv => g1 v (pm.mem_iff.mp hv)
  have pk : (vs.map strOf).Perm l := (pm.map strOf).trans g2
  refine wpAny_bind (wpAny_newList ?_ (by rw [hvl, sizeLine_eq]; omega))
  have hoL : (s1.heap.push (seqObj "list" vs.toArray 0)).get? s1.heap.objs.size = some (seqObj "list" vs.toArray 0) := Heap.get?_push_size _ rfl
  refine wpAny_bind (wpAny_holding (wpAny_call_entry slot_list_sort ⟨_, hoL, rfl⟩ entry_list_sort (list_sort_treeK strKind_oneLt hoL hS.keysOf (fun v₁ v₂ rest e => keyKind_strs (by rw [← e]; exact hS)) (by rw [hvl]; exact h64) fun st' a1 a2 => ⟨_, rfl, ?_⟩) (args_list_sort _)))
  obtain ⟨ys, b1, b2, b3⟩ := sorted_out_str hS a1 a2
  obtain ⟨c, hc⟩ := sortedHeap_at (vs := vs) (out := (arrOf st').map (·.2)) hoL
  refine wpAny_pure ⟨_, rfl, hQ _ s1.heap.objs.size _ c ys (fun b u e => ?_) q1 o1 hz hc b1 (b2.trans pk) b3⟩
  have q := k1 b u e
  have hlt := Heap.lt_size q
  show (sortedHeap (s1.heap.push (seqObj "list" vs.toArray 0)) s1.heap.objs.size vs _).get? b = some u
  rw [sortedHeap_old (Nat.ne_of_lt hlt) (by rw [size_push']; exact Nat.lt_succ_of_lt hlt)]
  exact Heap.get?_push_of_some _ q
end
/-! ### as the walk has them -/
/-- the set of these texts at a -/
def SetS (P : Program) (w : World) (a : Addr) (l : List Str) : HO := .ext fun h => GS P w h a l
section
variable {X : Cx}
theorem setS_new {w : World} {P : Program} {H : Hp} {h : Heap} {a : Addr} {l : List Str} (R : GS P w h a l) : ObjOk P w H h a (SetS P w a l) := by
  have ⟨D, ho, _⟩ := R
  exact ⟨R, ⟨_, ho⟩, fun h1 h2 p k => GS.at p k⟩
theorem setS_get {pins : List (Addr × Obj)} {σ : L2.St} {H : Hp} {s : Shared} {a : Addr} {l : List Str} (I : Inv X pins σ H s) (ha : H a = some (SetS X.prog X.w a l)) : GS X.prog X.w s.heap a l := (I.hok a _ ha).1
/-- sorted(set of texts) -/
def rSortedSS (P : Program) (w : World) : List V → Hp → VK → Prop := fun vs H Q => ∃ (a : Addr) (l : List Str), vs = [V.ref a] ∧ H a = some (SetS P w a l) ∧ l.Nodup ∧ l.length < 64 ∧
  ∀ (ys : List Str) (p : Addr), ys.Perm l → sortedS ys = true → H p = none → Q (.ref p) (upd H p (.lst (ys.map V.str)))
theorem cr_sortedSS (hc : X.calm = true) : CallR X (.builtin "sorted") (rSortedSS X.prog X.w) := by
  intro pins s σ H vs us Q I r h
  obtain ⟨a, l, rfl, ha, nd, h64, q⟩ := h
  have R := setS_get I ha
  rw [Vals.ref1 r]
  refine sorted_setS R (I.ok.hd hc) h64 nd fun s' p out c ys k g o hp hg hi hm hs => ?_
  have hlen : (ys.map V.str).length ≤ sizeLine := by rw [List.length_map, hm.length_eq, sizeLine_eq]; omega
  have hn : H p = none := I.hok.fresh hp
  have J : Inv X pins σ (upd H p (.lst (ys.map V.str))) { s with heap := s'.heap, gens := s'.gens, drawn := s'.drawn, toks := s'.toks } :=
    I.call (ch := []) (Un.laid k hp hn) (I.hok.laid k hp ⟨hlen, out.toList, c, vals_of_strs hi, hg⟩) (by rw [g]; exact I.bare) (fun _ z => nomatch z)
  have e : s' = { s with heap := s'.heap, gens := s'.gens, drawn := s'.drawn, toks := s'.toks } := by
    cases s'
    cases s
    cases o
    rfl
  rw [e]
  exact ⟨.ref p, _, J, rfl, q ys p hm hs hn⟩
end

end SS

namespace DE
open PySem PySem.Spec PyProof.Rows L2 SZ VR VX StX RT
/-! ### set(texts), sorted(set(texts)) -/
def SetF (P : Program) (w : World) (l : List Str) : V → Hp → Prop := fun v H => ∃ p, v = .ref p ∧ H p = some (SS.SetS P w p l)
theorem SetF.st (P : Program) (w : World) (l : List Str) : ∀ v G G', Same G G' → SetF P w l v G → SetF P w l v G' := fun v G G' s ⟨p, e, h⟩ => ⟨p, e, s p _ h⟩
abbrev SetSl (P : Program) (w : World) (l : List Str) : Sl := .fact (SetF P w l) (SetF.st P w l)
section
variable {X : Cx} {b : Bs} {ρ : List Sl} {e : Expr}
theorem cv_sortedSS {l : List Str} {p : Sl → Prop} (hc : X.calm = true) (nd : l.Nodup) (hn : l.length < 64) (h : ∀ ys : List Str, ys.Perm l → PyProof.Rows.sortedS ys = true → p (.own (ys.map .str))) : CV X b (.builtin "sorted") [SetSl X.prog X.w l] p := ⟨_, SS.cr_sortedSS hc, fun vs H L Q lv hh k => by
  obtain ⟨v, rfl⟩ := one_in (rs := [SetSl X.prog X.w l]) (r := SetSl X.prog X.w l) lv
  have hc : Hold X.K b H ((some v, SetSl X.prog X.w l) :: L) := hh
  obtain ⟨G, hg⟩ := hc
  obtain ⟨_, f1, d1⟩ := hg.ok (some v, SetSl X.prog X.w l) List.mem_cons_self
  cases f1
  obtain ⟨q, rfl, hq⟩ := d1
  exact ⟨q, l, rfl, hg.up q _ hq, nd, hn, fun ys p2 hp hs h2 => k _ _ _ (h ys hp hs) ⟨G, hg.drop.newL h2 (dp_strsI ys)⟩⟩⟩
end

end DE

namespace DE
open PySem PySem.Spec PyProof.Rows L2 SZ VR VX StX RT
/-! ### all, any of tests with one answer -/
section
variable {X : Cx} {b : Bs}
theorem cr_anyF {zs : List PyData} (hc : X.calm = true) (h : ∀ z ∈ zs, z = .bool false) : CVr X b (.builtin "any") [.own zs] (.d (.bool false)) := fun p k => by
  have e : zs = (zs.map fun _ => false).map .bool := by
    rw [List.map_map]
    exact (List.map_id zs).symm.trans (List.map_congr_left fun z hz => h z hz)
  have e2 : (zs.map fun _ => false).any id = false := by
    rw [List.any_map]
    exact List.any_eq_false.mpr fun _ _ => by simp
  rw [e]
  exact cv_any hc (by rw [e2]; exact k)
end

section
variable {X : Cx} {b : Bs} {ρ : List Sl} {p : Po}
/-- name = [f(x) for x in xs if c(x)] in one row -/
theorem x_setLc {α : Type} {tg iter elt : Expr} {ifs : List Expr} {scope : Scope} (i : Nat) (own : List (Str × Nat)) (l : List α) (g : α → PyData) (cf : α → Bool) (f : α → PyData) (ρt : α → List Sl) {ys : List PyData} {y : Str} {py spos pos : Pos} {ρ2 : List Sl} (hi : EIr X b ρ tg iter ys) (ey : ys = l.map g) (hc : X.calm = true) (hN : X.N.Nodup) (ok : BlkOk X.N X.env.scope scope own) (hun : ∀ v ∈ own.map (·.2), ρ[v]? = some .un) (hlen : l.length ≤ 100000)
    (hg : ∀ y ∈ l, AllB X scope fun Y => EGr Y b (own.map (·.2)) ρ tg (.d (g y)) (ρt y)) (hw : ∀ y ∈ l, wipeR (ρt y) (own.map (·.2)) = ρ) (ht : ∀ y ∈ l, AllB X scope fun Y => ETsr Y b (ρt y) ifs (cf y))
    (he : ∀ y ∈ l, cf y = true → ∃ r, (AllB X scope fun Y => EVr Y b (ρt y) elt r) ∧ cool r = .d (f y)) (h2 : ρ.set i (.own ((l.filter cf).map f)) = ρ2) (k : p.nx ρ2) (hy : X.N[i]? = some y := by rfl) (hl : i < ρ.length := by first | decide | simp) (hyl : X.env.scope.names.lookup y = some .local := by rfl)
    (hsw : swapsWith (.ListComp elt [⟨tg, iter, ifs, 0⟩] scope pos) (some (.Name y py)) spos.line X.env = pure true := by rfl) (hs : ∀ x, foldedSetIterable iter X.env x = pure x := by intro _; rfl) : XS X b ρ (.Assign [.Name y py] (.ListComp elt [⟨tg, iter, ifs, 0⟩] scope pos) spos) p := by
  refine xs_setLc i own hc hN hy hl hyl hsw ok (hi _ fun _ => ⟨fun j acc ρ' => acc = (((l.take j).filter cf).map f) ∧ ρ' = ρ, ⟨by simp, rfl⟩, fun j acc ρ' ⟨_, e⟩ => by subst e; exact hun, fun j y acc ρ' hy _ ⟨ea, e⟩ => ?_, fun acc ρ' ⟨ea, e⟩ _ => by subst ea e ey; rw [List.length_map, List.take_length, h2]; exact k⟩) hs
  subst e ey
  rw [List.getElem?_map] at hy
  cases hx : l[j]? with
  | none => rw [hx] at hy; cases hy
  | some x =>
    rw [hx] at hy
    cases hy
    have hm : x ∈ l := List.mem_of_getElem? hx
    have htk : l.take (j + 1) = l.take j ++ [x] := by rw [List.take_add_one, hx]; rfl
    refine lc_turn (hg x hm) (ht x hm) (hw x hm) (fun e => ⟨?_, rfl⟩) fun e => ?_
    · rw [htk, List.filter_append, List.filter_cons, e, ea]
      simp
    · obtain ⟨r, hr, er⟩ := he x hm e
      refine ⟨r, f x, hr, er, ?_, ?_, rfl⟩
      · rw [ea, List.length_map, sizeLine_eq]
        have h1 := List.length_filter_le cf (l.take j)
        have hb : j < l.length := (List.getElem?_eq_some_iff.mp hx).1
        rw [List.length_take] at h1
        omega
      · rw [htk, List.filter_append, List.filter_cons, e, ea]
        simp
end

end DE

namespace K08
open PySem L2 SZ VR VX StX RT DE
/-! ### trees that are trees: the package's own tests -/
abbrev Tru : List Sl → Sl → Prop := fun _ r => r = .d (.bool true)
/-- parts as a tree has them -/
def PtG (ps : List Int) : Prop := trim ps = ps ∧ ps.length ≤ 100
/-- a name as a tree has it -/
def NmG1 (z : Str) : Prop := isNmL z.cps.toList = true ∧ z.length ≤ 100 ∧ PyData.strOk z = true
theorem ints_lay {n : Nat} (ps : List Int) : Lay (n + 1) (.tuple (ps.map .int)) := Lay.tup (n := n) fun y hy => by
  obtain ⟨i, _, rfl⟩ := List.mem_map.mp hy
  exact Lay.int.mono (Nat.zero_le _)
section
variable {P : Program} {w : World} {K : PySem.W.Frag} {mg : Str → Option Value} {base : Heap}
end

end K08

namespace K08
open PySem L2 SZ VR VX StX RT DE
theorem uniq_sorted {l m : List Str} (p : l.Perm m) (h1 : PyProof.Rows.sortedS l = true) (h2 : m.Pairwise (fun a b => a.cps.toList ≤ b.cps.toList)) : l = m :=
  List.Perm.eq_of_pairwise (le := fun a b : Str => a.cps.toList ≤ b.cps.toList) (fun a b _ _ x y => str_iff.mp (List.le_antisymm x y)) (sorted_pw h1) h2 p
theorem due_ptg {A : List Int} {F : List Fc} (h : DueOk A F) : PtG A := ⟨h.form.1, by have := h.form.2.1; omega⟩
section
variable {P : Program} {w : World} {K : PySem.W.Frag} {mg : Str → Option Value} {base : Heap}
end

end K08

namespace K08
open PySem L2 SZ VR VX StX RT DE
/-! ### blocks and whole trees -/
structure GsV (s : Tre) (d : Nat) : Prop where
  v : StV s d
  t : TrOk s d
  c : cntS s ≤ 1000
structure GbV (b : List Tre) (d : Nat) : Prop where
  v : BlV b d
  t : BtOk b d
  c : cntB b ≤ 1000
theorem blv_all : ∀ {b : List Tre} {d : Nat}, BlV b d → ∀ s ∈ b, StV s d
  | [], _, _, s, h => by cases h
  | x :: b, d, hb, s, h => by
    unfold BlV at hb
    rcases List.mem_cons.mp h with rfl | h
    · exact hb.1
    · exact blv_all hb.2 s h
theorem cnt_pos : ∀ s : Tre, 1 ≤ cntS s
  | .acc _ _ _ _ => Nat.le_refl 1
  | .flush => Nat.le_refl 1
  | .loop _ _ b => by unfold cntS; omega
theorem cnt_mem : ∀ {b : List Tre} {s : Tre}, s ∈ b → cntS s ≤ cntB b
  | [], s, h => by cases h
  | x :: b, s, h => by
    unfold cntB
    rcases List.mem_cons.mp h with rfl | h
    · omega
    · have := cnt_mem h
      omega
theorem len_cnt : ∀ b : List Tre, b.length ≤ cntB b
  | [] => Nat.zero_le _
  | x :: b => by
    have h1 := len_cnt b
    have h2 := cnt_pos x
    unfold cntB
    rw [List.length_cons]
    omega
theorem GbV.of {b : List Tre} {d : Nat} (h : GbV b d) {s : Tre} (hs : s ∈ b) : GsV s d := ⟨blv_all h.v s hs, blOk_all h.t s hs, Nat.le_trans (cnt_mem hs) h.c⟩
theorem GbV.len {b : List Tre} {d : Nat} (h : GbV b d) : b.length ≤ 1000 := Nat.le_trans (len_cnt b) h.c
theorem tr_lay {s : Tre} {d : Nat} (h : TrOk s d) : Lay (2 * d + 5) (trD s) := (lay_all (sizeOf s + 1)).1 s d (Nat.lt_succ_self _) h
/-- arrays of a tree -/
def ArG (ars : List Fc) : Prop := ars.length ≤ 100 ∧ ∀ f ∈ ars, NmG1 f.1 ∧ PtG f.2
def treeD (ars : List Fc) (b : List Tre) : PyData := .tuple [.tuple (ars.map fcD), .tuple (blD b)]
theorem gl_int {X : Cx} {x : Str} {i : Int} {t : Tok} (h : X.mg x = some (.int i t)) : GlD X x (.int i) := ⟨.int i, .int i t, h, ⟨t, rfl⟩, fun G => .int i⟩
section
variable {P : Program} {w : World} {K : PySem.W.Frag} {mg : Str → Option Value} {base : Heap}
end

end K08

namespace DE
open PySem PySem.Spec PyProof.Rows L2 SZ VR VX StX RT
/-! ### comprehensions of two fors -/
def lcI (X : Cx) (scope : Scope) (tg iter : Expr) : TI := fun σ H R => ∀ (s : Shared) (H0 : Hp) (C : Addr) (cl : List (Str × Addr)) (fp : List Addr), ∃ wi, PI (X.blk s H0 scope (compEnvC scope cl C X.env) fp) tg iter wi ∧ wi σ H R
section
variable {X : Cx} {b : Bs} {ρ : List Sl} {iter tg tg1 iter1 elt : Expr}
theorem r_lc2 {α : Type} {scope : Scope} (own : List (Str × Nat)) (vs1 : List Nat) (l : List α) (g : α → PyData) (y1 : α → List PyData) (f : α → PyData → PyData) (ρt : α → List Sl) (ρu : α → PyData → List Sl) {ys : List PyData} {pos : Pos} (hi : EIr X b ρ tg iter ys) (ey : ys = l.map g) (hc : X.calm = true) (hN : X.N.Nodup) (ok : BlkOk X.N X.env.scope scope own) (hv : ∀ i ∈ vs1, i ∈ own.map (·.2)) (hun : ∀ v ∈ own.map (·.2), ρ[v]? = some .un)
    (hlen : (l.flatMap fun a => (y1 a).map (f a)).length ≤ 100000)
    (hg : ∀ a ∈ l, AllB X scope fun Y => EGr Y b (own.map (·.2)) ρ tg (.d (g a)) (ρt a)) (hw : ∀ a ∈ l, wipeR (ρt a) (own.map (·.2)) = ρ) (hu1 : ∀ a ∈ l, ∀ v ∈ vs1, (ρt a)[v]? = some .un)
    (hi1 : ∀ a ∈ l, AllB X scope fun Y => EIr Y b (ρt a) tg1 iter1 (y1 a)) (hg1 : ∀ a ∈ l, ∀ y ∈ y1 a, AllB X scope fun Y => EGr Y b vs1 (ρt a) tg1 (.d y) (ρu a y)) (hw1 : ∀ a ∈ l, ∀ y ∈ y1 a, wipeR (ρu a y) vs1 = ρt a)
    (he : ∀ a ∈ l, ∀ y ∈ y1 a, ∃ r, (AllB X scope fun Y => EVr Y b (ρu a y) elt r) ∧ cool r = .d (f a y))
    (hs : ∀ x, foldedSetIterable iter X.env x = pure x := by intro _; rfl) (hs1 : ∀ env x, foldedSetIterable iter1 env x = pure x := by intro _ _; rfl) :
    EVr X b ρ (.ListComp elt [⟨tg, iter, [], 0⟩, ⟨tg1, iter1, [], 0⟩] scope pos) (.own (l.flatMap fun a => (y1 a).map (f a))) := fun p kp σ H L Q ls hh k => by
  obtain ⟨wi, hpi, hh2⟩ := hi (fun ys' ρ' => ys' = ys ∧ ρ' = ρ) ⟨rfl, rfl⟩
  refine ⟨_, pe_lc2 (vs1 := vs1) (g := lcG X scope tg) (tt := lcT X scope []) (wi1 := lcI X scope tg1 iter1) (g1 := lcG X scope tg1) (tt1 := lcT X scope []) (te := lcE X scope elt) hc hN hpi ok hv
    (fun s H C cl fp => ⟨fun pins s' σ H' v u Q I r q => (wg_pg tg).run pins s' σ H' v u Q I r (q s H C cl fp)⟩) (fun s H C cl fp => ⟨fun pins s' σ H' Q I q => (wts_pts []).run pins s' σ H' Q I (q s H C cl fp)⟩)
    (fun s H C cl fp => ⟨fun pins s' σ H' R I q => let ⟨wi, h, q⟩ := q s H C cl fp; h.run pins s' σ H' R I q⟩)
    (fun s H C cl fp => ⟨fun pins s' σ H' v u Q I r q => (wg_pg tg1).run pins s' σ H' v u Q I r (q s H C cl fp)⟩) (fun s H C cl fp => ⟨fun pins s' σ H' Q I q => (wts_pts []).run pins s' σ H' Q I (q s H C cl fp)⟩)
    (fun s H C cl fp => ⟨fun pins s' σ H' Q I q => (we_pe elt).run pins s' σ H' Q I (q s H C cl fp)⟩) hs hs1, ?_⟩
  refine hh2 σ H L _ ls hh fun ys' ρ' H1 J G Y c ⟨e1, e2⟩ l1 W hh1 hG hY => ?_
  subst e1 e2 ey
  intro D hD
  have lw : (L2.wipe σ (own.map (·.2))).length = ρ'.length := by rw [wipe_length]; exact ls
  have hn : (l.map g).length = l.length := List.length_map _
  let acc : Nat → List PyData := fun i => (l.take i).flatMap fun a => (y1 a).map (f a)
  let Pv : Nat → Hp → Prop := fun i H' => Hold X.K b H' ((L2.wipe σ (own.map (·.2))).zip ρ' ++ (some (.ref D), .own (acc i)) :: c :: L)
  refine ⟨fun i m H' => m = l.length - i ∧ i ≤ l.length ∧ Pv i H', ⟨l.length, by simp, Nat.zero_le _, ?_⟩, ?_⟩
  · obtain ⟨G', h3⟩ := hh1
    have h4 : Hold X.K b (upd H1 D (.lst [])) (σ.zip ρ' ++ (some (.ref D), .own []) :: c :: L) := ⟨G', (h3.newL hD .nil).perm perm_in.symm⟩
    have h5 := hold_wipe ls h4 (own.map (·.2))
    rw [wipeR_un hun] at h5
    exact h5
  rintro i m H2 ⟨rfl, hil, hP⟩
  have swp : ∀ (A M : List Cl) (u v : Cl), (A ++ u :: v :: M).Perm (v :: (A ++ u :: M)) := fun A M u v => (List.Perm.append_left A (List.Perm.swap v u M)).trans perm_in.symm
  have hq := hG H2 _ (hP.perm (swp _ L _ c).symm)
  by_cases hlt : i < l.length
  · refine .inr ⟨W.goes i H2 (by omega) hq, Pv (i + 1), fun H' p' => ⟨l.length - (i + 1), by omega, rfl, hlt, p'⟩, fun x H3 yl => ?_⟩
    obtain ⟨y, ey, hz⟩ := hY i x H2 H3 _ (by omega) (W.yields i H2 x H3 (by omega) hq yl) (hP.perm (swp _ L _ c).symm)
    rw [List.getElem?_map, List.getElem?_eq_getElem hlt] at ey
    cases ey
    have ha : l[i] ∈ l := List.getElem_mem hlt
    generalize hla : l[i] = a at ha hz
    have hacc : acc (i + 1) = acc i ++ (y1 a).map (f a) := by
      show (l.take (i + 1)).flatMap _ = _
      rw [List.take_succ_eq_append_getElem hlt, List.flatMap_append, hla]
      simp
      rfl
    have hbnd : (acc i).length + (y1 a).length ≤ 100000 := by
      have e : (l.flatMap fun a => (y1 a).map (f a)) = acc (i + 1) ++ (l.drop (i + 1)).flatMap fun a => (y1 a).map (f a) := by
        show _ = (l.take (i + 1)).flatMap _ ++ _
        rw [← List.flatMap_append, List.take_append_drop]
      rw [e, List.length_append, hacc, List.length_append, List.length_map] at hlen
      omega
    intro s H0 C cl fp
    have hgg : EG (X.blk s H0 scope (compEnvC scope cl C X.env) fp) b (own.map (·.2)) ρ' tg (.d (g a)) (fun ρ2 => ρ2 = ρt a) := hg a ha s H0 C cl fp _ rfl
    have hz' : Hold X.K b H3 ((some x, .d (g a)) :: ((L2.wipe σ (own.map (·.2))).zip ρ' ++ (some (.ref D), .own (acc i)) :: c :: L)) := hz.perm (List.Perm.cons _ (swp _ L _ c))
    refine hgg (L2.wipe σ (own.map (·.2))) H3 _ x _ lw hz' ?_
    intro ρ2 σ2 H4 h2 l2 n2 w2 hh4
    refine ⟨?_, ?_⟩
    · rw [w2]
      exact wipe_sub _ _ fun _ h => h
    subst h2
    have w2' : L2.wipe σ2 (own.map (·.2)) = L2.wipe σ (own.map (·.2)) := by
      rw [w2]
      exact wipe_sub _ _ fun _ h => h
    intro s H0 C cl fp
    refine ⟨_, pts_nil, ?_⟩
    intro s H0 C cl fp
    obtain ⟨wi1, hp1, hk1⟩ := hi1 a ha s H0 C cl fp (fun ys' ρ'' => ys' = y1 a ∧ ρ'' = ρt a) ⟨rfl, rfl⟩
    refine ⟨wi1, hp1, hk1 σ2 H4 _ _ l2 hh4 fun ys' ρ'' H5 J1 G1 Y1 c1 ⟨f1, f2⟩ l5 W1 hh5 hG1 hY1 => ?_⟩
    subst f1 f2
    let P1 : Nat → Hp → Prop := fun j H' => Hold X.K b H' (σ2.zip (ρt a) ++ c1 :: (some (.ref D), .own (acc i ++ ((y1 a).take j).map (f a))) :: c :: L)
    refine ⟨fun j k H' => k = (y1 a).length - j ∧ j ≤ (y1 a).length ∧ P1 j H', ⟨(y1 a).length, by simp, Nat.zero_le _, ?_⟩, ?_⟩
    · show Hold X.K b H5 (σ2.zip (ρt a) ++ c1 :: (some (.ref D), .own (acc i ++ ((y1 a).take 0).map (f a))) :: c :: L)
      rw [List.take_zero, List.map_nil, List.append_nil]
      exact hh5
    rintro j k2 H6 ⟨rfl, hjl, hP1⟩
    have hq1 := hG1 H6 _ (hP1.perm perm_in)
    by_cases hjt : j < (y1 a).length
    · refine .inr ⟨W1.goes j H6 hjt hq1, P1 (j + 1), fun H' p' => ⟨(y1 a).length - (j + 1), by omega, rfl, hjt, p'⟩, fun x1 H7 yl1 => ?_⟩
      obtain ⟨y, ey, hz1⟩ := hY1 j x1 H6 H7 _ hjt (W1.yields j H6 x1 H7 hjt hq1 yl1) (hP1.perm perm_in)
      have hy : y ∈ y1 a := List.mem_of_getElem? ey
      have hz2 : Hold X.K b H7 ((some x1, .d y) :: (σ2.zip (ρt a) ++ c1 :: (some (.ref D), .own (acc i ++ ((y1 a).take j).map (f a))) :: c :: L)) := hz1.perm (List.Perm.cons _ perm_in.symm)
      have hz3 : Hold X.K b H7 ((some x1, .d y) :: ((L2.wipe σ2 vs1).zip (ρt a) ++ c1 :: (some (.ref D), .own (acc i ++ ((y1 a).take j).map (f a))) :: c :: L)) := by
        have q := hold_wipe (L := (some x1, .d y) :: c1 :: (some (.ref D), .own (acc i ++ ((y1 a).take j).map (f a))) :: c :: L) l2 (hz2.perm perm_in.symm) vs1
        rw [wipeR_un (hu1 a ha)] at q
        exact q.perm perm_in
      intro s H0 C cl fp
      have hgg1 : EG (X.blk s H0 scope (compEnvC scope cl C X.env) fp) b vs1 (ρt a) tg1 (.d y) (fun ρ2 => ρ2 = ρu a y) := hg1 a ha y hy s H0 C cl fp _ rfl
      refine hgg1 (L2.wipe σ2 vs1) H7 _ x1 _ (by rw [wipe_length]; exact l2) hz3 ?_
      intro ρ3 σ3 H8 h3 l3 n3 w3 hh8
      refine ⟨?_, ?_⟩
      · rw [w3]
        exact wipe_sub _ _ fun _ h => h
      subst h3
      have w3' : L2.wipe σ3 vs1 = L2.wipe σ2 vs1 := by
        rw [w3]
        exact wipe_sub _ _ fun _ h => h
      intro s H0 C cl fp
      refine ⟨_, pts_nil, ?_⟩
      intro s H0 C cl fp
      obtain ⟨r, hr, er⟩ := he a ha y hy
      have hrr : EV (X.blk s H0 scope (compEnvC scope cl C X.env) fp) b (ρu a y) elt (fun r' ρ' => r' = r ∧ ρ' = ρu a y) := hr s H0 C cl fp _ ⟨rfl, rfl⟩
      refine hrr σ3 H8 _ _ l3 hh8 ?_
      intro r' ρ4 v H9 ⟨e1, e2⟩ l9 hh9
      subst e1 e2
      have h5 := hh9.cool
      rw [er] at h5
      obtain ⟨G', hG'⟩ := h5
      obtain ⟨us, g1, g2, hA⟩ := HoldG.app (hG'.perm (L' := (some v, .d (f a y)) :: (some (.ref D), .own (acc i ++ ((y1 a).take j).map (f a))) :: (σ3.zip (ρu a y) ++ c1 :: c :: L)) (List.Perm.cons _ (swp _ (c :: L) c1 _).symm))
      have hal : (acc i ++ ((y1 a).take j).map (f a)).length < sizeLine := by
        rw [List.length_append, List.length_map, List.length_take, sizeLine_eq]
        omega
      show ∃ acc, H9 D = some (.lst acc) ∧ acc.length < sizeLine ∧ Hold X.K b (upd H9 D (.lst (acc ++ [v]))) (σ2.zip (ρt a) ++ c1 :: (some (.ref D), .own ((l.take i).flatMap (fun a => (y1 a).map (f a)) ++ ((y1 a).take (j + 1)).map (f a))) :: c :: L)
      refine ⟨us, g1, by rw [g2]; exact hal, ?_⟩
      show Hold X.K b _ (σ2.zip (ρt a) ++ c1 :: (some (.ref D), .own (acc i ++ ((y1 a).take (j + 1)).map (f a))) :: c :: L)
      have et : (y1 a).take (j + 1) = (y1 a).take j ++ [y] := by rw [List.take_add_one, ey]; rfl
      rw [et, List.map_append, ← List.append_assoc]
      have h6 : Hold X.K b (upd H9 D (.lst (us ++ [v]))) (σ3.zip (ρu a y) ++ c1 :: (some (.ref D), .own (acc i ++ ((y1 a).take j).map (f a) ++ [f a y])) :: c :: L) := ⟨G', hA.perm (swp _ (c :: L) c1 _)⟩
      have h7 := hold_wipe l3 h6 vs1
      rw [hw1 a ha y hy, w3'] at h7
      exact hold_unwipe l2 vs1 (hu1 a ha) h7
    · obtain rfl : j = (y1 a).length := by omega
      refine .inl ⟨W1.stops H6 hq1, ?_⟩
      show Hold X.K b H6 ((L2.wipe σ (own.map (·.2))).zip ρ' ++ (some (.ref D), .own (acc (i + 1))) :: c :: L)
      rw [hacc]
      have h8 : Hold X.K b H6 (c1 :: (σ2.zip (ρt a) ++ (some (.ref D), .own (acc i ++ ((y1 a).take (y1 a).length).map (f a))) :: c :: L)) := hP1.perm perm_in
      rw [List.take_length] at h8
      have h9 := hold_wipe l2 h8.drop (own.map (·.2))
      rw [hw a ha, w2'] at h9
      exact h9
  · obtain rfl : i = l.length := by omega
    refine .inl ⟨by rw [← hn]; exact W.stops H2 hq, ?_⟩
    have e : acc l.length = l.flatMap fun a => (y1 a).map (f a) := by
      show (l.take l.length).flatMap _ = _
      rw [List.take_length]
    have h2 := hold_unwipe ls _ hun hP
    rw [e] at h2
    exact k _ ρ' _ H2 kp ls ((h2.perm (L' := c :: (some (.ref D), .own (l.flatMap fun a => (y1 a).map (f a))) :: (σ.zip ρ' ++ L)) ((List.Perm.swap ..).trans ((List.Perm.cons _ perm_in).trans perm_in))).drop)
end

end DE

namespace DE
open PySem PySem.Spec PyProof.Rows L2 SZ VR VX StX RT
/-! ### max of a list; x in a list held alone -/
section
variable {X : Cx} {b : Bs} {ρ : List Sl} {e : Expr} {pos : Pos}
theorem cr_maxO {ns : List Int} {m : Int} (hc : X.calm = true) (hm : m ∈ ns) (hb : ∀ y ∈ ns, y ≤ m) : CVr X b (.builtin "max") [.own (ns.map .int)] (.d (.int m)) := fun p h => ⟨_, cr_max hc, fun vs H L Q lv hh k => by
  obtain ⟨v, rfl⟩ := one_in (rs := []) lv
  have hh : Hold X.K b H ((some v, .own (ns.map .int)) :: L) := hh
  obtain ⟨G, hg⟩ := hh
  obtain ⟨l1, us, e1, _, _, h1, d1⟩ := hg.ok _ List.mem_cons_self
  cases e1
  have e := dp_ints d1
  subst e
  refine ⟨_, ns, rfl, .of h1, List.length_pos_of_mem hm, fun m' a1 a2 => ?_⟩
  obtain rfl : m' = m := Int.le_antisymm (hb m' a1) (a2 m hm)
  exact k _ _ _ h ⟨G, hg.drop.add (.int _)⟩⟩
theorem r_inO (i : Nat) {z : Str} {l : List Str} {x : Str} {p2 : Pos} (he : EVr X b ρ e (.d (.str z))) (hN : X.N[i]? = some x) (hv : Vis X.env.scope x) (hr : ρ[i]? = some (.own (l.map .str))) (hd : (x == ("__debug__" : Str)) = false := by decide) (hcd : (x == ("__classdict__" : Str)) = false := by decide) (hm : behindInMarks .In (.Name x p2) = false := by first | exact nomark _ | rfl | with_unfolding_all rfl) :
    ETr X b ρ (.Compare e [.In] [.Name x p2] pos) (l.contains z) := fun p kk σ H L Q ls hh q => by
  obtain ⟨a, ha⟩ := slot_ref ls hr (.inl rfl) hh
  refine ⟨_, pt_cmpR op_in_seq (we_pe e) (pe_var hN hv hd hcd) hm, he (fun r ρ' => r = .d (.str z) ∧ ρ' = ρ) ⟨rfl, rfl⟩ σ H L _ ls hh fun r ρ' v H' ⟨er, e⟩ l' hh' => ?_⟩
  subst er e
  have ev := hh'.isS
  subst ev
  refine ⟨.ref a, ha, ?_⟩
  obtain ⟨M, p1, _⟩ := set_perm (s' := .un) hr ha
  obtain ⟨G, hG⟩ := hh'.drop
  obtain ⟨us, u1, _, u3⟩ := cell_lst (hG.perm (p1.symm.append_right L)) (.inl rfl)
  have e := dp_strs u3
  subst e
  refine ⟨_, _, rfl, .inl (.of u1), rfl, strFlat _, ?_⟩
  rw [strIn]
  exact ⟨_, rfl, q _ ρ' H' kk ls ⟨G, hG⟩⟩
end

end DE

namespace K08
open PySem L2 SZ VR VX StX RT DE
/-! ### what stands in a tree: statements, accesses, sizes -/
mutual
def stI : Tre → List Tre
  | .loop _ _ b => stB b
  | .acc _ _ _ _ => []
  | .flush => []
def stB : List Tre → List Tre
  | [] => []
  | s :: b => s :: (stI s ++ stB b)
end
theorem stB_app : ∀ a b : List Tre, stB (a ++ b) = stB a ++ stB b
  | [], b => rfl
  | s :: a, b => by
    show s :: (stI s ++ stB (a ++ b)) = s :: (stI s ++ stB a) ++ stB b
    rw [stB_app a b, List.cons_append, List.append_assoc]
theorem stB_one (s : Tre) : stB [s] = s :: stI s := by
  show s :: (stI s ++ []) = _
  rw [List.append_nil]
theorem stB_len : ∀ n : Nat, (∀ s : Tre, sizeOf s < n → (stI s).length + 1 = cntS s) ∧ ∀ b : List Tre, sizeOf b < n → (stB b).length = cntB b := by
  intro n
  induction n with
  | zero => exact ⟨fun s h => by omega, fun b h => by omega⟩
  | succ n ih =>
    refine ⟨fun s h => ?_, fun b h => ?_⟩
    · cases s with
      | acc w a A F => rfl
      | flush => rfl
      | loop c ps b =>
        have h1 := ih.2 b (by simp only [Tre.loop.sizeOf_spec] at h; omega)
        show (stB b).length + 1 = 1 + cntB b
        omega
    · cases b with
      | nil => rfl
      | cons s b =>
        have h1 := ih.1 s (by simp only [List.cons.sizeOf_spec] at h; omega)
        have h2 := ih.2 b (by simp only [List.cons.sizeOf_spec] at h; omega)
        show (s :: (stI s ++ stB b)).length = cntS s + cntB b
        rw [List.length_cons, List.length_append]
        omega
theorem stB_cnt (b : List Tre) : (stB b).length = cntB b := (stB_len (sizeOf b + 1)).2 b (Nat.lt_succ_self _)
def isAc : Tre → Bool
  | .acc _ _ _ _ => true
  | _ => false
def isLp : Tre → Bool
  | .loop _ _ _ => true
  | _ => false
def szT : Tre → List (List Int)
  | .acc _ _ A F => A :: F.map (·.2)
  | .loop _ ps _ => [ps]
  | .flush => []
def pdI (ps : List Int) : PyData := .tuple (ps.map .int)
/-- the statements' words are told apart -/
inductive WdK : Tre → Prop where
  | acc (w a : Str) (A F) : w = "read" ∨ w = "write" → WdK (.acc w a A F)
  | flush : WdK .flush
  | loop (c ps b) : WdK (.loop c ps b)
theorem wdk_of {s : Tre} {d : Nat} (h : StV s d) : WdK s := by
  cases s with
  | acc w a A F => exact .acc w a A F h.1
  | flush => exact .flush
  | loop c ps b => exact .loop c ps b
section
variable {P : Program} {w : World} {K : PySem.W.Frag} {mg : Str → Option Value} {base : Heap}
theorem t_statements {f : Addr} {fd : FuncData} (F : Fun K "statements_of" "statements_of" S_statements_of f fd) (g : mg "statements_of" = some (.ref f)) (bd : Binds K fd ["block"] []) : ∀ (d : Nat) (bl : List Tre), GbV bl d → FnOk P w K mg base CX0 (d + 1) f fd ["block"] (spP K (fun as => as = [.d (.tuple (blD bl))]) fun _ r => r = .own ((stB bl).map trD)) := by
  intro d
  induction d with
  | zero =>
    intro bl hg
    exact go F hg (fun c ps b hb => by
      obtain ⟨e, he, _⟩ := (hg.of hb).v
      omega)
  | succ d ih =>
    intro bl hg
    refine go F hg (fun c ps b hb => ?_)
    have h1 := hg.of hb
    obtain ⟨e, he, _, _, hv⟩ := h1.v
    obtain ⟨e', he', _, _, ht⟩ := h1.t
    obtain rfl : e = d := by omega
    obtain rfl : e' = e := by omega
    have hc := h1.c
    unfold cntS at hc
    exact ⟨⟨_, _, _, ih b ⟨hv, ht, by omega⟩, g, F.kp, bd⟩⟩
where
  go {f : Addr} {fd : FuncData} {d : Nat} {bl : List Tre} (F : Fun K "statements_of" "statements_of" S_statements_of f fd) (hg : GbV bl d) (IH : ∀ c ps b, Tre.loop c ps b ∈ bl → CalP P w K mg base CX0 "statements_of" d (fun as => as = [.d (.tuple (blD b))]) (fun _ r => r = .own ((stB b).map trD))) : FnOk P w K mg base CX0 (d + 1) f fd ["block"] (spP K (fun as => as = [.d (.tuple (blD bl))]) fun _ r => r = .own ((stB bl).map trD)) := by
    refine fn_P F sc_statements_of (fun as h => by rw [h]; rfl) (by decide) fun cdv A outer s H E hr b as hp => ?_
    subst hp
    have hcnt : (stB bl).length ≤ 1000 := by rw [stB_cnt]; exact hg.c
    show XB _ _ [.d (.tuple (blD bl)), .un, .un] _ _
    refine xb_cons (x_set 1 (r_lst a_nil rfl) rfl (by walk_at "v") sc_statements_of.nd rfl (fun _ => ?_))
    refine xb_cons (xs_for (ts := [2]) PassesOwn.never rfl (by intro _; rfl) ((i_tup (r_var 0 rfl (by walk_at "v") rfl)) _ fun _ => ?_))
    refine ⟨fun k ρ' => ∃ s2, ρ' = [.d (.tuple (blD bl)), .own ((stB (bl.take k)).map trD), s2], ⟨.un, rfl⟩, ?_, ?_⟩
    · rintro k y ρ' hy hl ⟨s2, rfl⟩
      rw [blD_map, List.getElem?_map] at hy
      cases hx : bl[k]? with
      | none => rw [hx] at hy; cases hy
      | some t =>
        rw [hx] at hy
        cases hy
        have hm : t ∈ bl := List.mem_of_getElem? hx
        have etk : stB (bl.take (k + 1)) = stB (bl.take k) ++ t :: stI t := by
          rw [List.take_add_one, hx]
          show stB (bl.take k ++ [t]) = _
          rw [stB_app, stB_one]
        have hbnd : (stB (bl.take k)).length + (stI t).length + 1 ≤ 1000 := by
          have e : stB bl = stB (bl.take (k + 1)) ++ stB (bl.drop (k + 1)) := by rw [← stB_app, List.take_append_drop]
          rw [e, etk, List.length_append, List.length_append, List.length_cons] at hcnt
          omega
        refine (g_name 2 rfl (by walk_at "v") sc_statements_of.nd rfl) _ fun _ => ?_
        refine xb_cons (xs_append 1 rfl (by walk_at "v") ((r_var 2 rfl (by walk_at "v") rfl) _ fun _ => ⟨_, _, _, rfl, rfl, .inl rfl, by rw [List.length_map, sizeLine_eq]; omega, fun _ => ?_⟩) ⟨_, _, rfl, .inl rfl⟩)
        show XB _ _ [.d (.tuple (blD bl)), .own ((stB (bl.take k)).map trD ++ [trD t]), .d (trD t)] _ _
        cases t with
        | flush =>
          refine xb_one (x_if (t_cmp (r_ix (r_var 2 rfl (by walk_at "v") rfl) r_int (ir_at (y := .str "flush") (.inr rfl) rfl)) r_str (by walk_at "o")) (fun h1 => absurd h1 (by decide +kernel)) (fun h1 => xb_nil ⟨.d (trD .flush), ?_⟩))
          rw [etk, List.map_append]
          rfl
        | acc wd a A0 F0 =>
          refine xb_one (x_if (t_cmp (r_ix (r_var 2 rfl (by walk_at "v") rfl) r_int (ir_at (y := .str wd) (.inr rfl) rfl)) r_str (by walk_at "o")) (fun h1 => ?_) (fun h1 => xb_nil ⟨.d (trD (.acc wd a A0 F0)), ?_⟩))
          · exfalso
            have h1 := of_decide_eq_true h1
            rcases (hg.of hm).v.1 with e | e <;> rw [e] at h1 <;> exact absurd h1 (by decide +kernel)
          · rw [etk, List.map_append]
            rfl
        | loop c ps b' =>
          refine xb_one (x_if (t_cmp (r_ix (r_var 2 rfl (by walk_at "v") rfl) r_int (ir_at (y := .str "for") (.inr rfl) rfl)) r_str (by walk_at "o")) (fun h1 => ?_) (fun h1 => absurd h1 (by decide +kernel)))
          have hb1 : (stB b').length + ((stB (bl.take k)).length + 1) ≤ 1000 := by
            have e : stI (.loop c ps b') = stB b' := rfl
            rw [e] at hbnd
            omega
          refine xb_one (xs_extend 1 rfl (by walk_at "v") ((r_cal (IH c ps b' hm) (hr.mono (Nat.le_refl _)) pass0 (a_cons (r_ix (r_var 2 rfl (by walk_at "v") rfl) r_int (ir_at (y := .tuple (blD b')) (.inr rfl) rfl)) a_nil) rfl (by exact rfl) (r := .own ((stB b').map trD)) (fun r' h => by exact h)) _ fun _ => ⟨_, _, _, rfl, rfl, .inl rfl, by simp only [List.length_append, List.length_map, List.length_cons, List.length_nil, sizeLine_eq]; omega, ⟨.d (trD (.loop c ps b')), ?_⟩⟩) ⟨_, _, rfl, .inl rfl⟩)
          rw [etk, List.map_append]
          show [Sl.d (.tuple (blD bl)), .own (((stB (bl.take k)).map trD ++ [trD (.loop c ps b')]) ++ (stB b').map trD), _] = [Sl.d (.tuple (blD bl)), .own ((stB (bl.take k)).map trD ++ (Tre.loop c ps b' :: stB b').map trD), _]
          rw [List.append_assoc]
          rfl
    · rintro ρ' ⟨s2, rfl⟩ hl
      have e : stB (bl.take (blD bl).length) = stB bl := by rw [blD_map, List.length_map, List.take_length]
      rw [e]
      refine xb_one (x_retO 1 rfl (by walk_at "v") rfl ?_)
      exact ⟨rfl, by simp⟩
end

end K08

namespace K08
open PySem L2 SZ VR VX StX RT DE
theorem at0 {α : Type} {y : α} {ys : List α} : atI (y :: ys) 0 = some y := by
  unfold atI ixN
  simp
theorem stb_v : ∀ n : Nat, (∀ (s : Tre) (d : Nat), sizeOf s < n → StV s d → ∀ t ∈ stI s, ∃ e, StV t e) ∧ ∀ (b : List Tre) (d : Nat), sizeOf b < n → BlV b d → ∀ t ∈ stB b, ∃ e, StV t e := by
  intro n
  induction n with
  | zero => exact ⟨fun s d h => by omega, fun b d h => by omega⟩
  | succ n ih =>
    refine ⟨fun s d h hv t ht => ?_, fun b d h hv t ht => ?_⟩
    · cases s with
      | acc w a A F => exact absurd ht List.not_mem_nil
      | flush => exact absurd ht List.not_mem_nil
      | loop c ps b =>
        obtain ⟨e, _, _, _, hb⟩ := hv
        exact ih.2 b e (by simp only [Tre.loop.sizeOf_spec] at h; omega) hb t ht
    · cases b with
      | nil => exact absurd ht List.not_mem_nil
      | cons s b =>
        unfold BlV at hv
        have ht : t ∈ s :: (stI s ++ stB b) := ht
        rcases List.mem_cons.mp ht with rfl | ht
        · exact ⟨d, hv.1⟩
        · rcases List.mem_append.mp ht with ht | ht
          · exact ih.1 s d (by simp only [List.cons.sizeOf_spec] at h; omega) hv.1 t ht
          · exact ih.2 b d (by simp only [List.cons.sizeOf_spec] at h; omega) hv.2 t ht
theorem GbV.st {b : List Tre} {d : Nat} (h : GbV b d) : ∀ t ∈ stB b, ∃ e, StV t e := (stb_v (sizeOf b + 1)).2 b d (Nat.lt_succ_self _) h.v
theorem GbV.wd {b : List Tre} {d : Nat} (h : GbV b d) : ∀ t ∈ stB b, WdK t := fun t ht => (h.st t ht).elim fun _ h => wdk_of h
theorem szt_bd {t : Tre} {e : Nat} (h : StV t e) : (∀ ps ∈ szT t, Bd111 ps) ∧ (szT t).length ≤ 5 := by
  cases t with
  | acc w a A F =>
    obtain ⟨_, _, hd⟩ := h
    refine ⟨fun ps hp => ?_, ?_⟩
    · have hp : ps ∈ A :: F.map (·.2) := hp
      rcases List.mem_cons.mp hp with rfl | hp
      · exact hd.bd
      · obtain ⟨f, hf, rfl⟩ := List.mem_map.mp hp
        exact (hd.fs f hf).1
    · show (A :: F.map (·.2)).length ≤ 5
      rw [List.length_cons, List.length_map]
      have := hd.len
      omega
  | flush => exact ⟨fun ps hp => absurd hp List.not_mem_nil, by decide⟩
  | loop c ps b =>
    obtain ⟨e', _, _, hd, _⟩ := h
    refine ⟨fun qs hq => ?_, by show 1 ≤ 5; decide⟩
    have hq : qs ∈ [ps] := hq
    rw [List.mem_singleton.mp hq]
    exact hd.bd
/-- all sizes of a tree -/
def szsT (ars : List Fc) (b : List Tre) : List (List Int) := ars.map (·.2) ++ (stB b).flatMap szT
structure ArB (ars : List Fc) : Prop where
  n : ars.length ≤ 8
  bd : ∀ f ∈ ars, Bd111 f.2
theorem szs_bd {ars : List Fc} {b : List Tre} {d : Nat} (ha : ArB ars) (h : GbV b d) : (∀ ps ∈ szsT ars b, Bd111 ps) ∧ (szsT ars b).length ≤ 5008 := by
  refine ⟨fun ps hp => ?_, ?_⟩
  · rcases List.mem_append.mp hp with hp | hp
    · obtain ⟨f, hf, rfl⟩ := List.mem_map.mp hp
      exact ha.bd f hf
    · obtain ⟨t, ht, hp⟩ := List.mem_flatMap.mp hp
      obtain ⟨e, he⟩ := h.st t ht
      exact (szt_bd he).1 ps hp
  · unfold szsT
    rw [List.length_append, List.length_map]
    have h1 := ha.n
    have h2 : ((stB b).flatMap szT).length ≤ 5 * (stB b).length := flat_len fun t ht => by
      obtain ⟨e, he⟩ := h.st t ht
      exact (szt_bd he).2
    rw [stB_cnt] at h2
    have h3 := h.c
    omega
mutual
def dpS : Tre → Nat
  | .loop _ _ b => 1 + dpB b
  | .acc _ _ _ _ => 0
  | .flush => 0
def dpB : List Tre → Nat
  | [] => 0
  | s :: b => max (dpS s) (dpB b)
end
theorem dp_le : ∀ n : Nat, (∀ (s : Tre) (d : Nat), sizeOf s < n → StV s d → dpS s ≤ d) ∧ ∀ (b : List Tre) (d : Nat), sizeOf b < n → BlV b d → dpB b ≤ d := by
  intro n
  induction n with
  | zero => exact ⟨fun s d h => by omega, fun b d h => by omega⟩
  | succ n ih =>
    refine ⟨fun s d h hv => ?_, fun b d h hv => ?_⟩
    · cases s with
      | acc w a A F => exact Nat.zero_le _
      | flush => exact Nat.zero_le _
      | loop c ps b =>
        obtain ⟨e, he, _, _, hb⟩ := hv
        have := ih.2 b e (by simp only [Tre.loop.sizeOf_spec] at h; omega) hb
        show 1 + dpB b ≤ d
        omega
    · cases b with
      | nil => exact Nat.zero_le _
      | cons s b =>
        unfold BlV at hv
        have h1 := ih.1 s d (by simp only [List.cons.sizeOf_spec] at h; omega) hv.1
        have h2 := ih.2 b d (by simp only [List.cons.sizeOf_spec] at h; omega) hv.2
        show max (dpS s) (dpB b) ≤ d
        omega
theorem dpB_all : ∀ {b : List Tre} {s : Tre}, s ∈ b → dpS s ≤ dpB b
  | [], _, h => by cases h
  | x :: b, s, h => by
    show dpS s ≤ max (dpS x) (dpB b)
    rcases List.mem_cons.mp h with rfl | h
    · omega
    · have := dpB_all h
      omega
theorem dpB_in : ∀ b : List Tre, dpB b = 0 ∨ ∃ s ∈ b, isLp s = true ∧ dpS s = dpB b
  | [] => .inl rfl
  | x :: b => by
    show max (dpS x) (dpB b) = 0 ∨ ∃ s ∈ x :: b, isLp s = true ∧ dpS s = max (dpS x) (dpB b)
    by_cases hx : dpB b ≤ dpS x
    · rw [Nat.max_eq_left hx]
      cases x with
      | acc w a A F => exact .inl rfl
      | flush => exact .inl rfl
      | loop c ps b' => exact .inr ⟨_, List.mem_cons_self, rfl, rfl⟩
    · rw [Nat.max_eq_right (by omega)]
      rcases dpB_in b with h | ⟨s, hs, h1, h2⟩
      · omega
      · exact .inr ⟨s, List.mem_cons_of_mem _ hs, h1, h2⟩
section
variable {P : Program} {w : World} {K : PySem.W.Frag} {mg : Str → Option Value} {base : Heap}
abbrev PreFd : List Sl → Prop := fun as => ∃ i : Int, as = [.d (.int i)] ∧ i.natAbs < 10 ^ 150
theorem t_few {f : Addr} {fd : FuncData} (F : Fun K "has_few_digits" "has_few_digits" S_has_few_digits f fd) (mB : ∃ t, mg "_BEYOND_DIGITS" = some (.int (10 ^ 150) t)) (z_abs : mg "abs" = none) : FnOk P w K mg base CX0 1 f fd ["number"] (spP K PreFd Tru) := by
  refine fn_P F sc_has_few_digits (fun as h => by obtain ⟨i, rfl, _⟩ := h; rfl) (by decide) fun cdv A outer s H E hr b as hp => ?_
  obtain ⟨i, rfl, hi⟩ := hp
  obtain ⟨tB, mB⟩ := mB
  have hlt : absI i < 10 ^ 150 := by
    rw [absI_nat]
    have e : ((10 ^ 150 : Nat) : Int) = (10 : Int) ^ 150 := by decide +kernel
    rw [← e]
    omega
  show XB _ _ [.d (.int i)] _ _
  refine xb_one (x_ret (r_cmp (r_callB (id := "abs") z_abs (a_cons (r_var 0 rfl (by walk_at "v") rfl) a_nil) cr_abs) (r_glob (gl_int mB) rfl) (fun p h => ov_lt (by rw [show decide ((if i < 0 then -i else i) < 10 ^ 150) = true from decide_eq_true hlt]; exact h))) ?_)
  exact ⟨rfl, by simp⟩
theorem ets_read {X : Cx} {b : Bs} {ρ : List Sl} {e0 : Expr} {s : Tre} (hw : WdK s) {pos pos2 : Pos} {k1 k2 : Nat} {kk : Nat} {pa pb : Pos} (h0 : ∀ wd : Str, (∃ ys, trD s = .tuple (.str wd :: ys)) → EVr X b ρ e0 (.d (.str wd))) : ETr X b ρ (.Compare e0 [.In] [.Tuple [.Constant (.str "read") k1 pa, .Constant (.str "write") k2 pb] kk pos2] pos) (isAc s) := by
  cases hw with
  | acc w a A F h =>
    refine t_cmp (r2 := .d (.tuple [.str "read", .str "write"])) (h0 w ⟨_, rfl⟩) (r_tup (a_cons r_str (a_cons r_str a_nil)) rfl) (fun p k => or_inS (l := ["read", "write"]) (.inr rfl) rfl p ?_)
    rcases h with rfl | rfl
    · rw [show (["read", "write"] : List Str).contains "read" = true by decide +kernel]; exact k
    · rw [show (["read", "write"] : List Str).contains "write" = true by decide +kernel]; exact k
  | flush =>
    refine t_cmp (r2 := .d (.tuple [.str "read", .str "write"])) (h0 "flush" ⟨_, rfl⟩) (r_tup (a_cons r_str (a_cons r_str a_nil)) rfl) (fun p k => or_inS (l := ["read", "write"]) (.inr rfl) rfl p ?_)
    rw [show (["read", "write"] : List Str).contains "flush" = false by decide +kernel]; exact k
  | loop c ps b' =>
    refine t_cmp (r2 := .d (.tuple [.str "read", .str "write"])) (h0 "for" ⟨_, rfl⟩) (r_tup (a_cons r_str (a_cons r_str a_nil)) rfl) (fun p k => or_inS (l := ["read", "write"]) (.inr rfl) rfl p ?_)
    rw [show (["read", "write"] : List Str).contains "for" = false by decide +kernel]; exact k
theorem t_accesses {f : Addr} {fd : FuncData} (F : Fun K "accesses_of" "accesses_of" S_accesses_of f fd) {d : Nat} {bl : List Tre} (hg : GbV bl d) (CS : CalP P w K mg base CX0 "statements_of" (d + 1) (fun as => as = [.d (.tuple (blD bl))]) (fun _ r => r = .own ((stB bl).map trD))) : FnOk P w K mg base CX0 (d + 2) f fd ["block"] (spP K (fun as => as = [.d (.tuple (blD bl))]) fun _ r => r = .own (((stB bl).filter isAc).map trD)) := by
  refine fn_P F sc_accesses_of (fun as h => by rw [h]; rfl) (by decide) fun cdv A outer s H E hr b as hp => ?_
  subst hp
  have hcnt : (stB bl).length ≤ 1000 := by rw [stB_cnt]; exact hg.c
  show XB _ _ [.d (.tuple (blD bl)), .un] _ _
  refine xb_one (x_ret (r_lc (own := [("statement", 1)]) (stB bl) trD isAc trD (fun t => [.d (.tuple (blD bl)), .d (trD t)]) (i_list (r_cal CS hr pass0 (a_cons (r_var 0 rfl (by walk_at "v") rfl) a_nil) rfl (by exact rfl) (r := .own ((stB bl).map trD)) (fun r' h => h)) rfl) rfl rfl sc_accesses_of.nd (blkOk_by (N := ["block", "statement"]) (sc := defScope S_accesses_of) (by decide +kernel)) (by intro v hv; rw [List.mem_singleton.mp hv]; rfl) (by omega) ?_ ?_ ?_ ?_) ?_)
  · exact fun c hc s H C cl fp => g_name 1 rfl (by walk_at "v") sc_accesses_of.nd rfl
  · exact fun c hc => rfl
  · exact fun c hc s H C cl fp => ts_one (ets_read (hg.wd c hc) fun wd ⟨ys, e⟩ => r_ix (r_var 1 rfl (by walk_at "v") (congrArg (fun z => some (Sl.d z)) e)) r_int (ir_at (.inr rfl) at0))
  · exact fun c hc _ => ⟨_, fun s H C cl fp => r_var 1 rfl (by walk_at "v") rfl, rfl⟩
  · exact ⟨rfl, by simp⟩
end

end K08

namespace K08
open PySem L2 SZ VR VX StX RT DE
section
variable {P : Program} {w : World} {K : PySem.W.Frag} {mg : Str → Option Value} {base : Heap}
abbrev SoC (P : Program) (w : World) (K : PySem.W.Frag) (mg : Str → Option Value) (base : Heap) (d : Nat) (bl : List Tre) : Prop := CalP P w K mg base CX0 "statements_of" (d + 1) (fun as => as = [.d (.tuple (blD bl))]) (fun _ r => r = .own ((stB bl).map trD))
theorem t_sizes {f : Addr} {fd : FuncData} (F : Fun K "sizes_of" "sizes_of" S_sizes_of f fd) {d : Nat} {ars : List Fc} {bl : List Tre} (ha : ArB ars) (hg : GbV bl d) (CS : SoC P w K mg base d bl) : FnOk P w K mg base CX0 (d + 2) f fd ["tree"] (spP K (fun as => as = [.d (treeD ars bl)]) fun _ r => r = .own ((szsT ars bl).map pdI)) := by
  refine fn_P F sc_sizes_of (fun as h => by rw [h]; rfl) (by decide) fun cdv A outer s H E hr b as hp => ?_
  subst hp
  have hsz := (szs_bd ha hg).2
  have hn := ha.n
  show XB _ _ [.d (treeD ars bl), .un, .un, .un, .un, .un, .un, .un, .un] _ _
  refine xb_cons (xs_asg (ts := [1, 2]) (h := (r_var 0 rfl (by walk_at "v") rfl) _ fun _ => (g_tup (ys := [.tuple (ars.map fcD), .tuple (blD bl)]) rfl (gs_cons (g_name 1 rfl (by walk_at "v") sc_sizes_of.nd rfl) (gs_cons (g_name 2 rfl (by walk_at "v") sc_sizes_of.nd rfl) gs_nil))) _ fun _ _ => ?_))
  show XB _ _ [.d (treeD ars bl), .d (.tuple (ars.map fcD)), .d (.tuple (blD bl)), .un, .un, .un, .un, .un, .un] _ _
  refine xb_cons (x_setLc 3 (own := [("_", 6), ("parts", 7)]) ars fcD (fun _ => true) (fun g => pdI g.2) (fun g => [.d (treeD ars bl), .d (.tuple (ars.map fcD)), .d (.tuple (blD bl)), .un, .un, .un, .d (.str g.1), .d (pdI g.2), .un]) (i_tup (r_var 1 rfl (by walk_at "v") rfl)) rfl rfl sc_sizes_of.nd (blkOk_by (N := ["tree", "arrays", "block", "sizes", "statement", "factors", "_", "parts", "factor"]) (sc := defScope S_sizes_of) (by decide +kernel)) (by intro v hv; simp at hv; rcases hv with rfl | rfl <;> rfl) (by omega) ?_ ?_ ?_ ?_ rfl (fun _ => ?_))
  · exact fun c hc s H C cl fp => g_tup (ys := [.str c.1, pdI c.2]) rfl (gs_cons (g_name 6 rfl (by walk_at "v") sc_sizes_of.nd rfl) (gs_cons (g_name 7 rfl (by walk_at "v") sc_sizes_of.nd rfl) gs_nil))
  · exact fun c hc => rfl
  · exact fun c hc s H C cl fp => ts_nil
  · exact fun c hc _ => ⟨_, fun s H C cl fp => r_var 7 rfl (by walk_at "v") rfl, rfl⟩
  have e0 : (ars.filter fun _ => true).map (fun g => pdI g.2) = (ars.map (·.2)).map pdI := by
    rw [List.filter_eq_self.mpr (fun _ _ => rfl), List.map_map]
    rfl
  rw [e0]
  show XB _ _ [.d (treeD ars bl), .d (.tuple (ars.map fcD)), .d (.tuple (blD bl)), .own ((ars.map (·.2)).map pdI), .un, .un, .un, .un, .un] _ _
  refine xb_cons (xs_for (ts := [4]) PassesOwn.never rfl (by intro _; rfl) ((i_list (r_cal CS (hr.mono (Nat.le_refl _)) pass0 (a_cons (r_var 2 rfl (by walk_at "v") rfl) a_nil) rfl (by exact rfl) (r := .own ((stB bl).map trD)) (fun r' h => h)) rfl) _ fun _ => ?_))
  refine ⟨fun k ρ' => ∃ s4 s5 s7, ρ' = [.d (treeD ars bl), .d (.tuple (ars.map fcD)), .d (.tuple (blD bl)), .own ((ars.map (·.2) ++ ((stB bl).take k).flatMap szT).map pdI), s4, s5, .un, s7, .un], ⟨.un, .un, .un, by simp⟩, ?_, ?_⟩
  · rintro k y ρ' hy hl ⟨s4, s5, s7, rfl⟩
    rw [List.getElem?_map] at hy
    cases hx : (stB bl)[k]? with
    | none => rw [hx] at hy; cases hy
    | some t =>
      rw [hx] at hy
      cases hy
      have hm : t ∈ stB bl := List.mem_of_getElem? hx
      have etk : (ars.map (·.2) ++ ((stB bl).take (k + 1)).flatMap szT).map pdI = (ars.map (·.2) ++ ((stB bl).take k).flatMap szT).map pdI ++ (szT t).map pdI := by
        rw [List.take_add_one, hx]
        show (ars.map (·.2) ++ ((stB bl).take k ++ [t]).flatMap szT).map pdI = _
        rw [List.flatMap_append, ← List.append_assoc, List.map_append]
        simp
      have hbnd : (ars.map (·.2) ++ ((stB bl).take k).flatMap szT).length + (szT t).length ≤ 5008 := by
        have h1 := congrArg List.length etk
        have e : (stB bl).flatMap szT = ((stB bl).take (k + 1)).flatMap szT ++ ((stB bl).drop (k + 1)).flatMap szT := by rw [← List.flatMap_append, List.take_append_drop]
        have h2 : (szsT ars bl).length = (ars.map (·.2)).length + (((stB bl).take (k + 1)).flatMap szT).length + (((stB bl).drop (k + 1)).flatMap szT).length := by
          unfold szsT
          rw [e, List.length_append, List.length_append, Nat.add_assoc]
        simp only [List.length_map, List.length_append] at h1 h2 ⊢
        omega
      obtain ⟨e, hv⟩ := hg.st t hm
      have hll : ((ars.map (·.2) ++ ((stB bl).take k).flatMap szT).map pdI).length = (ars.map (·.2) ++ ((stB bl).take k).flatMap szT).length := List.length_map _
      refine (g_name 4 rfl (by walk_at "v") sc_sizes_of.nd rfl) _ fun _ => ?_
      generalize hq : (ars.map (·.2) ++ ((stB bl).take k).flatMap szT).map pdI = q at etk hll
      cases t with
      | flush =>
        refine xb_one (x_if (t_cmp (r_ix (r_var 4 rfl (by walk_at "v") rfl) r_int (ir_at (y := .str "flush") (.inr rfl) rfl)) r_str (by walk_at "o")) (fun h1 => absurd h1 (by decide +kernel)) (fun h1 => ?_))
        refine xb_one (x_if (t_cmp (r_ix (r_var 4 rfl (by walk_at "v") rfl) r_int (ir_at (y := .str "flush") (.inr rfl) rfl)) r_str (by walk_at "o")) (fun h1 => absurd h1 (by decide +kernel)) (fun h1 => xb_nil ⟨.d (trD .flush), s5, s7, ?_⟩))
        rw [etk]
        show _ = [_, _, _, Sl.own (q ++ []), _, _, _, _, _]
        rw [List.append_nil]
        rfl
      | loop c ps b' =>
        refine xb_one (x_if (t_cmp (r_ix (r_var 4 rfl (by walk_at "v") rfl) r_int (ir_at (y := .str "for") (.inr rfl) rfl)) r_str (by walk_at "o")) (fun h1 => ?_) (fun h1 => absurd h1 (by decide +kernel)))
        refine xb_one (xs_append 3 rfl (by walk_at "v") ((r_ix (r_var 4 rfl (by walk_at "v") rfl) r_int (ir_at (y := pdI ps) (.inr rfl) rfl)) _ fun _ => ⟨_, _, _, rfl, rfl, .inl rfl, by rw [hll, sizeLine_eq]; omega, ⟨.d (trD (.loop c ps b')), s5, s7, ?_⟩⟩) ⟨_, _, rfl, .inl rfl⟩)
        rw [etk]
        rfl
      | acc wd a A0 F0 =>
        obtain ⟨hw, _, hd⟩ := hv
        have hF := hd.len
        refine xb_one (x_if (t_cmp (r_ix (r_var 4 rfl (by walk_at "v") rfl) r_int (ir_at (y := .str wd) (.inr rfl) rfl)) r_str (by walk_at "o")) (fun h1 => ?_) (fun h1 => ?_))
        · exfalso
          have h1 := of_decide_eq_true h1
          rcases hw with e | e <;> rw [e] at h1 <;> exact absurd h1 (by decide +kernel)
        refine xb_one (x_if (t_cmp (r_ix (r_var 4 rfl (by walk_at "v") rfl) r_int (ir_at (y := .str wd) (.inr rfl) rfl)) r_str (by walk_at "o")) (fun h1 => ?_) (fun h1 => ?_))
        · refine xb_cons (xs_asg (ts := [7, 5]) (h := (r_ix (r_var 4 rfl (by walk_at "v") rfl) r_int (ir_at (y := idxD A0 F0) (.inr rfl) rfl)) _ fun _ => (g_tup (ys := [pdI A0, .tuple (F0.map fcD)]) rfl (gs_cons (g_name 7 rfl (by walk_at "v") sc_sizes_of.nd rfl) (gs_cons (g_name 5 rfl (by walk_at "v") sc_sizes_of.nd rfl) gs_nil))) _ fun _ _ => ?_))
          show XB _ _ [.d (treeD ars bl), .d (.tuple (ars.map fcD)), .d (.tuple (blD bl)), .own q, .d (trD (.acc wd a A0 F0)), .d (.tuple (F0.map fcD)), .un, .d (pdI A0), .un] _ _
          have hz : (szT (.acc wd a A0 F0)).length = F0.length + 1 := by
            show (A0 :: F0.map (·.2)).length = _
            rw [List.length_cons, List.length_map]
          refine xb_cons (xs_append 3 rfl (by walk_at "v") ((r_var 7 rfl (by walk_at "v") rfl) _ fun _ => ⟨_, _, _, rfl, rfl, .inl rfl, by rw [hll, sizeLine_eq]; omega, fun _ => ?_⟩) ⟨_, _, rfl, .inl rfl⟩)
          show XB _ _ [.d (treeD ars bl), .d (.tuple (ars.map fcD)), .d (.tuple (blD bl)), .own (q ++ [pdI A0]), .d (trD (.acc wd a A0 F0)), .d (.tuple (F0.map fcD)), .un, .d (pdI A0), .un] _ _
          refine xb_one (xs_extend 3 rfl (by walk_at "v") ((r_lc (own := [("_", 6), ("factor", 8)]) F0 fcD (fun _ => true) (fun g => pdI g.2) (fun g => [.d (treeD ars bl), .d (.tuple (ars.map fcD)), .d (.tuple (blD bl)), .own (q ++ [pdI A0]), .d (trD (.acc wd a A0 F0)), .d (.tuple (F0.map fcD)), .d (.str g.1), .d (pdI A0), .d (pdI g.2)]) (i_tup (r_var 5 rfl (by walk_at "v") rfl)) rfl rfl sc_sizes_of.nd (blkOk_by (N := ["tree", "arrays", "block", "sizes", "statement", "factors", "_", "parts", "factor"]) (sc := defScope S_sizes_of) (by decide +kernel)) (by intro v hv; simp at hv; rcases hv with rfl | rfl <;> rfl) (by omega) ?_ ?_ ?_ ?_) _ fun _ => ⟨_, _, _, rfl, rfl, .inl rfl, ?_, ⟨.d (trD (.acc wd a A0 F0)), .d (.tuple (F0.map fcD)), .d (pdI A0), ?_⟩⟩) ⟨_, _, rfl, .inl rfl⟩)
          · exact fun c hc s H C cl fp => g_tup (ys := [.str c.1, pdI c.2]) rfl (gs_cons (g_name 6 rfl (by walk_at "v") sc_sizes_of.nd rfl) (gs_cons (g_name 8 rfl (by walk_at "v") sc_sizes_of.nd rfl) gs_nil))
          · exact fun c hc => rfl
          · exact fun c hc s H C cl fp => ts_nil
          · exact fun c hc _ => ⟨_, fun s H C cl fp => r_var 8 rfl (by walk_at "v") rfl, rfl⟩
          · rw [List.filter_eq_self.mpr (fun _ _ => rfl), sizeLine_eq]
            simp only [List.length_map, List.length_append, List.length_cons, List.length_nil] at hbnd hll ⊢
            omega
          · rw [etk, List.filter_eq_self.mpr (fun _ _ => rfl)]
            show [Sl.d (treeD ars bl), .d (.tuple (ars.map fcD)), .d (.tuple (blD bl)), .own ((q ++ [pdI A0]) ++ F0.map fun g => pdI g.2), _, _, _, _, _] = [Sl.d (treeD ars bl), .d (.tuple (ars.map fcD)), .d (.tuple (blD bl)), .own (q ++ (A0 :: F0.map (·.2)).map pdI), _, _, _, _, _]
            rw [List.append_assoc, List.map_cons, List.map_map]
            rfl
        · exfalso
          have h1 : (!decide (wd = "flush")) = false := h1
          rcases hw with e | e <;> rw [e] at h1 <;> exact absurd h1 (by decide +kernel)
  · rintro ρ' ⟨s4, s5, s7, rfl⟩ hl
    rw [List.length_map, List.take_length]
    refine xb_one (x_retO 3 rfl (by walk_at "v") rfl ?_)
    exact ⟨rfl, by simp⟩
end

end K08

namespace K08
open PySem L2 SZ VR VX StX RT DE
section
variable {P : Program} {w : World} {K : PySem.W.Frag} {mg : Str → Option Value} {base : Heap}
theorem ets_for {X : Cx} {b : Bs} {ρ : List Sl} {e0 : Expr} {s : Tre} (hw : WdK s) {pos pa : Pos} {k1 : Nat} (h0 : ∀ wd : Str, (∃ ys, trD s = .tuple (.str wd :: ys)) → EVr X b ρ e0 (.d (.str wd))) : ETr X b ρ (.Compare e0 [.Eq] [.Constant (.str "for") k1 pa] pos) (isLp s) := by
  cases hw with
  | acc w a A F h =>
    refine t_cmp (r2 := .d (.str "for")) (h0 w ⟨_, rfl⟩) r_str (fun p k => ov_eqStr ?_)
    rcases h with rfl | rfl
    · rw [show decide (("read" : Str) = "for") = false by decide +kernel]; exact k
    · rw [show decide (("write" : Str) = "for") = false by decide +kernel]; exact k
  | flush =>
    refine t_cmp (r2 := .d (.str "for")) (h0 "flush" ⟨_, rfl⟩) r_str (fun p k => ov_eqStr ?_)
    rw [show decide (("flush" : Str) = "for") = false by decide +kernel]; exact k
  | loop c ps b' =>
    refine t_cmp (r2 := .d (.str "for")) (h0 "for" ⟨_, rfl⟩) r_str (fun p k => ov_eqStr ?_)
    rw [show decide (("for" : Str) = "for") = true by decide +kernel]; exact k
theorem t_depth {f : Addr} {fd : FuncData} (F : Fun K "_depth" "_depth" S_depth f fd) (g : mg "_depth" = some (.ref f)) (bd : Binds K fd ["block"] []) (z_max : mg "max" = none) : ∀ (d : Nat) (bl : List Tre), GbV bl d → FnOk P w K mg base CX0 (d + 1) f fd ["block"] (spP K (fun as => as = [.d (.tuple (blD bl))]) fun _ r => r = .d (.int (dpB bl : Nat))) := by
  intro d
  induction d with
  | zero =>
    intro bl hg
    exact go F hg z_max (fun c ps b hb => by
      obtain ⟨e, he, _⟩ := (hg.of hb).v
      omega)
  | succ d ih =>
    intro bl hg
    refine go F hg z_max (fun c ps b hb => ?_)
    have h1 := hg.of hb
    obtain ⟨e, he, _, _, hv⟩ := h1.v
    obtain ⟨e', he', _, _, ht⟩ := h1.t
    obtain rfl : e = d := by omega
    obtain rfl : e' = e := by omega
    have hc := h1.c
    unfold cntS at hc
    exact ⟨⟨_, _, _, ih b ⟨hv, ht, by omega⟩, g, F.kp, bd⟩⟩
where
  go {f : Addr} {fd : FuncData} {d : Nat} {bl : List Tre} (F : Fun K "_depth" "_depth" S_depth f fd) (hg : GbV bl d) (z_max : mg "max" = none) (IH : ∀ c ps b, Tre.loop c ps b ∈ bl → CalP P w K mg base CX0 "_depth" d (fun as => as = [.d (.tuple (blD b))]) (fun _ r => r = .d (.int (dpB b : Nat)))) : FnOk P w K mg base CX0 (d + 1) f fd ["block"] (spP K (fun as => as = [.d (.tuple (blD bl))]) fun _ r => r = .d (.int (dpB bl : Nat))) := by
    refine fn_P F sc_depth (fun as h => by rw [h]; rfl) (by decide) fun cdv A outer s H E hr b as hp => ?_
    subst hp
    have hlen := hg.len
    show XB _ _ [.d (.tuple (blD bl)), .un] _ _
    have hc : CVr (cxOf CX0 P w K mg base ["block", "statement"] "_depth" (defScope S_depth) f cdv A outer s H E).nox b (.builtin "max") [.own ([.int 0] ++ (bl.filter isLp).map fun t => .int (dpS t : Nat))] (.d (.int (dpB bl : Nat))) := by
      have e : ([.int 0] ++ (bl.filter isLp).map fun t => PyData.int (dpS t : Nat)) = ((0 : Int) :: (bl.filter isLp).map fun t => ((dpS t : Nat) : Int)).map .int := by
        rw [List.map_cons, List.map_map]
        rfl
      rw [e]
      refine cr_maxO rfl ?_ fun y hy => ?_
      · rcases dpB_in bl with h | ⟨s, hs, h1, h2⟩
        · rw [h]
          exact List.mem_cons_self
        · exact List.mem_cons_of_mem _ (List.mem_map.mpr ⟨s, List.mem_filter.mpr ⟨hs, h1⟩, by rw [h2]⟩)
      · rcases List.mem_cons.mp hy with rfl | hy
        · omega
        · obtain ⟨s, hs, rfl⟩ := List.mem_map.mp hy
          have := dpB_all (List.mem_filter.mp hs).1
          omega
    refine xb_one (x_ret (r_callB (id := "max") z_max (a_cons (r_bin (r_lst (a_cons r_int a_nil) rfl) (r_lc (own := [("statement", 1)]) bl trD isLp (fun t => .int (dpS t : Nat)) (fun t => [.d (.tuple (blD bl)), .d (trD t)]) (i_tup (r_var 0 rfl (by walk_at "v") rfl)) (blD_map bl) rfl sc_depth.nd (blkOk_by (N := ["block", "statement"]) (sc := defScope S_depth) (by decide +kernel)) (by intro v hv; rw [List.mem_singleton.mp hv]; rfl) (by omega) ?_ ?_ ?_ ?_) (or_cat ?_)) a_nil) hc) ?_)
    · exact fun c hc s H C cl fp => g_name 1 rfl (by walk_at "v") sc_depth.nd rfl
    · exact fun c hc => rfl
    · exact fun c hc s H C cl fp => ts_one (ets_for (wdk_of (hg.of hc).v) fun wd ⟨ys, e⟩ => r_ix (r_var 1 rfl (by walk_at "v") (congrArg (fun z => some (Sl.d z)) e)) r_int (ir_at (.inr rfl) at0))
    · intro c hc hl
      cases c with
      | acc w a A F => cases hl
      | flush => cases hl
      | loop c ps b' => exact ⟨_, fun s H C cl fp => r_bin r_int (r_cal (IH c ps b' hc) (hr.mono (Nat.le_refl _)) pass0 (a_cons (r_ix (r_var 1 rfl (by walk_at "v") rfl) r_int (ir_at (y := .tuple (blD b')) (.inr rfl) rfl)) a_nil) rfl (by exact rfl) (r := .d (.int (dpB b' : Nat))) (fun r' h => h)) (by walk_at "o"), by
          show Sl.d (.int (1 + (dpB b' : Int))) = .d (.int ((1 + dpB b' : Nat) : Int))
          rw [show ((1 + dpB b' : Nat) : Int) = 1 + (dpB b' : Int) by omega]⟩
    · have := List.length_filter_le isLp bl
      rw [List.length_map, sizeLine_eq, List.length_cons, List.length_nil]
      omega
    · exact ⟨rfl, by simp⟩
/-- what the bounds ask of a tree -/
structure ExOk (ars : List Fc) (bl : List Tre) (d : Nat) : Prop where
  a : ArB ars
  g : GbV bl d
  s : (stB bl).length ≤ 40
  ac : ((stB bl).filter isAc).length ≤ 20
  dp : d ≤ 5
theorem t_excess {f : Addr} {fd : FuncData} (F : Fun K "excess" "excess" S_excess f fd) {d : Nat} {ars : List Fc} {bl : List Tre} (hx : ExOk ars bl d) (CS : SoC P w K mg base d bl) (CZ : CalP P w K mg base CX0 "sizes_of" (d + 2) (fun as => as = [.d (treeD ars bl)]) fun _ r => r = .own ((szsT ars bl).map pdI)) (CA : CalP P w K mg base CX0 "accesses_of" (d + 2) (fun as => as = [.d (.tuple (blD bl))]) fun _ r => r = .own (((stB bl).filter isAc).map trD))
    (CD : CalP P w K mg base CX0 "_depth" (d + 1) (fun as => as = [.d (.tuple (blD bl))]) fun _ r => r = .d (.int (dpB bl : Nat))) (CF : CalP P w K mg base CX0 "has_few_digits" 1 PreFd Tru) (z_any : mg "any" = none) (z_len : mg "len" = none)
    (m1 : ∃ t, mg "_MOST_PARTS" = some (.int 4 t)) (m2 : ∃ t, mg "_MOST_ARRAYS" = some (.int 8 t)) (m3 : ∃ t, mg "_MOST_STATEMENTS" = some (.int 40 t)) (m4 : ∃ t, mg "_MOST_ACCESSES" = some (.int 20 t)) (m5 : ∃ t, mg "MOST_LOOPS_trees" = some (.int 5 t)) : FnOk P w K mg base CX0 (d + 3) f fd ["tree"] (spP K (fun as => as = [.d (treeD ars bl)]) fun _ r => r = .d .none) := by
  obtain ⟨t1, m1⟩ := m1
  obtain ⟨t2, m2⟩ := m2
  obtain ⟨t3, m3⟩ := m3
  obtain ⟨t4, m4⟩ := m4
  obtain ⟨t5, m5⟩ := m5
  refine fn_P F sc_excess (fun as h => by rw [h]; rfl) (by decide) fun cdv A outer s H E hr b as hp => ?_
  subst hp
  obtain ⟨hb, hsz⟩ := szs_bd hx.a hx.g
  have h8 := hx.a.n
  have h40 := hx.s
  have h20 := hx.ac
  have h5 : dpB bl ≤ 5 := Nat.le_trans ((dp_le (sizeOf bl + 1)).2 bl d (Nat.lt_succ_self _) hx.g.v) hx.dp
  show XB _ _ [.d (treeD ars bl), .un, .un, .un, .un, .un, .un] _ _
  refine xb_cons (xs_asg (ts := [1, 2]) (h := (r_var 0 rfl (by walk_at "v") rfl) _ fun _ => (g_tup (ys := [.tuple (ars.map fcD), .tuple (blD bl)]) rfl (gs_cons (g_name 1 rfl (by walk_at "v") sc_excess.nd rfl) (gs_cons (g_name 2 rfl (by walk_at "v") sc_excess.nd rfl) gs_nil))) _ fun _ _ => ?_))
  show XB _ _ [.d (treeD ars bl), .d (.tuple (ars.map fcD)), .d (.tuple (blD bl)), .un, .un, .un, .un] _ _
  refine xb_cons (x_set 3 (r_cool (r_cal CS (hr.mono (by omega)) pass0 (a_cons (r_var 2 rfl (by walk_at "v") rfl) a_nil) rfl (by exact rfl) (r := .own ((stB bl).map trD)) (fun r' h => h))) rfl (by walk_at "v") sc_excess.nd rfl (fun _ => ?_))
  refine xb_cons (x_set 4 (r_cool (r_cal CZ (hr.mono (by omega)) pass0 (a_cons (r_var 0 rfl (by walk_at "v") rfl) a_nil) rfl (by exact rfl) (r := .own ((szsT ars bl).map pdI)) (fun r' h => h))) rfl (by walk_at "v") sc_excess.nd rfl (fun _ => ?_))
  generalize hS : (stB bl).map trD = S
  have hSl : S.length ≤ 40 := by rw [← hS, List.length_map]; exact h40
  generalize hZ : szsT ars bl = Z at hb hsz
  show XB _ _ [.d (treeD ars bl), .d (.tuple (ars.map fcD)), .d (.tuple (blD bl)), .d (.list S), .d (.list (Z.map pdI)), .un, .un] _ _
  refine xb_cons (x_if (c := false) (t_val (r_callB (id := "any") z_any (a_cons (r_lc2 (own := [("parts", 5), ("part", 6)]) [6] Z pdI (fun ps => ps.map .int) (fun _ _ => .bool false) (fun ps => [.d (treeD ars bl), .d (.tuple (ars.map fcD)), .d (.tuple (blD bl)), .d (.list S), .d (.list (Z.map pdI)), .d (pdI ps), .un]) (fun ps y => [.d (treeD ars bl), .d (.tuple (ars.map fcD)), .d (.tuple (blD bl)), .d (.list S), .d (.list (Z.map pdI)), .d (pdI ps), .d y]) (i_list (r_var 4 rfl (by walk_at "v") rfl) rfl) rfl rfl sc_excess.nd (blkOk_by (N := ["tree", "arrays", "block", "statements", "sizes", "parts", "part"]) (sc := defScope S_excess) (by decide +kernel)) (by simp) (by intro v hv; simp at hv; rcases hv with rfl | rfl <;> rfl) ?_ ?_ ?_ ?_ ?_ ?_ ?_ ?_) a_nil) ?_)) (fun h0 => (nomatch h0)) (fun h0 => ?_))
  · refine Nat.le_trans (flat_len (n := 4) fun ps hps => ?_) (by omega)
    rw [List.length_map, List.length_map]
    exact (hb ps hps).1
  · exact fun c hc s H C cl fp => g_name 5 rfl (by walk_at "v") sc_excess.nd rfl
  · exact fun c hc => rfl
  · intro c hc v hv
    rw [List.mem_singleton.mp hv]
    rfl
  · exact fun c hc s H C cl fp => i_tup (r_var 5 rfl (by walk_at "v") rfl)
  · exact fun c hc y hy s H C cl fp => g_name 6 rfl (by walk_at "v") sc_excess.nd rfl
  · exact fun c hc y hy => rfl
  · intro c hc y hy
    obtain ⟨i, hi, rfl⟩ := List.mem_map.mp hy
    exact ⟨.d (.bool false), fun s H C cl fp => r_not (c := true) (r_cal CF (hr.mono (by omega)) pass0 (a_cons (r_var 6 rfl (by walk_at "v") rfl) a_nil) rfl ⟨i, rfl, (hb c hc).abs hi⟩ (fun r' h => h)), rfl⟩
  · refine cr_anyF rfl fun z hz => ?_
    obtain ⟨_, _, h⟩ := List.mem_flatMap.mp hz
    obtain ⟨_, _, rfl⟩ := List.mem_map.mp h
    rfl
  refine xb_nil (fun _ => ?_)
  refine xb_cons (x_if (c := false) (t_val (r_callB (id := "any") z_any (a_cons (r_lc (own := [("parts", 5)]) Z pdI (fun _ => true) (fun _ => .bool false) (fun ps => [.d (treeD ars bl), .d (.tuple (ars.map fcD)), .d (.tuple (blD bl)), .d (.list S), .d (.list (Z.map pdI)), .d (pdI ps), .un]) (i_list (r_var 4 rfl (by walk_at "v") rfl) rfl) rfl rfl sc_excess.nd (blkOk_by (N := ["tree", "arrays", "block", "statements", "sizes", "parts", "part"]) (sc := defScope S_excess) (by decide +kernel)) (by intro v hv; rw [List.mem_singleton.mp hv]; rfl) (by omega) ?_ ?_ ?_ ?_) a_nil) ?_)) (fun h0 => (nomatch h0)) (fun h0 => ?_))
  · exact fun c hc s H C cl fp => g_name 5 rfl (by walk_at "v") sc_excess.nd rfl
  · exact fun c hc => rfl
  · exact fun c hc s H C cl fp => ts_nil
  · intro c hc _
    have hn : ¬ ((c.map PyData.int).length : Int) > 4 := by
      have := (hb c hc).1
      rw [List.length_map]
      omega
    exact ⟨.d (.bool false), fun s H C cl fp => r_cmp (r_callB (id := "len") z_len (a_cons (r_var 5 rfl (by walk_at "v") rfl) a_nil) (fun p h => cv_lenT (ys := c.map .int) h)) (r_glob (gl_int m1) rfl) (fun p h => ov_gt (by rw [decide_eq_false hn]; exact h)), rfl⟩
  · refine cr_anyF rfl fun z hz => ?_
    obtain ⟨_, _, rfl⟩ := List.mem_map.mp hz
    rfl
  refine xb_nil (fun _ => ?_)
  refine xb_cons (x_if (t_cmp (r_callB (id := "len") z_len (a_cons (r_var 1 rfl (by walk_at "v") rfl) a_nil) (by walk_at "c")) (r_glob (gl_int m2) rfl) (by walk_at "o")) (fun h => ?_) (fun h => ?_))
  · exfalso
    have h := of_decide_eq_true h
    rw [List.length_map] at h
    omega
  refine xb_nil (fun _ => ?_)
  refine xb_cons (x_if (t_cmp (r_callB (id := "len") z_len (a_cons (r_var 3 rfl (by walk_at "v") rfl) a_nil) (by walk_at "c")) (r_glob (gl_int m3) rfl) (by walk_at "o")) (fun h => ?_) (fun h => ?_))
  · exfalso
    have h := of_decide_eq_true h
    omega
  refine xb_nil (fun _ => ?_)
  refine xb_cons (x_if (t_cmp (r_callB (id := "len") z_len (a_cons (r_cal CA (hr.mono (by omega)) pass0 (a_cons (r_var 2 rfl (by walk_at "v") rfl) a_nil) rfl (by exact rfl) (r := .own (((stB bl).filter isAc).map trD)) (fun r' h => h)) a_nil) (by walk_at "c")) (r_glob (gl_int m4) rfl) (by walk_at "o")) (fun h => ?_) (fun h => ?_))
  · exfalso
    have h := of_decide_eq_true h
    rw [List.length_map] at h
    omega
  refine xb_nil (fun _ => ?_)
  refine xb_cons (x_if (t_cmp (r_cal CD (hr.mono (by omega)) pass0 (a_cons (r_var 2 rfl (by walk_at "v") rfl) a_nil) rfl (by exact rfl) (r := .d (.int (dpB bl : Nat))) (fun r' h => h)) (r_glob (gl_int m5) rfl) (by walk_at "o")) (fun h => ?_) (fun h => ?_))
  · exfalso
    have h := of_decide_eq_true h
    omega
  refine xb_nil (fun _ => ?_)
  refine xb_one (x_ret r_non ?_)
  exact ⟨rfl, by simp⟩
end

end K08

namespace K08
open PySem L2 SZ VR VX StX RT DE
/-! ### names -/
mutual
def NkS (ns : List Str) : Tre → List Str → Prop
  | .acc _ a _ F, cs => a ∈ ns ∧ ∀ f ∈ F, f.1 ∈ cs
  | .flush, _ => True
  | .loop c _ b, cs => c ∉ ns ∧ c ∉ cs ∧ NkB ns b (cs ++ [c])
def NkB (ns : List Str) : List Tre → List Str → Prop
  | [], _ => True
  | s :: b, cs => NkS ns s cs ∧ NkB ns b cs
end
theorem nk_all {ns : List Str} : ∀ {b : List Tre} {cs : List Str}, NkB ns b cs → ∀ s ∈ b, NkS ns s cs
  | [], _, _, s, h => by cases h
  | x :: b, cs, hb, s, h => by
    unfold NkB at hb
    rcases List.mem_cons.mp h with rfl | h
    · exact hb.1
    · exact nk_all hb.2 s h
theorem con_t {l : List Str} {z : Str} (h : z ∈ l) : l.contains z = true := List.contains_iff_mem.mpr h
theorem con_f {l : List Str} {z : Str} (h : z ∉ l) : l.contains z = false := by
  cases e : l.contains z with
  | false => rfl
  | true => exact absurd (List.contains_iff_mem.mp e) h
section
variable {P : Program} {w : World} {K : PySem.W.Frag} {mg : Str → Option Value} {base : Heap}
abbrev PreCk (bl : List Tre) (ns cs : List Str) : List Sl → Prop := fun as => as = [.d (.tuple (blD bl)), .d (.list (ns.map .str)), .d (.list (cs.map .str))]
theorem t_check_block {f : Addr} {fd : FuncData} (F : Fun K "_check_block" "_check_block" S_check_block f fd) (g : mg "_check_block" = some (.ref f)) (bd : Binds K fd ["block", "names", "counters"] []) {ns : List Str} : ∀ (d : Nat) (bl : List Tre) (cs : List Str), GbV bl d → NkB ns bl cs → cs.length + d ≤ 40 → FnOk P w K mg base CX0 (d + 1) f fd ["block", "names", "counters"] (spP K (PreCk bl ns cs) fun _ r => r = .d .none) := by
  intro d
  induction d with
  | zero =>
    intro bl cs hg hn hc
    exact go F hg hn (by omega) (fun c ps b hb => by
      obtain ⟨e, he, _⟩ := (hg.of hb).v
      omega)
  | succ d ih =>
    intro bl cs hg hn hc
    refine go F hg hn (by omega) (fun c ps b hb => ?_)
    have h1 := hg.of hb
    obtain ⟨e, he, _, _, hv⟩ := h1.v
    obtain ⟨e', he', _, _, ht⟩ := h1.t
    obtain rfl : e = d := by omega
    obtain rfl : e' = e := by omega
    have hcc := h1.c
    unfold cntS at hcc
    have h2 : NkS ns (.loop c ps b) cs := nk_all hn _ hb
    exact ⟨⟨_, _, _, ih b (cs ++ [c]) ⟨hv, ht, by omega⟩ h2.2.2 (by rw [List.length_append, List.length_cons, List.length_nil]; omega), g, F.kp, bd⟩⟩
where
  go {f : Addr} {fd : FuncData} {d : Nat} {bl : List Tre} {ns cs : List Str} (F : Fun K "_check_block" "_check_block" S_check_block f fd) (hg : GbV bl d) (hn : NkB ns bl cs) (hc : cs.length ≤ 41) (IH : ∀ c ps b, Tre.loop c ps b ∈ bl → CalP P w K mg base CX0 "_check_block" d (PreCk b ns (cs ++ [c])) (fun _ r => r = .d .none)) : FnOk P w K mg base CX0 (d + 1) f fd ["block", "names", "counters"] (spP K (PreCk bl ns cs) fun _ r => r = .d .none) := by
    refine fn_P F sc_check_block (fun as h => by rw [h]; rfl) (by decide) fun cdv A outer s H E hr b as hp => ?_
    subst hp
    show XB _ _ [.d (.tuple (blD bl)), .d (.list (ns.map .str)), .d (.list (cs.map .str)), .un, .un, .un, .un, .un] _ _
    refine xb_one (xs_for (ts := [3]) PassesOwn.never rfl (by intro _; rfl) ((i_tup (r_var 0 rfl (by walk_at "v") rfl)) _ fun _ => ?_))
    refine ⟨fun k ρ' => ∃ s3 s4 s5 s6 s7, ρ' = [.d (.tuple (blD bl)), .d (.list (ns.map .str)), .d (.list (cs.map .str)), s3, s4, s5, s6, s7], ⟨_, _, _, _, _, rfl⟩, ?_, ?_⟩
    · rintro k y ρ' hy hl ⟨s3, s4, s5, s6, s7, rfl⟩
      rw [blD_map, List.getElem?_map] at hy
      cases hx : bl[k]? with
      | none => rw [hx] at hy; cases hy
      | some t =>
        rw [hx] at hy
        cases hy
        have hm : t ∈ bl := List.mem_of_getElem? hx
        have hk := nk_all hn t hm
        refine (g_name 3 rfl (by walk_at "v") sc_check_block.nd rfl) _ fun _ => ?_
        cases t with
        | flush =>
          refine xb_one (x_if (t_cmp (r_ix (r_var 3 rfl (by walk_at "v") rfl) r_int (ir_at (y := .str "flush") (.inr rfl) rfl)) r_str (by walk_at "o")) (fun h1 => absurd h1 (by decide +kernel)) (fun h1 => ?_))
          refine xb_one (x_if (t_cmp (r_ix (r_var 3 rfl (by walk_at "v") rfl) r_int (ir_at (y := .str "flush") (.inr rfl) rfl)) r_str (by walk_at "o")) (fun h1 => absurd h1 (by decide +kernel)) (fun h1 => xb_nil ⟨_, _, _, _, _, rfl⟩))
        | loop c ps b' =>
          obtain ⟨k1, k2, k3⟩ : c ∉ ns ∧ c ∉ cs ∧ NkB ns b' (cs ++ [c]) := hk
          refine xb_one (x_if (t_cmp (r_ix (r_var 3 rfl (by walk_at "v") rfl) r_int (ir_at (y := .str "for") (.inr rfl) rfl)) r_str (by walk_at "o")) (fun h1 => ?_) (fun h1 => absurd h1 (by decide +kernel)))
          refine xb_cons (x_set 4 (r_ix (r_var 3 rfl (by walk_at "v") rfl) r_int (ir_at (y := .str c) (.inr rfl) rfl)) rfl (by walk_at "v") sc_check_block.nd rfl (fun _ => ?_))
          refine xb_cons (x_if (c := false) (t_w (w_or (c1 := false) (t_cmp (r_var 4 rfl (by walk_at "v") rfl) (r_var 1 rfl (by walk_at "v") rfl) (fun p h => or_inS (.inl rfl) (strs_of ns) p (by rw [con_f k1]; exact h))) fun _ => (w_or1 (t_cmp (r_var 4 rfl (by walk_at "v") rfl) (r_var 2 rfl (by walk_at "v") rfl) (fun p h => or_inS (.inl rfl) (strs_of cs) p (by rw [con_f k2]; exact h)))))) (fun h0 => (nomatch h0)) (fun h0 => ?_))
          refine xb_nil (fun _ => ?_)
          refine xb_one (xs_drop (h := (r_cal (IH c ps b' hm) (hr.mono (Nat.le_refl _)) pass0 (a_cons (r_ix (r_var 3 rfl (by walk_at "v") rfl) r_int (ir_at (y := .tuple (blD b')) (.inr rfl) rfl)) (a_cons (r_var 1 rfl (by walk_at "v") rfl) (a_cons (r_bin (r_var 2 rfl (by walk_at "v") rfl) (r_lst (a_cons (r_var 4 rfl (by walk_at "v") rfl) a_nil) rfl) (or_catS rfl rfl (by rw [List.length_map, List.length_cons, List.length_nil, sizeLine_eq]; omega))) a_nil))) rfl (by
            show [Sl.d (.tuple (blD b')), .d (.list (ns.map .str)), .d (.list (cs.map PyData.str ++ [.str c]))] = [Sl.d (.tuple (blD b')), .d (.list (ns.map .str)), .d (.list ((cs ++ [c]).map .str))]
            rw [List.map_append]
            rfl) (r := .d .none) (fun r' h => h)) _ fun _ => ?_))
          exact ⟨_, _, _, _, _, rfl⟩
        | acc wd a A0 F0 =>
          obtain ⟨k1, k2⟩ : a ∈ ns ∧ ∀ f ∈ F0, f.1 ∈ cs := hk
          have hw := (hg.of hm).v.1
          refine xb_one (x_if (t_cmp (r_ix (r_var 3 rfl (by walk_at "v") rfl) r_int (ir_at (y := .str wd) (.inr rfl) rfl)) r_str (by walk_at "o")) (fun h1 => ?_) (fun h1 => ?_))
          · exfalso
            have h1 := of_decide_eq_true h1
            rcases hw with e | e <;> rw [e] at h1 <;> exact absurd h1 (by decide +kernel)
          refine xb_one (x_if (t_cmp (r_ix (r_var 3 rfl (by walk_at "v") rfl) r_int (ir_at (y := .str wd) (.inr rfl) rfl)) r_str (by walk_at "o")) (fun h1 => ?_) (fun h1 => ?_))
          rotate_left
          · exfalso
            have h1 : (!decide (wd = "flush")) = false := h1
            rcases hw with e | e <;> rw [e] at h1 <;> exact absurd h1 (by decide +kernel)
          refine xb_cons (xs_asg (ts := [5, 6, 7]) (h := (r_var 3 rfl (by walk_at "v") rfl) _ fun _ => (g_tup (ys := [.str wd, .str a, idxD A0 F0]) rfl (gs_cons (g_name 5 rfl (by walk_at "v") sc_check_block.nd rfl) (gs_cons (g_name 6 rfl (by walk_at "v") sc_check_block.nd rfl) (gs_cons (g_tup (ys := [pdI A0, .tuple (F0.map fcD)]) rfl (gs_cons (g_name 5 rfl (by walk_at "v") sc_check_block.nd rfl) (gs_cons (g_name 7 rfl (by walk_at "v") sc_check_block.nd rfl) gs_nil))) gs_nil)))) _ fun _ _ => ?_))
          show XB _ _ [.d (.tuple (blD bl)), .d (.list (ns.map .str)), .d (.list (cs.map .str)), .d (trD (.acc wd a A0 F0)), s4, .d (pdI A0), .d (.str a), .d (.tuple (F0.map fcD))] _ _
          refine xb_cons (x_if (c := false) (t_cmp (r_var 6 rfl (by walk_at "v") rfl) (r_var 1 rfl (by walk_at "v") rfl) (fun p h => or_notInS (.inl rfl) (strs_of ns) p (by rw [con_t k1]; exact h))) (fun h0 => (nomatch h0)) (fun h0 => ?_))
          refine xb_nil (fun _ => ?_)
          refine xb_one (xs_for (ts := [4, 5]) PassesOwn.never rfl (by intro _; rfl) ((i_tup (r_var 7 rfl (by walk_at "v") rfl)) _ fun _ => ?_))
          refine ⟨fun j ρ' => ∃ s4 s5, ρ' = [.d (.tuple (blD bl)), .d (.list (ns.map .str)), .d (.list (cs.map .str)), .d (trD (.acc wd a A0 F0)), s4, s5, .d (.str a), .d (.tuple (F0.map fcD))], ⟨_, _, rfl⟩, ?_, ?_⟩
          · rintro j y ρ' hy hl2 ⟨s4, s5, rfl⟩
            rw [List.getElem?_map] at hy
            cases hx2 : F0[j]? with
            | none => rw [hx2] at hy; cases hy
            | some q =>
              rw [hx2] at hy
              cases hy
              have hq := k2 q (List.mem_of_getElem? hx2)
              refine (g_tup (ys := [.str q.1, pdI q.2]) rfl (gs_cons (g_name 4 rfl (by walk_at "v") sc_check_block.nd rfl) (gs_cons (g_name 5 rfl (by walk_at "v") sc_check_block.nd rfl) gs_nil))) _ fun _ => ?_
              refine xb_one (x_if (c := false) (t_cmp (r_var 4 rfl (by walk_at "v") rfl) (r_var 2 rfl (by walk_at "v") rfl) (fun p h => or_notInS (.inl rfl) (strs_of cs) p (by rw [con_t hq]; exact h))) (fun h0 => (nomatch h0)) (fun h0 => xb_nil ⟨_, _, rfl⟩))
          · rintro ρ' ⟨s4, s5, rfl⟩
            exact ⟨_, _, _, _, _, rfl⟩
    · rintro ρ' ⟨s3, s4, s5, s6, s7, rfl⟩
      rfl
theorem t_check_names {f : Addr} {fd : FuncData} (F : Fun K "check_names" "check_names" S_check_names f fd) {d : Nat} {ars : List Fc} {bl : List Tre} (hn : ars.length ≤ 8) (nd : (ars.map (·.1)).Nodup) (CB : CalP P w K mg base CX0 "_check_block" (d + 1) (PreCk bl (ars.map (·.1)) []) (fun _ r => r = .d .none)) : FnOk P w K mg base CX0 (d + 2) f fd ["tree"] (spP K (fun as => as = [.d (treeD ars bl)]) fun _ r => r = .d .none) := by
  refine fn_P F sc_check_names (fun as h => by rw [h]; rfl) (by decide) fun cdv A outer s H E hr b as hp => ?_
  subst hp
  show XB _ _ [.d (treeD ars bl), .un, .un, .un, .un, .un] _ _
  refine xb_cons (xs_asg (ts := [1, 2]) (h := (r_var 0 rfl (by walk_at "v") rfl) _ fun _ => (g_tup (ys := [.tuple (ars.map fcD), .tuple (blD bl)]) rfl (gs_cons (g_name 1 rfl (by walk_at "v") sc_check_names.nd rfl) (gs_cons (g_name 2 rfl (by walk_at "v") sc_check_names.nd rfl) gs_nil))) _ fun _ _ => ?_))
  refine xb_cons (x_set 3 (r_lst a_nil rfl) rfl (by walk_at "v") sc_check_names.nd rfl (fun _ => ?_))
  show XB _ _ [.d (treeD ars bl), .d (.tuple (ars.map fcD)), .d (.tuple (blD bl)), .own [], .un, .un] _ _
  refine xb_cons (xs_for (ts := [4, 5]) PassesOwn.never rfl (by intro _; rfl) ((i_tup (r_var 1 rfl (by walk_at "v") rfl)) _ fun _ => ?_))
  refine ⟨fun k ρ' => ∃ s4 s5, ρ' = [.d (treeD ars bl), .d (.tuple (ars.map fcD)), .d (.tuple (blD bl)), .own (((ars.map (·.1)).take k).map .str), s4, s5], ⟨_, _, rfl⟩, ?_, ?_⟩
  · rintro k y ρ' hy hl ⟨s4, s5, rfl⟩
    rw [List.getElem?_map] at hy
    cases hx : ars[k]? with
    | none => rw [hx] at hy; cases hy
    | some q =>
      rw [hx] at hy
      cases hy
      have hk : (ars.map (·.1))[k]? = some q.1 := by rw [List.getElem?_map, hx]; rfl
      have hkl := (List.getElem?_eq_some_iff.mp hk).1
      have hni : q.1 ∉ (ars.map (·.1)).take k := fun h => by
        have h2 : ((ars.map (·.1)).take k ++ (ars.map (·.1))[k] :: (ars.map (·.1)).drop (k + 1)).Nodup := by
          rw [← List.drop_eq_getElem_cons hkl, List.take_append_drop]; exact nd
        rw [List.getElem?_eq_getElem hkl] at hk
        rw [Option.some.inj hk] at h2
        exact (List.nodup_append.mp h2).2.2 _ h _ List.mem_cons_self rfl
      refine (g_tup (ys := [.str q.1, pdI q.2]) rfl (gs_cons (g_name 4 rfl (by walk_at "v") sc_check_names.nd rfl) (gs_cons (g_name 5 rfl (by walk_at "v") sc_check_names.nd rfl) gs_nil))) _ fun _ => ?_
      refine xb_cons (x_if (r_inO 3 (r_var 4 rfl (by walk_at "v") rfl) rfl (by walk_at "v") rfl) (fun h => ?_) (fun h => ?_))
      · rw [con_f hni] at h
        cases h
      refine xb_nil (fun _ => ?_)
      have etk : ((ars.map (·.1)).take (k + 1)).map PyData.str = ((ars.map (·.1)).take k).map .str ++ [.str q.1] := by
        rw [List.take_add_one, hk, List.map_append]
        rfl
      refine xb_one (xs_append 3 rfl (by walk_at "v") ((r_var 4 rfl (by walk_at "v") rfl) _ fun _ => ⟨_, _, _, rfl, rfl, .inl rfl, by rw [List.length_map, List.length_take, sizeLine_eq]; rw [List.length_map] at hkl ⊢; omega, ⟨.d (.str q.1), .d (pdI q.2), ?_⟩⟩) ⟨_, _, rfl, .inl rfl⟩)
      rw [etk]
      rfl
  · rintro ρ' ⟨s4, s5, rfl⟩ hl
    have e : (ars.map (·.1)).take (ars.map fcD).length = ars.map (·.1) := by
      rw [List.length_map, List.take_of_length_le]
      rw [List.length_map]
      exact Nat.le_refl _
    rw [e]
    refine xb_frz 3 rfl rfl ?_
    show XB _ _ [.d (treeD ars bl), .d (.tuple (ars.map fcD)), .d (.tuple (blD bl)), .d (.list ((ars.map (·.1)).map .str)), s4, s5] _ _
    refine xb_one (xs_drop (h := (r_cal CB (hr.mono (Nat.le_refl _)) pass0 (a_cons (r_var 2 rfl (by walk_at "v") rfl) (a_cons (r_var 3 rfl (by walk_at "v") rfl) (a_cons (r_lst a_nil rfl) a_nil))) rfl (by exact rfl) (r := .d .none) (fun r' h => h)) _ fun _ => ?_))
    rfl
end

end K08

namespace K08
open PySem L2 SZ VR VX StX RT DE
/-! ### how many words a text has -/
/-! ### the words of a whole program -/
/-! ### the text of a whole program -/
end K08

namespace DE
open PySem PySem.Spec PyProof.Rows L2 SZ VR VX StX RT
/-! ### a list that stays and is known to be a plain one -/
section
variable {K : PySem.W.Frag} {b : Bs} {G H : Hp} {L : List Cl}
end
section
variable {X : Cx} {b : Bs} {ρ : List Sl} {e e1 e2 : Expr} {pos : Pos} {r : Sl}
theorem r_varF (i : Nat) {φ : V → Hp → Prop} {st} {x : Str} (hN : X.N[i]? = some x) (hv : Vis X.env.scope x) (hr : ρ[i]? = some (.fact φ st)) (hd : (x == ("__debug__" : Str)) = false := by decide) (hcd : (x == ("__classdict__" : Str)) = false := by decide) : EVr X b ρ (.Name x pos) (.fact φ st) := fun _ h => ev_varF i hN hv hr h hd hcd
end

end DE

namespace DE
open PySem PySem.Spec PyProof.Rows L2 SZ VR VX StX RT
/-! ### repr of data, deep ones too -/
def rReprW (K : PySem.W.Frag) : List V → Hp → VK → Prop := fun xs H Q => ∃ (v : V) (d : PyData), xs = [v] ∧ Dp K H v d ∧ d.showable = true ∧ d.hasDict = false ∧ d.depth ≤ 50 ∧ d.shown.length ≤ sizeLine ∧ Q (.str d.shown) H
theorem call_reprW {X : Cx} (hg : X.A.guards = some []) (hu : X.A.units + 64 < cLine) : CallR X (.builtin "repr") (rReprW X.K) := by
  intro pins s σ H xs us Q I r h
  obtain ⟨v, d, rfl, hd, hs, hn, hp, hz, q⟩ := h
  obtain ⟨u, rfl, r1⟩ := vals1 r
  cases hd with
  | non =>
    obtain rfl : u = Value.none := r1
    exact PySem.P.repr_of_none ⟨.str _, H, I.tok _, ⟨_, rfl⟩, by simpa [PyData.shown] using q⟩
  | bl b =>
    obtain rfl : u = Value.bool b := r1
    exact PySem.P.repr_of_bool ⟨.str _, H, I.tok _, ⟨_, rfl⟩, by simpa [PyData.shown] using q⟩
  | int i =>
    obtain ⟨t, rfl⟩ := r1
    exact PySem.P.repr_of_int (by simpa [PyData.showable] using hs) ⟨.str _, H, I.tok _, ⟨_, rfl⟩, by simpa [PyData.shown] using q⟩
  | str x =>
    obtain ⟨t, rfl⟩ := r1
    exact PySem.P.repr_of_str ⟨.str _, H, I.tok _, ⟨_, rfl⟩, by simpa [PyData.shown] using q⟩ (by simpa [PyData.shown] using hz)
  | @lst a xs ds h1 h2 =>
    obtain rfl : u = Value.ref a := r1
    obtain ⟨as, ra⟩ := Dp.reads I _ _ _ (Dp.lst h1 h2) rfl
    exact repr_of_reads' ra hs (fun z => by rw [hn] at z; cases z) hg (by omega) (fun _ _ e => e) (fun h' u tk hk => ⟨.str _, H, I.kept hk, ⟨_, rfl⟩, q⟩) hz
  | @tup a xs ds h1 h2 =>
    obtain rfl : u = Value.ref a := r1
    obtain ⟨as, ra⟩ := Dp.reads I _ _ _ (Dp.tup h1 h2) rfl
    exact repr_of_reads' ra hs (fun z => by rw [hn] at z; cases z) hg (by omega) (fun _ _ e => e) (fun h' u tk hk => ⟨.str _, H, I.kept hk, ⟨_, rfl⟩, q⟩) hz
section
variable {X : Cx} {b : Bs} {ρ : List Sl} {e : Expr}
theorem r_reprW {y : PyData} {ps cp : Pos} (gd : X.A.guards = some []) (hu : X.A.units + 64 < cLine) (hm : X.mg "repr" = none) (h : EVr X b ρ e (.d y)) (h1 : y.showable = true) (h2 : y.hasDict = false) (h3 : y.depth ≤ 50) (h4 : y.shown.length ≤ sizeLine) (hg : Gl X "repr" := by rfl)
    (he : starEach [e] X.env = (false, eval e X.env) :: starEach [] X.env := by rfl) : EVr X b ρ (.Call (.Name "repr" ps) [e] [] cp) (.d (.str y.shown)) :=
  r_callB (id := "repr") hm (a_cons h a_nil he) (fun p k => ⟨_, call_reprW gd hu, fun vs H L Q lv hh q => by
    obtain ⟨v, rfl⟩ := one_in (rs := [.d y]) (r := .d y) lv
    exact ⟨v, y, rfl, hh.dp, h1, h2, h3, h4, q _ _ _ k (hh.drop.str _)⟩⟩) (hg := hg) (he := he)
end

end DE

namespace DE
open PySem PySem.Spec PyProof.Rows L2 SZ VR VX StX RT
/-! ### tuple(dict); x in an object with its own __contains__ -/
section
open PySem.W
variable {prog : Program} {w : World} {T : String} {A : Around} {s : Shared} {E : Value → Shared → Prop} {n : Nat} {d r : Addr} {OK : Heap → Prop} {P : Nat → Value → Prop}
end
section
open PySem.W
variable {prog : Program} {w : World} {A : Around} {E : Value → Shared → Prop} {s : Shared} {r d : Addr} {n : Nat} {P : Nat → Value → Prop} {OK : Heap → Prop}
end
section
variable {X : Cx} {CX : CXT} {k : Nat} {C f : Addr} {fd : FuncData} {ps : List Str} {sp : Sp} {E : XK}
end

end DE

namespace SS
open PySem PySem.Spec PyProof.Rows L2 PySem.Froz
/-! ### set(texts) where a text may come twice -/
def ddR (l : List Str) (z : Str) : List Str := if z ∈ l then l else z :: l
def ddS (zs : List Str) : List Str := zs.foldl ddR []
theorem ddR_nodup {l : List Str} {z : Str} (h : l.Nodup) : (ddR l z).Nodup := by
  unfold ddR
  split
  · exact h
  · rename_i c; exact List.nodup_cons.mpr ⟨c, h⟩
theorem ddR_mem {l : List Str} {z x : Str} : x ∈ ddR l z ↔ x = z ∨ x ∈ l := by
  unfold ddR
  split
  · rename_i c
    constructor
    · exact fun h => .inr h
    · rintro (rfl | h)
      · exact c
      · exact h
  · exact List.mem_cons
theorem dd_nodup : ∀ {zs l : List Str}, l.Nodup → (zs.foldl ddR l).Nodup
  | [], _, h => h
  | _ :: zs, _, h => dd_nodup (zs := zs) (ddR_nodup h)
theorem dd_mem : ∀ {zs l : List Str} {x : Str}, x ∈ zs.foldl ddR l ↔ x ∈ l ∨ x ∈ zs
  | [], _, _ => by simp
  | z :: zs, l, x => by
    rw [List.foldl_cons, dd_mem (zs := zs), ddR_mem, List.mem_cons]
    constructor
    · rintro ((h | h) | h)
      · exact .inr (.inl h)
      · exact .inl h
      · exact .inr (.inr h)
    · rintro (h | h | h)
      · exact .inl (.inr h)
      · exact .inl (.inl h)
      · exact .inr h
theorem dd_len : ∀ {zs l : List Str}, (zs.foldl ddR l).length ≤ l.length + zs.length
  | [], _ => Nat.le_refl _
  | z :: zs, l => by
    rw [List.foldl_cons]
    refine Nat.le_trans (dd_len (zs := zs)) ?_
    have : (ddR l z).length ≤ l.length + 1 := by
      unfold ddR
      split
      · omega
      · rw [List.length_cons]; omega
    rw [List.length_cons]
    omega
theorem ddS_nodup (zs : List Str) : (ddS zs).Nodup := dd_nodup List.nodup_nil
theorem ddS_mem {zs : List Str} {x : Str} : x ∈ ddS zs ↔ x ∈ zs := by
  unfold ddS
  rw [dd_mem]
  simp
theorem ddS_len (zs : List Str) : (ddS zs).length ≤ zs.length := by
  have := dd_len (zs := zs) (l := [])
  simpa [ddS] using this
theorem ddS_snoc (zs : List Str) (z : Str) : ddS (zs ++ [z]) = ddR (ddS zs) z := by
  unfold ddS
  rw [List.foldl_append]
  rfl
section
variable {P : Program} {w : World} {A : Around} {E : Value → Shared → Prop} {s : Shared}
/-- a text that is there already -/
theorem old_x {a : Addr} {T : String} {D : SD} {l : List Str} {k : Str} {u : Tok} {Q : Bool → Shared → Prop} (ho : s.heap.get? a = some (sObj T D)) (F : TxOk P w D l) (hk : k ∈ l) (hb : l.length + 1 < scanBound)
    (h : Q false s) : wpAny (model P w) A (setAddHashed a (.str k u) (hashStr w k)) Q E s := by
  obtain ⟨es, ep, t⟩ := D
  have hd : (sObj T (es, ep, t)).data = .set es ep t := rfl
  have hf : t.fits es.size = true := F.fit
  have hel : ElemsOf (strKind P w) es.toList := F.el
  have hsz : es.size = l.length := F.sz
  have hb0 : es.size < scanBound := by omega
  have hkey : (strKind P w).is k (.str k u) = true := is_str k u
  obtain ⟨j, hsome⟩ : ∃ j, List.findIdx? (fun e => (strKind P w).is k e.2) es.toList = some j := by
    cases hr : List.findIdx? (fun e => (strKind P w).is k e.2) es.toList with
    | some j => exact ⟨j, rfl⟩
    | none =>
      obtain ⟨e, he, hi⟩ := (F.mem k).mp hk
      have := List.findIdx?_eq_none_iff.mp hr e he
      rw [this] at hi
      cases hi
  unfold setAddHashed setAddHashedIn
  refine wpAny_holding (wpAny_bind (wpAny_setState_of ho hd hf ?_))
  dsimp only
  rw [byScan_of rfl hb0 hel]
  simp only [↓reduceIte]
  unfold setAddByScan
  refine wpAny_bind ?_
  refine wpAny_bind (wpAny_rule ?_)
  refine wpAny_bind (wpAny_setScan_of (knd := strKind P w) (k := k) hkey ho hd hf hel ?_)
  rw [hsome]
  dsimp only
  exact wpAny_pure (wpAny_pure h)
end
section
variable {P : Program} {w : World} {A : Around} {R : Result → Shared → Prop} {I : Addr} {fp wr : List Addr} {G : Array GenState → Array GenState → Prop} {n : Nat} {Pv : Nat → Value → Prop} {St : Nat → Shared → Prop}
/-- texts into a set, one by one -/
theorem set_loopD (W : WalksS P w A.in1 I fp wr G n Pv St) (S : Addr) (hS : S ∉ fp) (zs : List Str) (hn : n = zs.length) (hv : ∀ i v, i < n → Pv i v → ∃ t, v = .str (zs.getD i "") t) (hb : n + 1 < scanBound) :
    ∀ (k i : Nat) (s : Shared), n - i = k → i ≤ n → St i s → GS P w s.heap S (ddS (zs.take i)) → (∀ s', Moved (S :: wr) G s s' → GS P w s'.heap S (ddS zs) → R (.ok (.ret .none)) s') →
      codeAny (model P w) A (.builtin "set.update.loop" ⟨[.ref S, .ref I], []⟩) R s := by
  have sw : S ∉ wr := fun h => hS (W.sub _ h)
  have sub : ∀ b ∈ wr, b ∈ S :: wr := fun b h => List.mem_cons_of_mem _ h
  intro k
  induction k with
  | zero =>
    intro i s hk hi st hg hR
    obtain rfl : i = n := by omega
    rw [hn, List.take_length] at hg
    refine codeAny_builtin F.entry_set_update_loop ?_
    rw [Around.under_plainId F.plain_set_update_loop _]
    show wpAny _ A.in1 (pyNext (.ref I) >>= _) _ _ s
    refine wpAny_bind (W.done s _ _ st fun s' m => ?_)
    show wpAny _ A.in1 (ret Value.none) _ _ s'
    exact wpAny_pure (hR s' (m.mono sub) (hg.at fun o e => m.heap S o sw e))
  | succ k ih =>
    intro i s hk hi st hg hR
    have lt : i < n := by omega
    have lz : i < zs.length := by omega
    refine codeAny_builtin F.entry_set_update_loop ?_
    rw [Around.under_plainId F.plain_set_update_loop _]
    show wpAny _ A.in1 (pyNext (.ref I) >>= _) _ _ s
    refine wpAny_bind (W.item i s _ _ lt st fun v s' hp st' m => ?_)
    obtain ⟨t, rfl⟩ := hv i v lt hp
    obtain ⟨D, ho, TX, rs, ld⟩ := hg.at fun o e => m.heap S o sw e
    have ez : zs.getD i "" = zs[i] := by rw [List.getD_eq_getElem?_getD, List.getElem?_eq_getElem lz]; rfl
    have er : ddS (zs.take (i + 1)) = ddR (ddS (zs.take i)) (zs.getD i "") := by
      rw [List.take_succ_eq_append_getElem lz, ddS_snoc, ez] <;> rfl
    have hl : (ddS (zs.take i)).length ≤ i := by
      have := ddS_len (zs.take i)
      rw [List.length_take] at this
      omega
    show wpAny _ A.in1 (holding [Value.str (zs.getD i "") t] (setAdd S (.str (zs.getD i "") t)) >>= _) _ _ s'
    refine wpAny_bind (wpAny_holding ?_)
    unfold setAdd
    refine wpAny_holding ?_
    refine wpAny_bind ((strKind P w).pyHash (k := zs.getD i "") (is_str _ _) ?_)
    by_cases nk : zs.getD i "" ∈ ddS (zs.take i)
    · refine old_x (s := { s' with toks := s'.toks + 1 }) ho TX nk (by omega) ?_
      have g2 : GS P w s'.heap S (ddS (zs.take (i + 1))) := by
        rw [er, ddR, if_pos nk]
        exact ⟨_, ho, TX, rs, ld⟩
      refine wpAny_pure ⟨plainId_quiet F.plain_set_update_loop _, ih (i + 1) { s' with toks := s'.toks + 1 } (by omega) lt (W.frame _ s' _ _ st' (Nat.le_succ _) fun b hb o e => e) g2 fun s'' m2 g3 => ?_⟩
      refine hR s'' (Moved.trans W.gtrans ((m.mono sub).then_heap (Nat.le_succ _) fun b o hb e => ?_) m2) g3
      exact e
    · refine add_x (s := { s' with toks := s'.toks + 1 }) ho TX nk (by omega) ?_
      have g2 : GS P w (s'.heap.update S (fun _ => sObj "set" (addTx (hashStr w (zs.getD i "")) (.str (zs.getD i "") t) D))) S (ddS (zs.take (i + 1))) := by
        rw [er, ddR, if_neg nk]
        obtain ⟨q1, q2⟩ := add_ris (hh := hashStr w (zs.getD i "")) (v := .str (zs.getD i "") t) rs ld
        exact ⟨_, get_upd _ ho rfl, add_ok t TX, q1, q2⟩
      refine wpAny_pure ⟨plainId_quiet F.plain_set_update_loop _, ih (i + 1) _ (by omega) lt (W.frame _ s' _ _ st' (Nat.le_succ _) fun b hb o e => ?_) g2 fun s'' m2 g3 => ?_⟩
      · exact (Heap.get?_update_other _ _ (fun h : S = b => hS (by rw [h]; exact hb))).trans e
      · refine hR s'' (Moved.trans W.gtrans ((m.mono sub).then_heap (Nat.le_succ _) fun b o hb e => ?_) m2) g3
        exact (Heap.get?_update_other _ _ (fun h : S = b => hb (by rw [← h]; exact List.mem_cons_self))).trans e
end
section
variable {P : Program} {w : World} {A : Around} {E : Value → Shared → Prop} {s : Shared}
set_option maxRecDepth 100000 in
set_option maxHeartbeats 3200000 in
theorem call_setD {l : Addr} {items : Array Value} {zs : List Str} {Q : Value → Shared → Prop} (hh : A.handled = none) (hl : s.heap.IsList l items) (hi : StrsAre items.toList zs) (hb : items.size + 1 < scanBound)
    (h : ∀ (h' : Heap) (tk : Nat), GS P w h' s.heap.objs.size (ddS zs) → (∀ b o, b < s.heap.objs.size → s.heap.get? b = some o → h'.get? b = some o) → Q (.ref s.heap.objs.size) { s with heap := h', toks := tk }) :
    wpAny (model P w) A (call (.type "set") [.ref l]) Q E s := by
  obtain ⟨c, tl, hmro⟩ := F.called_set.mro
  have hmade := F.called_set.made
  have hsub := F.called_set.sub
  refine wpAny_call (codeAny_of_tree ?_)
  show wpAny _ _ (callAny (.type "set") _) _ _ _
  refine wpAny_pure ⟨Code.quiet_builtin _ (by decide +kernel), codeAny_builtin F.entry_type_call ?_⟩
  rw [Around.under_plain (weight_type_call_type "set" [.ref l] []) rfl]
  have h1 := F.called_set.notType
  have h2 := F.called_set.canCreate
  have hct := F.typeCall_set_1 (.ref l)
  repeat (any_goals (first | assumption | wp_step))
  refine codeAny_mono (set_made (.ref l) (E := E) (Q₁ := fun obj s₁ => obj = .ref s.heap.objs.size ∧ s₁ = { s with heap := s.heap.push { cls := .type "set", dict := none, data := .set #[] 0 (.fresh 0 0 (!w.params.followText "set-order")) } }) ⟨rfl, rfl⟩) fun r s₁ hr => ?_
  cases r with
  | error e => exact hr
  | ok fl =>
    cases fl with
    | ret obj =>
      obtain ⟨rfl, rfl⟩ := hr
      have g0 := set_empty s.heap P w
      generalize hS : s.heap.push { cls := .type "set", dict := none, data := .set #[] 0 (.fresh 0 0 (!w.params.followText "set-order")) } = hp1 at g0 ⊢
      have zz : hp1.objs.size = s.heap.objs.size + 1 := by rw [← hS, Heap.size_push]
      have kk : ∀ b o, s.heap.get? b = some o → hp1.get? b = some o := fun b o e => by rw [← hS]; exact Heap.get?_push_of_some _ e
      have hS1 : hp1.get? s.heap.objs.size = some { cls := .type "set", dict := none, data := .set #[] 0 (.fresh 0 0 (!w.params.followText "set-order")) } := by rw [← hS]; exact Heap.get?_push_size _ rfl
      have hT : Shared.TypeIs { s with heap := hp1 } (.ref s.heap.objs.size) "set" := ⟨_, hS1, rfl⟩
      have hli := F.called_set.init.lookup
      have hbi := F.called_set.init.bind (.ref s.heap.objs.size)
      repeat (any_goals (first | assumption | wp_step))
      refine codeAny_mono (codeAny_call_builtin (R := wants (fun r s₂ => r = .none ∧ ∃ h' tk, s₂ = { s with heap := h', toks := tk } ∧ GS P w h' s.heap.objs.size (ddS zs) ∧
          (∀ b o, b < s.heap.objs.size → s.heap.get? b = some o → h'.get? b = some o)) E) F.called_set.init.plain F.entry_set_init (check_set_init_1 hT ?_)) fun r₂ s₂ hr₂ => ?_
      · have hlS : l < s.heap.objs.size := by obtain ⟨ol, hol, _⟩ := hl; exact Heap.lt_size hol
        obtain ⟨ol, hol, hcl, nl, hdl⟩ := hl
        obtain ⟨ocls, odict, odata, oslots⟩ := ol
        simp only at hcl hdl
        subst hcl; subst hdl
        have hol' := kk _ _ hol
        have hsls := F.sub_list_set
        have hslf := F.sub_list_frozenset
        have hne : (Value.type "list" == Value.type "dict") = false := by decide
        have hl1 : hp1.IsList l items := ⟨_, hol', rfl, nl, rfl⟩
        unfold Builtin.«set.__init__» noKeywords Builtin.Frozenset.updateFrom
        generalize hPI : pyIter = PI
        wp_walk
        subst hPI
        refine wpAny_pyIter_list (s := { s with heap := hp1 }) hl1 ?_
        refine wpAny_bind (wpAny_runValue ?_)
        have hh3 : A.in1.in1.in1.handled = none := by simp [hh]
        have hneI : l ≠ hp1.objs.size := by rw [zz]; exact Nat.ne_of_lt (Nat.lt_succ_of_lt hlS)
        have hSf : s.heap.objs.size ∉ [hp1.objs.size, l] := by
          rw [zz]
          simp only [List.mem_cons, List.not_mem_nil, or_false, not_or]
          exact ⟨Nat.ne_of_lt (Nat.lt_succ_self _), Nat.ne_of_gt hlS⟩
        have hz : items.size = zs.length := by rw [← Array.length_toList]; exact hi.length
        have hval : ∀ (i : Nat) (v : Value), i < items.size → items[i]? = some v → ∃ t, v = .str (zs.getD i "") t := fun i v hlt hv => str_at hi i v (by rw [Array.getElem?_toList]; exact hv)
        refine set_loopD ((Walks.list hh3 _ l hneI items).toS) s.heap.objs.size hSf zs hz hval hb (items.size - 0) 0 _ (by omega) (Nat.zero_le _) ⟨⟨_, Heap.get?_push_size _ rfl, rfl, rfl⟩, (hl1.push _)⟩ ?hS0 ?hR
        case hS0 => exact g0.at fun o e => Heap.get?_push_of_some _ e
        case hR =>
          intro s' hm hS'
          obtain ⟨h', g', d', tk', os'⟩ := s'
          have eg : g' = s.gens := hm.gens
          have ed : d' = s.drawn := hm.drawn
          have eo : os' = s.os := hm.os
          subst eg; subst ed; subst eo
          show wpAny _ _ _ _ _ _
          refine wpAny_pure ?_
          show wpAny _ _ (ret Value.none) _ _ _
          refine wpAny_pure ⟨rfl, h', tk', rfl, hS', fun b o hb e => ?_⟩
          have b2 : b ≠ hp1.objs.size := by rw [zz]; exact Nat.ne_of_lt (Nat.lt_succ_of_lt hb)
          exact hm.heap b o (by simp only [List.mem_cons, List.not_mem_nil, or_false, not_or]; exact ⟨Nat.ne_of_lt hb, b2⟩) (Heap.get?_push_of_some _ (kk _ _ e))
      · cases r₂ with
        | error e => exact hr₂
        | ok fl₂ =>
          cases fl₂ with
          | ret r =>
            obtain ⟨rfl, h', tk, rfl, hS', hk'⟩ := hr₂
            repeat (any_goals (first | assumption | wp_step))
            exact h _ _ hS' hk'
          | _ => exact hr₂.elim
    | _ => exact hr.elim
end
section
variable {X : Cx}
/-- set(list of texts), each as often as it comes -/
def rSetD (K : PySem.W.Frag) (P : Program) (w : World) : List V → Hp → VK → Prop := fun vs H Q => ∃ (a : Addr) (zs : List Str), vs = [.ref a] ∧ SqL K H a (zs.map V.str) ∧ zs.length ≤ 60 ∧ ∀ p, H p = none → Q (.ref p) (upd H p (SetS P w p (ddS zs)))
theorem cr_setD (hc : X.calm = true) : CallR X (.type "set") (rSetD X.K X.prog X.w) := by
  intro pins s σ H vs us Q I r h
  obtain ⟨a, zs, rfl, hs, h60, q⟩ := h
  obtain ⟨its, rv, hl, _⟩ := I.list hs
  rw [Vals.ref1 r]
  have hlen := rv.length
  rw [List.length_map] at hlen
  have e : its.toArray.size = zs.length := by rw [List.size_toArray]; exact hlen.symm
  refine call_setD (I.ok.hd hc) hl.isList rv.strs (by rw [e]; unfold scanBound; omega) fun h' tk g k => ?_
  have kp : ∀ b o, s.heap.get? b = some o → h'.get? b = some o := fun b o e => k b o (Heap.lt_size e) e
  exact ⟨.ref _, _, I.laid (t' := tk) kp (Nat.le_refl _) (setS_new g), rfl, q _ (I.hok.fresh (Nat.le_refl _))⟩
end

end SS

namespace DE
open PySem PySem.Spec PyProof.Rows L2 SZ VR VX StX RT
/-! ### sorted(set(texts)) where a text may come twice -/
section
variable {X : Cx} {b : Bs} {ρ : List Sl} {e : Expr}
theorem cv_setD {zs : List Str} {r : Sl} {p : Sl → Prop} (hc : X.calm = true) (er : cool r = .d (.list (zs.map .str))) (hn : zs.length ≤ 60) (h : p (SetSl X.prog X.w (SS.ddS zs))) : CV X b (.type "set") [r] p := ⟨_, SS.cr_setD hc, fun vs H L Q lv hh k => by
  obtain ⟨v, rfl⟩ := one_in (rs := [r]) (r := r) lv
  have hc : Hold X.K b H ((some v, r) :: L) := hh
  have hc := hc.cool
  rw [er] at hc
  obtain ⟨G, hg⟩ := hc
  obtain ⟨_, f1, d1⟩ := hg.ok (some v, .d (.list (zs.map .str))) List.mem_cons_self
  cases f1
  cases d1 with
  | @lst a us _ s1 t1 =>
    have e := dp_strs t1
    subst e
    exact ⟨a, zs, rfl, hg.up.seq s1, hn, fun q hq => k _ _ _ h ⟨_, (hg.drop.grow (o := SS.SetS X.prog X.w q (SS.ddS zs)) hq rfl).addF ⟨q, rfl, upd_same⟩⟩⟩⟩
/-- sorted(set(texts)) -/
theorem ev_sortedSetD {zs : List Str} {r : Sl} {p : Sl → List Sl → Prop} {p1 p2 c1 c2 : Pos} (hc : X.calm = true) (m1 : X.mg "sorted" = none) (m2 : X.mg "set" = none) (he : EVr X b ρ e r) (er : cool r = .d (.list (zs.map .str))) (hn : zs.length ≤ 60)
    (h : ∀ ys : List Str, ys.Perm (SS.ddS zs) → PyProof.Rows.sortedS ys = true → p (.own (ys.map .str)) ρ) (g1 : Gl X "sorted" := by rfl) (g2 : Gl X "set" := by rfl) (hs : starEach [.Call (.Name "set" p2) [e] [] c2] X.env = (false, eval (.Call (.Name "set" p2) [e] [] c2) X.env) :: starEach [] X.env := by rfl) (he2 : starEach [e] X.env = (false, eval e X.env) :: starEach [] X.env := by rfl) (hp1 : (backTo c1 (starEach [] X.env)).any (·.1) = false := by rfl) (hp2 : (backTo c2 (starEach [] X.env)).any (·.1) = false := by rfl) :
    EV X b ρ (.Call (.Name "sorted" p1) [.Call (.Name "set" p2) [e] [] c2] [] c1) p :=
  ev_callB (id := "sorted") g1 m1 (by decide +kernel) ((a_cons (r_callTy (T := "set") m2 (a_cons he a_nil he2) (fun _ k => cv_setD hc er hn k) g2 (by decide +kernel) (by decide) (by decide) he2 hp2) a_nil hs) _ (cv_sortedSS hc (SS.ddS_nodup zs) (by have := SS.ddS_len zs; omega) fun ys a1 a2 => h ys a1 a2)) (by decide) (by decide) hs hp1
end

end DE

namespace K08
open PySem L2 SZ VR VX StX RT DE
/-! ### what the package's own tests say of any data -/
mutual
def wid : PyData → Bool
  | .str z => decide (z.length ≤ 100)
  | .list ys => decide (ys.length ≤ 60) && widAll ys
  | .tuple ys => decide (ys.length ≤ 60) && widAll ys
  | _ => true
def widAll : List PyData → Bool
  | [] => true
  | y :: ys => wid y && widAll ys
end
theorem widAll_iff : ∀ {ys : List PyData}, widAll ys = true ↔ ∀ y ∈ ys, wid y = true
  | [] => by simp [widAll]
  | y :: ys => by
    unfold widAll
    rw [Bool.and_eq_true, widAll_iff (ys := ys)]
    simp
def Gd (n : Nat) (y : PyData) : Prop := Lay n y ∧ wid y = true
theorem layA_mem : ∀ {ys : List PyData}, PyData.canLayAll0 ys = true → ∀ y ∈ ys, y.canLay0 = true
  | [], _, y, h => by cases h
  | x :: ys, h, y, hy => by
    unfold PyData.canLayAll0 at h
    rw [Bool.and_eq_true] at h
    rcases List.mem_cons.mp hy with rfl | hy
    · exact h.1
    · exact layA_mem h.2 y hy
theorem depthA_mem : ∀ {ys : List PyData} {n : Nat}, PyData.depthAll ys ≤ n → ∀ y ∈ ys, y.depth ≤ n
  | [], _, _, y, h => by cases h
  | x :: ys, n, h, y, hy => by
    unfold PyData.depthAll at h
    rcases List.mem_cons.mp hy with rfl | hy
    · exact Nat.le_trans (Nat.le_max_left _ _) h
    · exact depthA_mem (Nat.le_trans (Nat.le_max_right _ _) h) y hy
theorem Gd.tupE {n : Nat} {ys : List PyData} (h : Gd n (.tuple ys)) : ys.length ≤ 60 ∧ 1 ≤ n ∧ ∀ y ∈ ys, Gd (n - 1) y := by
  obtain ⟨⟨h1, h2⟩, h3⟩ := h
  unfold wid at h3
  rw [Bool.and_eq_true, decide_eq_true_iff, widAll_iff] at h3
  have h1 : PyData.canLayAll0 ys = true := by simpa only [PyData.canLay0] using h1
  simp only [PyData.depth] at h2
  exact ⟨h3.1, by omega, fun y hy => ⟨⟨layA_mem h1 y hy, depthA_mem (by omega) y hy⟩, h3.2 y hy⟩⟩
theorem Gd.tup {n : Nat} {ys : List PyData} (hl : ys.length ≤ 60) (h : ∀ y ∈ ys, Gd n y) : Gd (n + 1) (.tuple ys) := ⟨Lay.tup fun y hy => (h y hy).1, by
  unfold wid
  rw [Bool.and_eq_true, decide_eq_true_iff, widAll_iff]
  exact ⟨hl, fun y hy => (h y hy).2⟩⟩
theorem Gd.mono {n m : Nat} {y : PyData} (h : Gd n y) (k : n ≤ m) : Gd m y := ⟨h.1.mono k, h.2⟩
theorem Gd.shaped {n : Nat} {y : PyData} (h : Gd n y) (hn : n ≤ 64) : SeqAt.shaped y = true := h.1.shaped hn
theorem Gd.strL {n : Nat} {z : Str} (h : Gd n (.str z)) : z.length ≤ 100 := by
  have := h.2
  unfold wid at this
  exact of_decide_eq_true this
def isIntD : PyData → Bool
  | .int _ => true
  | _ => false
def nzLast (ys : List PyData) : Bool := match ys.getLast? with
  | some (.int i) => !decide (i = 0)
  | _ => true
def isPartsD : PyData → Bool
  | .tuple ys => ys.all isIntD && nzLast ys
  | _ => false
def isNameD : PyData → Bool
  | .str z => isNm z
  | _ => false
def isTup (y : PyData) (n : Int) : Bool := match y with
  | .tuple ys => decide ((ys.length : Int) = n)
  | _ => false
def isNamedD : PyData → Bool
  | .tuple [a, b] => isNameD a && isPartsD b
  | _ => false
def nm1 : PyData → Str
  | .tuple (.str z :: _) => z
  | _ => ""
def ne2 : PyData → Bool
  | .tuple [_, .tuple (_ :: _)] => true
  | _ => false
def ordS (zs : List Str) : Bool := decide (zs.Nodup) && PyProof.Rows.sortedS zs
def isIdxD : PyData → Bool
  | .tuple [a, .tuple fs] => isPartsD a && ((fs.all fun p => isNamedD p && ne2 p) && ordS (fs.map nm1))
  | _ => false
def isBlD (S : PyData → Bool) : PyData → Bool
  | .tuple ys => ys.all S
  | _ => false
def isFor (B : PyData → Bool) : List PyData → Bool
  | [a, b, c] => isNamedD (.tuple [a, b]) && B c
  | _ => false
def isAcc : List PyData → Bool
  | [a, b] => isNameD a && isIdxD b
  | _ => false
def isSt0 (B : PyData → Bool) : PyData → Bool
  | .tuple (.str z :: r) => if z = "flush" then r.isEmpty else if z = "for" then isFor B r else (z == "read" || z == "write") && isAcc r
  | _ => false
def isStD : Nat → PyData → Bool
  | 0 => isSt0 fun _ => false
  | d + 1 => isSt0 (isBlD (isStD d))
def isTrD (d : Nat) : PyData → Bool
  | .tuple [.tuple ars, b] => ars.all isNamedD && isBlD (isStD d) b
  | _ => false
theorem tup_or (y : PyData) : (∃ ys, y = .tuple ys) ∨ (subTy (tyD y) "tuple" = false ∧ ∀ ys, y ≠ .tuple ys) := by
  cases y with
  | tuple ys => exact .inl ⟨ys, rfl⟩
  | none => exact .inr ⟨by show subTy "NoneType" "tuple" = false; decide, nofun⟩
  | bool b => exact .inr ⟨by show subTy "bool" "tuple" = false; decide, nofun⟩
  | int b => exact .inr ⟨by show subTy "int" "tuple" = false; decide, nofun⟩
  | str b => exact .inr ⟨by show subTy "str" "tuple" = false; decide, nofun⟩
  | list b => exact .inr ⟨by show subTy "list" "tuple" = false; decide, nofun⟩
  | dict b => exact .inr ⟨by show subTy "dict" "tuple" = false; decide, nofun⟩
theorem str_or (y : PyData) : (∃ z, y = .str z) ∨ (subTy (tyD y) "str" = false ∧ ∀ z, y ≠ .str z) := by
  cases y with
  | str z => exact .inl ⟨z, rfl⟩
  | none => exact .inr ⟨by show subTy "NoneType" "str" = false; decide, nofun⟩
  | bool b => exact .inr ⟨by show subTy "bool" "str" = false; decide, nofun⟩
  | int b => exact .inr ⟨by show subTy "int" "str" = false; decide, nofun⟩
  | tuple b => exact .inr ⟨by show subTy "tuple" "str" = false; decide, nofun⟩
  | list b => exact .inr ⟨by show subTy "list" "str" = false; decide, nofun⟩
  | dict b => exact .inr ⟨by show subTy "dict" "str" = false; decide, nofun⟩
theorem int_sub (y : PyData) : (subTy (tyD y) "int" && !subTy (tyD y) "bool") = isIntD y := by
  cases y <;> rfl
theorem ints_of : ∀ {ys : List PyData}, ys.all isIntD = true → ∃ ps : List Int, ys = ps.map .int
  | [], _ => ⟨[], rfl⟩
  | y :: ys, h => by
    rw [List.all_cons, Bool.and_eq_true] at h
    obtain ⟨ps, rfl⟩ := ints_of h.2
    cases y with
    | int i => exact ⟨i :: ps, rfl⟩
    | _ => cases h.1
theorem two_or (y : PyData) : (∃ a b, y = .tuple [a, b]) ∨ (isTup y 2 = false ∧ ∀ a b, y ≠ .tuple [a, b]) := by
  rcases tup_or y with ⟨ys, rfl⟩ | h
  · match ys with
    | [] => exact .inr ⟨by decide, nofun⟩
    | [_] => exact .inr ⟨rfl, nofun⟩
    | [a, b] => exact .inl ⟨a, b, rfl⟩
    | a :: b :: c :: r => exact .inr ⟨by show decide (((a :: b :: c :: r).length : Int) = 2) = false; exact decide_eq_false (by simp only [List.length_cons]; omega), nofun⟩
  · refine .inr ⟨?_, fun a b => h.2 _⟩
    cases y with
    | tuple ys => exact absurd rfl (h.2 ys)
    | _ => rfl
theorem named_ne {y : PyData} (h : ∀ a b, y ≠ .tuple [a, b]) : isNamedD y = false := by
  unfold isNamedD
  split
  · exact absurd rfl (h _ _)
  · rfl
theorem idx_ne {y : PyData} (h : ∀ a b, y ≠ .tuple [a, b]) : isIdxD y = false := by
  unfold isIdxD
  split
  · exact absurd rfl (h _ _)
  · rfl
theorem tr_ne {d : Nat} {y : PyData} (h : ∀ a b, y ≠ .tuple [a, b]) : isTrD d y = false := by
  unfold isTrD
  split
  · exact absurd rfl (h _ _)
  · rfl
theorem parts_ne {y : PyData} (h : ∀ ys, y ≠ .tuple ys) : isPartsD y = false := by
  unfold isPartsD
  split
  · exact absurd rfl (h _)
  · rfl
theorem eqvS : ∀ {a b : List Str}, PyData.eqvAll (a.map .str) (b.map .str) = decide (a = b)
  | [], [] => by simp [PyData.eqvAll]
  | [], _ :: _ => by simp [PyData.eqvAll]
  | _ :: _, [] => by simp [PyData.eqvAll]
  | x :: a, y :: b => by
    rw [List.map_cons, List.map_cons]
    unfold PyData.eqvAll
    rw [eqvS (a := a) (b := b)]
    unfold PyData.eqv
    by_cases h1 : x = y <;> by_cases h2 : a = b <;> simp [h1, h2]
/-- counters == sorted(set(counters)) -/
theorem ord_eq {zs ys : List Str} (p : ys.Perm (SS.ddS zs)) (hs : PyProof.Rows.sortedS ys = true) : PyData.eqv (.list (zs.map .str)) (.list (ys.map .str)) = ordS zs := by
  unfold PyData.eqv
  rw [eqvS]
  unfold ordS
  by_cases h : zs = ys
  · subst h
    rw [decide_eq_true rfl, hs, decide_eq_true (p.nodup_iff.mpr (SS.ddS_nodup _))]
    rfl
  · rw [decide_eq_false h]
    by_cases hn : zs.Nodup
    · rw [decide_eq_true hn, Bool.true_and]
      cases hz : PyProof.Rows.sortedS zs with
      | false => rfl
      | true =>
        exfalso
        have q : ys.Perm zs := p.trans ((List.perm_ext_iff_of_nodup (SS.ddS_nodup zs) hn).mpr fun x => SS.ddS_mem)
        exact h (uniq_sorted q hs (sorted_pw hz)).symm
    · rw [decide_eq_false hn]
      rfl
abbrev Rs1 (f : PyData → Bool) : List Sl → Sl → Prop := fun as r => ∀ y, as = [.d y] → r = .d (.bool (f y))
abbrev Any1 : List Sl → Prop := fun as => ∃ y, as = [.d y] ∧ Gd 60 y
abbrev RsT : List Sl → Sl → Prop := fun as r => ∀ y n, as = [.d y, .d (.int n)] → r = .d (.bool (isTup y n))
section
variable {X : Cx} {b : Bs}
theorem t_sub {ρ : List Sl} {e : Expr} {c c2 : Bool} (hs : c2 = c) (h1 : EVr X b ρ e (.d (.bool c2))) (he : ∀ whole, isTrue e X.env whole = (do let v ← whole; standAt e.pos; holding [v] (truthy v)) := by intro _; rfl) : ETr X b ρ e c := by
  subst hs
  exact t_val h1 he
theorem t_sub3 {ρ : List Sl} {e : Expr} {c c2 : Bool} (hs : c2 = c) (h1 : EWr X b ρ e c2) : EWr X b ρ e c := hs ▸ h1
theorem cr_allG {α : Type} (l : List α) (t : α → Bool) (hc : X.calm = true) : CVr X b (.builtin "all") [.own ((l.filter fun _ => true).map fun a => PyData.bool (t a))] (.d (.bool (l.all t))) := fun p k => by
  have e : ((l.filter fun _ => true).map fun a => PyData.bool (t a)) = (l.map t).map .bool := by
    rw [List.filter_eq_self.mpr (fun _ _ => rfl), List.map_map]
    rfl
  have e2 : (l.map t).all id = l.all t := by
    rw [List.all_map]
    rfl
  rw [e]
  exact cv_all hc (by rw [e2]; exact k)
end
section
variable {P : Program} {w : World} {K : PySem.W.Frag} {mg : Str → Option Value} {base : Heap}
theorem g_integer {f : Addr} {fd : FuncData} (F : Fun K "is_integer" "is_integer" S_is_integer f fd) (z_isinstance : mg "isinstance" = none) (z_int : mg "int" = none) (z_bool : mg "bool" = none) : FnOk P w K mg base CX0 1 f fd ["value"] (spP K Any1 (Rs1 isIntD)) := by
  refine fn_P F sc_is_integer (fun as h => by obtain ⟨y, rfl, _⟩ := h; rfl) (by decide) fun cdv A outer s H E hr b as hp => ?_
  obtain ⟨y, rfl, _⟩ := hp
  show XB _ _ [.d y] _ _
  refine xb_one (x_ret (r_and (r_isi (t := "int") z_isinstance z_int (r_var 0 rfl (by walk_at "v") rfl)) fun _ => (r_one (r_not (r_isi (t := "bool") z_isinstance z_bool (r_var 0 rfl (by walk_at "v") rfl))))) ?_)
  exact ⟨fun _ e => by cases e; rw [int_sub], by simp⟩
theorem g_name1 {f : Addr} {fd : FuncData} {k : Nat} {ps : List Str} (F : FnOk P w K mg base CX0 k f fd ps (spName K)) : FnOk P w K mg base CX0 k f fd ps (spP K Any1 (Rs1 isNameD)) := by
  refine F.imp fun vs H Q E z => ?_
  obtain ⟨G, as, l, hG, ⟨y, rfl, hy⟩, h⟩ := z
  obtain ⟨u, rfl⟩ : ∃ u, vs = [u] := List.length_eq_one_iff.mp (by simpa using l)
  obtain ⟨v, e, hv⟩ := hG.ok (some u, .d y) (by simp)
  cases e
  refine ⟨u, rfl, ?_⟩
  rcases str_or y with ⟨z, rfl⟩ | hn
  · cases hv
    refine .inl ⟨z, rfl, by have := hy.strL; omega, ?_⟩
    exact h (.d (.bool (isNm z))) (fun _ e => by cases e; rfl) (by simp) _ H ⟨G, (hG.drop (c := (some (.str z), .d (.str z)))).add (.bl _)⟩
  · have e : isNameD y = false := by
      cases y with
      | str z => exact absurd rfl (hn.2 z)
      | _ => rfl
    refine .inr ⟨.type (tyD y), dp_ty (Dp.keep hG.up hv), by rw [kit_d (t := "str") (by decide) y, hn.1], ?_⟩
    exact h (.d (.bool false)) (fun _ e2 => by cases e2; rw [e]) (by simp) _ H ⟨G, (hG.drop (c := (some u, .d y))).add (.bl _)⟩
theorem g_tuple_of {f : Addr} {fd : FuncData} (F : Fun K "_is_tuple_of" "_is_tuple_of" S_is_tuple_of f fd) (z_isinstance : mg "isinstance" = none) (z_tuple : mg "tuple" = none) (z_len : mg "len" = none) : FnOk P w K mg base CX0 1 f fd ["value", "many"] (spP K (fun as => ∃ y n, as = [.d y, .d (.int n)]) RsT) := by
  refine fn_P F sc_is_tuple_of (fun as h => by obtain ⟨ys, n, rfl⟩ := h; rfl) (by decide) fun cdv A outer s H E hr b as hp => ?_
  obtain ⟨y, n, rfl⟩ := hp
  show XB _ _ [.d y, .d (.int n)] _ _
  rcases tup_or y with ⟨ys, rfl⟩ | hn
  · refine xb_one (x_ret (r_and (r_isi (t := "tuple") z_isinstance z_tuple (r_var 0 rfl (by walk_at "v") rfl)) fun _ => (r_one (r_cmp (r_callB (id := "len") z_len (a_cons (r_var 0 rfl (by walk_at "v") rfl) a_nil) (by walk_at "c")) (r_var 1 rfl (by walk_at "v") rfl) (by walk_at "o")))) ?_)
    refine ⟨fun _ _ e => ?_, by simp⟩
    cases e
    rfl
  · refine xb_one (x_ret (r_and (c2 := false) (r_isi (t := "tuple") z_isinstance z_tuple (r_var 0 rfl (by walk_at "v") rfl)) fun h => absurd (hn.1.symm.trans h) (by decide)) ?_)
    refine ⟨fun _ _ e => ?_, by simp⟩
    cases e
    rw [hn.1]
    cases y with
    | tuple ys => exact absurd rfl (hn.2 ys)
    | _ => rfl
theorem g_is_parts {f : Addr} {fd : FuncData} (F : Fun K "_is_parts" "_is_parts" S_is_parts f fd) (CI : CalP P w K mg base CX0 "is_integer" 1 Any1 (Rs1 isIntD)) (z_isinstance : mg "isinstance" = none) (z_tuple : mg "tuple" = none) (z_all : mg "all" = none) : FnOk P w K mg base CX0 2 f fd ["value"] (spP K Any1 (Rs1 isPartsD)) := by
  refine fn_P F sc_is_parts (fun as h => by obtain ⟨ps, rfl, _⟩ := h; rfl) (by decide) fun cdv A outer s H E hr b as hp => ?_
  obtain ⟨y, rfl, hg⟩ := hp
  have hu := hr.units
  show XB _ _ [.d y, .un] _ _
  rcases tup_or y with ⟨ys, rfl⟩ | hn
  · obtain ⟨hl, _, hys⟩ := hg.tupE
    refine xb_cons (x_if (t_w (w_or (c2 := !ys.all isIntD) (t_not (t_val (r_isi (t := "tuple") z_isinstance z_tuple (r_var 0 rfl (by walk_at "v") rfl)))) fun _ => (w_or1 (t_not (t_val (r_callB (id := "all") z_all (a_cons (r_lc (own := [("part", 1)]) ys (fun y => y) (fun _ => true) (fun y => .bool (isIntD y)) (fun p => [.d (.tuple ys), .d p]) (i_tup (r_var 0 rfl (by walk_at "v") rfl)) (List.map_id' ys).symm rfl sc_is_parts.nd (blkOk_by (N := ["value", "part"]) (sc := defScope S_is_parts) (by decide +kernel)) (by intro v hv; rw [List.mem_singleton.mp hv]; rfl) (by omega) ?_ ?_ ?_ ?_) a_nil) (cr_allG ys isIntD rfl))))))) (fun h0 => ?_) (fun h0 => ?_))
    · exact fun c hc s H C cl fp => g_name 1 rfl (by walk_at "v") sc_is_parts.nd rfl
    · exact fun c hc => rfl
    · exact fun c hc s H C cl fp => ts_nil
    · exact fun c hc _ => ⟨_, fun s H C cl fp => r_cal CI (hr.mono (by decide)) pass0 (a_cons (r_var 1 rfl (by walk_at "v") rfl) a_nil) rfl ⟨c, rfl, (hys c hc).mono (by omega)⟩ (fun r' h => h _ rfl), rfl⟩
    · refine xb_one (x_ret r_bl ⟨fun _ e => ?_, by simp⟩)
      cases e
      have h0 : (!ys.all isIntD) = true := h0
      rw [Bool.not_eq_true'] at h0
      show Sl.d (.bool false) = Sl.d (.bool (ys.all isIntD && nzLast ys))
      rw [h0]
      rfl
    refine xb_nil (fun _ => ?_)
    have h0 : (!ys.all isIntD) = false := h0
    rw [Bool.not_eq_false'] at h0
    obtain ⟨ps, rfl⟩ := ints_of h0
    have e0 : isPartsD (.tuple (ps.map .int)) = nzLast (ps.map .int) := by
      show ((ps.map PyData.int).all isIntD && nzLast (ps.map .int)) = _
      rw [h0]
      rfl
    by_cases hp : ps = []
    · subst hp
      refine xb_one (x_ret (r_or (c2 := false) (r_cmp (r_var 0 rfl (by walk_at "v") rfl) (r_tup a_nil rfl) (or_eqD (by exact hu) rfl rfl (by decide +kernel) (by decide +kernel))) fun h => absurd h (by decide +kernel)) ?_)
      refine ⟨fun _ e => ?_, by simp⟩
      cases e
      rfl
    · have hpos : 0 < ps.length := List.length_pos_iff.mpr hp
      have hx : atI (ps.map PyData.int) (-1) = some (.int (ps.getD (ps.length - 1) 0)) := by
        unfold atI ixN
        rw [List.length_map, if_neg (by decide), if_pos (by omega)]
        show (ps.map PyData.int)[((-1 : Int) + (ps.length : Int)).toNat]? = _
        have e : ((-1 : Int) + (ps.length : Int)).toNat = ps.length - 1 := by omega
        rw [e, List.getElem?_map, List.getD_eq_getElem?_getD, List.getElem?_eq_getElem (by omega)]
        rfl
      have hz : nzLast (ps.map .int) = !decide (ps.getD (ps.length - 1) 0 = 0) := by
        unfold nzLast
        rw [List.getLast?_eq_getElem?, List.length_map, List.getElem?_map, List.getD_eq_getElem?_getD, List.getElem?_eq_getElem (by omega)]
        rfl
      refine xb_one (x_ret (r_or (c1 := false) (r_cmp (r_var 0 rfl (by walk_at "v") rfl) (r_tup a_nil rfl) (fun p h => or_eqD (by exact hu) rfl rfl (hg.shaped (by decide)) (by decide +kernel) p (by rw [eqv_nilT, List.isEmpty_map]; rw [List.isEmpty_eq_false_iff.mpr hp]; exact h))) fun _ => (r_one (r_cmp (r_ix (r_var 0 rfl (by walk_at "v") rfl) (r_un r_int u_neg) (ir_at (.inr rfl) hx)) r_int (fun p h => ov_neInt h)))) ?_)
      refine ⟨fun _ e => ?_, by simp⟩
      cases e
      rw [e0, hz, Bool.false_or]
  · refine xb_cons (x_if (c := true) (t_w (w_or (c1 := true) (c2 := false) (t_not (c := false) (t_sub hn.1 (r_isi (t := "tuple") z_isinstance z_tuple (r_var 0 rfl (by walk_at "v") rfl)))) fun h => nomatch h)) (fun h0 => ?_) (fun h0 => nomatch h0))
    refine xb_one (x_ret r_bl ⟨fun _ e => ?_, by simp⟩)
    cases e
    rw [parts_ne hn.2]
theorem g_is_named {f : Addr} {fd : FuncData} (F : Fun K "_is_named" "_is_named" S_is_named f fd) (CT : CalP P w K mg base CX0 "_is_tuple_of" 1 (fun as => ∃ y n, as = [.d y, .d (.int n)]) RsT) (CN : CalP P w K mg base CX0 "is_name" 3 Any1 (Rs1 isNameD)) (CP : CalP P w K mg base CX0 "_is_parts" 2 Any1 (Rs1 isPartsD)) : FnOk P w K mg base CX0 4 f fd ["value"] (spP K Any1 (Rs1 isNamedD)) := by
  refine fn_P F sc_is_named (fun as h => by obtain ⟨g, rfl, _⟩ := h; rfl) (by decide) fun cdv A outer s H E hr b as hp => ?_
  obtain ⟨y, rfl, hg⟩ := hp
  show XB _ _ [.d y] _ _
  rcases two_or y with ⟨u, v, rfl⟩ | hn
  · obtain ⟨_, _, hys⟩ := hg.tupE
    refine xb_one (x_ret (r_and (c1 := true) (r_cal CT (hr.mono (by decide)) pass0 (a_cons (r_var 0 rfl (by walk_at "v") rfl) (a_cons r_int a_nil)) rfl ⟨_, _, rfl⟩ (fun r' h => h _ _ rfl)) fun _ => (r_and (r_cal CN (hr.mono (by decide)) pass0 (a_cons (r_ix (r_var 0 rfl (by walk_at "v") rfl) r_int (ir_at (y := u) (.inr rfl) rfl)) a_nil) rfl ⟨_, rfl, (hys u (by simp)).mono (by omega)⟩ (fun r' h => h _ rfl)) fun _ => (r_one (r_cal CP (hr.mono (by decide)) pass0 (a_cons (r_ix (r_var 0 rfl (by walk_at "v") rfl) r_int (ir_at (y := v) (.inr rfl) rfl)) a_nil) rfl ⟨_, rfl, (hys v (by simp)).mono (by omega)⟩ (fun r' h => h _ rfl))))) ?_)
    refine ⟨fun _ e => ?_, by simp⟩
    cases e
    rfl
  · refine xb_one (x_ret (r_and (c1 := false) (c2 := false) (r_cal CT (hr.mono (by decide)) pass0 (a_cons (r_var 0 rfl (by walk_at "v") rfl) (a_cons r_int a_nil)) rfl ⟨_, _, rfl⟩ (fun r' h => by rw [h _ _ rfl, hn.1])) fun h => nomatch h) ?_)
    refine ⟨fun _ e => ?_, by simp⟩
    cases e
    rw [named_ne hn.2]
    rfl
end

end K08

namespace K08
open PySem L2 SZ VR VX StX RT DE
/-! ### indices, statements, blocks, whole trees -/
theorem named_sh {y : PyData} (h : isNamedD y = true) : ∃ (z : Str) (ys : List PyData), y = .tuple [.str z, .tuple ys] := by
  unfold isNamedD at h
  split at h
  · rename_i u v
    rw [Bool.and_eq_true] at h
    rcases str_or u with ⟨z, rfl⟩ | hn
    · rcases tup_or v with ⟨ys, rfl⟩ | hn
      · exact ⟨z, ys, rfl⟩
      · rw [parts_ne hn.2] at h; cases h.2
    · exfalso
      have h1 := h.1
      cases u with
      | str z => exact hn.2 z rfl
      | _ => cases h1
  · cases h
theorem named_all : ∀ {fs : List PyData}, (fs.all fun p => isNamedD p && ne2 p) = true → ∃ l : List (Str × List PyData), fs = l.map fun g => .tuple [.str g.1, .tuple g.2]
  | [], _ => ⟨[], rfl⟩
  | y :: fs, h => by
    rw [List.all_cons, Bool.and_eq_true] at h
    obtain ⟨l, rfl⟩ := named_all h.2
    obtain ⟨z, ys, rfl⟩ := named_sh (Bool.and_eq_true _ _ ▸ h.1).1
    exact ⟨(z, ys) :: l, rfl⟩
abbrev RsL (f : PyData → Bool) : List Sl → Sl → Prop := fun as r => ∀ y n, as = [.d y, .d (.int n)] → r = .d (.bool (f y))
abbrev PreL (d m : Nat) : List Sl → Prop := fun as => ∃ (y : PyData) (n : Nat), as = [.d y, .d (.int (n : Int))] ∧ Gd (2 * d + m) y ∧ n + d ≤ 29
theorem strs_lay2 {l : List Str} (h : ∀ z ∈ l, PyData.strOk z = true) : Lay 1 (.list (l.map .str)) := Lay.lst (n := 0) fun y hy => by
  obtain ⟨z, hz, rfl⟩ := List.mem_map.mp hy
  exact Lay.str (h z hz)
theorem Gd.strO {n : Nat} {z : Str} (h : Gd n (.str z)) : PyData.strOk z = true := h.1.1
section
variable {P : Program} {w : World} {K : PySem.W.Frag} {mg : Str → Option Value} {base : Heap}
theorem g_is_index {f : Addr} {fd : FuncData} (F : Fun K "_is_index" "_is_index" S_is_index f fd) (CT : CalP P w K mg base CX0 "_is_tuple_of" 1 (fun as => ∃ y n, as = [.d y, .d (.int n)]) RsT) (CP : CalP P w K mg base CX0 "_is_parts" 2 Any1 (Rs1 isPartsD)) (CN : CalP P w K mg base CX0 "_is_named" 4 Any1 (Rs1 isNamedD)) (z_isinstance : mg "isinstance" = none) (z_tuple : mg "tuple" = none) (z_all : mg "all" = none) (z_sorted : mg "sorted" = none) (z_set : mg "set" = none) : FnOk P w K mg base CX0 5 f fd ["value"] (spP K Any1 (Rs1 isIdxD)) := by
  refine fn_P F sc_is_index (fun as h => by obtain ⟨y, rfl, _⟩ := h; rfl) (by decide) fun cdv A outer s H E hr b as hp => ?_
  obtain ⟨y, rfl, hg⟩ := hp
  have hu := hr.units
  show XB _ _ [.d y, .un, .un, .un, .un] _ _
  rcases two_or y with ⟨u, v, rfl⟩ | hn
  · obtain ⟨_, _, hys⟩ := hg.tupE
    have gu : Gd 60 u := (hys u (by simp)).mono (by omega)
    have gv : Gd 60 v := (hys v (by simp)).mono (by omega)
    rcases tup_or v with ⟨fs, rfl⟩ | hv
    · obtain ⟨hfl, _, hfs⟩ := gv.tupE
      refine xb_cons (x_if (c := !isPartsD u) (t_w (w_or (c1 := false) (c2 := !isPartsD u) (t_not (c := true) (t_val (r_cal CT (hr.mono (by decide)) pass0 (a_cons (r_var 0 rfl (by walk_at "v") rfl) (a_cons r_int a_nil)) rfl ⟨_, _, rfl⟩ (fun r' h => h _ _ rfl)))) fun _ => (t_sub3 (Bool.or_false _) (w_or (c1 := !isPartsD u) (c2 := false) (t_not (t_val (r_cal CP (hr.mono (by decide)) pass0 (a_cons (r_ix (r_var 0 rfl (by walk_at "v") rfl) r_int (ir_at (y := u) (.inr rfl) rfl)) a_nil) rfl ⟨_, rfl, gu⟩ (fun r' h => h _ rfl)))) fun _ => (w_or1 (t_not (t_val (r_isi (t := "tuple") z_isinstance z_tuple (r_ix (r_var 0 rfl (by walk_at "v") rfl) r_int (ir_at (y := .tuple fs) (.inr rfl) rfl)))))))))) (fun h0 => ?_) (fun h0 => ?_))
      · refine xb_one (x_ret r_bl ⟨fun _ e => ?_, by simp⟩)
        cases e
        rw [Bool.not_eq_true'] at h0
        show Sl.d (.bool false) = Sl.d (.bool (isPartsD u && _))
        rw [h0]
        rfl
      refine xb_nil (fun _ => ?_)
      rw [Bool.not_eq_false'] at h0
      refine xb_cons (x_if (c := !(fs.all fun p => isNamedD p && ne2 p)) (t_not (t_val (r_callB (id := "all") z_all (a_cons (r_lc (own := [("pair", 2)]) fs (fun y => y) (fun _ => true) (fun p => .bool (isNamedD p && ne2 p)) (fun g => [.d (.tuple [u, .tuple fs]), .un, .d g, .un, .un]) (i_tup (r_ix (r_var 0 rfl (by walk_at "v") rfl) r_int (ir_at (y := .tuple fs) (.inr rfl) rfl))) (List.map_id' fs).symm rfl sc_is_index.nd (blkOk_by (N := ["value", "counters", "pair", "counter", "_"]) (sc := defScope S_is_index) (by decide +kernel)) (by intro v hv; rw [List.mem_singleton.mp hv]; rfl) (by omega) ?_ ?_ ?_ ?_) a_nil) (cr_allG fs _ rfl)))) (fun h1 => ?_) (fun h1 => ?_))
      · exact fun c hc s H C cl fp => g_name 2 rfl (by walk_at "v") sc_is_index.nd rfl
      · exact fun c hc => rfl
      · exact fun c hc s H C cl fp => ts_nil
      · intro c hc _
        have gc : Gd 60 c := (hfs c hc).mono (by omega)
        cases hnc : isNamedD c with
        | false =>
          refine ⟨.d (.bool (false && false)), fun s H C cl fp => (r_and (c1 := false) (c2 := false) (r_cal CN (hr.mono (by decide)) pass0 (a_cons (r_var 2 rfl (by walk_at "v") rfl) a_nil) rfl ⟨c, rfl, gc⟩ (fun r' h => by rw [h _ rfl, hnc])) (fun h => nomatch h)), rfl⟩
        | true =>
          obtain ⟨z, qs, rfl⟩ := named_sh hnc
          have gq : Gd 60 (.tuple qs) := (gc.tupE.2.2 _ (by simp)).mono (by omega)
          refine ⟨.d (.bool (true && !qs.isEmpty)), fun s H C cl fp => (r_and (c1 := true) (r_cal CN (hr.mono (by decide)) pass0 (a_cons (r_var 2 rfl (by walk_at "v") rfl) a_nil) rfl ⟨_, rfl, gc⟩ (fun r' h => by rw [h _ rfl, hnc])) fun _ => (r_one (r_cmp (r_ix (r_var 2 rfl (by walk_at "v") rfl) r_int (ir_at (y := .tuple qs) (.inr rfl) rfl)) (r_tup a_nil rfl) (fun p h => or_neD (by exact hu) rfl rfl (gq.shaped (by decide)) (by decide +kernel) p (by rw [eqv_nilT]; exact h))))), ?_⟩
          cases qs <;> rfl
      · refine xb_one (x_ret r_bl ⟨fun _ e => ?_, by simp⟩)
        cases e
        rw [Bool.not_eq_true'] at h1
        show Sl.d (.bool false) = Sl.d (.bool (isPartsD u && ((fs.all fun p => isNamedD p && ne2 p) && _)))
        rw [h0, h1]
        rfl
      refine xb_nil (fun _ => ?_)
      rw [Bool.not_eq_false'] at h1
      have e0 : isIdxD (.tuple [u, .tuple fs]) = ordS (fs.map nm1) := by
        show (isPartsD u && ((fs.all fun p => isNamedD p && ne2 p) && ordS (fs.map nm1))) = _
        rw [h0, h1]
        rfl
      obtain ⟨l, rfl⟩ := named_all h1
      have en : (l.map fun g => PyData.tuple [.str g.1, .tuple g.2]).map nm1 = l.map (·.1) := by
        rw [List.map_map]
        rfl
      rw [en] at e0
      rw [List.length_map] at hfl
      refine xb_cons (x_setLc 1 (own := [("counter", 3), ("_", 4)]) l (fun g => .tuple [.str g.1, .tuple g.2]) (fun _ => true) (fun g => .str g.1) (fun g => [.d (.tuple [u, .tuple (l.map fun g => PyData.tuple [.str g.1, .tuple g.2])]), .un, .un, .d (.str g.1), .d (.tuple g.2)]) (i_tup (r_ix (r_var 0 rfl (by walk_at "v") rfl) r_int (ir_at (.inr rfl) rfl))) rfl rfl sc_is_index.nd (blkOk_by (N := ["value", "counters", "pair", "counter", "_"]) (sc := defScope S_is_index) (by decide +kernel)) (by intro v hv; simp at hv; rcases hv with rfl | rfl <;> rfl) (by omega) ?_ ?_ ?_ ?_ rfl (fun _ => ?_))
      · exact fun c hc s H C cl fp => g_tup rfl (gs_cons (g_name 3 rfl (by walk_at "v") sc_is_index.nd rfl) (gs_cons (g_name 4 rfl (by walk_at "v") sc_is_index.nd rfl) gs_nil))
      · exact fun c hc => rfl
      · exact fun c hc s H C cl fp => ts_nil
      · exact fun c hc _ => ⟨_, fun s H C cl fp => r_var 3 rfl (by walk_at "v") rfl, rfl⟩
      have e : (l.filter fun _ => true).map (fun g => PyData.str g.1) = (l.map (·.1)).map .str := by
        rw [List.filter_eq_self.mpr (fun _ _ => rfl), List.map_map]
        rfl
      rw [e]
      have hso : ∀ z ∈ l.map (·.1), PyData.strOk z = true := fun z hz => by
        obtain ⟨g, hgl, rfl⟩ := List.mem_map.mp hz
        have q1 := hfs _ (List.mem_map.mpr ⟨g, hgl, rfl⟩)
        exact (q1.tupE.2.2 (.str g.1) (by simp)).strO
      have hl : Lay 1 (.list ((l.map (·.1)).map .str)) := strs_lay2 hso
      refine xb_frz 1 rfl rfl ?_
      show XB _ _ [.d (.tuple [u, .tuple (l.map fun g => PyData.tuple [.str g.1, .tuple g.2])]), .d (.list ((l.map (·.1)).map .str)), .un, .un, .un] _ _
      refine xb_one (xs_ret (ev_cmp (by first | exact nomark _ | rfl | with_unfolding_all rfl) ((r_var 1 rfl (by walk_at "v") rfl) _ (ev_sortedSetD rfl z_sorted z_set (r_var 1 rfl (by walk_at "v") rfl) rfl (by rw [List.length_map]; omega) fun ys a1 a2 => ?_))))
      have hly : Lay 1 (.list (ys.map .str)) := strs_lay2 fun z hz => hso z (SS.ddS_mem.mp (a1.mem_iff.mp hz))
      refine or_eqD (by exact hu) rfl rfl (hl.shaped (by decide)) (hly.shaped (by decide)) _ fun _ => ?_
      refine ⟨fun _ e => ?_, by simp⟩
      cases e
      rw [e0, ord_eq a1 a2]
    · refine xb_cons (x_if (c := true) (t_w (w_or (c1 := false) (c2 := true) (t_not (c := true) (t_val (r_cal CT (hr.mono (by decide)) pass0 (a_cons (r_var 0 rfl (by walk_at "v") rfl) (a_cons r_int a_nil)) rfl ⟨_, _, rfl⟩ (fun r' h => h _ _ rfl)))) fun _ => (t_sub3 (Bool.or_true _) (w_or (c1 := !isPartsD u) (c2 := true) (t_not (t_val (r_cal CP (hr.mono (by decide)) pass0 (a_cons (r_ix (r_var 0 rfl (by walk_at "v") rfl) r_int (ir_at (y := u) (.inr rfl) rfl)) a_nil) rfl ⟨_, rfl, gu⟩ (fun r' h => h _ rfl)))) fun _ => (w_or1 (t_not (c := false) (t_sub hv.1 (r_isi (t := "tuple") z_isinstance z_tuple (r_ix (r_var 0 rfl (by walk_at "v") rfl) r_int (ir_at (y := v) (.inr rfl) rfl)))))))))) (fun h0 => ?_) (fun h0 => nomatch h0))
      refine xb_one (x_ret r_bl ⟨fun _ e => ?_, by simp⟩)
      cases e
      have : isIdxD (.tuple [u, v]) = false := by
        cases v with
        | tuple ys => exact absurd rfl (hv.2 ys)
        | _ => rfl
      rw [this]
  · refine xb_cons (x_if (c := true) (t_w (w_or (c1 := true) (c2 := false) (t_not (c := false) (t_val (r_cal CT (hr.mono (by decide)) pass0 (a_cons (r_var 0 rfl (by walk_at "v") rfl) (a_cons r_int a_nil)) rfl ⟨_, _, rfl⟩ (fun r' h => by rw [h _ _ rfl, hn.1])))) fun h => nomatch h)) (fun h0 => ?_) (fun h0 => nomatch h0))
    refine xb_one (x_ret r_bl ⟨fun _ e => ?_, by simp⟩)
    cases e
    rw [idx_ne hn.2]
end

end K08

namespace K08
open PySem L2 SZ VR VX StX RT DE
def bOf : Nat → PyData → Bool
  | 0 => fun _ => false
  | e + 1 => isBlD (isStD e)
theorem isStD_of (d : Nat) : isStD d = isSt0 (bOf d) := by
  cases d <;> rfl
theorem st_ne {B : PyData → Bool} {y : PyData} (h : ∀ z r, y ≠ .tuple (.str z :: r)) : isSt0 B y = false := by
  unfold isSt0
  split
  · exact absurd rfl (h _ _)
  · rfl
theorem sub_tt (ys : List PyData) : subTy (tyD (.tuple ys)) "tuple" = true := by show subTy "tuple" "tuple" = true; decide
theorem sub_ss (z : Str) : subTy (tyD (.str z)) "str" = true := by show subTy "str" "str" = true; decide
theorem gl_int1 {X : Cx} {x : Str} {i : Int} {t : Tok} (h : X.mg x = some (.int i t)) : GlD X x (.int i) := ⟨.int i, .int i t, h, ⟨t, rfl⟩, fun G => .int i⟩
section
variable {P : Program} {w : World} {K : PySem.W.Frag} {mg : Str → Option Value} {base : Heap}
theorem g_is_statement {f : Addr} {fd : FuncData} (F : Fun K "_is_statement" "_is_statement" S_is_statement f fd) (CN : CalP P w K mg base CX0 "is_name" 3 Any1 (Rs1 isNameD)) (CD : CalP P w K mg base CX0 "_is_named" 4 Any1 (Rs1 isNamedD)) (CI : CalP P w K mg base CX0 "_is_index" 5 Any1 (Rs1 isIdxD)) (mD : ∃ t, mg "_DEEPEST" = some (.int 30 t)) (z_isinstance : mg "isinstance" = none) (z_tuple : mg "tuple" = none) (z_str : mg "str" = none) (z_len : mg "len" = none)
    (d : Nat) (CB : ∀ e, d = e + 1 → CalP P w K mg base CX0 "_is_block" (7 + 2 * e) (PreL e 2) (RsL (isBlD (isStD e)))) : FnOk P w K mg base CX0 (6 + 2 * d) f fd ["value", "loops"] (spP K (PreL d 1) (RsL (isStD d))) := by
  have e6 : 6 + 2 * d = (5 + 2 * d) + 1 := by omega
  rw [e6]
  refine fn_P F sc_is_statement (fun as h => by obtain ⟨y, n, rfl, _⟩ := h; rfl) (by decide) fun cdv A outer s H E hr b as hp => ?_
  obtain ⟨y, n, rfl, hg, hn⟩ := hp
  have hu := hr.units
  obtain ⟨tD, mD⟩ := mD
  rw [isStD_of]
  show XB _ _ [.d y, .d (.int (n : Int))] _ _
  rcases tup_or y with ⟨ys, rfl⟩ | hy
  · obtain ⟨hl60, hd1, hys⟩ := hg.tupE
    match ys, hg, hl60, hys with
    | [], hg, _, _ =>
      refine xb_cons (x_if (c := true) (t_w (w_or (c1 := false) (c2 := true) (t_not (c := true) (t_sub (sub_tt _) (r_isi (t := "tuple") z_isinstance z_tuple (r_var 0 rfl (by walk_at "v") rfl)))) fun _ => (w_or (c1 := true) (c2 := false) (t_cmp (r_var 0 rfl (by walk_at "v") rfl) (r_tup a_nil rfl) (fun p h => or_eqD (by exact hu) rfl rfl (by decide +kernel) (by decide +kernel) p (by rw [eqv_nilT]; exact h))) fun h => nomatch h))) (fun h0 => ?_) (fun h0 => nomatch h0))
      refine xb_one (x_ret r_bl ⟨fun _ _ e => ?_, by simp⟩)
      cases e
      rfl
    | x :: r, hg, hl60, hys =>
      rcases str_or x with ⟨z, rfl⟩ | hx
      · refine xb_cons (x_if (c := false) (t_w (w_or (c1 := false) (c2 := false) (t_not (c := true) (t_sub (sub_tt _) (r_isi (t := "tuple") z_isinstance z_tuple (r_var 0 rfl (by walk_at "v") rfl)))) fun _ => (w_or (c1 := false) (c2 := false) (t_cmp (r_var 0 rfl (by walk_at "v") rfl) (r_tup a_nil rfl) (fun p h => or_eqD (by exact hu) rfl rfl (hg.shaped (by omega)) (by decide +kernel) p (by rw [eqv_nilT]; exact h))) fun _ => (w_or1 (t_not (c := true) (t_sub (sub_ss z) (r_isi (t := "str") z_isinstance z_str (r_ix (r_var 0 rfl (by walk_at "v") rfl) r_int (ir_at (y := .str z) (.inr rfl) at0))))))))) (fun h0 => nomatch h0) (fun h0 => ?_))
        refine xb_nil (fun _ => ?_)
        refine xb_cons (x_if (t_cmp (r_ix (r_var 0 rfl (by walk_at "v") rfl) r_int (ir_at (y := .str z) (.inr rfl) at0)) r_str (by walk_at "o")) (fun h1 => ?_) (fun h1 => ?_))
        · have h1 : z = "flush" := of_decide_eq_true h1
          refine xb_one (x_ret (r_cmp (r_callB (id := "len") z_len (a_cons (r_var 0 rfl (by walk_at "v") rfl) a_nil) (by walk_at "c")) r_int (by walk_at "o")) ?_)
          refine ⟨fun _ _ e => ?_, by simp⟩
          cases e
          show _ = Sl.d (.bool (if z = "flush" then r.isEmpty else _))
          rw [if_pos h1]
          cases r with
          | nil => rfl
          | cons u r => 
            show Sl.d (.bool (decide ((((PyData.str z :: u :: r).length : Nat) : Int) = 1))) = _
            rw [decide_eq_false (by simp only [List.length_cons]; omega)]
            rfl
        refine xb_nil (fun _ => ?_)
        have h1 : ¬ z = "flush" := of_decide_eq_false h1
        refine xb_cons (x_if (t_cmp (r_ix (r_var 0 rfl (by walk_at "v") rfl) r_int (ir_at (y := .str z) (.inr rfl) at0)) r_str (by walk_at "o")) (fun h2 => ?_) (fun h2 => ?_))
        · have h2 : z = "for" := of_decide_eq_true h2
          have eG : isSt0 (bOf d) (.tuple (.str z :: r)) = isFor (bOf d) r := by
            show (if z = "flush" then r.isEmpty else if z = "for" then isFor (bOf d) r else _) = _
            rw [if_neg h1, if_pos h2]
          by_cases h3 : r.length = 3
          · match r, h3, hys, hg, hl60, eG with
            | [u, v, c], _, hys, hg, _, eG =>
              have gu := hys u (by simp)
              have gv := hys v (by simp)
              have gc := hys c (by simp)
              have hlt : ((n : Int) < 30) := by omega
              have guv : Gd 60 (.tuple [u, v]) := (Gd.tup (n := 2 * d + 1 - 1) (by simp) (fun y hy => by
                simp only [List.mem_cons, List.not_mem_nil, or_false] at hy
                rcases hy with rfl | rfl
                · exact gu
                · exact gv)).mono (by omega)
              refine xb_one (x_ret (r_and (c1 := true) (c2 := true && (isNamedD (.tuple [u, v]) && bOf d c)) (r_cmp (r_callB (id := "len") z_len (a_cons (r_var 0 rfl (by walk_at "v") rfl) a_nil) (fun p h => cv_lenT (ys := [.str z, u, v, c]) h)) r_int (fun p h => ov_eqInt (by rw [decide_eq_true (show ((([.str z, u, v, c] : List PyData).length : Nat) : Int) = 4 from rfl)]; exact h))) fun _ => (r_and (c1 := true) (r_cmp (r_var 1 rfl (by walk_at "v") rfl) (r_glob (gl_int1 mD) rfl) (fun p h => ov_lt (by rw [decide_eq_true hlt]; exact h))) fun _ => (r_and (r_cal CD (hr.mono (by omega)) pass0 (a_cons (r_slice (r2 := .d (.tuple [u, v])) (r_var 0 rfl (by walk_at "v") rfl) (fun _ => o_some r_int) (fun _ => o_some r_int) (fun p h => .tup h)) a_nil) rfl ⟨_, rfl, guv⟩ (fun r' h => h _ rfl)) fun hnm => (r_one (?_))))) ?_)
              · cases d with
                | zero =>
                  exfalso
                  obtain ⟨_, _, e⟩ := named_sh hnm
                  simp only [PyData.tuple.injEq, List.cons.injEq, and_true] at e
                  obtain ⟨rfl, rfl⟩ := e
                  exact absurd gv.tupE.2.1 (by decide)
                | succ e =>
                  exact r_cal (CB e rfl) (hr.mono (by omega)) pass0 (a_cons (r_ix (r_var 0 rfl (by walk_at "v") rfl) r_int (ir_at (y := c) (.inr rfl) rfl)) (a_cons (r_bin (r_var 1 rfl (by walk_at "v") rfl) r_int (by walk_at "o")) a_nil)) rfl ⟨c, n + 1, by rw [show ((n + 1 : Nat) : Int) = (n : Int) + 1 by omega]; rfl, gc.mono (by omega), by omega⟩ (fun r' h => h _ _ rfl)
              · refine ⟨fun _ _ e => ?_, by simp⟩
                cases e
                rw [eG]
                rfl
          · have hl4 : decide ((((PyData.str z :: r).length : Nat) : Int) = 4) = false := decide_eq_false (by simp only [List.length_cons]; omega)
            refine xb_one (x_ret (r_and (c1 := false) (c2 := false) (r_cmp (r_callB (id := "len") z_len (a_cons (r_var 0 rfl (by walk_at "v") rfl) a_nil) (fun p h => cv_lenT (ys := .str z :: r) h)) r_int (fun p h => ov_eqInt (by rw [hl4]; exact h))) fun h => nomatch h) ?_)
            refine ⟨fun _ _ e => ?_, by simp⟩
            cases e
            rw [eG]
            match r, h3 with
            | [], _ => rfl
            | [_], _ => rfl
            | [_, _], _ => rfl
            | [_, _, _], h => exact absurd rfl h
            | _ :: _ :: _ :: _ :: _, _ => rfl
        refine xb_nil (fun _ => ?_)
        have h2 : ¬ z = "for" := of_decide_eq_false h2
        have eG : isSt0 (bOf d) (.tuple (.str z :: r)) = ((z == "read" || z == "write") && isAcc r) := by
          show (if z = "flush" then r.isEmpty else if z = "for" then isFor (bOf d) r else _) = _
          rw [if_neg h1, if_neg h2]
        have hc : List.contains (["read", "write"] : List Str) z = (z == "read" || z == "write") := by
          simp only [List.contains_cons, List.contains_nil, Bool.or_false]
        by_cases h3 : r.length = 2
        · match r, h3, hys, hg, hl60, eG with
          | [u, v], _, hys, hg, _, eG =>
            have gu : Gd 60 u := (hys u (by simp)).mono (by omega)
            have gv : Gd 60 v := (hys v (by simp)).mono (by omega)
            refine xb_one (x_ret (r_and (c2 := true && (isNameD u && isIdxD v)) (r_cmp (r_ix (r_var 0 rfl (by walk_at "v") rfl) r_int (ir_at (y := .str z) (.inr rfl) at0)) (r_tup (a_cons r_str (a_cons r_str a_nil)) rfl) (by walk_at "o")) fun _ => (r_and (c1 := true) (r_cmp (r_callB (id := "len") z_len (a_cons (r_var 0 rfl (by walk_at "v") rfl) a_nil) (fun p h => cv_lenT (ys := [.str z, u, v]) h)) r_int (fun p h => ov_eqInt (by rw [decide_eq_true (show ((([.str z, u, v] : List PyData).length : Nat) : Int) = 3 from rfl)]; exact h))) fun _ => (r_and (r_cal CN (hr.mono (by omega)) pass0 (a_cons (r_ix (r_var 0 rfl (by walk_at "v") rfl) r_int (ir_at (y := u) (.inr rfl) rfl)) a_nil) rfl ⟨_, rfl, gu⟩ (fun r' h => h _ rfl)) fun _ => (r_one (r_cal CI (hr.mono (by omega)) pass0 (a_cons (r_ix (r_var 0 rfl (by walk_at "v") rfl) r_int (ir_at (y := v) (.inr rfl) rfl)) a_nil) rfl ⟨_, rfl, gv⟩ (fun r' h => h _ rfl)))))) ?_)
            refine ⟨fun _ _ e => ?_, by simp⟩
            cases e
            rw [eG, ← hc]
            rfl
        · have hl4 : decide ((((PyData.str z :: r).length : Nat) : Int) = 3) = false := decide_eq_false (by simp only [List.length_cons]; omega)
          refine xb_one (x_ret (r_and (c2 := false && false) (r_cmp (r_ix (r_var 0 rfl (by walk_at "v") rfl) r_int (ir_at (y := .str z) (.inr rfl) at0)) (r_tup (a_cons r_str (a_cons r_str a_nil)) rfl) (by walk_at "o")) fun _ => (r_and (c1 := false) (c2 := false) (r_cmp (r_callB (id := "len") z_len (a_cons (r_var 0 rfl (by walk_at "v") rfl) a_nil) (fun p h => cv_lenT (ys := .str z :: r) h)) r_int (fun p h => ov_eqInt (by rw [hl4]; exact h))) fun h => nomatch h)) ?_)
          refine ⟨fun _ _ e => ?_, by simp⟩
          cases e
          have ea : isAcc r = false := by
            match r, h3 with
            | [], _ => rfl
            | [_], _ => rfl
            | [_, _], h => exact absurd rfl h
            | _ :: _ :: _ :: _, _ => rfl
          rw [eG, ea, Bool.and_false]
          simp
      · refine xb_cons (x_if (c := true) (t_w (w_or (c1 := false) (c2 := true) (t_not (c := true) (t_sub (sub_tt _) (r_isi (t := "tuple") z_isinstance z_tuple (r_var 0 rfl (by walk_at "v") rfl)))) fun _ => (w_or (c1 := false) (c2 := true) (t_cmp (r_var 0 rfl (by walk_at "v") rfl) (r_tup a_nil rfl) (fun p h => or_eqD (by exact hu) rfl rfl (hg.shaped (by omega)) (by decide +kernel) p (by rw [eqv_nilT]; exact h))) fun _ => (w_or1 (t_not (c := false) (t_sub hx.1 (r_isi (t := "str") z_isinstance z_str (r_ix (r_var 0 rfl (by walk_at "v") rfl) r_int (ir_at (y := x) (.inr rfl) at0))))))))) (fun h0 => ?_) (fun h0 => nomatch h0))
        refine xb_one (x_ret r_bl ⟨fun _ _ e => ?_, by simp⟩)
        cases e
        rw [st_ne (fun z r' e => by
          simp only [PyData.tuple.injEq, List.cons.injEq] at e
          exact hx.2 z e.1)]
  · refine xb_cons (x_if (c := true) (t_w (w_or (c1 := true) (c2 := false) (t_not (c := false) (t_sub hy.1 (r_isi (t := "tuple") z_isinstance z_tuple (r_var 0 rfl (by walk_at "v") rfl)))) fun h => nomatch h)) (fun h0 => ?_) (fun h0 => nomatch h0))
    refine xb_one (x_ret r_bl ⟨fun _ _ e => ?_, by simp⟩)
    cases e
    rw [st_ne fun z r => hy.2 _]
theorem g_is_block {fS fB : Addr} {dS dB : FuncData} (FS : Fun K "_is_statement" "_is_statement" S_is_statement fS dS) (gS : mg "_is_statement" = some (.ref fS)) (bS : Binds K dS ["value", "loops"] []) (FB : Fun K "_is_block" "_is_block" S_is_block fB dB) (gB : mg "_is_block" = some (.ref fB)) (bB : Binds K dB ["value", "loops"] [])
    (CN : CalP P w K mg base CX0 "is_name" 3 Any1 (Rs1 isNameD)) (CD : CalP P w K mg base CX0 "_is_named" 4 Any1 (Rs1 isNamedD)) (CI : CalP P w K mg base CX0 "_is_index" 5 Any1 (Rs1 isIdxD)) (mD : ∃ t, mg "_DEEPEST" = some (.int 30 t)) (z_isinstance : mg "isinstance" = none) (z_tuple : mg "tuple" = none) (z_str : mg "str" = none) (z_len : mg "len" = none) (z_all : mg "all" = none) :
    ∀ d : Nat, CalP P w K mg base CX0 "_is_block" (7 + 2 * d) (PreL d 2) (RsL (isBlD (isStD d))) := by
  intro d
  induction d with
  | zero => 
    have CS : CalP P w K mg base CX0 "_is_statement" (6 + 2 * 0) (PreL 0 1) (RsL (isStD 0)) := ⟨⟨_, _, _, g_is_statement FS CN CD CI mD z_isinstance z_tuple z_str z_len 0 (fun e h => by omega), gS, FS.kp, bS⟩⟩
    exact ⟨⟨_, _, _, go FB CS z_isinstance z_tuple z_all, gB, FB.kp, bB⟩⟩
  | succ d ih =>
    have CS : CalP P w K mg base CX0 "_is_statement" (6 + 2 * (d + 1)) (PreL (d + 1) 1) (RsL (isStD (d + 1))) := ⟨⟨_, _, _, g_is_statement FS CN CD CI mD z_isinstance z_tuple z_str z_len (d + 1) (fun e h => (Nat.succ.inj h) ▸ ih), gS, FS.kp, bS⟩⟩
    exact ⟨⟨_, _, _, go FB CS z_isinstance z_tuple z_all, gB, FB.kp, bB⟩⟩
where
  go {d : Nat} {fB : Addr} {dB : FuncData} (FB : Fun K "_is_block" "_is_block" S_is_block fB dB) (CS : CalP P w K mg base CX0 "_is_statement" (6 + 2 * d) (PreL d 1) (RsL (isStD d))) (z_isinstance : mg "isinstance" = none) (z_tuple : mg "tuple" = none) (z_all : mg "all" = none) : FnOk P w K mg base CX0 (7 + 2 * d) fB dB ["value", "loops"] (spP K (PreL d 2) (RsL (isBlD (isStD d)))) := by
    have e7 : 7 + 2 * d = (6 + 2 * d) + 1 := by omega
    rw [e7]
    refine fn_P FB sc_is_block (fun as h => by obtain ⟨b, n, rfl, _⟩ := h; rfl) (by decide) fun cdv A outer s H E hr b as hp => ?_
    obtain ⟨y, n, rfl, hg, hn⟩ := hp
    show XB _ _ [.d y, .d (.int (n : Int)), .un] _ _
    rcases tup_or y with ⟨ys, rfl⟩ | hy
    · obtain ⟨hl, _, hys⟩ := hg.tupE
      refine xb_one (x_ret (r_and (c2 := ys.all (isStD d)) (r_isi (t := "tuple") z_isinstance z_tuple (r_var 0 rfl (by walk_at "v") rfl)) fun _ => (r_one (r_callB (id := "all") z_all (a_cons (r_lc (own := [("part", 2)]) ys (fun y => y) (fun _ => true) (fun y => .bool (isStD d y)) (fun t => [.d (.tuple ys), .d (.int (n : Int)), .d t]) (i_tup (r_var 0 rfl (by walk_at "v") rfl)) (List.map_id' ys).symm rfl sc_is_block.nd (blkOk_by (N := ["value", "loops", "part"]) (sc := defScope S_is_block) (by decide +kernel)) (by intro v hv; rw [List.mem_singleton.mp hv]; rfl) (by omega) ?_ ?_ ?_ ?_) a_nil) (cr_allG ys _ rfl)))) ?_)
      · exact fun c hc s H C cl fp => g_name 2 rfl (by walk_at "v") sc_is_block.nd rfl
      · exact fun c hc => rfl
      · exact fun c hc s H C cl fp => ts_nil
      · exact fun c hc _ => ⟨_, fun s H C cl fp => r_cal CS hr pass0 (a_cons (r_var 2 rfl (by walk_at "v") rfl) (a_cons (r_var 1 rfl (by walk_at "v") rfl) a_nil)) rfl ⟨c, n, rfl, (hys c hc).mono (by omega), hn⟩ (fun r' h => h _ _ rfl), rfl⟩
      · refine ⟨fun _ _ e => ?_, by simp⟩
        cases e
        rfl
    · refine xb_one (x_ret (r_and (c2 := false) (r_isi (t := "tuple") z_isinstance z_tuple (r_var 0 rfl (by walk_at "v") rfl)) fun h => absurd (hy.1.symm.trans h) (by decide)) ?_)
      refine ⟨fun _ _ e => ?_, by simp⟩
      cases e
      rw [hy.1]
      cases y with
      | tuple ys => exact absurd rfl (hy.2 ys)
      | _ => rfl
abbrev PreTG (d : Nat) : List Sl → Prop := fun as => ∃ y, as = [.d y] ∧ Gd (2 * d + 3) y
theorem g_is_tree {f : Addr} {fd : FuncData} (F : Fun K "is_tree" "is_tree" S_is_tree f fd) (CT : CalP P w K mg base CX0 "_is_tuple_of" 1 (fun as => ∃ y n, as = [.d y, .d (.int n)]) RsT) (CD : CalP P w K mg base CX0 "_is_named" 4 Any1 (Rs1 isNamedD)) (d : Nat) (hd30 : d ≤ 28) (CB : CalP P w K mg base CX0 "_is_block" (7 + 2 * d) (PreL d 2) (RsL (isBlD (isStD d)))) (z_isinstance : mg "isinstance" = none) (z_tuple : mg "tuple" = none) (z_all : mg "all" = none) : FnOk P w K mg base CX0 (8 + 2 * d) f fd ["value"] (spP K (PreTG d) (Rs1 (isTrD d))) := by
  have e8 : 8 + 2 * d = (7 + 2 * d) + 1 := by omega
  rw [e8]
  refine fn_P F sc_is_tree (fun as h => by obtain ⟨y, rfl, _⟩ := h; rfl) (by decide) fun cdv A outer s H E hr b as hp => ?_
  obtain ⟨y, rfl, hg⟩ := hp
  show XB _ _ [.d y, .un, .un, .un] _ _
  rcases two_or y with ⟨u, v, rfl⟩ | hn
  · obtain ⟨_, _, hys⟩ := hg.tupE
    have gu := hys u (by simp)
    have gv := hys v (by simp)
    refine xb_cons (x_if (c := false) (t_not (c := true) (t_val (r_cal CT (hr.mono (by omega)) pass0 (a_cons (r_var 0 rfl (by walk_at "v") rfl) (a_cons r_int a_nil)) rfl ⟨_, _, rfl⟩ (fun r' h => h _ _ rfl)))) (fun h0 => (nomatch h0)) (fun h0 => ?_))
    refine xb_nil (fun _ => ?_)
    refine xb_cons (xs_asg (ts := [1, 2]) (h := (r_var 0 rfl (by walk_at "v") rfl) _ fun _ => (g_tup (ys := [u, v]) rfl (gs_cons (g_name 1 rfl (by walk_at "v") sc_is_tree.nd rfl) (gs_cons (g_name 2 rfl (by walk_at "v") sc_is_tree.nd rfl) gs_nil))) _ fun _ _ => ?_))
    show XB _ _ [.d (.tuple [u, v]), .d u, .d v, .un] _ _
    rcases tup_or u with ⟨ars, rfl⟩ | hu'
    · obtain ⟨hl, _, har⟩ := gu.tupE
      refine xb_cons (x_if (c := !ars.all isNamedD) (t_w (w_or (c1 := false) (c2 := !ars.all isNamedD) (t_not (c := true) (t_sub (sub_tt _) (r_isi (t := "tuple") z_isinstance z_tuple (r_var 1 rfl (by walk_at "v") rfl)))) fun _ => (w_or1 (t_not (t_val (r_callB (id := "all") z_all (a_cons (r_lc (own := [("pair", 3)]) ars (fun y => y) (fun _ => true) (fun y => .bool (isNamedD y)) (fun g => [.d (.tuple [.tuple ars, v]), .d (.tuple ars), .d v, .d g]) (i_tup (r_var 1 rfl (by walk_at "v") rfl)) (List.map_id' ars).symm rfl sc_is_tree.nd (blkOk_by (N := ["value", "arrays", "block", "pair"]) (sc := defScope S_is_tree) (by decide +kernel)) (by intro v hv; rw [List.mem_singleton.mp hv]; rfl) (by omega) ?_ ?_ ?_ ?_) a_nil) (cr_allG ars _ rfl))))))) (fun h0 => ?_) (fun h0 => ?_))
      · exact fun c hc s H C cl fp => g_name 3 rfl (by walk_at "v") sc_is_tree.nd rfl
      · exact fun c hc => rfl
      · exact fun c hc s H C cl fp => ts_nil
      · exact fun c hc _ => ⟨_, fun s H C cl fp => r_cal CD (hr.mono (by omega)) pass0 (a_cons (r_var 3 rfl (by walk_at "v") rfl) a_nil) rfl ⟨c, rfl, (har c hc).mono (by omega)⟩ (fun r' h => h _ rfl), rfl⟩
      · refine xb_one (x_ret r_bl ⟨fun _ e => ?_, by simp⟩)
        cases e
        rw [Bool.not_eq_true'] at h0
        show Sl.d (.bool false) = Sl.d (.bool (ars.all isNamedD && isBlD (isStD d) v))
        rw [h0]
        rfl
      refine xb_nil (fun _ => ?_)
      rw [Bool.not_eq_false'] at h0
      refine xb_one (x_ret (r_cal CB hr pass0 (a_cons (r_var 2 rfl (by walk_at "v") rfl) (a_cons r_int a_nil)) rfl ⟨v, 0, rfl, gv.mono (by omega), by omega⟩ (fun r' h => h _ _ rfl)) ?_)
      refine ⟨fun _ e => ?_, by simp⟩
      cases e
      show _ = Sl.d (.bool (ars.all isNamedD && isBlD (isStD d) v))
      rw [h0, Bool.true_and]
    · refine xb_cons (x_if (c := true) (t_w (w_or (c1 := true) (c2 := false) (t_not (c := false) (t_sub hu'.1 (r_isi (t := "tuple") z_isinstance z_tuple (r_var 1 rfl (by walk_at "v") rfl)))) fun h => nomatch h)) (fun h0 => ?_) (fun h0 => nomatch h0))
      refine xb_one (x_ret r_bl ⟨fun _ e => ?_, by simp⟩)
      cases e
      have : isTrD d (.tuple [u, v]) = false := by
        cases u with
        | tuple ys => exact absurd rfl (hu'.2 ys)
        | _ => rfl
      rw [this]
  · refine xb_cons (x_if (c := true) (t_not (c := false) (t_val (r_cal CT (hr.mono (by omega)) pass0 (a_cons (r_var 0 rfl (by walk_at "v") rfl) (a_cons r_int a_nil)) rfl ⟨_, _, rfl⟩ (fun r' h => by rw [h _ _ rfl, hn.1])))) (fun h0 => ?_) (fun h0 => nomatch h0))
    refine xb_one (x_ret r_bl ⟨fun _ e => ?_, by simp⟩)
    cases e
    rw [tr_ne hn.2]
end

end K08

namespace K08
open PySem L2 SZ VR VX StX RT DE
/-! ### a program made -/
structure PgC (K : PySem.W.Frag) (mg : Str → Option Value) (C : Addr) : Prop where
  kit : InsKit K C
  nT : NoAttr K C "_tree"
  nS : NoAttr K C "_sizes"
  nA : NoAttr K C "_accesses"
  isC : PySem.W.isClsIn K C = true
  tyC : PySem.W.typeIn K (.ref C) = some (.type "type")
  mgC : mg "Program" = some (.ref C)
/-- a program stands at a -/
def acD (bl : List Tre) : PyData := .tuple (((stB bl).filter isAc).map trD)
theorem dp_tupE {K : PySem.W.Frag} {G : Hp} {v : V} {ys : List PyData} (h : Dp K G v (.tuple ys)) : ∃ a xs, v = .ref a ∧ SqT K G a xs ∧ DpAll K G xs ys := by
  cases h with
  | tup h1 h2 => exact ⟨_, _, rfl, h1, h2⟩
theorem dp_pairE {K : PySem.W.Frag} {G : Hp} {xs : List V} {y1 y2 : PyData} (h : DpAll K G xs [y1, y2]) : ∃ x1 x2, xs = [x1, x2] ∧ Dp K G x1 y1 ∧ Dp K G x2 y2 := by
  cases h with
  | cons h1 h2 =>
    cases h2 with
    | cons h3 h4 =>
      cases h4
      exact ⟨_, _, rfl, h1, h3⟩
structure PgOk (ars : List Fc) (bl : List Tre) (d : Nat) : Prop where
  a : ArG ars
  x : ExOk ars bl d
  nd : (ars.map (·.1)).Nodup
  nk : NkB (ars.map (·.1)) bl []
def spPInit (K : PySem.W.Frag) (C : Addr) (ars : List Fc) (bl : List Tre) : Sp := fun vs H Q _ => ∃ (p dx : Addr) (tv : V) (G : Hp), vs = [.ref p, tv] ∧ H p = some (.ins C dx []) ∧ Same G H ∧ FlO G ∧ G p = none ∧ Dp K G tv (treeD ars bl) ∧
  ∀ H' : Hp, ButR p H H' → Q .non H'
section
variable {X : Cx} {b : Bs} {ρ ρ2 : List Sl} {st : Stmt} {rest : List Stmt} {D : Ends} {σ : L2.St} {H : Hp}
/-- one statement in DE, what follows read raw -/
theorem de_step (h : XS X b ρ st ⟨fun ρ' => ρ' = ρ2, fun _ _ => False, fun _ => False, fun _ => False⟩) (l : σ.length = ρ.length) (hh : Hold X.K b H (σ.zip ρ)) (k : ∀ σ' H', σ'.length = ρ2.length → Hold X.K b H' (σ'.zip ρ2) → WSs X rest D σ' H') : WSs X (st :: rest) D σ H :=
  ⟨_, pss_cons (ws_ps st) (wss_pss rest), h σ H [] { D with nx := WSs X rest D } l (by rw [List.append_nil]; exact hh) ⟨fun ρ' σ' H' e l' n' hh' => by
    subst e
    rw [List.append_nil] at hh'
    exact k σ' H' l' hh', fun _ _ _ _ _ z => z.elim, fun _ _ _ z => z.elim, fun _ _ _ z => z.elim⟩⟩
end
theorem rebase {K : PySem.W.Frag} {b : Bs} {G H H1 : Hp} {M : List Cl} (h : HoldG K b G H M) (s : Same G H1) (hf : ∀ c ∈ M, flatS c.2 = true) : HoldG K ⟨G, H1, []⟩ G H1 M :=
  ⟨Same.refl _, s, fun a o e => .inl e, fun a o e _ => e, fun a ha => (nomatch ha), fun c hc => by
    have ok := h.ok c hc
    have := hf c hc
    rcases c with ⟨x, s⟩
    cases s with
    | un => trivial
    | d y => exact ok
    | fact φ st => exact ok
    | own ys => exact absurd this Bool.false_ne_true
    | bor ys => exact absurd this Bool.false_ne_true
    | dct o kvs => exact absurd this Bool.false_ne_true, by rw [flat_ads hf]; exact List.nodup_nil, h.fl⟩
abbrev slf (p : Addr) : Sl := .fact (fun v _ => v = .ref p) (fun _ _ _ _ h => h)
theorem seven {σ : L2.St} {n : Nat} (h : σ.length = 7) : ∃ x0 x1 x2 x3 x4 x5 x6, σ = [x0, x1, x2, x3, x4, x5, x6] := by
  obtain ⟨x0, r, rfl⟩ := List.exists_cons_of_length_eq_add_one h
  have h1 := Nat.succ.inj h
  obtain ⟨x1, r, rfl⟩ := List.exists_cons_of_length_eq_add_one h1
  have h2 := Nat.succ.inj h1
  obtain ⟨x2, r, rfl⟩ := List.exists_cons_of_length_eq_add_one h2
  have h3 := Nat.succ.inj h2
  obtain ⟨x3, r, rfl⟩ := List.exists_cons_of_length_eq_add_one h3
  have h4 := Nat.succ.inj h3
  obtain ⟨x4, r, rfl⟩ := List.exists_cons_of_length_eq_add_one h4
  have h5 := Nat.succ.inj h4
  obtain ⟨x5, r, rfl⟩ := List.exists_cons_of_length_eq_add_one h5
  have h6 := Nat.succ.inj h5
  obtain ⟨x6, r, rfl⟩ := List.exists_cons_of_length_eq_add_one h6
  have h7 := Nat.succ.inj h6
  cases r with
  | nil => exact ⟨x0, x1, x2, x3, x4, x5, x6, rfl⟩
  | cons _ _ => cases h7
section
variable {P : Program} {w : World} {K : PySem.W.Frag} {mg : Str → Option Value} {base : Heap} {C : Addr}
theorem ok_pinit {f : Addr} {fd : FuncData} (F : Fun K "__init__" "Program.__init__" S_Program___init__ f fd) (Z : PgC K mg C) {d : Nat} {ars : List Fc} {bl : List Tre} (ok : PgOk ars bl d) {dT : Nat} (CT : CalP P w K mg base CX0 "is_tree" (8 + 2 * dT) (PreTG dT) (Rs1 (isTrD dT))) (hT : isTrD dT (treeD ars bl) = true) (hG : Gd (2 * dT + 3) (treeD ars bl)) (hdT : d ≤ dT)
    (CX : CalP P w K mg base CX0 "excess" (d + 3) (fun as => as = [.d (treeD ars bl)]) fun _ r => r = .d .none) (CN : CalP P w K mg base CX0 "check_names" (d + 2) (fun as => as = [.d (treeD ars bl)]) fun _ r => r = .d .none)
    (CA : CalP P w K mg base CX0 "accesses_of" (d + 2) (fun as => as = [.d (.tuple (blD bl))]) fun _ r => r = .own (((stB bl).filter isAc).map trD)) (z_tuple : mg "tuple" = none) : FnOk P w K mg base CX0 (9 + 2 * dT) f fd ["self", "tree"] (spPInit K C ars bl) := by
  have e9 : 9 + 2 * dT = (8 + 2 * dT) + 1 := by omega
  rw [e9]
  refine F.ok sc_Program___init__ (fun vs H Q E h => by obtain ⟨p, dx, tv, G, rfl, _⟩ := h; rfl) (fun cdv A outer s H vs Q E hr h => ?_)
  obtain ⟨p, dx, tv, G, rfl, hp, sG, fl, gp, hd, q⟩ := h
  have h0 : HoldG K ⟨G, H, []⟩ G H ([some (.ref p), some tv, none, none, none, none, none].zip [slf p, .d (treeD ars bl), .un, .un, .un, .un, .un]) := ⟨Same.refl _, sG, fun a o e => .inl e, fun a o e _ => e, fun a ha => (nomatch ha), fun c hc => by
    simp at hc
    rcases hc with rfl | rfl | rfl
    · exact ⟨_, rfl, rfl⟩
    · exact ⟨_, rfl, hd⟩
    · trivial, by cases tv <;> simp [ads], fl⟩
  have hl8 := ok.x.a.n
  have hr2 := hr.mono (show d + 2 ≤ 8 + 2 * dT by omega)
  show WSs _ _ _ [some (.ref p), some tv, none, none, none, none, none] H
  refine de_step (b := ⟨G, H, []⟩) (ρ := [slf p, .d (treeD ars bl), .un, .un, .un, .un, .un]) (ρ2 := [slf p, .d (treeD ars bl), .un, .un, .un, .un, .un]) (x_if (c := false) (t_not (c := true) (t_val (r_cal CT (hr.mono (by omega)) pass0 (a_cons (r_var 1 rfl (by walk_at "v") rfl) a_nil) rfl ⟨_, rfl, hG⟩ (fun r' h => by rw [h _ rfl, hT])))) (fun h0 => (nomatch h0)) (fun h0 => xb_nil rfl)) rfl ⟨G, h0⟩ (fun σ1 H1 l1 hh1 => ?_)
  refine de_step (ρ2 := [slf p, .d (treeD ars bl), .d .none, .un, .un, .un, .un]) (x_set 2 (r_cal CX (hr.mono (by omega)) pass0 (a_cons (r_var 1 rfl (by walk_at "v") rfl) a_nil) rfl rfl (fun r' h => h)) rfl (by walk_at "v") sc_Program___init__.nd rfl rfl) l1 hh1 (fun σ2 H2 l2 hh2 => ?_)
  refine de_step (ρ2 := [slf p, .d (treeD ars bl), .d .none, .un, .un, .un, .un]) (x_if (c := false) (t_cmp (r_var 2 rfl (by walk_at "v") rfl) r_non (by walk_at "o")) (fun h0 => (nomatch h0)) (fun h0 => xb_nil rfl)) l2 hh2 (fun σ3 H3 l3 hh3 => ?_)
  refine de_step (ρ2 := [slf p, .d (treeD ars bl), .d .none, .un, .un, .un, .un]) (xs_drop (h := (r_cal CN (hr2) pass0 (a_cons (r_var 1 rfl (by walk_at "v") rfl) a_nil) rfl (by exact rfl) (r := .d .none) (fun r' h => by exact h)) _ fun _ => by exact rfl)) l3 hh3 (fun σ4 H4 l4 hh4 => ?_)
  obtain ⟨G4, g4⟩ := hh4
  obtain ⟨x0, x1, x2, x3, x4, x5, x6, rfl⟩ := seven (n := 7) l4
  obtain ⟨v0, e0, e0'⟩ := g4.ok (x0, slf p) (by simp)
  subst e0 e0'
  obtain ⟨t4, e1, hd4⟩ := g4.ok (x1, .d (treeD ars bl)) (by simp)
  subst e1
  have hp4 : H4 p = some (.ins C dx []) := g4.rest p _ hp (by simp)
  have gp4 : G4 p = none := by
    cases e : G4 p with
    | none => rfl
    | some o =>
      rcases g4.new p o e with h | h
      · have h : G p = some o := h
        rw [gp] at h; cases h
      · have h : H p = none := h
        rw [hp] at h; cases h
  refine ⟨_, pss_cons (ps_fld (pv 0) (pv 1) rfl) (wss_pss _), ?_⟩
  refine ⟨_, rfl, _, rfl, p, C, dx, [], rfl, hp4, Z.kit.cl, Z.nT, (by show 0 < 1000; decide), ?_⟩
  show WSs _ _ _ _ (upd H4 p (.ins C dx [("_tree", t4)]))
  have s5 : Same G4 (upd H4 p (.ins C dx [("_tree", t4)])) := fun a o e => by
    rw [upd_ne (ne_of_none e gp4)]
    exact g4.up a o e
  have g5 := rebase g4 s5 (fun c hc => by
    simp at hc
    rcases hc with rfl | rfl | rfl | rfl | rfl | rfl | rfl <;> rfl)
  generalize h5e : upd H4 p (.ins C dx [("_tree", t4)]) = H5 at s5 g5
  have hp5 : H5 p = some (.ins C dx [("_tree", t4)]) := by rw [← h5e, upd_same]
  have keep5 : ∀ a o, H4 a = some o → a ≠ p → H5 a = some o := fun a o e n => by rw [← h5e, upd_ne n]; exact e
  refine de_step (ρ2 := [slf p, .d (treeD ars bl), .d .none, .d (.tuple (ars.map fcD)), .d (.tuple (blD bl)), .un, .un]) (xs_asg (ts := [3, 4]) (h := (r_var 1 rfl (by walk_at "v") rfl) _ fun _ => (g_tup (ys := [.tuple (ars.map fcD), .tuple (blD bl)]) rfl (gs_cons (g_name 3 rfl (by walk_at "v") sc_Program___init__.nd rfl) (gs_cons (g_name 4 rfl (by walk_at "v") sc_Program___init__.nd rfl) gs_nil))) _ fun _ => ?_)) rfl ⟨_, g5⟩ (fun σ6 H6 l6 hh6 => ?_)
  · exact rfl
  obtain ⟨G6, g6⟩ := hh6
  obtain ⟨y0, y1, y2, y3, y4, y5, y6, rfl⟩ := seven (n := 7) l6
  obtain ⟨w0, e0, e0'⟩ := g6.ok (y0, slf p) (by simp)
  subst e0 e0'
  obtain ⟨t6, e1, hd6⟩ := g6.ok (y1, .d (treeD ars bl)) (by simp)
  subst e1
  obtain ⟨u3, e3, hd3⟩ := g6.ok (y3, .d (.tuple (ars.map fcD))) (by simp)
  subst e3
  have hp6 : H6 p = some (.ins C dx [("_tree", t4)]) := g6.rest p _ hp5 (by simp)
  have gp6 : G6 p = none := by
    cases e : G6 p with
    | none => rfl
    | some o =>
      rcases g6.new p o e with h | h
      · have h : G4 p = some o := h
        rw [gp4] at h; cases h
      · have h : H5 p = none := h
        rw [hp5] at h; cases h
  have hl3 : (ars.map fcD).length ≤ 8 := by rw [List.length_map]; exact hl8
  generalize hys : ars.map fcD = ys at hd3 hl3
  cases hd3 with
  | @tup a xs _ h1 h2 =>
    have hlen := DpAll.len h2
    refine ⟨_, pss_cons (ps_fld (pv 0) (pe_dc (own := [("name", 5), ("parts", 6)]) (g := gTup K 2 (gCons (gName 5) (gCons (gName 6) gNil))) (by rfl) sc_Program___init__.nd (pi_tup (pv 3)) (blkOk_by (N := ["self", "tree", "word", "arrays", "block", "name", "parts"]) (sc := defScope S_Program___init__) (by decide +kernel)) (fun _ _ _ _ _ => by refine pg_tup rfl (pgs_cons (pg_name (i := 5) sc_Program___init__.nd rfl (Or.inl rfl)) (pgs_cons (pg_name (i := 6) sc_Program___init__.nd rfl (Or.inl rfl)) pgs_nil))) (fun _ _ _ _ _ => pts_nil) (fun _ _ _ _ _ => pv 5) (fun _ _ _ _ _ => pv 6)) rfl) (wss_pss _), ?_⟩
    refine ⟨_, rfl, a, rfl, ⟨_, g6.up.tup h1⟩, fun D gnD => ?_⟩
    have neP : p ≠ D := fun e => by subst e; rw [hp6] at gnD; cases gnD
    refine dc_tup (xs := xs) (fun i H => Same H6 H ∧ ∃ kvs, H D = some (.dK kvs) ∧ kvs.length ≤ i) ⟨Same.new gnD, [], upd_same, Nat.le_refl _⟩ (fun i H _ hP => hP.1.tup (g6.up.tup h1)) ?_ ?_
    · rintro i x H hx ⟨s, kvs, hk, hkl⟩
      have hi : i < xs.length := (List.getElem?_eq_some_iff.mp hx).1
      obtain ⟨y, hy, hdx⟩ := DpAll.at h2 hx
      obtain ⟨f0, rfl⟩ : ∃ f0, y = fcD f0 := by
        rw [← hys, List.getElem?_map] at hy
        obtain ⟨f0, h1, h2⟩ := Option.map_eq_some_iff.mp hy
        exact ⟨f0, h2.symm⟩
      have hdx : Dp K G6 x (.tuple [.str f0.1, pdI f0.2]) := hdx
      obtain ⟨t, xs2, rfl, k1, k2⟩ := dp_tupE hdx
      obtain ⟨x1, x2, rfl, hx1, hx2⟩ := dp_pairE k2
      cases hx1
      refine ⟨t, _, rfl, s.tup (g6.up.tup k1), rfl, _, _, rfl, _, _, rfl, rfl, rfl, ?_⟩
      refine (show (tVar 5 _ _ fun y H4 => tVar 6 _ H4 fun z H5 => ∃ kvs k, y = kV k ∧ H5 D = some (.dK kvs) ∧ kvs.length < sizeLine ∧ (Same H6 (upd H5 D (.dK (putK kvs k z))) ∧ ∃ kvs', (upd H5 D (.dK (putK kvs k z))) D = some (.dK kvs') ∧ kvs'.length ≤ i + 1)) from ?_)
      refine ⟨_, rfl, _, rfl, kvs, .inr f0.1, rfl, hk, by rw [sizeLine_eq]; omega, fun a o e => ?_, _, upd_same, Nat.le_trans (length_putK kvs (.inr f0.1) x2) (Nat.succ_le_succ hkl)⟩
      rw [upd_ne (ne_of_none e gnD)]
      exact s a o e
    · rintro H7 ⟨s7, kvs, hk, _⟩
      have hp7 : H7 p = some (.ins C dx [("_tree", t4)]) := s7 p _ hp6
      refine ⟨_, rfl, p, C, dx, _, rfl, hp7, Z.kit.cl, Z.nS, (by show 1 < 1000; decide), ?_⟩
      show WSs _ _ _ _ (upd H7 p (.ins C dx [("_tree", t4), ("_sizes", .ref D)]))
      generalize h8e : upd H7 p (.ins C dx [("_tree", t4), ("_sizes", .ref D)]) = H8
      have hp8 : H8 p = some (.ins C dx [("_tree", t4), ("_sizes", .ref D)]) := by rw [← h8e, upd_same]
      have s8 : Same G6 H8 := fun a o e => by
        rw [← h8e, upd_ne (ne_of_none e gp6)]
        exact s7 _ _ (g6.up a o e)
      have keep8 : ∀ a o, H a = some o → a ≠ p → H8 a = some o := fun a o e n => by
        rw [← h8e, upd_ne n]
        exact s7 _ _ (g6.rest a o (keep5 a o (g4.rest a o e (by simp)) n) (by simp))
      have g8 := rebase g6 s8 (fun c hc => by
        simp at hc
        rcases hc with rfl | rfl | rfl | rfl | rfl | rfl | rfl <;> rfl)
      refine ⟨_, pss_one (ps_fld (pv 0) (we_pe _) rfl), ?_⟩
      refine (show EVr _ _ [slf p, .d (treeD ars bl), .d .none, .d (.tuple (ars.map fcD)), .d (.tuple (blD bl)), .un, .un] _ (.d (.tuple (((stB bl).filter isAc).map trD))) from r_callTy (T := "tuple") z_tuple (a_cons (r_cal CA hr2 pass0 (a_cons (r_var 4 rfl (by walk_at "v") rfl) a_nil) rfl (by exact rfl) (r := .own (((stB bl).filter isAc).map trD)) (fun r' h => by exact h)) a_nil) (fun _ h => cv_tupO h)) (fun r ρ' => r = .d (acD bl) ∧ ρ' = [slf p, .d (treeD ars bl), .d .none, .d (.tuple (ars.map fcD)), .d (.tuple (blD bl)), .un, .un]) ⟨rfl, rfl⟩ _ H8 [] _ rfl ⟨_, by rw [List.append_nil]; exact g8⟩ (fun r ρ' v H9 e l' hh9 => ?_)
      obtain ⟨rfl, rfl⟩ := e
      obtain ⟨G9, g9⟩ := hh9
      have hp9 := g9.rest p _ hp8 (by simp)
      refine ⟨_, rfl, p, C, dx, _, rfl, hp9, Z.kit.cl, Z.nA, (by show 2 < 1000; decide), ?_⟩
      refine q _ fun a o e n => ?_
      rw [upd_ne n]
      exact g9.rest a o (keep8 a o e n) (by simp)
end

end K08

namespace DE
open PySem PySem.Spec PyProof.Rows L2 SZ VR VX StX RT
/-! ### data and the empty dict -/
def Dq (K : PySem.W.Frag) (G : Hp) (v : V) (y : PyData) : Prop := Dp K G v y ∨ (y = .dict [] ∧ ∃ a, v = .ref a ∧ G a = some (.dK []))
theorem Dq.keep {K : PySem.W.Frag} {G G' : Hp} {v : V} {y : PyData} (s : Same G G') : Dq K G v y → Dq K G' v y
  | .inl h => .inl (Dp.keep s h)
  | .inr ⟨e, a, e2, h⟩ => .inr ⟨e, a, e2, s _ _ h⟩
def DqAll (K : PySem.W.Frag) (G : Hp) : List V → List PyData → Prop
  | [], [] => True
  | v :: vs, y :: ys => Dq K G v y ∧ DqAll K G vs ys
  | _, _ => False
theorem DqAll.keep {K : PySem.W.Frag} {G G' : Hp} (s : Same G G') : ∀ {vs : List V} {ys : List PyData}, DqAll K G vs ys → DqAll K G' vs ys
  | [], [], _ => trivial
  | _ :: _, _ :: _, ⟨h1, h2⟩ => ⟨h1.keep s, h2.keep s⟩
  | [], _ :: _, h => h
  | _ :: _, [], h => h
theorem DqAll.len {K : PySem.W.Frag} {G : Hp} : ∀ {vs : List V} {ys : List PyData}, DqAll K G vs ys → vs.length = ys.length
  | [], [], _ => rfl
  | _ :: vs, _ :: ys, ⟨_, h2⟩ => by rw [List.length_cons, List.length_cons, h2.len]
  | [], _ :: _, h => h.elim
  | _ :: _, [], h => h.elim
theorem DqAll.app {K : PySem.W.Frag} {G : Hp} : ∀ {vs us : List V} {ys zs : List PyData}, DqAll K G vs ys → DqAll K G us zs → DqAll K G (vs ++ us) (ys ++ zs)
  | [], _, [], _, _, h => h
  | _ :: _, _, _ :: _, _, ⟨h1, h2⟩, h => ⟨h1, h2.app h⟩
  | [], _, _ :: _, _, h, _ => h.elim
  | _ :: _, _, [], _, h, _ => h.elim
theorem DqAll.of {K : PySem.W.Frag} {G : Hp} : ∀ {vs : List V} {ys : List PyData}, DpAll K G vs ys → DqAll K G vs ys
  | [], [], _ => trivial
  | _ :: _, _ :: _, .cons h1 h2 => ⟨.inl h1, DqAll.of h2⟩
theorem DqAll.at {K : PySem.W.Frag} {G : Hp} : ∀ {vs : List V} {ys : List PyData} {i : Nat} {x : V}, DqAll K G vs ys → vs[i]? = some x → ∃ y, ys[i]? = some y ∧ Dq K G x y
  | _ :: _, y :: _, 0, _, ⟨h1, _⟩, e => by cases e; exact ⟨y, rfl, h1⟩
  | _ :: vs, _ :: ys, i + 1, x, ⟨_, h2⟩, e => by
    obtain ⟨y, h3, h4⟩ := DqAll.at (i := i) h2 (by simpa using e)
    exact ⟨y, by simpa using h3, h4⟩
  | [], [], i, _, _, e => by simp at e
abbrev qS (K : PySem.W.Frag) (y : PyData) : Sl := .fact (fun v G => Dq K G v y) (fun _ _ _ s h => h.keep s)
abbrev lqS (K : PySem.W.Frag) (ys : List PyData) : Sl := .fact (fun v G => ∃ a vs, v = .ref a ∧ SqL K G a vs ∧ DqAll K G vs ys) (fun _ _ _ s ⟨a, vs, e, h1, h2⟩ => ⟨a, vs, e, s.seq h1, h2.keep s⟩)
abbrev iqS (K : PySem.W.Frag) (xs : List V) (ys : List PyData) : Sl := .fact (fun v G => ∃ a, v = .ref a ∧ SqL K G a xs ∧ DqAll K G xs ys) (fun _ _ _ s ⟨a, e, h1, h2⟩ => ⟨a, e, s.seq h1, h2.keep s⟩)
theorem allQ {K : PySem.W.Frag} {b : Bs} {G H : Hp} {L : List Cl} {y : PyData} : ∀ {vs : List V} {ys : List PyData}, vs.length = ys.length + 1 → HoldG K b G H ((vs.map some).zip (ys.map .d ++ [qS K y]) ++ L) → DqAll K G vs (ys ++ [y])
  | [v], [], _, h => by
    obtain ⟨v', e, hd⟩ := h.ok (some v, qS K y) (by simp)
    cases e
    exact ⟨hd, trivial⟩
  | v :: vs, z :: ys, l, h => by
    obtain ⟨v', e, hd⟩ := HoldG.data (show HoldG K b G H ((some v, .d z) :: ((vs.map some).zip (ys.map .d ++ [qS K y]) ++ L)) from h)
    cases e
    exact ⟨.inl hd, allQ (by simpa using l) (HoldG.drop (show HoldG K b G H ((some v, .d z) :: ((vs.map some).zip (ys.map .d ++ [qS K y]) ++ L)) from h))⟩
  | v :: w :: vs, [], l, _ => by simp at l
  | [], _, l, _ => by simp at l
theorem last_split {α : Type} {l : List α} {x : α} (h : l.getLast? = some x) : l = l.dropLast ++ [x] := by
  have hn : l ≠ [] := fun e => by rw [e] at h; cases h
  have := List.dropLast_concat_getLast hn
  rw [List.getLast?_eq_some_getLast hn] at h
  cases h
  exact this.symm
section
variable {X : Cx} {b : Bs} {ρ : List Sl} {e : Expr} {es : List Expr} {pos : Pos} {r r1 r2 : Sl}
/-- {} that stays -/
theorem r_dict0 : EVr X b ρ (.Dict [] [] pos) (qS X.K (.dict [])) := fun p h σ H L Q l hh q => by
  obtain ⟨G, hG⟩ := hh
  refine ⟨_, pe_dnewK, fun a ha => ?_⟩
  exact q _ ρ _ _ h l ⟨_, (hG.grow (o := .dK []) ha rfl).addF (.inr ⟨rfl, a, rfl, upd_same⟩)⟩
/-- a list whose last is such a one -/
theorem r_lstQ {rs : List Sl} {ys : List PyData} {y : PyData} (h : EAr X b ρ es rs) (e1 : rs.getLast? = some (qS X.K y)) (e2 : datas rs.dropLast = some ys) (n : ys.length ≤ 10000 := by simp) : EVr X b ρ (.List es pos) (lqS X.K (ys ++ [y])) := fun p k σ H L Q l hh q => by
  refine ⟨_, pe_lst (wa_pa es), h (fun rs' ρ' => rs' = rs ∧ ρ' = ρ) ⟨rfl, rfl⟩ σ H L _ l hh fun rs' ρ' vs H' ⟨er, eρ⟩ l' lv hh' => ?_⟩
  subst er eρ
  have h2 := hh'.coolAll
  have ec : rs'.map DE.cool = ys.map .d ++ [qS X.K y] := by
    rw [last_split e1, List.map_append, datas_cool e2]
    rfl
  rw [ec] at h2
  obtain ⟨G, hg⟩ := h2
  have lr : rs'.length = ys.length + 1 := by have := congrArg List.length ec; simpa using this
  have hq := allQ (lv.trans lr) hg
  refine ⟨by rw [lv, lr, sizeLine_eq]; omega, fun a ha => ?_⟩
  have hG := hg.dropM
  exact q _ ρ' _ _ k l' ⟨_, (hG.grow (o := .lst vs) ha rfl).addF ⟨a, vs, rfl, .of upd_same, hq.keep (Same.new (hG.up.free ha))⟩⟩
theorem or_catQ {xs ys : List PyData} (e2 : cool r2 = .d (.list ys)) (hz : xs.length + ys.length ≤ sizeLine) : OVr X b (binaryOp .Add) (lqS X.K xs) r2 (lqS X.K (xs ++ ys)) := fun p h => OV.cool (by
  rw [e2]
  refine ⟨_, op_catS, fun v1 v2 H L Q hh k => ?_⟩
  obtain ⟨G, hg⟩ := hh
  obtain ⟨_, f1, a, us, rfl, s1, t1⟩ := hg.ok (some v1, lqS X.K xs) List.mem_cons_self
  obtain ⟨_, f2, d2⟩ := hg.ok (some v2, .d (.list ys)) (List.mem_cons_of_mem _ List.mem_cons_self)
  cases f1
  cases f2
  cases d2 with
  | @lst c ws _ s2 t2 =>
    have hG := hg.drop.drop
    exact ⟨a, c, us, ws, rfl, rfl, hg.up.seq s1, hg.up.seq s2, by rw [t1.len, DpAll.len t2]; exact hz, fun q hq => k _ _ _ h ⟨_, (hG.grow (o := .lst (us ++ ws)) hq rfl).addF ⟨q, _, rfl, .of upd_same, (t1.app (.of t2)).keep (Same.new (hG.up.free hq))⟩⟩⟩)
theorem xs_forQ {p : Po} {tg iter : Expr} {body : List Stmt} {ts : List Nat} {ys : List PyData} (hp : PassesOwn (model X.prog X.w) X.A X.env X.xe) (hc : X.calm = true) (hst : ∀ x, foldedSetIterable iter X.env x = pure x := by intro _; rfl)
    (h : EVr X b ρ iter (lqS X.K ys)) (I : Nat → List Sl → Prop) (i0 : I 0 ρ) (hs : ∀ i y ρ', ys[i]? = some y → ρ'.length = ρ.length → I i ρ' → EG X b ts ρ' tg (qS X.K y) fun ρ2 => ρ2.length = ρ.length → XB X b ρ2 body (loopI p I i)) (hd : ∀ ρ', I ys.length ρ' → p.nx ρ') : XS X b ρ (.For tg iter body [] pos) p := fun σ H L D l hh k => by
  refine ⟨_, ps_for hp hc (pi_list (we_pe iter)) (wg_pg tg) (wss_pss body) hst, ?_⟩
  refine h (fun r ρ' => r = lqS X.K ys ∧ ρ' = ρ) ⟨rfl, rfl⟩ σ H L _ l hh fun r ρ1 v H1 ⟨er, eρ⟩ l1 hh1 => ?_
  subst er eρ
  obtain ⟨G, hg⟩ := hh1
  obtain ⟨_, f1, a, xs, rfl, s1, t1⟩ := hg.ok (some v, lqS X.K ys) List.mem_cons_self
  cases f1
  have lx : xs.length = ys.length := t1.len
  have h2 : Hold X.K b H1 ((some (.ref a), iqS X.K xs ys) :: (σ.zip ρ1 ++ L)) := ⟨G, hg.drop.addF ⟨a, rfl, s1, t1⟩⟩
  have hG : ∀ H2 L2, Hold X.K b H2 ((some (V.ref a), iqS X.K xs ys) :: L2) → SqL X.K H2 a xs := fun H2 L2 ⟨G2, g2⟩ => by
    obtain ⟨_, f1, a', e1, s2, _⟩ := g2.ok (some (.ref a), iqS X.K xs ys) List.mem_cons_self
    cases f1
    cases e1
    exact g2.up.seq s2
  refine ⟨a, rfl, ⟨xs, hG _ _ h2⟩, ?_⟩
  refine for_it (wlen lx.symm walk_list) (fun i σ' H' => ∃ ρ', I i ρ' ∧ σ'.length = ρ'.length ∧ ρ'.length = ρ1.length ∧ Hold X.K b H' (σ'.zip ρ' ++ (some (.ref a), iqS X.K xs ys) :: L)) ⟨ρ1, i0, l1, rfl, h2.perm perm_in.symm⟩ (fun i σ' H' _ ⟨ρ', _, _, _, hh'⟩ => hG H' _ (hh'.perm perm_in)) (fun i x σ' H1' H2' hi ⟨ρ', hI, l', n', hh'⟩ hy => ?_) (fun σ' H' ⟨ρ', hI, l', n', hh'⟩ => k.nx ρ' σ' H' (hd ρ' hI) l' n' ((hh'.perm perm_in).drop))
  obtain ⟨e1, e2⟩ := hy
  subst e1
  have hz : ∃ y, ys[i]? = some y ∧ Hold X.K b H2' ((some x, qS X.K y) :: (σ'.zip ρ' ++ (some (V.ref a), iqS X.K xs ys) :: L)) := by
    obtain ⟨G2, g2⟩ := hh'
    obtain ⟨_, f1, a', e1, s2, t2⟩ := g2.ok (some (V.ref a), iqS X.K xs ys) (by simp)
    cases f1
    cases e1
    obtain ⟨y, ey, hq⟩ := t2.at e2
    exact ⟨y, ey, G2, g2.addF (φ := fun v G => Dq X.K G v y) hq⟩
  obtain ⟨y, ey, hz⟩ := hz
  refine hs i y ρ' ey n' hI σ' H2' ((some (V.ref a), iqS X.K xs ys) :: L) x _ l' hz fun ρ2 σ2 H2 h3 l2 n2 _ hh2 => ?_
  exact h3 (n2.trans n') σ2 H2 _ { D with nx := _, ct := _, bk := D.nx } l2 hh2 ⟨fun ρ3 σ3 H3 z l3 n3 hh3 => ⟨ρ3, z, l3, n3.trans (n2.trans n'), hh3⟩, fun r ρ3 v σ3 H3 z l3 n3 hh3 => k.rt r ρ3 v σ3 H3 z l3 (n3.trans (n2.trans n')) ((hh3.perm (L' := (some (V.ref a), iqS X.K xs ys) :: ((some v, r) :: (σ3.zip ρ3 ++ L))) ((List.Perm.swap ..).trans (List.Perm.cons _ perm_in))).drop),
          fun ρ3 σ3 H3 z l3 n3 hh3 => k.nx ρ3 σ3 H3 z l3 (n3.trans (n2.trans n')) ((hh3.perm perm_in).drop), fun ρ3 σ3 H3 z l3 n3 hh3 => ⟨ρ3, z, l3, n3.trans (n2.trans n'), hh3⟩⟩
end
/-! ### repr of it -/
structure ShQ (y : PyData) : Prop where
  s : y.showable = true
  n : y.hasDict = false ∨ y = .dict []
  d : y.depth ≤ 50
  l : y.shown.length ≤ sizeLine
def rReprQ (K : PySem.W.Frag) : List V → Hp → VK → Prop := fun xs H Q => ∃ (v : V) (d : PyData), xs = [v] ∧ Dq K H v d ∧ ShQ d ∧ Q (.str d.shown) H
theorem call_reprQ {X : Cx} (hg : X.A.guards = some []) (hu : X.A.units + 64 < cLine) : CallR X (.builtin "repr") (rReprQ X.K) := by
  intro pins s σ H xs us Q I r h
  obtain ⟨v, d, rfl, hd, hs, q⟩ := h
  rcases hd with hd | ⟨rfl, a, rfl, ha⟩
  · refine call_reprW hg hu pins s σ H [v] us Q I r ⟨v, d, rfl, hd, hs.s, ?_, hs.d, hs.l, q⟩
    rcases hs.n with h | rfl
    · exact h
    · cases hd
  · obtain ⟨u, rfl, r1⟩ := vals1 r
    obtain rfl : u = Value.ref a := r1
    obtain ⟨_, hsm, vs, kv, o, es, ep, ho, ex, he, _, hp, _⟩ := dk_of I.hok ha
    have hv : vs = [] := by cases kv; rfl
    subst hv
    have hes : es.toList = [] := by
      cases hh : es.toList with
      | nil => rfl
      | cons x l =>
        rw [hh] at hp
        cases hp
    have ra : Reads s.heap (.ref a) (.dict []) (a :: [] ++ []) := .dict ho ex.1 he (by rw [hes]; exact .nil) (by rw [hes]; exact .nil)
    exact repr_of_reads' ra hs.s (fun _ => by
      simp only [List.append_nil, List.mem_singleton]
      intro e
      rw [e] at hsm
      simp at hsm) hg (by have := hs.d; omega) (fun _ _ e => e) (fun h' u tk hk => ⟨.str _, H, I.kept hk, ⟨_, rfl⟩, q⟩) hs.l
section
variable {X : Cx} {b : Bs} {ρ : List Sl} {e : Expr}
theorem r_reprQ {y : PyData} {ps cp : Pos} (gd : X.A.guards = some []) (hu : X.A.units + 64 < cLine) (hm : X.mg "repr" = none) (h : EVr X b ρ e (qS X.K y)) (h1 : ShQ y) (hg : Gl X "repr" := by rfl)
    (he : starEach [e] X.env = (false, eval e X.env) :: starEach [] X.env := by rfl) : EVr X b ρ (.Call (.Name "repr" ps) [e] [] cp) (.d (.str y.shown)) :=
  r_callB (id := "repr") hm (a_cons h a_nil he) (fun p k => ⟨_, call_reprQ gd hu, fun vs H L Q lv hh q => by
    obtain ⟨v, rfl⟩ := one_in (rs := [qS X.K y]) (r := qS X.K y) lv
    obtain ⟨G, hG⟩ := hh
    obtain ⟨_, f1, hd⟩ := hG.ok (some v, qS X.K y) List.mem_cons_self
    cases f1
    exact ⟨v, y, rfl, hd.keep hG.up, h1, q _ _ _ k ⟨G, hG.drop.add (.str _)⟩⟩⟩) (hg := hg) (he := he)
end
theorem dq_ty {K : PySem.W.Frag} {H : Hp} {v : V} {d : PyData} (h : Dq K H v d) : TyX K H v (.type (tyD d)) := by
  rcases h with h | ⟨rfl, a, rfl, h⟩
  · exact dp_ty h
  · exact .base (.dK h)
section
variable {X : Cx} {b : Bs} {ρ : List Sl} {e : Expr} {es : List Expr}
theorem r_isiQ {y : PyData} {t : String} {x : Str} {ps cp pn : Pos} (hm : X.mg "isinstance" = none) (hmt : X.mg x = none) (h : EVr X b ρ e (qS X.K y)) (hg : Gl X "isinstance" := by rfl) (hgt : Gl X x := by rfl) (hv : bootBuiltins x = some (.type t) := by decide +kernel) (ht : t = "int" ∨ t = "bool" ∨ t = "str" ∨ t = "tuple" ∨ t = "list" ∨ t = "dict" := by decide)
    (hn : x ≠ "__name__" := by decide) (hd : (x == ("__debug__" : Str)) = false := by decide) (he : starEach [e, .Name x pn] X.env = (false, eval e X.env) :: starEach [.Name x pn] X.env := by rfl) (hpl : (backTo cp (starEach [.Name x pn] X.env)).any (·.1) = false := by rfl) :
    EVr X b ρ (.Call (.Name "isinstance" ps) [e, .Name x pn] [] cp) (.d (.bool (subTy (tyD y) t))) := fun p k σ H L Q l hh q =>
  ⟨_, pe_callB call_isi hg hm (by decide +kernel) (pa_cons (we_pe e) (pa_cons (pe_bltn hgt hmt (u := .type t) (v := .ty t) hv rfl hn hd) pa_nil) he) (by decide) (by decide) he hpl, h (fun r ρ' => r = qS X.K y ∧ ρ' = ρ) ⟨rfl, rfl⟩ σ H L _ l hh fun r ρ' v H' ⟨er, eρ⟩ l' hh' => by
    subst er eρ
    obtain ⟨G, hG⟩ := hh'
    obtain ⟨_, f1, hd⟩ := hG.ok (some v, qS X.K y) List.mem_cons_self
    cases f1
    exact ⟨v, .ty t, .type (tyD y), .type t, subTy (tyD y) t, rfl, .ty _, dq_ty (hd.keep hG.up), kit_d ht y, q _ ρ' _ H' k l' ⟨G, hG.drop.add (.bl _)⟩⟩⟩
theorem r_calF {CX : CXT} {k : Nat} {Pre : List Sl → Prop} {Res : List Sl → Sl → Prop} {x : Str} {p1 cp : Pos} {rs : List Sl} {r : Sl} (C : CalP X.prog X.w X.K X.mg X.base CX x k Pre Res) (hr : Room k X.A) {E : XK} (hx : Passes CX X E)
    (h : EAr X b ρ (e :: es) rs) (hf : (rs.map cool).all flatS = true) (h1 : Pre (rs.map cool)) (h2 : ∀ r', Res (rs.map cool) r' → r' = r) (nb : ∀ ys, r ≠ .bor ys := by intro _; nofun) (hg : Gl X x := by rfl)
    (hdb : (x == ("__debug__" : Str)) = false := by decide) (he : starEach (e :: es) X.env = (false, eval e X.env) :: starEach es X.env := by rfl) (hpl : (backTo cp (starEach es X.env)).any (·.1) = false := by rfl) : EVr X b ρ (.Call (.Name x p1) (e :: es) [] cp) r := fun _ q => by
  obtain ⟨f, fd, ps, F, hm, hk, hb⟩ := C.ex
  refine ev_call F hr hg hm hk hb hx (h _ ⟨?_, h1, fun r' hr' => by rw [h2 r' hr']; exact ⟨nb, q⟩⟩) hdb he hpl
  exact List.all_eq_true.mp hf
/-- a call that knows what is being shown, its arguments data or what stays -/
theorem r_calGF {CX : CXT} {k : Nat} {f : Addr} {fd : FuncData} {ps : List Str} {Pre : List Sl → Prop} {Res : List Sl → Sl → Prop} {x : Str} {p1 cp : Pos} {rs : List Sl} {r : Sl} (F : RunG X.prog X.w X.K X.mg X.base CX k f fd ps (spP X.K Pre Res)) (ln : ∀ as, Pre as → as.length = ps.length) (hm : X.mg x = some (.ref f)) (hk : PySem.W.keepIn X.K (.ref f) = true) (hb : Binds X.K fd ps []) (gd : X.A.guards = some []) (hr : Room k X.A) {E : XK} (hx : Passes CX X E)
    (h : EAr X b ρ (e :: es) rs) (hf : ∀ r ∈ rs, flatS r = true) (h1 : Pre rs) (h2 : ∀ r', Res rs r' → r' = r) (nb : ∀ ys, r ≠ .bor ys := by intro _; nofun) (hg : Gl X x := by rfl)
    (hdb : (x == ("__debug__" : Str)) = false := by decide) (he : starEach (e :: es) X.env = (false, eval e X.env) :: starEach es X.env := by rfl) (hpl : (backTo cp (starEach es X.env)).any (·.1) = false := by rfl) : EVr X b ρ (.Call (.Name x p1) (e :: es) [] cp) r := fun p q σ H L Q l hh qq => by
  refine ⟨_, pe_callSh F gd hr (fun vs H Q E z => by obtain ⟨G, as, l, _, hp, _⟩ := z; exact l.trans (ln as hp)) hg hm hk hb hx (wa_pa _) hdb he hpl, h (fun rs' ρ' => rs' = rs ∧ ρ' = ρ) ⟨rfl, rfl⟩ σ H L _ l hh fun rs' ρ' vs H' ⟨e1, e2⟩ l' lv hh' => ?_⟩
  subst e1 e2
  obtain ⟨G, hG⟩ := hh'
  refine ⟨G, rs', by rw [List.append_nil]; exact lv, by rw [List.append_nil]; exact HoldG.sub0 hG (flat_zip hf), h1, fun r' hr' n v H2 hh2 => ?_⟩
  rw [h2 r' hr'] at hh2
  exact qq _ ρ' v H2 q l' (hG.dropM.after hh2 nb)
end

end DE

namespace K08
open PySem L2 SZ VR VX StX RT DE
/-! ### raising in DE; a program refused -/
section
variable {X : Cx} {b : Bs} {ρ : List Sl} {W : WX} {x : Str} {C : Addr} {f : Str} {e : Expr} {y : PyData} {p cpos pos : Pos} {po : Po}
/-- a raise: what is wished of the exception is asked of every heap that keeps what was there -/
theorem xs_raiseQ (GX : SxC X.prog X.w X.K X.mg X.base x C f) (hc : X.calm = true) (tk : Takes X W) (hr : Room 2 X.A) {φ : V → Hp → Prop} {st} (he : EVr X b ρ e (.fact φ st))
    (hW : ∀ (v : V) (dd : Addr) (H' : Hp) (σ : L2.St), σ.length = ρ.length → φ v H' → (∀ a o, b.H a = some o → a ∉ b.B → H' a = some o) → H' dd = some (.xd [(f, v)]) → W (.ref C) (some dd) σ H')
    (hg : Gl X x := by rfl) (hdb : (x == ("__debug__" : Str)) = false := by decide) (hs : starEach [e] X.env = (false, eval e X.env) :: starEach [] X.env := by rfl) : XS X b ρ (.Raise (some (.Call (.Name x p) [e] [] cpos)) none pos) po := fun σ H L D l hh k =>
  ⟨_, ps_raiseX GX hc tk hr (we_pe e) hg hdb hs, he (fun r ρ' => r = .fact φ st ∧ ρ' = ρ) ⟨rfl, rfl⟩ σ H L _ l hh fun r ρ' v H1 ⟨er, eρ⟩ l' hh' => by
    subst er eρ
    intro dd H' hd s1 e1
    obtain ⟨G1, g1⟩ := hh'
    obtain ⟨v', ev, hv⟩ := g1.ok _ List.mem_cons_self
    cases ev
    exact hW v dd H' σ l' (st _ _ _ (g1.up.trans s1) hv) (fun a o ha hb => s1 _ _ (g1.rest a o ha hb)) e1⟩
end
def spPRefT (K : PySem.W.Frag) (C CI : Addr) (y : PyData) : Sp := fun vs H _ E => ∃ (p dx : Addr) (tv : V) (G : Hp), vs = [.ref p, tv] ∧ H p = some (.ins C dx []) ∧ Same G H ∧ FlO G ∧ G p = none ∧ Dq K G tv y ∧
  ∀ (dd : Addr) (v : V) (H' : Hp), Same H H' → H' dd = some (.xd [("value", v)]) → Dq K H' v y → E (.ref CI) (some dd) H'
theorem raise_none {X : Cx} {b : Bs} {ρ : List Sl} {st : List Stmt} {σ : L2.St} {H : Hp} {D : Ends} (h : XB X b ρ st ⟨fun _ => False, fun _ _ => False, fun _ => False, fun _ => False⟩) (l : σ.length = ρ.length) (hh : Hold X.K b H (σ.zip ρ)) : WSs X st D σ H :=
  h σ H [] D l (by rw [List.append_nil]; exact hh) ⟨fun _ _ _ z => z.elim, fun _ _ _ _ _ z => z.elim, fun _ _ _ z => z.elim, fun _ _ _ z => z.elim⟩
section
variable {P : Program} {w : World} {K : PySem.W.Frag} {mg : Str → Option Value} {base : Heap} {C CI : Addr}
theorem hold_initQ {K : PySem.W.Frag} {G H : Hp} {p : Addr} {C dx : Addr} {tv : V} {y : PyData} (hp : H p = some (.ins C dx [])) (sG : Same G H) (fl : FlO G) (hd : Dq K G tv y) : Hold K ⟨G, H, []⟩ H (([some (.ref p), some tv, none, none, none, none, none] : L2.St).zip [slf p, qS K y, .un, .un, .un, .un, .un]) :=
  ⟨G, Same.refl _, sG, fun a o e => .inl e, fun a o e _ => e, fun a ha => (nomatch ha), fun c hc => by
    simp at hc
    rcases hc with rfl | rfl | rfl
    · exact ⟨_, rfl, rfl⟩
    · exact ⟨_, rfl, hd⟩
    · trivial, by cases tv <;> simp [ads], fl⟩
abbrev PreQe (K : PySem.W.Frag) (y : PyData) : List Sl → Prop := fun as => as = [qS K y]
abbrev ResQe (c : Bool) : List Sl → Sl → Prop := fun _ r => r = .d (.bool c)
theorem g_tuple_ofD {f : Addr} {fd : FuncData} (F : Fun K "_is_tuple_of" "_is_tuple_of" S_is_tuple_of f fd) (z_isinstance : mg "isinstance" = none) (z_tuple : mg "tuple" = none) (z_len : mg "len" = none) : FnOk P w K mg base CX0 1 f fd ["value", "many"] (spP K (fun as => ∃ n, as = [qS K (.dict []), .d (.int n)]) (ResQe false)) := by
  refine fn_P F sc_is_tuple_of (fun as h => by obtain ⟨n, rfl⟩ := h; rfl) (by decide) fun cdv A outer s H E hr b as hp => ?_
  obtain ⟨n, rfl⟩ := hp
  show XB _ _ [qS K (.dict []), .d (.int n)] _ _
  have hn : subTy (tyD (.dict [])) "tuple" = false := by show subTy "dict" "tuple" = false; decide
  refine xb_one (x_ret (r_and (c2 := false) (r_isiQ (y := .dict []) (t := "tuple") z_isinstance z_tuple (r_varF 0 rfl (by walk_at "v") rfl)) fun h => absurd (hn.symm.trans h) (by decide)) ?_)
  exact ⟨by rw [hn]; rfl, by simp⟩
theorem g_is_treeD {f : Addr} {fd : FuncData} (F : Fun K "is_tree" "is_tree" S_is_tree f fd) (CT : CalP P w K mg base CX0 "_is_tuple_of" 1 (fun as => ∃ n, as = [qS K (.dict []), .d (.int n)]) (ResQe false)) : FnOk P w K mg base CX0 2 f fd ["value"] (spP K (PreQe K (.dict [])) (ResQe false)) := by
  refine fn_P F sc_is_tree (fun as h => by obtain rfl := h; rfl) (by decide) fun cdv A outer s H E hr b as hp => ?_
  obtain rfl := hp
  show XB _ _ [qS K (.dict []), .un, .un, .un] _ _
  refine xb_cons (x_if (c := true) (t_not (c := false) (t_val (r_calF CT (hr.mono (by omega)) pass0 (a_cons (r_varF 0 rfl (by walk_at "v") rfl) (a_cons r_int a_nil)) rfl ⟨_, rfl⟩ (fun r' h => h)))) (fun h0 => ?_) (fun h0 => nomatch h0))
  exact xb_one (x_ret r_bl ⟨rfl, by simp⟩)
/-- one promise of is_tree for data and for {} -/
theorem ok_prefT {f : Addr} {fd : FuncData} (F : Fun K "__init__" "Program.__init__" S_Program___init__ f fd) {k : Nat} {y : PyData} (hk : 2 ≤ k) (CTr : CalP P w K mg base CX0 "is_tree" k (PreQe K y) (ResQe false)) (GT : SxC P w K mg base "InvalidTree" CI "value") : FnOk P w K mg base (L2.CX P w) (k + 1) f fd ["self", "tree"] (spPRefT K C CI y) := by
  refine F.okX sc_Program___init__ (fun vs H Q E h => by obtain ⟨p, dx, tv, G, rfl, _⟩ := h; rfl) (fun cdv A outer s H vs Q E hr h => ?_)
  obtain ⟨p, dx, tv, G, rfl, hp, sG, fl, gp, hd, q⟩ := h
  have hr2 := hr.mono hk
  refine raise_none (ρ := [slf p, qS K y, .un, .un, .un, .un, .un]) (b := ⟨G, H, []⟩) ?_ rfl (hold_initQ hp sG fl hd)
  refine xb_cons (x_if (c := true) (t_not (c := false) (t_val (r_calF CTr (hr.mono (by omega)) pass0 (a_cons (r_varF 1 rfl (by walk_at "v") rfl) a_nil) rfl rfl (fun r' h => h)))) (fun h0 => ?_) (fun h0 => nomatch h0))
  refine xb_one (xs_raiseQ GT rfl (takes_of rfl rfl rfl rfl) hr2 (r_varF 1 rfl (by walk_at "v") rfl) fun v dd H' σ _ hv s1 e1 => ?_)
  exact q dd v H' (fun a o ha => s1 a o ha (by simp)) e1 hv
/-- is_tree of data that is no tree -/
theorem isT_q {f : Addr} {fd : FuncData} {k d : Nat} {ps : List Str} {y : PyData} (F : FnOk P w K mg base CX0 k f fd ps (spP K (PreTG d) (Rs1 (isTrD d)))) (hy : Gd (2 * d + 3) y) (hf : isTrD d y = false) : FnOk P w K mg base CX0 k f fd ps (spP K (PreQe K y) (ResQe false)) := by
  refine F.imp fun vs H Q E z => ?_
  obtain ⟨G, as, l, hG, rfl, h⟩ := z
  obtain ⟨u, rfl⟩ : ∃ u, vs = [u] := List.length_eq_one_iff.mp (by simpa using l)
  obtain ⟨v, e, hv⟩ := hG.ok (some u, qS K y) (by simp)
  cases e
  have hd : Dp K G u y := by
    rcases hv with hv | ⟨rfl, _⟩
    · exact hv
    · have := hy.1.1
      simp [PyData.canLay0] at this
  refine ⟨G, [.d y], rfl, (HoldG.drop (c := (some u, qS K y)) hG).add hd, ⟨y, rfl, hy⟩, fun r hr n v' H' hh => h r ?_ n v' H' hh⟩
  rw [hr y rfl, hf]
end
/-! ### what is heard -/
theorem passes_len {X : Cx} {W : WX} {n : Nat} (hn : X.N.length = n) (tk : Takes X W) : Passes (L2.CX X.prog X.w) X (fun cls d H => ∀ σ : L2.St, σ.length = n → W cls d σ H) := fun _ σ _ _ e s' I c => tk e s' (XE.of_call I (fun cls d H' h => h σ (I.len.trans hn)) c)
theorem oxc_xf {K : PySem.W.Frag} {C : Addr} (T : OxC K C) : XfC K C := ⟨T.ga, T.gg, T.ex, T.hd⟩
def spHq (K : PySem.W.Frag) (y : PyData) (due : Str) : Sp := fun vs H Q _ => ∃ (tv : V) (G : Hp), vs = [tv] ∧ FlO G ∧ Same G H ∧ Dq K G tv y ∧ ∀ v' H', Same H H' → Dp K H' v' (.str due) → Q v' H'
abbrev tsV (K : PySem.W.Frag) (CI : Addr) : Addr → Value → Option Addr → TS := fun a cls d => tRet (tCB (rReprQ K) (tCons (tXf a cls d CI "value" (tVar 1)) tNil))
section
variable {P : Program} {w : World} {K : PySem.W.Frag} {mg : Str → Option Value} {base : Heap} {C CI : Addr}
theorem run_heardT {f fC : Addr} {fd dC : FuncData} (F : Fun K "_law_heard" "_law_heard" S_law_heard f fd) (MC : Mk K C fC) {n : Nat} {y : PyData} (GC : FnOk P w K mg base (L2.CX P w) n fC dC ["self", "tree"] (spPRefT K C CI y)) (bC : Binds K dC ["self", "tree"] []) (mC : mg "Program" = some (.ref C))
    (hrep : mg "repr" = none) (mI : mg "InvalidTree" = some (.ref CI)) (TI : OxC K CI) (nI : PySem.W.findIn K (.ref CI) "value" = some none) (ex : PySem.W.exmOne K (.ref CI) (.ref CI) = some true) (sh : ShQ y) : RunG P w K mg base CX0 (n + 2) f fd ["_law_tree_here"] (spHq K y y.shown) := by
  refine okG F sc_law_heard (fun vs H Q E h => by obtain ⟨tv, G, rfl, _⟩ := h; rfl) (fun cdv A outer s H vs Q E hg hr h => ?_)
  obtain ⟨tv, G, rfl, fl, sG, hd, q⟩ := h
  refine ⟨_, PSs.nox (pss_one (L2.ps_try_as (Wout := fun _ _ _ _ => False) (i := 1) (n := "e") (ts := tsV K CI) rfl rfl sc_law_heard.nd rfl rfl ⟨rfl, by decide, .inl mI⟩ takes0
    (fun W pn xe tk _ => pss_cons (ps_expr (pe_make MC GC hr (by rfl) mC bC .nil (passes_len (n := 2) rfl tk) (pa_cons (pv 0) pa_nil))) (pss_one (ps_ret pe_str)))
    (fun a oe cls d pn hz hf => pss_one (ps_ret (pe_callB (call_reprQ (by exact hg) (by exact hr.units)) (by rfl) hrep (by decide +kernel) (pa_cons (pe_xf (oxc_xf TI) nI hz hf (pv 1)) pa_nil)))))), ?_⟩
  refine ⟨_, rfl, fun x dx nx nd ne => ?_⟩
  have SM : Same H (upd (upd H dx (.own x)) x (.ins C dx [])) := (Same.new nd).upN (by rw [upd_ne ne.symm]; exact nx)
  refine ⟨x, dx, tv, G, rfl, upd_same, sG.trans SM, fl, sG.free nx, hd, fun dd v H' s1 e1 hv σ hσ => ⟨true, ex, fun _ a ha => ?_, fun z => nomatch z⟩⟩
  refine ⟨.ref a, by rw [List.getElem?_set_self (by omega)], rfl, rfl, dd, _, v, rfl, e1, rfl, v, y, rfl, hv, sh, ?_⟩
  exact q (.str y.shown) H' (SM.trans s1) (.str _)
theorem run_fine {f fC : Addr} {fd dC : FuncData} (F : Fun K "_law_heard" "_law_heard" S_law_heard f fd) (MC : Mk K C fC) {n : Nat} {ars : List Fc} {bl : List Tre} (GC : FnOk P w K mg base CX0 n fC dC ["self", "tree"] (spPInit K C ars bl)) (bC : Binds K dC ["self", "tree"] []) (mC : mg "Program" = some (.ref C))
    (hrep : mg "repr" = none) (mI : mg "InvalidTree" = some (.ref CI)) (TI : OxC K CI) (nI : PySem.W.findIn K (.ref CI) "value" = some none) : RunG P w K mg base CX0 (n + 2) f fd ["_law_tree_here"] (spHq K (treeD ars bl) "fine") := by
  refine okG F sc_law_heard (fun vs H Q E h => by obtain ⟨tv, G, rfl, _⟩ := h; rfl) (fun cdv A outer s H vs Q E hg hr h => ?_)
  obtain ⟨tv, G, rfl, fl, sG, hd, q⟩ := h
  have hd : Dp K G tv (treeD ars bl) := by
    rcases hd with hd | ⟨e, _⟩
    · exact hd
    · cases e
  refine ⟨_, PSs.nox (pss_one (L2.ps_try_as (Wout := fun _ _ _ _ => False) (i := 1) (n := "e") (ts := tsV K CI) rfl rfl sc_law_heard.nd rfl rfl ⟨rfl, by decide, .inl mI⟩ takes0
    (fun W pn xe tk _ => pss_cons (ps_expr (pe_make MC GC hr (by rfl) mC bC .nil pass0 (pa_cons (pv 0) pa_nil))) (pss_one (ps_ret pe_str)))
    (fun a oe cls d pn hz hf => pss_one (ps_ret (pe_callB (call_reprQ (by exact hg) (by exact hr.units)) (by rfl) hrep (by decide +kernel) (pa_cons (pe_xf (oxc_xf TI) nI hz hf (pv 1)) pa_nil)))))), ?_⟩
  refine ⟨_, rfl, fun x dx nx nd ne => ?_⟩
  have SM : Same H (upd (upd H dx (.own x)) x (.ins C dx [])) := (Same.new nd).upN (by rw [upd_ne ne.symm]; exact nx)
  refine ⟨x, dx, tv, G, rfl, upd_same, sG.trans SM, fl, sG.free nx, hd, fun H' but => ⟨rfl, ?_⟩⟩
  exact q (.str "fine") H' (fun a o e => but a o (SM a o e) (ne_of_none e nx)) (.str _)
/-- what is heard, as a promise on what stays -/
theorem heardQ {y : PyData} {due : Str} {f : Addr} {fd : FuncData} {k : Nat} {ps : List Str} (F : RunG P w K mg base CX0 k f fd ps (spHq K y due)) : RunG P w K mg base CX0 k f fd ps (spP K (fun as => as = [qS K y] ∨ as = [.d y]) fun _ r => r = .d (.str due)) := by
  refine F.frm.imp fun vs H Q E z => ?_
  obtain ⟨G, as, l, hG, hp, h⟩ := z
  obtain ⟨u, rfl⟩ : ∃ u, vs = [u] := List.length_eq_one_iff.mp (by rcases hp with rfl | rfl <;> simpa using l)
  have hd : Dq K G u y := by
    rcases hp with rfl | rfl
    · obtain ⟨v, e, hv⟩ := hG.ok (some u, qS K y) (by simp)
      cases e
      exact hv
    · obtain ⟨v, e, hv⟩ := hG.ok (some u, .d y) (by simp)
      cases e
      exact .inl hv
  have fa : ∃ M, HoldG K ⟨G, H, []⟩ G H M ∧ M = (([u].map some).zip as) := ⟨_, hG, rfl⟩
  exact ⟨G, hG.up, hG.fl, u, G, rfl, hG.fl, Same.refl _, hd, fun v' G' s d' H' h1 h2 h3 => h _ rfl (by simp) v' H' (hG.oldD s d' h1 h2 h3)⟩
end

end K08

namespace K08
open PySem L2 SZ VR VX StX RT DE
/-! ### what is odd -/
def oddP : List PyData := [.none, .int 5, .list [], .list [.int 1], .tuple [.int 0], .tuple [.int 1, .int 0], .tuple [.int 1, .bool true], .tuple [.bool false], .tuple [.str "1"], .tuple [.none], .tuple [.bool false, .int 2], .tuple [.tuple [.int 1]]]
def oddF1 : List PyData := [.none, .tuple [], .tuple [.tuple []], .tuple [.tuple [], .tuple [], .tuple []], .list [.tuple [], .tuple []], .tuple [.tuple [], .list []], .tuple [.tuple [], .tuple [.tuple [.str "i", .tuple []]]], .tuple [.tuple [], .tuple [.tuple [.str "i"]]]]
def oddF2 : List PyData := [.tuple [.tuple [], .tuple [.tuple [.str "j", .tuple [.int 1]], .tuple [.str "i", .tuple [.int 1]]]], .tuple [.tuple [], .tuple [.tuple [.str "i", .tuple [.int 1]], .tuple [.str "i", .tuple [.int 2]]]], .tuple [.tuple [], .tuple [.list [.str "i", .tuple [.int 1]]]]]
def oddF3 : List PyData := [.tuple [.tuple [], .tuple [.tuple [.str "n", .tuple [.int 1]]]], .tuple [.tuple [], .tuple [.tuple [.str "I", .tuple [.int 1]]]], .tuple [.tuple [], .tuple [.tuple [.int 5, .tuple [.int 1]]]], .tuple [.tuple [], .tuple [.tuple [.str "i", .tuple [.int 1], .int 2]]]]
def oddS1 : List PyData := [.none, .int 5, .str "flush", .tuple [], .tuple [.str "flush", .int 1], .list [.str "flush"], .tuple [.str "Flush"], .tuple [.str "tell", .str "a"], .tuple [.str "read", .str "a"], .tuple [.none]]
def oddS2 : List PyData := [.tuple [.str "read", .str "A", .tuple [.tuple [], .tuple []]], .tuple [.str "write", .int 5, .tuple [.tuple [], .tuple []]], .tuple [.str "read", .str "for", .tuple [.tuple [], .tuple []]], .tuple [.list [.str "flush"]]]
def oddS3 : List PyData := [.tuple [.str "for", .str "i", .tuple [.int 1]], .tuple [.str "for", .str "i", .tuple [.int 1], .list [], .int 0], .tuple [.str "for", .str "i", .tuple [.int 1], .list []], .tuple [.str "for", .str "n", .tuple [.int 1], .tuple []]]
def oddS4 : List PyData := [.tuple [.str "for", .none, .tuple [.int 1], .tuple []], .tuple [.str "for", .str "i", .tuple [.int 1], .none], .tuple [.str "for", .str "i", .tuple [.int 1], .tuple [], .tuple []]]
def oddL1 : List PyData := [.none, .int 5, .str "x", .tuple [], .list [], .tuple [.tuple []], .tuple [.tuple [], .tuple [], .tuple []], .list [.tuple [], .tuple []], .tuple [.tuple [], .list []], .tuple [.list [], .tuple []], .tuple [.tuple [], .none]]
def oddL2 : List PyData := [.tuple [.tuple [.tuple [.str "a"]], .tuple []], .tuple [.tuple [.tuple [.int 5, .tuple [.int 1]]], .tuple []], .tuple [.tuple [.tuple [.str "n", .tuple [.int 1]]], .tuple []], .tuple [.tuple [.list [.str "a", .tuple [.int 1]]], .tuple []]]
def oddL3 : List PyData := [.tuple [.tuple [.tuple [.str "a", .tuple [.int 1], .int 2]], .tuple []], .tuple [.tuple [.tuple [.str "", .tuple [.int 1]]], .tuple []], .tuple [.tuple [.none], .tuple []]]
def oddF : List PyData := oddF1 ++ oddF2 ++ oddF3 ++ (oddP.map fun p => .tuple [p, .tuple []]) ++ (oddP.map fun p => .tuple [.tuple [], .tuple [.tuple [.str "i", p]]])
def oddS : List PyData := oddS1 ++ oddS2 ++ oddS3 ++ oddS4 ++ (oddP.map fun p => .tuple [.str "for", .str "i", p, .tuple []]) ++ (oddF.map fun p => .tuple [.str "read", .str "a", p]) ++ (oddF.map fun p => .tuple [.str "write", .str "a", p])
def oddL : List PyData := oddL1 ++ [.dict []] ++ oddL2 ++ oddL3 ++ (oddP.map fun p => .tuple [.tuple [.tuple [.str "a", p]], .tuple []])
/-- a def without arguments, called -/
structure Cal0 (P : Program) (w : World) (K : PySem.W.Frag) (mg : Str → Option Value) (base : Heap) (CX : CXT) (x : Str) (k : Nat) (Res : List Sl → Sl → Prop) : Prop where
  ex : ∃ f fd, FnOk P w K mg base CX k f fd [] (spP K (fun as => as = []) Res) ∧ mg x = some (.ref f) ∧ PySem.W.keepIn K (.ref f) = true ∧ Binds K fd [] []
theorem r_cal0 {X : Cx} {b : Bs} {ρ : List Sl} {CX : CXT} {k : Nat} {Res : List Sl → Sl → Prop} {x : Str} {p1 cp : Pos} {r : Sl} (C : Cal0 X.prog X.w X.K X.mg X.base CX x k Res) (hr : Room k X.A) {E : XK} (hx : Passes CX X E) (h2 : ∀ r', Res [] r' → r' = r) (nb : ∀ ys, r ≠ .bor ys := by intro _; nofun) (hg : Gl X x := by rfl) (hdb : (x == ("__debug__" : Str)) = false := by decide) : EVr X b ρ (.Call (.Name x p1) [] [] cp) r := fun p q => by
  obtain ⟨f, fd, F, hm, hk, hb⟩ := C.ex
  exact ev_call0 F hr hg hm hk hb hx ⟨rfl, fun r' hr' => by rw [h2 r' hr']; exact ⟨nb, q⟩⟩ hdb
theorem flt1 (l : List PyData) : (l.filter fun _ => true) = l := List.filter_eq_self.mpr fun _ _ => rfl
abbrev ResO (ys : List PyData) : List Sl → Sl → Prop := fun _ r => r = .own ys
section
variable {P : Program} {w : World} {K : PySem.W.Frag} {mg : Str → Option Value} {base : Heap}
theorem g_odd_parts {f : Addr} {fd : FuncData} (F : Fun K "_law_odd_parts" "_law_odd_parts" S_law_odd_parts f fd) : FnOk P w K mg base CX0 1 f fd [] (spP K (fun as => as = []) (ResO oddP)) := by
  refine fn_P F sc_law_odd_parts (fun as h => by obtain rfl := h; rfl) (by decide) fun cdv A outer s H E hr b as hp => ?_
  obtain rfl := hp
  show XB _ _ [] _ _
  refine xb_one (x_ret (r_lst (a_cons r_non (a_cons r_int (a_cons (r_lst a_nil rfl) (a_cons (r_lst (a_cons r_int a_nil) rfl) (a_cons (r_tup (a_cons r_int a_nil) rfl) (a_cons (r_tup (a_cons r_int (a_cons r_int a_nil)) rfl) (a_cons (r_tup (a_cons r_int (a_cons r_bl a_nil)) rfl) (a_cons (r_tup (a_cons r_bl a_nil) rfl) (a_cons (r_tup (a_cons r_str a_nil) rfl) (a_cons (r_tup (a_cons r_non a_nil) rfl) (a_cons (r_tup (a_cons r_bl (a_cons r_int a_nil)) rfl) (a_cons (r_tup (a_cons (r_tup (a_cons r_int a_nil) rfl) a_nil) rfl) a_nil)))))))))))) rfl) ?_)
  exact ⟨rfl, by simp⟩
theorem g_odd_forms {f : Addr} {fd : FuncData} (F : Fun K "_law_odd_forms" "_law_odd_forms" S_law_odd_forms f fd) (CO : Cal0 P w K mg base CX0 "_law_odd_parts" 1 (ResO oddP)) : FnOk P w K mg base CX0 2 f fd [] (spP K (fun as => as = []) (ResO oddF)) := by
  refine fn_P F sc_law_odd_forms (fun as h => by obtain rfl := h; rfl) (by decide) fun cdv A outer s H E hr b as hp => ?_
  obtain rfl := hp
  have hr1 := hr
  show XB _ _ [.un, .un, .un] _ _
  refine xb_cons (x_set 0 (r_lst (a_cons r_non (a_cons (r_tup a_nil rfl) (a_cons (r_tup (a_cons (r_tup a_nil rfl) a_nil) rfl) (a_cons (r_bin (r_tup (a_cons (r_tup a_nil rfl) (a_cons (r_tup a_nil rfl) a_nil)) rfl) (r_tup (a_cons (r_tup a_nil rfl) a_nil) rfl) (or_catT (by rw [sizeLine_eq]; decide))) (a_cons (r_lst (a_cons (r_tup a_nil rfl) (a_cons (r_tup a_nil rfl) a_nil)) rfl) (a_cons (r_tup (a_cons (r_tup a_nil rfl) (a_cons (r_lst a_nil rfl) a_nil)) rfl) (a_cons (r_tup (a_cons (r_tup a_nil rfl) (a_cons (r_tup (a_cons (r_tup (a_cons r_str (a_cons (r_tup a_nil rfl) a_nil)) rfl) a_nil) rfl) a_nil)) rfl) (a_cons (r_tup (a_cons (r_tup a_nil rfl) (a_cons (r_tup (a_cons (r_tup (a_cons r_str a_nil) rfl) a_nil) rfl) a_nil)) rfl) a_nil)))))))) rfl) rfl (by walk_at "v") sc_law_odd_forms.nd rfl (fun _ => ?_))
  show XB _ _ [.own oddF1, .un, .un] _ _
  refine xb_frz 0 rfl rfl ?_
  show XB _ _ [.d (.list oddF1), .un, .un] _ _
  refine xb_cons (x_set 0 (r_bin (r_var 0 rfl (by walk_at "v") rfl) (r_lst (a_cons (r_tup (a_cons (r_tup a_nil rfl) (a_cons (r_tup (a_cons (r_tup (a_cons r_str (a_cons (r_tup (a_cons r_int a_nil) rfl) a_nil)) rfl) (a_cons (r_tup (a_cons r_str (a_cons (r_tup (a_cons r_int a_nil) rfl) a_nil)) rfl) a_nil)) rfl) a_nil)) rfl) (a_cons (r_tup (a_cons (r_tup a_nil rfl) (a_cons (r_tup (a_cons (r_tup (a_cons r_str (a_cons (r_tup (a_cons r_int a_nil) rfl) a_nil)) rfl) (a_cons (r_tup (a_cons r_str (a_cons (r_tup (a_cons r_int a_nil) rfl) a_nil)) rfl) a_nil)) rfl) a_nil)) rfl) (a_cons (r_tup (a_cons (r_tup a_nil rfl) (a_cons (r_tup (a_cons (r_lst (a_cons r_str (a_cons (r_tup (a_cons r_int a_nil) rfl) a_nil)) rfl) a_nil) rfl) a_nil)) rfl) a_nil))) rfl) (or_catS rfl rfl (by rw [sizeLine_eq]; decide))) rfl (by walk_at "v") sc_law_odd_forms.nd rfl (fun _ => ?_))
  show XB _ _ [.own (oddF1 ++ oddF2), .un, .un] _ _
  refine xb_frz 0 rfl rfl ?_
  show XB _ _ [.d (.list (oddF1 ++ oddF2)), .un, .un] _ _
  refine xb_cons (x_set 0 (r_bin (r_var 0 rfl (by walk_at "v") rfl) (r_lst (a_cons (r_tup (a_cons (r_tup a_nil rfl) (a_cons (r_tup (a_cons (r_tup (a_cons r_str (a_cons (r_tup (a_cons r_int a_nil) rfl) a_nil)) rfl) a_nil) rfl) a_nil)) rfl) (a_cons (r_tup (a_cons (r_tup a_nil rfl) (a_cons (r_tup (a_cons (r_tup (a_cons r_str (a_cons (r_tup (a_cons r_int a_nil) rfl) a_nil)) rfl) a_nil) rfl) a_nil)) rfl) (a_cons (r_tup (a_cons (r_tup a_nil rfl) (a_cons (r_tup (a_cons (r_tup (a_cons r_int (a_cons (r_tup (a_cons r_int a_nil) rfl) a_nil)) rfl) a_nil) rfl) a_nil)) rfl) (a_cons (r_tup (a_cons (r_tup a_nil rfl) (a_cons (r_tup (a_cons (r_tup (a_cons r_str (a_cons (r_tup (a_cons r_int a_nil) rfl) (a_cons r_int a_nil))) rfl) a_nil) rfl) a_nil)) rfl) a_nil)))) rfl) (or_catS rfl rfl (by rw [sizeLine_eq]; decide))) rfl (by walk_at "v") sc_law_odd_forms.nd rfl (fun _ => ?_))
  show XB _ _ [.own (oddF1 ++ oddF2 ++ oddF3), .un, .un] _ _
  refine xb_frz 0 rfl rfl ?_
  show XB _ _ [.d (.list (oddF1 ++ oddF2 ++ oddF3)), .un, .un] _ _
  refine xb_one (x_ret (r_bin (r_bin (r_var 0 rfl (by walk_at "v") rfl) (r_lc (own := [("_law_parts_here", 1)]) oddP (fun y => y) (fun _ => true) (fun p => .tuple [p, .tuple []]) (fun p => [.d (.list (oddF1 ++ oddF2 ++ oddF3)), .d p, .un]) (i_list (r_cal0 CO hr1 pass0 (fun r' h => h)) rfl) (List.map_id' _).symm rfl sc_law_odd_forms.nd (blkOk_by (N := ["_law_found", "_law_parts_here", "_law_one"]) (sc := defScope S_law_odd_forms) (by decide +kernel)) (by intro v hv; rw [List.mem_singleton.mp hv]; rfl) (by decide) (fun c hc s H C cl fp => g_name 1 rfl (by walk_at "v") sc_law_odd_forms.nd rfl) (fun c hc => rfl) (fun c hc s H C cl fp => ts_nil) (fun c hc _ => ⟨_, fun s H C cl fp => (r_tup (a_cons (r_var 1 rfl (by walk_at "v") rfl) (a_cons (r_tup a_nil rfl) a_nil)) rfl), rfl⟩)) (or_catS rfl rfl (by rw [sizeLine_eq]; decide))) (r_lc (own := [("_law_one", 2)]) oddP (fun y => y) (fun _ => true) (fun p => .tuple [.tuple [], .tuple [.tuple [.str "i", p]]]) (fun p => [.d (.list (oddF1 ++ oddF2 ++ oddF3)), .un, .d p]) (i_list (r_cal0 CO hr1 pass0 (fun r' h => h)) rfl) (List.map_id' _).symm rfl sc_law_odd_forms.nd (blkOk_by (N := ["_law_found", "_law_parts_here", "_law_one"]) (sc := defScope S_law_odd_forms) (by decide +kernel)) (by intro v hv; rw [List.mem_singleton.mp hv]; rfl) (by decide) (fun c hc s H C cl fp => g_name 2 rfl (by walk_at "v") sc_law_odd_forms.nd rfl) (fun c hc => rfl) (fun c hc s H C cl fp => ts_nil) (fun c hc _ => ⟨_, fun s H C cl fp => (r_tup (a_cons (r_tup a_nil rfl) (a_cons (r_tup (a_cons (r_tup (a_cons r_str (a_cons (r_var 2 rfl (by walk_at "v") rfl) a_nil)) rfl) a_nil) rfl) a_nil)) rfl), rfl⟩)) (or_catS rfl rfl (by rw [sizeLine_eq]; decide))) ?_)
  refine ⟨?_, by simp⟩
  show Sl.own _ = Sl.own _
  simp only [flt1]
  rfl
theorem g_odd_statements {f : Addr} {fd : FuncData} (F : Fun K "_law_odd_statements" "_law_odd_statements" S_law_odd_statements f fd) (CO : Cal0 P w K mg base CX0 "_law_odd_parts" 1 (ResO oddP)) (CF : Cal0 P w K mg base CX0 "_law_odd_forms" 2 (ResO oddF)) : FnOk P w K mg base CX0 3 f fd [] (spP K (fun as => as = []) (ResO oddS)) := by
  refine fn_P F sc_law_odd_statements (fun as h => by obtain rfl := h; rfl) (by decide) fun cdv A outer s H E hr b as hp => ?_
  obtain rfl := hp
  have hr2 := hr
  have hr1 := hr.mono (show 1 ≤ 2 by decide)
  show XB _ _ [.un, .un, .un] _ _
  refine xb_cons (x_set 0 (r_lst (a_cons r_non (a_cons r_int (a_cons r_str (a_cons (r_tup a_nil rfl) (a_cons (r_tup (a_cons r_str (a_cons r_int a_nil)) rfl) (a_cons (r_lst (a_cons r_str a_nil) rfl) (a_cons (r_tup (a_cons r_str a_nil) rfl) (a_cons (r_tup (a_cons r_str (a_cons r_str a_nil)) rfl) (a_cons (r_tup (a_cons r_str (a_cons r_str a_nil)) rfl) (a_cons (r_tup (a_cons r_non a_nil) rfl) a_nil)))))))))) rfl) rfl (by walk_at "v") sc_law_odd_statements.nd rfl (fun _ => ?_))
  show XB _ _ [.own oddS1, .un, .un] _ _
  refine xb_frz 0 rfl rfl ?_
  show XB _ _ [.d (.list oddS1), .un, .un] _ _
  refine xb_cons (x_set 0 (r_bin (r_var 0 rfl (by walk_at "v") rfl) (r_lst (a_cons (r_tup (a_cons r_str (a_cons r_str (a_cons (r_tup (a_cons (r_tup a_nil rfl) (a_cons (r_tup a_nil rfl) a_nil)) rfl) a_nil))) rfl) (a_cons (r_tup (a_cons r_str (a_cons r_int (a_cons (r_tup (a_cons (r_tup a_nil rfl) (a_cons (r_tup a_nil rfl) a_nil)) rfl) a_nil))) rfl) (a_cons (r_tup (a_cons r_str (a_cons r_str (a_cons (r_tup (a_cons (r_tup a_nil rfl) (a_cons (r_tup a_nil rfl) a_nil)) rfl) a_nil))) rfl) (a_cons (r_tup (a_cons (r_lst (a_cons r_str a_nil) rfl) a_nil) rfl) a_nil)))) rfl) (or_catS rfl rfl (by rw [sizeLine_eq]; decide))) rfl (by walk_at "v") sc_law_odd_statements.nd rfl (fun _ => ?_))
  show XB _ _ [.own (oddS1 ++ oddS2), .un, .un] _ _
  refine xb_frz 0 rfl rfl ?_
  show XB _ _ [.d (.list (oddS1 ++ oddS2)), .un, .un] _ _
  refine xb_cons (x_set 0 (r_bin (r_var 0 rfl (by walk_at "v") rfl) (r_lst (a_cons (r_tup (a_cons r_str (a_cons r_str (a_cons (r_tup (a_cons r_int a_nil) rfl) a_nil))) rfl) (a_cons (r_tup (a_cons r_str (a_cons r_str (a_cons (r_tup (a_cons r_int a_nil) rfl) (a_cons (r_lst a_nil rfl) (a_cons r_int a_nil))))) rfl) (a_cons (r_tup (a_cons r_str (a_cons r_str (a_cons (r_tup (a_cons r_int a_nil) rfl) (a_cons (r_lst a_nil rfl) a_nil)))) rfl) (a_cons (r_tup (a_cons r_str (a_cons r_str (a_cons (r_tup (a_cons r_int a_nil) rfl) (a_cons (r_tup a_nil rfl) a_nil)))) rfl) a_nil)))) rfl) (or_catS rfl rfl (by rw [sizeLine_eq]; decide))) rfl (by walk_at "v") sc_law_odd_statements.nd rfl (fun _ => ?_))
  show XB _ _ [.own (oddS1 ++ oddS2 ++ oddS3), .un, .un] _ _
  refine xb_frz 0 rfl rfl ?_
  show XB _ _ [.d (.list (oddS1 ++ oddS2 ++ oddS3)), .un, .un] _ _
  refine xb_cons (x_set 0 (r_bin (r_var 0 rfl (by walk_at "v") rfl) (r_lst (a_cons (r_tup (a_cons r_str (a_cons r_non (a_cons (r_tup (a_cons r_int a_nil) rfl) (a_cons (r_tup a_nil rfl) a_nil)))) rfl) (a_cons (r_tup (a_cons r_str (a_cons r_str (a_cons (r_tup (a_cons r_int a_nil) rfl) (a_cons r_non a_nil)))) rfl) (a_cons (r_tup (a_cons r_str (a_cons r_str (a_cons (r_tup (a_cons r_int a_nil) rfl) (a_cons (r_tup a_nil rfl) (a_cons (r_tup a_nil rfl) a_nil))))) rfl) a_nil))) rfl) (or_catS rfl rfl (by rw [sizeLine_eq]; decide))) rfl (by walk_at "v") sc_law_odd_statements.nd rfl (fun _ => ?_))
  show XB _ _ [.own (oddS1 ++ oddS2 ++ oddS3 ++ oddS4), .un, .un] _ _
  refine xb_frz 0 rfl rfl ?_
  show XB _ _ [.d (.list (oddS1 ++ oddS2 ++ oddS3 ++ oddS4)), .un, .un] _ _
  refine xb_cons (x_set 0 (r_bin (r_var 0 rfl (by walk_at "v") rfl) (r_lc (own := [("_law_parts_here", 1)]) oddP (fun y => y) (fun _ => true) (fun p => .tuple [.str "for", .str "i", p, .tuple []]) (fun p => [.d (.list (oddS1 ++ oddS2 ++ oddS3 ++ oddS4)), .d p, .un]) (i_list (r_cal0 CO hr1 pass0 (fun r' h => h)) rfl) (List.map_id' _).symm rfl sc_law_odd_statements.nd (blkOk_by (N := ["_law_found", "_law_parts_here", "_law_form_here"]) (sc := defScope S_law_odd_statements) (by decide +kernel)) (by intro v hv; rw [List.mem_singleton.mp hv]; rfl) (by decide) (fun c hc s H C cl fp => g_name 1 rfl (by walk_at "v") sc_law_odd_statements.nd rfl) (fun c hc => rfl) (fun c hc s H C cl fp => ts_nil) (fun c hc _ => ⟨_, fun s H C cl fp => (r_tup (a_cons r_str (a_cons r_str (a_cons (r_var 1 rfl (by walk_at "v") rfl) (a_cons (r_tup a_nil rfl) a_nil)))) rfl), rfl⟩)) (or_catS rfl rfl (by rw [sizeLine_eq]; decide))) rfl (by walk_at "v") sc_law_odd_statements.nd rfl (fun _ => ?_))
  simp only [flt1]
  show XB _ _ [.own (oddS1 ++ oddS2 ++ oddS3 ++ oddS4 ++ (oddP.map fun p => .tuple [.str "for", .str "i", p, .tuple []])), .un, .un] _ _
  refine xb_frz 0 rfl rfl ?_
  show XB _ _ [.d (.list (oddS1 ++ oddS2 ++ oddS3 ++ oddS4 ++ (oddP.map fun p => .tuple [.str "for", .str "i", p, .tuple []]))), .un, .un] _ _
  refine xb_cons (x_set 0 (r_bin (r_var 0 rfl (by walk_at "v") rfl) (r_lc (own := [("_law_form_here", 2)]) oddF (fun y => y) (fun _ => true) (fun p => .tuple [.str "read", .str "a", p]) (fun p => [.d (.list (oddS1 ++ oddS2 ++ oddS3 ++ oddS4 ++ (oddP.map fun p => .tuple [.str "for", .str "i", p, .tuple []]))), .un, .d p]) (i_list (r_cal0 CF hr2 pass0 (fun r' h => h)) rfl) (List.map_id' _).symm rfl sc_law_odd_statements.nd (blkOk_by (N := ["_law_found", "_law_parts_here", "_law_form_here"]) (sc := defScope S_law_odd_statements) (by decide +kernel)) (by intro v hv; rw [List.mem_singleton.mp hv]; rfl) (by decide) (fun c hc s H C cl fp => g_name 2 rfl (by walk_at "v") sc_law_odd_statements.nd rfl) (fun c hc => rfl) (fun c hc s H C cl fp => ts_nil) (fun c hc _ => ⟨_, fun s H C cl fp => (r_tup (a_cons r_str (a_cons r_str (a_cons (r_var 2 rfl (by walk_at "v") rfl) a_nil))) rfl), rfl⟩)) (or_catS rfl rfl (by rw [sizeLine_eq]; decide))) rfl (by walk_at "v") sc_law_odd_statements.nd rfl (fun _ => ?_))
  simp only [flt1]
  show XB _ _ [.own (oddS1 ++ oddS2 ++ oddS3 ++ oddS4 ++ (oddP.map fun p => .tuple [.str "for", .str "i", p, .tuple []]) ++ (oddF.map fun p => .tuple [.str "read", .str "a", p])), .un, .un] _ _
  refine xb_frz 0 rfl rfl ?_
  show XB _ _ [.d (.list (oddS1 ++ oddS2 ++ oddS3 ++ oddS4 ++ (oddP.map fun p => .tuple [.str "for", .str "i", p, .tuple []]) ++ (oddF.map fun p => .tuple [.str "read", .str "a", p]))), .un, .un] _ _
  refine xb_one (x_ret (r_bin (r_var 0 rfl (by walk_at "v") rfl) (r_lc (own := [("_law_form_here", 2)]) oddF (fun y => y) (fun _ => true) (fun p => .tuple [.str "write", .str "a", p]) (fun p => [.d (.list (oddS1 ++ oddS2 ++ oddS3 ++ oddS4 ++ (oddP.map fun p => .tuple [.str "for", .str "i", p, .tuple []]) ++ (oddF.map fun p => .tuple [.str "read", .str "a", p]))), .un, .d p]) (i_list (r_cal0 CF hr2 pass0 (fun r' h => h)) rfl) (List.map_id' _).symm rfl sc_law_odd_statements.nd (blkOk_by (N := ["_law_found", "_law_parts_here", "_law_form_here"]) (sc := defScope S_law_odd_statements) (by decide +kernel)) (by intro v hv; rw [List.mem_singleton.mp hv]; rfl) (by decide) (fun c hc s H C cl fp => g_name 2 rfl (by walk_at "v") sc_law_odd_statements.nd rfl) (fun c hc => rfl) (fun c hc s H C cl fp => ts_nil) (fun c hc _ => ⟨_, fun s H C cl fp => (r_tup (a_cons r_str (a_cons r_str (a_cons (r_var 2 rfl (by walk_at "v") rfl) a_nil))) rfl), rfl⟩)) (or_catS rfl rfl (by rw [sizeLine_eq]; decide))) ?_)
  refine ⟨?_, by simp⟩
  show Sl.own _ = Sl.own _
  simp only [flt1]
  rfl
end

end K08

namespace K08
open PySem L2 SZ VR VX StX RT DE
/-! ### an odd thing put into a block -/
inductive Put (o : PyData) : List Tre → List PyData → Prop
  | here (a b : List Tre) : Put o (a ++ b) (blD a ++ o :: blD b)
  | deep (a b : List Tre) (c : Str) (ps : List Int) (bl : List Tre) (zs : List PyData) : Put o bl zs → Put o (a ++ .loop c ps bl :: b) (blD a ++ .tuple [.str "for", .str c, .tuple (ps.map .int), .tuple zs] :: blD b)
theorem cut_takeT {ys : List PyData} {i : Int} {p : Sl → Prop} (i0 : 0 ≤ i) (h : p (.d (.tuple (ys.take i.toNat)))) : Cut (.d (.tuple ys)) none (some i) p := .tup (by
  have := cutA_to ys i.toNat
  rw [Int.toNat_of_nonneg i0] at this
  rw [this]
  exact h)
theorem cut_dropT {ys : List PyData} {i : Int} {p : Sl → Prop} (i0 : 0 ≤ i) (h : p (.d (.tuple (ys.drop i.toNat)))) : Cut (.d (.tuple ys)) (some i) none p := .tup (by
  have := cutA_from ys i.toNat
  rw [Int.toNat_of_nonneg i0] at this
  rw [this]
  exact h)
theorem tr_head {t : Tre} {d : Nat} (h : StV t d) : ∃ (z : Str) (rs : List PyData), trD t = .tuple (.str z :: rs) ∧ (z = "for" → ∃ c ps ib, t = .loop c ps ib) := by
  cases t with
  | flush => exact ⟨"flush", [], rfl, fun e => absurd e (by decide +kernel)⟩
  | acc wd a A0 F0 =>
    obtain ⟨hw, _⟩ := h
    refine ⟨wd, _, rfl, fun e => ?_⟩
    subst e
    rcases hw with e | e <;> exact absurd e (by decide +kernel)
  | loop c ps ib => exact ⟨"for", _, rfl, fun _ => ⟨c, ps, ib, rfl⟩⟩
abbrev PreU (bl : List Tre) (o : PyData) : List PyData → List Sl → Prop := fun ys as => PoolD ys ∧ as = [.d (.tuple (blD bl)), .d o]
abbrev ResU (bl : List Tre) (o : PyData) : List PyData → List Sl → Sl → List PyData → Prop := fun _ _ r ys' => PoolD ys' ∧ ∃ zs, r = .d (.tuple zs) ∧ Put o bl zs
section
variable {P : Program} {w : World} {K : PySem.W.Frag} {mg : Str → Option Value} {base : Heap}
theorem g_put {f : Addr} {fd : FuncData} (F : Fun K "_law_put" "_law_put" S_law_put f fd) (CT : CalB P w K mg base CX0 "_law_take" 1 PreT ResT) (z_len : mg "len" = none) (o : PyData) (d : Nat) (bl : List Tre) (hb : BlV bl d) (hc : cntB bl ≤ 1000)
    (CR : ∀ e ib, d = e + 1 → BlV ib e → cntB ib ≤ 1000 → CalB P w K mg base CX0 "_law_put" (2 + e) (PreU ib o) (ResU ib o)) : FnOk P w K mg base CX0 (2 + d) f fd ["_law_pool_here", "_law_block_here", "_law_odd"] (spB K (PreU bl o) (ResU bl o)) := by
  rw [show 2 + d = (1 + d) + 1 by omega]
  refine fn_B F sc_law_put (fun ys as h => by rw [h.2]; rfl) fun cdv A outer s H E hr b ys as hp => ?_
  obtain ⟨hy, rfl⟩ := hp
  have hr1 := hr.mono (show 1 ≤ 1 + d by omega)
  have hll := len_cnt bl
  have hbb : (blD bl).length = bl.length := by rw [blD_map, List.length_map]
  show XB _ _ [.bor ys, .d (.tuple (blD bl)), .d o, .un, .un] _ _
  refine xb_cons (xs_set 3 sc_law_put.nd rfl (by walk_at "v") (by simp) rfl (.inl rfl) (ev_take 0 CT hr1 rfl (by walk_at "v") pass0 rfl (.inr rfl) hy (wd := ((blD bl).length : Int) + 1) (r_bin (r_callB (id := "len") z_len (a_cons (r_var 1 rfl (by walk_at "v") rfl) a_nil) (by walk_at "c")) r_int (by walk_at "o")) (by omega) (by omega) fun at0' ys1 a0 a1 hy1 => fun _ => fun _ => ?_))
  obtain ⟨n, rfl⟩ : ∃ n : Nat, at0' = n := ⟨at0'.toNat, by omega⟩
  show XB _ _ [.bor ys1, .d (.tuple (blD bl)), .d o, .d (.int (n : Int)), .un] _ _
  have here : ∀ ys', PoolD ys' → XB (cxOf CX0 P w K mg base ["_law_pool_here", "_law_block_here", "_law_odd", "_law_at", "_law_inner"] "_law_put" (defScope S_law_put) f cdv A outer s H E).nox b [.bor ys', .d (.tuple (blD bl)), .d o, .d (.int (n : Int)), .un] ((defBody S_law_put).drop 2) ⟨fun ρ' => ∃ ys', ρ'[0]? = some (.bor ys') ∧ ResU bl o ys [.d (.tuple (blD bl)), .d o] (.d .none) ys', fun r ρ' => ∃ ys', ρ'[0]? = some (.bor ys') ∧ ResU bl o ys [.d (.tuple (blD bl)), .d o] r ys' ∧ ∀ zs, r ≠ .bor zs, fun _ => False, fun _ => False⟩ := by
    intro ys' hy'
    refine xb_one (x_ret (r_bin (r_bin (r_slice (r_var 1 rfl (by walk_at "v") rfl) (fun _ => o_none) (fun _ => o_some (r_var 3 rfl (by walk_at "v") rfl)) (fun p h => cut_takeT (by omega) h)) (r_tup (a_cons (r_var 2 rfl (by walk_at "v") rfl) a_nil) rfl) (or_catT (by rw [sizeLine_eq, List.length_take]; simp only [List.length_singleton]; omega))) (r_slice (r_var 1 rfl (by walk_at "v") rfl) (fun _ => o_some (r_var 3 rfl (by walk_at "v") rfl)) (fun _ => o_none) (fun p h => cut_dropT (by omega) h)) (or_catT (by rw [sizeLine_eq, List.length_append, List.length_take, List.length_drop]; simp only [List.length_singleton]; omega))) ?_)
    refine ⟨_, rfl, ⟨by assumption, _, rfl, ?_⟩, by simp⟩
    rw [Int.toNat_natCast, List.append_assoc]
    have h2 := Put.here (o := o) (bl.take n) (bl.drop n)
    rw [List.take_append_drop] at h2
    have e3 : blD (bl.take n) = (blD bl).take n := by rw [blD_map, blD_map, List.map_take]
    have e4 : blD (bl.drop n) = (blD bl).drop n := by rw [blD_map, blD_map, List.map_drop]
    rw [e3, e4] at h2
    exact h2
  by_cases hn : n < bl.length
  · have hx : atI (blD bl) (n : Int) = some (trD bl[n]) := by
      unfold atI ixN
      rw [if_pos (by omega), if_pos (by omega)]
      show (blD bl)[(n : Int).toNat]? = _
      rw [Int.toNat_natCast, blD_map, List.getElem?_map, List.getElem?_eq_getElem hn]
      rfl
    obtain ⟨z, rs, hz, hfor⟩ := tr_head (blv_all hb bl[n] (List.getElem_mem hn))
    rw [hz] at hx
    refine xb_cons (xs_if (et_w (ew_and ((t_cmp (r_var 3 rfl (by walk_at "v") rfl) (r_callB (id := "len") z_len (a_cons (r_var 1 rfl (by walk_at "v") rfl) a_nil) (by walk_at "c")) (by walk_at "o")) _ ⟨fun h0 => fun _ => ⟨fun h => (nomatch h), fun _ => ?_⟩, fun h0 => ew_and ((t_cmp (r_ix (r_ix (r_var 1 rfl (by walk_at "v") rfl) (r_var 3 rfl (by walk_at "v") rfl) (ir_at (.inr rfl) hx)) r_int (ir_at (y := .str z) (.inr rfl) at0)) r_str (by walk_at "o")) _ ⟨fun h1 => fun _ => ⟨fun h => (nomatch h), fun _ => ?_⟩, fun h1 => ew_and1 (et_cmp rfl (ev_take 0 CT hr1 rfl (by walk_at "v") pass0 rfl (.inr rfl) hy1 (wd := 3) r_int (by decide) (by decide) fun q ys2 q0 q1 hy2 => r_int _ (ov_gt ⟨_, rfl, fun _ => ⟨fun h2 => ?_, fun h2 => ?_⟩⟩)))⟩)⟩))))
    rotate_left 2
    · obtain ⟨c, ps, ib, ht⟩ := hfor (of_decide_eq_true h1)
      have hv := blv_all hb bl[n] (List.getElem_mem hn)
      have hcm := cnt_mem (List.getElem_mem hn)
      rw [ht] at hv hcm hz
      obtain ⟨e, rfl, _, _, hib⟩ := hv
      have hci : cntB ib ≤ 1000 := by
        unfold cntS at hcm
        omega
      rw [← hz] at hx
      have hrR := hr.mono (show 2 + e ≤ 1 + (e + 1) by omega)
      show XB _ _ [.bor ys2, .d (.tuple (blD bl)), .d o, .d (.int (n : Int)), .un] _ _
      refine xb_cons (xs_set 4 sc_law_put.nd rfl (by walk_at "v") (by simp) rfl (.inl rfl) (ev_calL 0 (CR e ib rfl hib hci) hrR rfl pass0 rfl (by walk_at "v") ((a_cons (r_ix (r_ix (r_var 1 rfl (by walk_at "v") rfl) (r_var 3 rfl (by walk_at "v") rfl) (ir_at (.inr rfl) hx)) r_int (ir_at (y := .tuple (blD ib)) (.inr rfl) rfl)) (a_cons (r_var 2 rfl (by walk_at "v") rfl) a_nil)) _ ⟨[.tuple (blD ib), o], rfl, _, ys2, rfl, .inr rfl, ⟨hy2, rfl⟩, fun r ys3 hr' => ?_⟩) ⟨_, _, rfl, .inr rfl⟩))
      obtain ⟨hy3, zs, rfl, hput⟩ := hr'
      refine ⟨by intro _; nofun, fun _ => fun _ => ?_⟩
      show XB _ _ [.bor ys3, .d (.tuple (blD bl)), .d o, .d (.int (n : Int)), .d (.tuple zs)] _ _
      refine xb_one (x_ret (r_bin (r_bin (r_slice (r_var 1 rfl (by walk_at "v") rfl) (fun _ => o_none) (fun _ => o_some (r_var 3 rfl (by walk_at "v") rfl)) (fun p h => cut_takeT (by omega) h)) (r_tup (a_cons (r_bin (r_slice (r_ix (r_var 1 rfl (by walk_at "v") rfl) (r_var 3 rfl (by walk_at "v") rfl) (ir_at (.inr rfl) hx)) (fun _ => o_none) (fun _ => o_some r_int) (fun p h => cut_takeT (by decide) h)) (r_tup (a_cons (r_var 4 rfl (by walk_at "v") rfl) a_nil) rfl) (or_catT (by rw [sizeLine_eq]; exact (by decide : (4 : Nat) ≤ 16777216)))) a_nil) rfl) (or_catT (by rw [sizeLine_eq, List.length_take]; simp only [List.length_singleton]; omega))) (r_slice (r_var 1 rfl (by walk_at "v") rfl) (fun _ => o_some (r_bin (r_var 3 rfl (by walk_at "v") rfl) r_int (by walk_at "o"))) (fun _ => o_none) (fun p h => cut_dropT (by omega) h)) (or_catT (by rw [sizeLine_eq, List.length_append, List.length_take, List.length_drop]; simp only [List.length_singleton]; omega))) ?_)
      refine ⟨ys3, rfl, ⟨hy3, _, rfl, ?_⟩, by simp⟩
      have e1 : bl = bl.take n ++ .loop c ps ib :: bl.drop (n + 1) := by
        rw [← ht, ← List.drop_eq_getElem_cons hn, List.take_append_drop]
      have e2 : ((n : Int) + 1).toNat = n + 1 := by omega
      have h2 := Put.deep (bl.take n) (bl.drop (n + 1)) c ps ib zs hput
      rw [← e1] at h2
      rw [e2, Int.toNat_natCast, List.append_assoc]
      have e3 : blD (bl.take n) = (blD bl).take n := by rw [blD_map, blD_map, List.map_take]
      have e4 : blD (bl.drop (n + 1)) = (blD bl).drop (n + 1) := by rw [blD_map, blD_map, List.map_drop]
      rw [e3, e4] at h2
      exact h2
    all_goals
      refine xb_nil (fun _ => ?_)
      exact here _ (by assumption)
  · have hf : decide ((n : Int) < ((blD bl).length : Int)) = false := decide_eq_false (by omega)
    refine xb_cons (x_if (c := false) (t_w (w_and (c1 := false) (c2 := false) (t_cmp (r_var 3 rfl (by walk_at "v") rfl) (r_callB (id := "len") z_len (a_cons (r_var 1 rfl (by walk_at "v") rfl) a_nil) (by walk_at "c")) (fun p h => ov_lt (by rw [hf]; exact h))) fun h => nomatch h)) (fun h0 => nomatch h0) (fun h0 => ?_))
    refine xb_nil (fun _ => ?_)
    exact here _ (by assumption)
theorem g_puts {f : Addr} {fd : FuncData} (F : Fun K "_law_put" "_law_put" S_law_put f fd) (gP : mg "_law_put" = some (.ref f)) (bP : Binds K fd ["_law_pool_here", "_law_block_here", "_law_odd"] []) (CT : CalB P w K mg base CX0 "_law_take" 1 PreT ResT) (z_len : mg "len" = none) (o : PyData) :
    ∀ (d : Nat) (bl : List Tre), BlV bl d → cntB bl ≤ 1000 → CalB P w K mg base CX0 "_law_put" (2 + d) (PreU bl o) (ResU bl o)
  | 0, bl, hb, hc => ⟨⟨_, _, _, g_put F CT z_len o 0 bl hb hc (fun e ib h => by omega), gP, F.kp, bP⟩⟩
  | d + 1, bl, hb, hc => ⟨⟨_, _, _, g_put F CT z_len o (d + 1) bl hb hc (fun e ib h hi hci => by
    obtain rfl : d = e := by omega
    exact g_puts F gP bP CT z_len o d ib hi hci), gP, F.kp, bP⟩⟩
end

end K08

namespace K08
open PySem L2 SZ VR VX StX RT DE
/-! ### drawn trees are what a program wants -/
theorem nk_all2 {ar nm : List Str} (hn : NmG ar nm) : ∀ n : Nat, (∀ (s : Tre) (cs : List Str), sizeOf s < n → (∀ z ∈ cs, z ∈ nm) → DrS ar nm s cs → NkS ar s cs) ∧ (∀ (b : List Tre) (cs : List Str), sizeOf b < n → (∀ z ∈ cs, z ∈ nm) → DrB ar nm b cs → NkB ar b cs) := by
  intro n
  induction n with
  | zero => exact ⟨fun s cs h => absurd h (Nat.not_lt_zero _), fun b cs h => absurd h (Nat.not_lt_zero _)⟩
  | succ n ih =>
    refine ⟨fun s cs h hc hd => ?_, fun b cs h hc hd => ?_⟩
    · cases s with
      | acc w a A F =>
        obtain ⟨_, ha, _, ⟨zs, hp, _, hsub⟩, _⟩ := hd
        exact ⟨ha, fun f hf => hp.mem_iff.mp (hsub.subset (List.mem_map.mpr ⟨f, hf, rfl⟩))⟩
      | flush => trivial
      | loop c ps b =>
        obtain ⟨h1, h2, _, _, h5⟩ := hd
        refine ⟨fun z => (List.nodup_append.mp hn.nd).2.2 c z c h1 rfl, h2, ih.2 b (cs ++ [c]) (by simp only [Tre.loop.sizeOf_spec] at h; omega) (fun z hz => ?_) h5⟩
        rcases List.mem_append.mp hz with hz | hz
        · exact hc z hz
        · rw [List.mem_singleton.mp hz]; exact h1
    · cases b with
      | nil => trivial
      | cons s b =>
        have hd : DrS ar nm s cs ∧ DrB ar nm b cs := hd
        exact ⟨ih.1 s cs (by simp only [List.cons.sizeOf_spec] at h; omega) hc hd.1, ih.2 b cs (by simp only [List.cons.sizeOf_spec] at h; omega) hc hd.2⟩
theorem cs0 {nm : List Str} : CsG nm [] 4 := ⟨fun z hz => (nomatch hz), List.nodup_nil, rfl⟩
theorem pg_of {ars : List Fc} {nm : List Str} {bl : List Tre} (hn : NmG (ars.map (·.1)) nm) (hq : ∀ f ∈ ars, QOk 4 f.2) (hd : DrB (ars.map (·.1)) nm bl []) (hc : cntB bl ≤ 13) : PgOk ars bl 4 := by
  obtain ⟨a1, a2, a3, a4, a5, a6⟩ := (tre_all hn (sizeOf bl + 1)).2 bl [] 4 "" (Nat.lt_succ_self _) cs0 hd
  have hl : ars.length ≤ 3 := by
    have := hn.la
    rwa [List.length_map] at this
  have hg : ∀ f ∈ ars, GoodN f.1 := fun f hf => hn.good f.1 (List.mem_append_left _ (List.mem_map.mpr ⟨f, hf, rfl⟩))
  have hs := stB_cnt bl
  refine ⟨⟨by omega, fun f hf => ⟨⟨(hg f hf).is, by have := (hg f hf).len; omega, (hg f hf).ok⟩, due_ptg (q_due (hq f hf) (Nat.le_refl _))⟩⟩, ⟨⟨by omega, fun f hf => q_bd (hq f hf) (Nat.le_refl _)⟩, ⟨a1, a3, by omega⟩, by omega, ?_, by decide⟩, (List.nodup_append.mp hn.nd).1, (nk_all2 hn (sizeOf bl + 1)).2 bl [] (Nat.lt_succ_self _) (fun z hz => (nomatch hz)) hd⟩
  have := List.length_filter_le isAc (stB bl)
  omega
section
variable {ars : List Fc} {bl : List Tre} {nm : List Str}
theorem TrD.gd (h : TrD ars bl nm) : ∀ f ∈ ars, GoodN f.1 := fun f hf => h.nmg.good f.1 (List.mem_append_left _ (List.mem_map.mpr ⟨f, hf, rfl⟩))
theorem TrD.al (h : TrD ars bl nm) : ars.length ≤ 3 := by
  have := h.nmg.la
  rwa [List.length_map] at this
theorem TrD.pg (h : TrD ars bl nm) : PgOk ars bl 4 := pg_of h.nmg h.ps h.dr (by have := h.cnt; omega)
end
/-! ### what was put makes no block -/
def tpB : PyData → Bool
  | .tuple _ => true
  | _ => false
theorem bOf_le {d : Nat} {y : PyData} (h : bOf d y = true) : tpB y = true := by
  cases d with
  | zero => cases h
  | succ e =>
    cases y with
    | tuple ys => rfl
    | _ => cases h
theorem st0_le {B B' : PyData → Bool} (hB : ∀ y, B y = true → B' y = true) {o : PyData} (h : isSt0 B o = true) : isSt0 B' o = true := by
  unfold isSt0 at h ⊢
  split
  · rename_i z r
    simp only at h
    split
    · rename_i hz
      rw [if_pos hz] at h
      exact h
    · rename_i hz
      rw [if_neg hz] at h
      split
      · rename_i hf
        rw [if_pos hf] at h
        unfold isFor at h ⊢
        split at h
        · rw [Bool.and_eq_true] at h ⊢
          exact ⟨h.1, hB _ h.2⟩
        · cases h
      · rename_i hf
        rw [if_neg hf] at h
        exact h
  · rename_i hn
    split at h
    · exact absurd rfl (hn _ _)
    · cases h
theorem odd_no {o : PyData} (h : isSt0 tpB o = false) (d : Nat) : isStD d o = false := by
  rw [isStD_of]
  cases hh : isSt0 (bOf d) o with
  | false => rfl
  | true => rw [st0_le (fun y hy => bOf_le hy) hh] at h; exact h
theorem st0_eq {B : PyData → Bool} {z : Str} {r : List PyData} : isSt0 B (.tuple (.str z :: r)) = if z = "flush" then r.isEmpty else if z = "for" then isFor B r else ((z == "read" || z == "write") && isAcc r) := rfl
theorem st_for {B : PyData → Bool} {c : Str} {p b : PyData} : isSt0 B (.tuple [.str "for", .str c, p, b]) = (isNamedD (.tuple [.str c, p]) && B b) := by
  rw [st0_eq]
  rw [if_neg (by decide +kernel), if_pos rfl]
  rfl
theorem st_acc {B : PyData → Bool} {w a : Str} {y : PyData} (hw : w = "read" ∨ w = "write") : isSt0 B (.tuple [.str w, .str a, y]) = (isNm a && isIdxD y) := by
  have h1 : ¬ w = "flush" := by rcases hw with rfl | rfl <;> decide +kernel
  have h2 : ¬ w = "for" := by rcases hw with rfl | rfl <;> decide +kernel
  have h3 : (w == "read" || w == "write") = true := by rcases hw with rfl | rfl <;> decide +kernel
  rw [st0_eq]
  rw [if_neg h1, if_neg h2, h3]
  rfl
theorem put_no {o : PyData} {bl : List Tre} {zs : List PyData} (p : Put o bl zs) (h : isSt0 tpB o = false) : ∀ d, isBlD (isStD d) (.tuple zs) = false := by
  induction p with
  | here a b =>
    intro d
    show List.all _ _ = false
    rw [List.all_append, List.all_cons, odd_no h d, Bool.false_and, Bool.and_false]
  | deep a b c ps ib zs p ih =>
    intro d
    show List.all _ _ = false
    have e : isStD d (.tuple [.str "for", .str c, .tuple (ps.map .int), .tuple zs]) = false := by
      rw [isStD_of, st_for]
      cases d with
      | zero => exact Bool.and_false _
      | succ e => 
        show (_ && isBlD (isStD e) (.tuple zs)) = false
        rw [ih e, Bool.and_false]
    rw [List.all_append, List.all_cons, e, Bool.false_and, Bool.and_false]
/-! ### what holds of drawn statements -/
theorem wid_tup {ys : List PyData} (hl : ys.length ≤ 60) (h : ∀ y ∈ ys, wid y = true) : wid (.tuple ys) = true := by
  unfold wid
  rw [Bool.and_eq_true, decide_eq_true_iff, widAll_iff]
  exact ⟨hl, h⟩
theorem wid_str {z : Str} (h : z.length ≤ 100) : wid (.str z) = true := by
  unfold wid
  exact decide_eq_true h
theorem wid_ints {ps : List Int} (h : ps.length ≤ 60) : wid (.tuple (ps.map .int)) = true := wid_tup (by rw [List.length_map]; exact h) fun y hy => by
  obtain ⟨p, _, rfl⟩ := List.mem_map.mp hy
  unfold wid
  rfl
theorem parts_good {ps : List Int} (h : trim ps = ps) : isPartsD (.tuple (ps.map .int)) = true := by
  show ((ps.map PyData.int).all isIntD && nzLast (ps.map .int)) = true
  rw [Bool.and_eq_true]
  refine ⟨List.all_eq_true.mpr fun y hy => ?_, ?_⟩
  · obtain ⟨p, _, rfl⟩ := List.mem_map.mp hy
    rfl
  · by_cases hp : ps = []
    · subst hp; rfl
    · have hpos : 0 < ps.length := List.length_pos_iff.mpr hp
      have hz : nzLast (ps.map .int) = !decide (ps.getD (ps.length - 1) 0 = 0) := by
        unfold nzLast
        rw [List.getLast?_eq_getElem?, List.length_map, List.getElem?_map, List.getD_eq_getElem?_getD, List.getElem?_eq_getElem (by omega)]
        rfl
      rw [hz, decide_eq_false (trim_last h hp)]
      rfl
theorem pw_rising : ∀ (p : Str) (l : List Str), (p :: l).Pairwise (fun a b => a.cps.toList ≤ b.cps.toList) → PyProof.Rows.risingS p l = true := fun p l h =>
  PyProof.Rows.risingS_of_pairwise p l (h.imp fun hab => by
    rw [PyProof.Rows.ltCps_eq, decide_eq_false_iff_not, List.not_lt]
    exact hab)
theorem pw_sorted {l : List Str} (h : l.Pairwise (fun a b => a.cps.toList ≤ b.cps.toList)) : PyProof.Rows.sortedS l = true := by
  cases l with
  | nil => rfl
  | cons p l => exact pw_rising p l h
theorem idx_good {A : List Int} {F : List Fc} (h : DueOk A F) : isIdxD (idxD A F) = true := by
  show (isPartsD (.tuple (A.map .int)) && (((F.map fcD).all fun p => isNamedD p && ne2 p) && ordS ((F.map fcD).map nm1))) = true
  have e : (F.map fcD).map nm1 = F.map (·.1) := by
    rw [List.map_map]
    rfl
  rw [parts_good h.form.1, e, Bool.true_and, Bool.and_eq_true]
  refine ⟨List.all_eq_true.mpr fun y hy => ?_, ?_⟩
  · obtain ⟨f, hf, rfl⟩ := List.mem_map.mp hy
    have hq := h.form.2.2.2.2 f hf
    have h1 := h.fs f hf
    have e1 : isNm f.1 = true := h1.2.1
    show ((isNm f.1 && isPartsD (.tuple (f.2.map .int))) && ne2 (.tuple [.str f.1, .tuple (f.2.map .int)])) = true
    rw [e1, parts_good hq.2.1]
    cases hf2 : f.2 with
    | nil => exact absurd hf2 hq.2.2.1
    | cons p ps => rfl
  · unfold ordS
    rw [decide_eq_true h.form.2.2.1, pw_sorted h.form.2.2.2.1]
    rfl
theorem idx_wid {A : List Int} {F : List Fc} (h : DueOk A F) : wid (idxD A F) = true := wid_tup (by show 2 ≤ 60; decide) fun y hy => by
  simp only [List.mem_cons, List.not_mem_nil, or_false] at hy
  rcases hy with rfl | rfl
  · exact wid_ints (by have := h.form.2.1; omega)
  · refine wid_tup (by rw [List.length_map]; have := h.len; omega) fun y hy => ?_
    obtain ⟨f, hf, rfl⟩ := List.mem_map.mp hy
    refine wid_tup (by show 2 ≤ 60; decide) fun y hy => ?_
    simp only [List.mem_cons, List.not_mem_nil, or_false] at hy
    rcases hy with rfl | rfl
    · exact wid_str (h.fs f hf).2.2.1.1
    · exact wid_ints (by have := (h.form.2.2.2.2 f hf).2.2.2; omega)
structure Ok4 (ar nm : List Str) (s : Tre) (d : Nat) (cs : List Str) : Prop where
  v : StV s d
  t : TrOk s d
  r : DrS ar nm s cs
  c : cntS s ≤ 50
theorem drb_all {ar nm cs : List Str} : ∀ {b : List Tre}, DrB ar nm b cs → ∀ s ∈ b, DrS ar nm s cs
  | [], _, s, h => by cases h
  | x :: b, hb, s, h => by
    unfold DrB at hb
    rcases List.mem_cons.mp h with rfl | h
    · exact hb.1
    · exact drb_all hb.2 s h
theorem ok4_all {ar nm : List Str} {b : List Tre} {d : Nat} {cs : List Str} (h1 : BlV b d) (h2 : BtOk b d) (h3 : DrB ar nm b cs) (h4 : cntB b ≤ 50) : ∀ s ∈ b, Ok4 ar nm s d cs := fun s hs =>
  ⟨blv_all h1 s hs, blOk_all h2 s hs, drb_all h3 s hs, Nat.le_trans (cnt_mem hs) h4⟩
theorem Ok4.loop {ar nm : List Str} {c : Str} {ps : List Int} {b : List Tre} {d : Nat} {cs : List Str} (h : Ok4 ar nm (.loop c ps b) d cs) : ∃ e, d = e + 1 ∧ cntB b ≤ 49 ∧ ∀ s ∈ b, Ok4 ar nm s e (cs ++ [c]) := by
  obtain ⟨hv, ht, hr, hc⟩ := h
  obtain ⟨e, rfl, _, _, hb⟩ := hv
  obtain ⟨e', he', _, _, hbt⟩ := ht
  obtain rfl : e' = e := by omega
  obtain ⟨_, _, _, _, hd⟩ := hr
  unfold cntS at hc
  exact ⟨_, rfl, by omega, ok4_all hb hbt hd (by omega)⟩
structure FinS (t : Tre) (k : Nat) : Prop where
  s : isStD k (trD t) = true
  w : wid (trD t) = true
  h : (trD t).showable = true
  l : (trD t).shown.length + 2 ≤ 60000 * cntS t
theorem piled_cons (y : PyData) (ys : List PyData) : piled (PyData.shownAll (y :: ys)) = y.shown.length + 2 + piled (PyData.shownAll ys) := by
  simp [PyData.shownAll, piled]
theorem piled_app : ∀ (xs ys : List PyData), piled (PyData.shownAll (xs ++ ys)) = piled (PyData.shownAll xs) + piled (PyData.shownAll ys)
  | [], ys => by simp [PyData.shownAll, piled]
  | x :: xs, ys => by rw [List.cons_append, piled_cons, piled_cons, piled_app xs ys]; omega
theorem piled_bl : ∀ {b : List Tre}, (∀ s ∈ b, (trD s).shown.length + 2 ≤ 60000 * cntS s) → piled (PyData.shownAll (blD b)) ≤ 60000 * cntB b
  | [], _ => by simp [blD, PyData.shownAll, piled]
  | s :: b, h => by
    have h1 := h s List.mem_cons_self
    have h2 := piled_bl fun t ht => h t (List.mem_cons_of_mem s ht)
    unfold blD cntB
    rw [piled_cons]
    omega
theorem sh_tuple_len (ys : List PyData) : (PyData.tuple ys).shown.length ≤ piled (PyData.shownAll ys) + 3 := by
  have := tupText_len (PyData.shownAll ys)
  simpa only [PyData.shown] using this
theorem sh_for : (PyData.str "for").shown.length = 5 := by decide +kernel
theorem for_len {c : Str} {ps : List Int} {zs : List PyData} (hc : NmS c) (hp : PsOk ps) : (PyData.tuple [.str "for", .str c, .tuple (ps.map .int), .tuple zs]).shown.length + 2 ≤ piled (PyData.shownAll zs) + 5000 := by
  have h1 := sh_tuple_len [.str "for", .str c, .tuple (ps.map .int), .tuple zs]
  have h2 := hc.2.2
  have h3 := (ints_shw hp).2.2
  have h4 := sh_tuple_len zs
  have h5 := sh_for
  rw [piled_cons, piled_cons, piled_cons, piled_cons] at h1
  have h6 : piled (PyData.shownAll []) = 0 := by simp [PyData.shownAll, piled]
  omega
theorem show_tup {ys : List PyData} (h : ∀ y ∈ ys, y.showable = true) : (PyData.tuple ys).showable = true := by simpa only [PyData.showable] using showA h
theorem fin_all {ar nm : List Str} (hn : NmG ar nm) : ∀ (n : Nat) (s : Tre) (d k : Nat) (cs : List Str), sizeOf s < n → d ≤ k → Ok4 ar nm s d cs → FinS s k
  | 0, _, _, _, _, h, _, _ => absurd h (Nat.not_lt_zero _)
  | n + 1, s, d, k, cs, hs, hk, ok => by
    cases s with
    | flush => exact ⟨by rw [isStD_of]; show isSt0 _ (.tuple (.str "flush" :: [])) = true; rw [st0_eq, if_pos rfl]; rfl, by decide +kernel, by decide +kernel, by show (PyData.tuple [.str "flush"]).shown.length + 2 ≤ 60000 * 1; decide +kernel⟩
    | acc w a A F =>
      obtain ⟨hw, hnm, hd⟩ := ok.v
      obtain ⟨_, hno, _, _⟩ := ok.t
      obtain ⟨_, ha, _⟩ := ok.r
      have hga := hn.good a (List.mem_append_left _ ha)
      have hN : NmS a := hga.sh
      have hix : Shw 50000 4 (idxD A F) := idx_shw hd.ps hd.fok fun f hf => (hd.fs f hf).2.2.2
      have hwl : (PyData.str w).shown.length ≤ 7 ∧ w.length ≤ 100 := by rcases hw with rfl | rfl <;> exact ⟨by decide +kernel, by decide +kernel⟩
      refine ⟨?_, wid_tup (by show 3 ≤ 60; decide) fun y hy => ?_, show_tup fun y hy => ?_, ?_⟩
      · rw [isStD_of]
        show isSt0 _ (.tuple [.str w, .str a, idxD A F]) = true
        rw [st_acc hw, idx_good hd, Bool.and_true]
        exact hnm
      · simp only [List.mem_cons, List.not_mem_nil, or_false] at hy
        rcases hy with rfl | rfl | rfl
        · exact wid_str hwl.2
        · exact wid_str hno.1
        · exact idx_wid hd
      · simp only [List.mem_cons, List.not_mem_nil, or_false] at hy
        rcases hy with rfl | rfl | rfl
        · simp only [PyData.showable]
        · simp only [PyData.showable]
        · exact hix.2.1
      · have h1 := sh_tuple_len [.str w, .str a, idxD A F]
        have h2 := hN.2.2
        have h3 := hix.2.2
        rw [piled_cons, piled_cons, piled_cons] at h1
        have h6 : piled (PyData.shownAll []) = 0 := by simp [PyData.shownAll, piled]
        show (PyData.tuple [.str w, .str a, idxD A F]).shown.length + 2 ≤ 60000 * 1
        omega
    | loop c ps b =>
      obtain ⟨e, rfl, hcb, hb⟩ := ok.loop
      obtain ⟨_, _, hnm, hdue, _⟩ := ok.v
      obtain ⟨_, _, hno, hps, _⟩ := ok.t
      obtain ⟨hcm, _, _, hq, _⟩ := ok.r
      have hN : NmS c := (hn.good c (List.mem_append_right _ hcm)).sh
      obtain ⟨k', rfl⟩ : ∃ k', k = k' + 1 := ⟨k - 1, by omega⟩
      have IH : ∀ t ∈ b, FinS t k' := fun t ht => fin_all hn n t e k' (cs ++ [c]) (by
        have h1 := List.sizeOf_lt_of_mem ht
        simp only [Tre.loop.sizeOf_spec] at hs
        omega) (by omega) (hb t ht)
      have hl := len_cnt b
      have hall : ∀ y ∈ blD b, ∃ t ∈ b, y = trD t := fun y hy => by
        rw [blD_map] at hy
        obtain ⟨t, ht, rfl⟩ := List.mem_map.mp hy
        exact ⟨t, ht, rfl⟩
      have hbl : (blD b).length ≤ 60 := by rw [blD_map, List.length_map]; omega
      refine ⟨?_, wid_tup (by show 4 ≤ 60; decide) fun y hy => ?_, show_tup fun y hy => ?_, ?_⟩
      · rw [isStD_of]
        show isSt0 (isBlD (isStD k')) (.tuple [.str "for", .str c, .tuple (ps.map .int), .tuple (blD b)]) = true
        rw [st_for]
        have e1 : isNm c = true := hnm
        show ((isNm c && isPartsD (.tuple (ps.map .int))) && (blD b).all (isStD k')) = true
        rw [e1, parts_good hq.1, Bool.true_and, Bool.true_and]
        refine List.all_eq_true.mpr fun y hy => ?_
        obtain ⟨t, ht, rfl⟩ := hall y hy
        exact (IH t ht).s
      · simp only [List.mem_cons, List.not_mem_nil, or_false] at hy
        rcases hy with rfl | rfl | rfl | rfl
        · exact wid_str (by decide +kernel)
        · exact wid_str hno.1
        · exact wid_ints (by have := hps.1; omega)
        · refine wid_tup hbl fun y hy => ?_
          obtain ⟨t, ht, rfl⟩ := hall y hy
          exact (IH t ht).w
      · simp only [List.mem_cons, List.not_mem_nil, or_false] at hy
        rcases hy with rfl | rfl | rfl | rfl
        · simp only [PyData.showable]
        · simp only [PyData.showable]
        · exact (ints_shw hps).2.1
        · refine show_tup fun y hy => ?_
          obtain ⟨t, ht, rfl⟩ := hall y hy
          exact (IH t ht).h
      · have h1 := for_len (zs := blD b) hN hps
        have h2 := piled_bl fun t ht => (IH t ht).l
        show (PyData.tuple [.str "for", .str c, .tuple (ps.map .int), .tuple (blD b)]).shown.length + 2 ≤ 60000 * (1 + cntB b)
        omega

end K08

namespace K08
open PySem L2 SZ VR VX StX RT DE
/-! ### bent trees -/
theorem ok4_gd {ar nm : List Str} {s : Tre} {d : Nat} {cs : List Str} (hn : NmG ar nm) (h : Ok4 ar nm s d cs) : Gd (2 * d + 5) (trD s) ∧ FinS s d := 
  have f := fin_all hn (sizeOf s + 1) s d d cs (Nat.lt_succ_self _) (Nat.le_refl _) h
  ⟨⟨tr_lay h.t, f.w⟩, f⟩
theorem gd_str {n : Nat} {z : Str} (h : z.length ≤ 100) (k : PyData.strOk z = true) : Gd n (.str z) := ⟨(Lay.str k).mono (Nat.zero_le _), wid_str h⟩
theorem put_fin {ar nm : List Str} (hn : NmG ar nm) {o : PyData} (ho : Gd 7 o) (hs : o.showable = true) {bl : List Tre} {zs : List PyData} (p : Put o bl zs) : ∀ (d : Nat) (cs : List Str), (∀ s ∈ bl, Ok4 ar nm s d cs) → cntB bl ≤ 50 →
    (∀ y ∈ zs, Gd (2 * d + 7) y ∧ y.showable = true) ∧ zs.length ≤ bl.length + 1 ∧ piled (PyData.shownAll zs) ≤ 60000 * cntB bl + o.shown.length + 2 := by
  have hgood : ∀ (d : Nat) (cs : List Str) (a : List Tre), (∀ s ∈ a, Ok4 ar nm s d cs) → (∀ y ∈ blD a, Gd (2 * d + 7) y ∧ y.showable = true) ∧ piled (PyData.shownAll (blD a)) ≤ 60000 * cntB a := fun d cs a ha => by
    refine ⟨fun y hy => ?_, piled_bl fun s hs => (ok4_gd hn (ha s hs)).2.l⟩
    rw [blD_map] at hy
    obtain ⟨t, ht, rfl⟩ := List.mem_map.mp hy
    have := ok4_gd hn (ha t ht)
    exact ⟨this.1.mono (by omega), this.2.h⟩
  have hlen : ∀ a : List Tre, (blD a).length = a.length := fun a => by rw [blD_map, List.length_map]
  induction p with
  | here a b =>
    intro d cs hok hc
    obtain ⟨a1, a2⟩ := hgood d cs a fun s h => hok s (List.mem_append_left _ h)
    obtain ⟨b1, b2⟩ := hgood d cs b fun s h => hok s (List.mem_append_right _ h)
    refine ⟨fun y hy => ?_, ?_, ?_⟩
    · rcases List.mem_append.mp hy with hy | hy
      · exact a1 y hy
      · rcases List.mem_cons.mp hy with rfl | hy
        · exact ⟨ho.mono (by omega), hs⟩
        · exact b1 y hy
    · rw [List.length_append, List.length_cons, List.length_append, hlen, hlen]
      omega
    · rw [piled_app, piled_cons, cntB_app]
      omega
  | deep a b c ps ib zs p ih =>
    intro d cs hok hc
    obtain ⟨a1, a2⟩ := hgood d cs a fun s h => hok s (List.mem_append_left _ h)
    obtain ⟨b1, b2⟩ := hgood d cs b fun s h => hok s (List.mem_append_right _ (List.mem_cons_of_mem _ h))
    have ok := hok (.loop c ps ib) (List.mem_append_right _ List.mem_cons_self)
    obtain ⟨e, rfl, hcb, hb⟩ := ok.loop
    obtain ⟨_, _, hnm, hdue, _⟩ := ok.v
    obtain ⟨_, _, hno, hps, _⟩ := ok.t
    obtain ⟨hcm, _, _, hq, _⟩ := ok.r
    have hN : NmS c := (hn.good c (List.mem_append_right _ hcm)).sh
    obtain ⟨i1, i2, i3⟩ := ih e (cs ++ [c]) hb (by omega)
    have hl := len_cnt ib
    have hps8 := hps.1
    refine ⟨fun y hy => ?_, ?_, ?_⟩
    · rcases List.mem_append.mp hy with hy | hy
      · exact a1 y hy
      · rcases List.mem_cons.mp hy with rfl | hy
        · refine ⟨(Gd.tup (n := 2 * e + 8) (by show 4 ≤ 60; decide) fun y hy => ?_).mono (by omega), show_tup fun y hy => ?_⟩
          · simp only [List.mem_cons, List.not_mem_nil, or_false] at hy
            rcases hy with rfl | rfl | rfl | rfl
            · exact gd_str (by decide +kernel) (by decide +kernel)
            · exact gd_str hno.1 hno.2
            · exact ⟨(ints_lay (n := 0) ps).mono (by omega), wid_ints (by omega)⟩
            · exact Gd.tup (n := 2 * e + 7) (by omega) fun y hy => (i1 y hy).1
          · simp only [List.mem_cons, List.not_mem_nil, or_false] at hy
            rcases hy with rfl | rfl | rfl | rfl
            · simp only [PyData.showable]
            · simp only [PyData.showable]
            · exact (ints_shw hps).2.1
            · exact show_tup fun y hy => (i1 y hy).2
        · exact b1 y hy
    · rw [List.length_append, List.length_cons, List.length_append, List.length_cons, hlen, hlen]
      omega
    · have h1 := for_len (zs := zs) hN hps
      rw [piled_app, piled_cons, cntB_app]
      show _ ≤ 60000 * (cntB a + (1 + cntB ib + cntB b)) + _ + 2
      omega
section
variable {ars : List Fc} {bl : List Tre} {nm : List Str}
theorem TrD.ok4 (h : TrD ars bl nm) : ∀ s ∈ bl, Ok4 (ars.map (·.1)) nm s 4 [] := by
  obtain ⟨a1, a2, a3, a4, a5, a6⟩ := (tre_all h.nmg (sizeOf bl + 1)).2 bl [] 4 "" (Nat.lt_succ_self _) cs0 h.dr
  exact ok4_all a1 a3 h.dr (by have := h.cnt; omega)
theorem TrD.bv (h : TrD ars bl nm) : BlV bl 4 := ((tre_all h.nmg (sizeOf bl + 1)).2 bl [] 4 "" (Nat.lt_succ_self _) cs0 h.dr).1
theorem TrD.ars_ok (h : TrD ars bl nm) : Gd 16 (.tuple (ars.map fcD)) ∧ (ars.map fcD).all isNamedD = true ∧ (PyData.tuple (ars.map fcD)).showable = true ∧ (PyData.tuple (ars.map fcD)).shown.length ≤ 20000 := by
  have hw : ∀ y ∈ ars.map fcD, Shw 4007 2 y := fun y hy => by
    obtain ⟨f, hf, rfl⟩ := List.mem_map.mp hy
    refine Shw.tupN (n := 2000) (m := 2) (d := 1) (fun z hz => ?_) (Nat.le_refl _) (by decide)
    simp only [List.mem_cons, List.not_mem_nil, or_false] at hz
    rcases hz with rfl | rfl
    · exact ((h.gd f hf).sh).mono (Nat.le_refl _) (by decide)
    · exact ints_shw (q_bd (h.ps f hf) (Nat.le_refl _)).ps
  have hW : Shw 20000 3 (.tuple (ars.map fcD)) := Shw.tupN (n := 4007) (m := 3) (d := 2) hw (by rw [List.length_map]; exact h.al) (by decide)
  refine ⟨⟨hW.1.mono (by decide), wid_tup (by rw [List.length_map]; have := h.al; omega) fun y hy => ?_⟩, List.all_eq_true.mpr fun y hy => ?_, hW.2.1, hW.2.2⟩
  · obtain ⟨f, hf, rfl⟩ := List.mem_map.mp hy
    refine wid_tup (by show 2 ≤ 60; decide) fun y hy => ?_
    simp only [List.mem_cons, List.not_mem_nil, or_false] at hy
    rcases hy with rfl | rfl
    · exact wid_str (by have := (h.gd f hf).len; omega)
    · exact wid_ints (by have := (h.ps f hf).2.1; omega)
  · obtain ⟨f, hf, rfl⟩ := List.mem_map.mp hy
    have e1 : isNm f.1 = true := (h.gd f hf).is
    show (isNm f.1 && isPartsD (.tuple (f.2.map .int))) = true
    rw [e1, parts_good (h.ps f hf).1]
    rfl
theorem TrD.good (h : TrD ars bl nm) : Gd 17 (treeD ars bl) ∧ isTrD 7 (treeD ars bl) = true := by
  obtain ⟨r1, r2, _, _⟩ := h.ars_ok
  have hl := len_cnt bl
  have hc := h.cnt
  refine ⟨Gd.tup (n := 16) (by show 2 ≤ 60; decide) fun y hy => ?_, ?_⟩
  · simp only [List.mem_cons, List.not_mem_nil, or_false] at hy
    rcases hy with rfl | rfl
    · exact r1
    · refine (Gd.tup (n := 13) (by rw [blD_map, List.length_map]; omega) fun y hy => ?_).mono (by decide)
      rw [blD_map] at hy
      obtain ⟨t, ht, rfl⟩ := List.mem_map.mp hy
      exact (ok4_gd h.nmg (h.ok4 t ht)).1
  · show ((ars.map fcD).all isNamedD && (blD bl).all (isStD 7)) = true
    rw [r2, Bool.true_and]
    refine List.all_eq_true.mpr fun y hy => ?_
    rw [blD_map] at hy
    obtain ⟨t, ht, rfl⟩ := List.mem_map.mp hy
    exact (fin_all h.nmg (sizeOf t + 1) t 4 7 [] (Nat.lt_succ_self _) (by decide) (h.ok4 t ht)).s
theorem TrD.bent (h : TrD ars bl nm) {o : PyData} {zs : List PyData} (p : Put o bl zs) (ho : Gd 7 o) (hs : o.showable = true) (hl : o.shown.length ≤ 2000) (hn : isSt0 tpB o = false) : Gd 17 (.tuple [.tuple (ars.map fcD), .tuple zs]) ∧ isTrD 7 (.tuple [.tuple (ars.map fcD), .tuple zs]) = false ∧ ShQ (.tuple [.tuple (ars.map fcD), .tuple zs]) := by
  obtain ⟨r1, r2, r3, r4⟩ := h.ars_ok
  have hll := len_cnt bl
  have hc := h.cnt
  obtain ⟨i1, i2, i3⟩ := put_fin h.nmg ho hs p 4 [] h.ok4 (by omega)
  have hg : Gd 17 (.tuple [.tuple (ars.map fcD), .tuple zs]) := Gd.tup (n := 16) (by show 2 ≤ 60; decide) fun y hy => by
    simp only [List.mem_cons, List.not_mem_nil, or_false] at hy
    rcases hy with rfl | rfl
    · exact r1
    · exact Gd.tup (n := 15) (by omega) fun y hy => (i1 y hy).1
  refine ⟨hg, ?_, ⟨show_tup fun y hy => ?_, .inl (PyData.hasDict_of_canLay _ hg.1.1), Nat.le_trans hg.1.2 (by decide), ?_⟩⟩
  · show ((ars.map fcD).all isNamedD && isBlD (isStD 7) (.tuple zs)) = false
    rw [put_no p hn, Bool.and_false]
  · simp only [List.mem_cons, List.not_mem_nil, or_false] at hy
    rcases hy with rfl | rfl
    · exact r3
    · exact show_tup fun y hy => (i1 y hy).2
  · have h1 := sh_tuple_len [.tuple (ars.map fcD), .tuple zs]
    have h4 := sh_tuple_len zs
    rw [piled_cons, piled_cons] at h1
    have h6 : piled (PyData.shownAll []) = 0 := by simp [PyData.shownAll, piled]
    rw [sizeLine_eq]
    omega
end
/-! ### the odd lists -/
def chkS (o : PyData) : Bool := o.canLay0 && decide (o.depth ≤ 7) && wid o && o.showable && decide (o.shown.length ≤ 2000) && !isSt0 tpB o
theorem oddS_chk : oddS.all chkS = true := by decide +kernel
theorem oddS_ok {o : PyData} (h : o ∈ oddS) : Gd 7 o ∧ o.showable = true ∧ o.shown.length ≤ 2000 ∧ isSt0 tpB o = false := by
  have := List.all_eq_true.mp oddS_chk o h
  unfold chkS at this
  simp only [Bool.and_eq_true, decide_eq_true_iff, Bool.not_eq_true'] at this
  obtain ⟨⟨⟨⟨⟨h1, h2⟩, h3⟩, h4⟩, h5⟩, h6⟩ := this
  exact ⟨⟨⟨h1, h2⟩, h3⟩, h4, h5, h6⟩
def isD0 : PyData → Bool
  | .dict [] => true
  | _ => false
def chkL (y : PyData) : Bool := (isD0 y || (y.canLay0 && decide (y.depth ≤ 17) && wid y)) && y.showable && decide (y.depth ≤ 50) && decide (y.shown.length ≤ 2000) && !isTrD 7 y
theorem oddL_chk : oddL.all chkL = true := by decide +kernel
theorem isD0_eq {y : PyData} (h : isD0 y = true) : y = .dict [] := by
  unfold isD0 at h
  split at h
  · rfl
  · cases h
theorem oddL_ok {y : PyData} (h : y ∈ oddL) : (y = .dict [] ∨ Gd 17 y) ∧ ShQ y ∧ isTrD 7 y = false := by
  have := List.all_eq_true.mp oddL_chk y h
  unfold chkL at this
  simp only [Bool.and_eq_true, Bool.or_eq_true, decide_eq_true_iff, Bool.not_eq_true'] at this
  obtain ⟨⟨⟨⟨h1, h2⟩, h3⟩, h4⟩, h5⟩ := this
  have h1 : y = .dict [] ∨ Gd 17 y := h1.imp isD0_eq fun h => ⟨⟨h.1.1, h.1.2⟩, h.2⟩
  refine ⟨h1, ⟨h2, ?_, h3, by rw [sizeLine_eq]; omega⟩, h5⟩
  rcases h1 with h | h
  · exact .inr h
  · exact .inl (PyData.hasDict_of_canLay _ h.1.1)
theorem oddS_len : oddS.length = 111 := by decide +kernel

end K08

namespace K08
open PySem L2 SZ VR VX StX RT DE
/-! ### the law -/
abbrev PreLw : List Sl → Prop := fun as => ∃ ns : List Int, as = [.d (.list (ns.map .int))] ∧ ns.length ≤ 63
abbrev ResLw : List Sl → Sl → Prop := fun _ r => r = .d (.bool true)
def BadY (y : PyData) : Prop := (y = .dict [] ∨ Gd 17 y) ∧ ShQ y ∧ isTrD 7 y = false
structure HrG (P : Program) (w : World) (K : PySem.W.Frag) (mg : Str → Option Value) (base : Heap) (f : Addr) (fd : FuncData) : Prop where
  m : mg "_law_heard" = some (.ref f)
  k : PySem.W.keepIn K (.ref f) = true
  b : Binds K fd ["_law_tree_here"] []
  bad : ∀ y, BadY y → RunG P w K mg base CX0 25 f fd ["_law_tree_here"] (spP K (fun as => as = [qS K y] ∨ as = [.d y]) fun _ r => r = .d (.str y.shown))
  fine : ∀ ars bl nm, TrD ars bl nm → RunG P w K mg base CX0 25 f fd ["_law_tree_here"] (spP K (fun as => as = [qS K (treeD ars bl)] ∨ as = [.d (treeD ars bl)]) fun _ r => r = .d (.str "fine"))
structure LwD (P : Program) (w : World) (K : PySem.W.Frag) (mg : Str → Option Value) (base : Heap) : Prop where
  pool : CalP P w K mg base CX0 "_law_pool" 1 PreP ResP
  take : CalB P w K mg base CX0 "_law_take" 1 PreT ResT
  tree : CalB P w K mg base CX0 "_law_tree" 14 (fun ys as => PoolD ys ∧ as = []) ResTr
  oddP : Cal0 P w K mg base CX0 "_law_odd_parts" 1 (ResO oddP)
  oddS : Cal0 P w K mg base CX0 "_law_odd_statements" 3 (ResO oddS)
  put : ∀ o bl, BlV bl 4 → cntB bl ≤ 1000 → CalB P w K mg base CX0 "_law_put" 6 (PreU bl o) (ResU bl o)
  heard : ∃ f fd, HrG P w K mg base f fd
  rng : mg "range" = none
  len : mg "len" = none
  max : mg "max" = none
  min : mg "min" = none
  rep : mg "repr" = none
theorem neT {α : Type} [DecidableEq α] {x : α} (h : (!decide (x = x)) = true) : False := by
  rw [decide_eq_true rfl] at h
  cases h
section
variable {P : Program} {w : World} {K : PySem.W.Frag} {mg : Str → Option Value} {base : Heap}
theorem run_law {f : Addr} {fd : FuncData} (F : Fun K "law" "law" S_law f fd) (D : LwD P w K mg base) : RunG P w K mg base CX0 27 f fd ["_law_script"] (spP K PreLw ResLw) := by
  refine fn_PG F sc_law (fun as h => ?_) (by decide) fun cdv A outer s H E hg hr b as hp => ?_
  · obtain ⟨ns, rfl, _⟩ := h; rfl
  obtain ⟨ns, rfl, hn⟩ := hp
  have gd : (A.deeper (PyProof.Rows.envOfC "law" (defScope S_law) s.heap.objs.size f cdv)).guards = some [] := hg
  have hu := hr.units
  have hr1 := hr.mono (show 1 ≤ 26 by decide)
  have hr3 := hr.mono (show 3 ≤ 26 by decide)
  have hr6 := hr.mono (show 6 ≤ 26 by decide)
  have hr14 := hr.mono (show 14 ≤ 26 by decide)
  have hr25 := hr.mono (show 25 ≤ 26 by decide)
  have z_len := D.len
  obtain ⟨fH, dH, HH⟩ := D.heard
  have ln : ∀ (y : PyData) (as : List Sl), (as = [qS K y] ∨ as = [.d y]) → as.length = 1 := fun y as h => by
    rcases h with rfl | rfl <;> rfl
  show XB _ _ [.d (.list (ns.map .int)), .un, .un, .un, .un, .un, .un, .un, .un, .un, .un] _ _
  refine xb_cons (x_set 1 (r_lstQ (a_cons r_non (a_cons r_int (a_cons r_str (a_cons (r_tup a_nil rfl) (a_cons (r_lst a_nil rfl) (a_cons (r_tup (a_cons (r_tup a_nil rfl) a_nil) rfl) (a_cons (r_tup (a_cons (r_tup a_nil rfl) (a_cons (r_tup a_nil rfl) (a_cons (r_tup a_nil rfl) a_nil))) rfl) (a_cons (r_lst (a_cons (r_tup a_nil rfl) (a_cons (r_tup a_nil rfl) a_nil)) rfl) (a_cons (r_tup (a_cons (r_tup a_nil rfl) (a_cons (r_lst a_nil rfl) a_nil)) rfl) (a_cons (r_tup (a_cons (r_lst a_nil rfl) (a_cons (r_tup a_nil rfl) a_nil)) rfl) (a_cons (r_tup (a_cons (r_tup a_nil rfl) (a_cons r_non a_nil)) rfl) (a_cons r_dict0 a_nil)))))))))))) rfl rfl) rfl (by walk_at "v") sc_law.nd rfl (fun _ => ?_))
  show XB _ _ [.d (.list (ns.map .int)), lqS K (oddL1 ++ [.dict []]), .un, .un, .un, .un, .un, .un, .un, .un, .un] _ _
  refine xb_cons (x_set 1 (r_bin (r_varF 1 rfl (by walk_at "v") rfl) (r_lst (a_cons (r_tup (a_cons (r_tup (a_cons (r_tup (a_cons r_str a_nil) rfl) a_nil) rfl) (a_cons (r_tup a_nil rfl) a_nil)) rfl) (a_cons (r_tup (a_cons (r_tup (a_cons (r_tup (a_cons r_int (a_cons (r_tup (a_cons r_int a_nil) rfl) a_nil)) rfl) a_nil) rfl) (a_cons (r_tup a_nil rfl) a_nil)) rfl) (a_cons (r_tup (a_cons (r_tup (a_cons (r_tup (a_cons r_str (a_cons (r_tup (a_cons r_int a_nil) rfl) a_nil)) rfl) a_nil) rfl) (a_cons (r_tup a_nil rfl) a_nil)) rfl) (a_cons (r_tup (a_cons (r_tup (a_cons (r_lst (a_cons r_str (a_cons (r_tup (a_cons r_int a_nil) rfl) a_nil)) rfl) a_nil) rfl) (a_cons (r_tup a_nil rfl) a_nil)) rfl) a_nil)))) rfl) (or_catQ rfl (by rw [sizeLine_eq]; decide))) rfl (by walk_at "v") sc_law.nd rfl (fun _ => ?_))
  show XB _ _ [.d (.list (ns.map .int)), lqS K (oddL1 ++ [.dict []] ++ oddL2), .un, .un, .un, .un, .un, .un, .un, .un, .un] _ _
  refine xb_cons (x_set 1 (r_bin (r_varF 1 rfl (by walk_at "v") rfl) (r_lst (a_cons (r_tup (a_cons (r_tup (a_cons (r_tup (a_cons r_str (a_cons (r_tup (a_cons r_int a_nil) rfl) (a_cons r_int a_nil))) rfl) a_nil) rfl) (a_cons (r_tup a_nil rfl) a_nil)) rfl) (a_cons (r_tup (a_cons (r_tup (a_cons (r_tup (a_cons r_str (a_cons (r_tup (a_cons r_int a_nil) rfl) a_nil)) rfl) a_nil) rfl) (a_cons (r_tup a_nil rfl) a_nil)) rfl) (a_cons (r_tup (a_cons (r_tup (a_cons r_non a_nil) rfl) (a_cons (r_tup a_nil rfl) a_nil)) rfl) a_nil))) rfl) (or_catQ rfl (by rw [sizeLine_eq]; decide))) rfl (by walk_at "v") sc_law.nd rfl (fun _ => ?_))
  show XB _ _ [.d (.list (ns.map .int)), lqS K (oddL1 ++ [.dict []] ++ oddL2 ++ oddL3), .un, .un, .un, .un, .un, .un, .un, .un, .un] _ _
  refine xb_cons (x_set 1 (r_bin (r_varF 1 rfl (by walk_at "v") rfl) (r_lc (own := [("_law_parts_here", 10)]) oddP (fun y => y) (fun _ => true) (fun p => .tuple [.tuple [.tuple [.str "a", p]], .tuple []]) (fun p => [.d (.list (ns.map .int)), lqS K (oddL1 ++ [.dict []] ++ oddL2 ++ oddL3), .un, .un, .un, .un, .un, .un, .un, .un, .d p]) (i_list (r_cal0 D.oddP hr1 pass0 (fun r' h => h)) rfl) (List.map_id' _).symm rfl sc_law.nd (blkOk_by (N := ["_law_script", "_law_odd", "_law_thing", "_law_k", "_law_pool_here", "_law_tree_here", "_law_statements", "_law_turn", "_law_wrong", "_law_bent", "_law_parts_here"]) (sc := defScope S_law) (by decide +kernel)) (by intro v hv; rw [List.mem_singleton.mp hv]; rfl) (by decide) (fun c hc s H C cl fp => g_name 10 rfl (by walk_at "v") sc_law.nd rfl) (fun c hc => rfl) (fun c hc s H C cl fp => ts_nil) (fun c hc _ => ⟨_, fun s H C cl fp => (r_tup (a_cons (r_tup (a_cons (r_tup (a_cons r_str (a_cons (r_var 10 rfl (by walk_at "v") rfl) a_nil)) rfl) a_nil) rfl) (a_cons (r_tup a_nil rfl) a_nil)) rfl), rfl⟩)) (or_catQ rfl (by rw [sizeLine_eq]; decide))) rfl (by walk_at "v") sc_law.nd rfl (fun _ => ?_))
  simp only [flt1]
  show XB _ _ [.d (.list (ns.map .int)), lqS K oddL, .un, .un, .un, .un, .un, .un, .un, .un, .un] _ _
  refine xb_cons (xs_forQ (ts := [2]) PassesOwn.never rfl (by intro _; rfl) (r_varF 1 rfl (by walk_at "v") rfl) (fun i ρ' => ∃ s2, ρ' = [.d (.list (ns.map .int)), lqS K oddL, s2, .un, .un, .un, .un, .un, .un, .un, .un]) ⟨_, rfl⟩ ?_ ?_)
  · rintro i y ρ' hy hl ⟨s2, rfl⟩
    have hbad : BadY y := oddL_ok (List.mem_of_getElem? hy)
    refine (g_name 2 rfl (by walk_at "v") sc_law.nd rfl) _ fun _ => ?_
    show XB _ _ [.d (.list (ns.map .int)), lqS K oddL, qS K y, .un, .un, .un, .un, .un, .un, .un, .un] _ _
    refine xb_one (x_if (t_cmp (r_calGF (HH.bad y hbad) (ln y) HH.m HH.k HH.b gd hr25 pass0 (a_cons (r_varF 2 rfl (by walk_at "v") rfl) a_nil) (fun r hr' => by rw [List.mem_singleton.mp hr']; rfl) (.inl rfl) (fun r' h => h)) (r_reprQ gd hu D.rep (r_varF 2 rfl (by walk_at "v") rfl) hbad.2.1) (by walk_at "o")) (fun h0 => (neT h0).elim) (fun _ => xb_nil ?_))
    exact ⟨_, rfl⟩
  rintro ρ' ⟨s2, rfl⟩ hl
  have hk : ∃ m : Int, 1 ≤ m ∧ m ≤ 6 ∧ m = (if (if (6 : Int) < ((ns.map PyData.int).length : Int) then 6 else ((ns.map PyData.int).length : Int)) > 1 then (if (6 : Int) < ((ns.map PyData.int).length : Int) then 6 else ((ns.map PyData.int).length : Int)) else 1) := by
    refine ⟨_, ?_, ?_, rfl⟩
    · split <;> omega
    · split <;> (try split) <;> omega
  obtain ⟨m, m1, m6, em⟩ := hk
  refine xb_cons (xs_for (ts := [3]) PassesOwn.never rfl (by intro _; rfl) ((i_range D.rng (r_callB (id := "max") D.max (a_cons r_int (a_cons (r_callB (id := "min") D.min (a_cons (r_callB (id := "len") z_len (a_cons (r_var 0 rfl (by walk_at "v") rfl) a_nil) (by walk_at "c")) (a_cons r_int a_nil)) (cr_min2 rfl)) a_nil)) (cr_max2 rfl)) (by rw [← em]; omega) (by rw [← em]; omega)) _ fun _ => ?_))
  rw [← em]
  refine ⟨fun i ρ' => ∃ s3 s4 s5 s6 s7 s8 s9, ρ' = [.d (.list (ns.map .int)), lqS K oddL, s2, s3, s4, s5, s6, s7, s8, s9, .un], ⟨_, _, _, _, _, _, _, rfl⟩, ?_, ?_⟩
  · rintro i y ρ' hy hl ⟨s3, s4, s5, s6, s7, s8, s9, rfl⟩
    obtain ⟨hi, rfl⟩ : i < 6 ∧ y = .int (i : Int) := by
      have h := (List.getElem?_eq_some_iff.mp hy).1
      rw [rngD_len] at h
      rw [rngD_at h] at hy
      cases hy
      exact ⟨by omega, by simp⟩
    refine (g_name 3 rfl (by walk_at "v") sc_law.nd rfl) _ fun _ => ?_
    show XB _ _ [.d (.list (ns.map .int)), lqS K oddL, s2, .d (.int i), s4, s5, s6, s7, s8, s9, .un] _ _
    refine xb_cons (xs_set 4 sc_law.nd rfl (by walk_at "v") (by simp) rfl (.inl rfl) (ev_cal D.pool hr1 rfl pass0 ((a_cons (r_var 0 rfl (by walk_at "v") rfl) (a_cons (r_var 3 rfl (by walk_at "v") rfl) a_nil)) _ ⟨[.list (ns.map .int), .int i], rfl, ⟨ns, i, rfl, by omega, hn⟩, fun r hr' => ?_⟩)))
    obtain ⟨ys, rfl, hy⟩ := hr'
    refine ⟨by simp, fun _ _ => ?_⟩
    show XB _ _ [.d (.list (ns.map .int)), lqS K oddL, s2, .d (.int i), .own ys, s5, s6, s7, s8, s9, .un] _ _
    refine xb_cons (xs_set 5 sc_law.nd rfl (by walk_at "v") (by simp) rfl (.inl rfl) (ev_calL 4 D.tree hr14 rfl pass0 rfl (by walk_at "v") (ea_nil ⟨[], rfl, _, ys, rfl, .inl rfl, ⟨hy, rfl⟩, fun r ys2 hr' => ?_⟩) ⟨_, _, rfl, .inl rfl⟩))
    obtain ⟨hy2, ars, bl, nm, rfl, htr⟩ := hr'
    refine ⟨by intro _; nofun, fun _ _ => ?_⟩
    show XB _ _ [.d (.list (ns.map .int)), lqS K oddL, s2, .d (.int i), .own ys2, .d (treeD ars bl), s6, s7, s8, s9, .un] _ _
    refine xb_cons (x_if (t_cmp (r_calGF (HH.fine ars bl nm htr) (ln _) HH.m HH.k HH.b gd hr25 pass0 (a_cons (r_var 5 rfl (by walk_at "v") rfl) a_nil) (fun r hr' => by rw [List.mem_singleton.mp hr']; rfl) (.inr rfl) (fun r' h => h)) r_str (by walk_at "o")) (fun h0 => (neT h0).elim) (fun _ => xb_nil fun _ => ?_))
    refine xb_cons (x_set 6 (r_cal0 D.oddS hr3 pass0 (fun r' h => h)) rfl (by walk_at "v") sc_law.nd rfl (fun _ => ?_))
    refine xb_frz 6 (ys := oddS) rfl rfl ?_
    show XB _ _ [.d (.list (ns.map .int)), lqS K oddL, s2, .d (.int i), .own ys2, .d (treeD ars bl), .d (.list oddS), s7, s8, s9, .un] _ _
    refine xb_one (xs_for (ts := [7]) PassesOwn.never rfl (by intro _; rfl) ((i_range D.rng r_int (by decide) (by decide)) _ fun _ => ?_))
    refine ⟨fun j ρ' => ∃ zs s7 s8 s9, PoolD zs ∧ ρ' = [.d (.list (ns.map .int)), lqS K oddL, s2, .d (.int i), .own zs, .d (treeD ars bl), .d (.list oddS), s7, s8, s9, .un], ⟨_, _, _, _, hy2, rfl⟩, ?_, ?_⟩
    · rintro j y ρ' hy hl ⟨zs, s7, s8, s9, hz, rfl⟩
      refine (g_name 7 rfl (by walk_at "v") sc_law.nd rfl) _ fun _ => ?_
      have hlen : ((oddS.length : Nat) : Int) = 111 := by rw [oddS_len]; rfl
      show XB _ _ [.d (.list (ns.map .int)), lqS K oddL, s2, .d (.int i), .own zs, .d (treeD ars bl), .d (.list oddS), .d y, s8, s9, .un] _ _
      refine xb_cons (xs_set 8 sc_law.nd rfl (by walk_at "v") (by simp) rfl (.inl rfl) (ev_ix (by intro _ _; rfl) ((r_var 6 rfl (by walk_at "v") rfl) _ (ev_take 4 D.take hr1 rfl (by walk_at "v") pass0 rfl (.inl rfl) hz (wd := 111) ((r_callB (id := "len") z_len (a_cons (r_var 6 rfl (by walk_at "v") rfl) a_nil) (fun p h => cv_lenL (by rw [hlen]; exact h)))) (by decide) (by decide) fun at0' zs1 a0 a1 hz1 => ?_))))
      obtain ⟨n, rfl⟩ : ∃ n : Nat, at0' = n := ⟨at0'.toNat, by omega⟩
      have hnl : n < oddS.length := by rw [oddS_len]; omega
      have ho := oddS_ok (List.getElem_mem hnl)
      generalize hoe : oddS[n] = o at ho
      have hx : atI oddS (n : Int) = some o := by
        unfold atI ixN
        rw [if_pos (by omega), if_pos (by omega)]
        show oddS[(n : Int).toNat]? = _
        rw [Int.toNat_natCast, List.getElem?_eq_getElem hnl, hoe]
      refine (ir_at (.inl rfl) hx) _ fun _ _ => ?_
      show XB _ _ [.d (.list (ns.map .int)), lqS K oddL, s2, .d (.int i), .own zs1, .d (treeD ars bl), .d (.list oddS), .d y, .d o, s9, .un] _ _
      refine xb_cons (xs_set 9 sc_law.nd rfl (by walk_at "v") (by simp) rfl (.inl rfl) (ev_tupD (ea_cons (h := (r_ix (r_var 5 rfl (by walk_at "v") rfl) r_int (ir_at (y := .tuple (ars.map fcD)) (.inr rfl) rfl)) _ (ea_cons (h := ev_calL 4 (D.put o bl htr.bv (by have := htr.cnt; omega)) hr6 rfl pass0 rfl (by walk_at "v") ((a_cons (r_ix (r_var 5 rfl (by walk_at "v") rfl) r_int (ir_at (y := .tuple (blD bl)) (.inr rfl) rfl)) (a_cons (r_var 8 rfl (by walk_at "v") rfl) a_nil)) _ ⟨[.tuple (blD bl), o], rfl, _, zs1, rfl, .inl rfl, ⟨hz1, rfl⟩, fun r zs2 hr' => ?_⟩) ⟨_, _, rfl, .inl rfl⟩))))))
      obtain ⟨hz2, qs, rfl, hput⟩ := hr'
      refine ⟨by intro _; nofun, ea_nil ⟨_, rfl, by simp, fun _ _ => ?_⟩⟩
      have hb := htr.bent hput ho.1 ho.2.1 ho.2.2.1 ho.2.2.2
      have hbad : BadY (.tuple [.tuple (ars.map fcD), .tuple qs]) := ⟨.inr hb.1, hb.2.2, hb.2.1⟩
      show XB _ _ [.d (.list (ns.map .int)), lqS K oddL, s2, .d (.int i), .own zs2, .d (treeD ars bl), .d (.list oddS), .d y, .d o, .d (.tuple [.tuple (ars.map fcD), .tuple qs]), .un] _ _
      refine xb_one (x_if (t_cmp (r_calGF (HH.bad _ hbad) (ln _) HH.m HH.k HH.b gd hr25 pass0 (a_cons (r_var 9 rfl (by walk_at "v") rfl) a_nil) (fun r hr' => by rw [List.mem_singleton.mp hr']; rfl) (.inr rfl) (fun r' h => h)) (r_reprW gd hu D.rep (r_var 9 rfl (by walk_at "v") rfl) hb.2.2.s (PyData.hasDict_of_canLay _ hb.1.1.1) hb.2.2.d hb.2.2.l) (by walk_at "o")) (fun h0 => (neT h0).elim) (fun _ => xb_nil ?_))
      exact ⟨_, _, _, _, hz2, rfl⟩
    · rintro ρ' ⟨zs, s7, s8, s9, hz, rfl⟩
      exact ⟨_, _, _, _, _, _, _, rfl⟩
  rintro ρ' ⟨s3, s4, s5, s6, s7, s8, s9, rfl⟩ hl
  refine xb_one (x_ret r_bl ?_)
  exact ⟨rfl, by simp⟩
end

end K08

namespace K08
open PySem L2 SZ VR VX StX RT DE
/-! ### own errors in the written part -/
abbrev veM (far : Addr) : List Value := [.ref far, .type "ValueError", .type "Exception", .type "BaseException", .type "object"]
/-- what the top says of an error class at C -/
structure ErX (K : PySem.W.Frag) (mg : Str → Option Value) (x : Str) (C far : Addr) (f : Str) : Prop where
  l : ∃ nm q N bs sn sub ab col dd k0 k1 k2 k3 k5, K.lookup C = some (excClassObj nm q C N bs (veM far) true sn sub ab col dd k0 k1 k2 k3 k5 "ValueError.__new__")
  sa : PySem.W.findIn K (.ref C) "__setattr__" = some (some (.builtin "object.__setattr__"))
  kC : PySem.W.keepIn K (.ref C) = true
  ga : PySem.W.findIn K (.ref C) "__getattribute__" = some (some (.builtin "BaseException.__getattribute__"))
  gg : PySem.W.findIn K (.ref C) "__getattr__" = some none
  ex : PySem.W.subIn K (.ref C) (.type "BaseException") = some true
  ac : PySem.W.findIn K (.ref C) "__class__" = some (some (.builtin "object.__class__"))
  an : PySem.W.specialIn K (.builtin "object.__class__") "__get__" = some (some (.builtin "getset_descriptor.__get__"))
  tk : PySem.W.takesIn K (.builtin "object.__class__") = some true
  mo : PySem.W.mroIn K C (.type "object") = some true
  no : PySem.W.findIn K (.ref C) f = some none
  m : mg x = some (.ref C)
theorem ErX.clsIn {K : PySem.W.Frag} {mg : Str → Option Value} {x : Str} {C far : Addr} {f : Str} (h : ErX K mg x C far f) : ∃ cd, PySem.W.clsIn K C = some cd ∧ cd.mro = .ref C :: veM far := by
  obtain ⟨nm, q, N, bs, sn, sub, ab, col, dd, k0, k1, k2, k3, k5, l⟩ := h.l
  have e : PySem.W.clsIn K C = some { name := nm, bases := bs, mro := .ref C :: veM far, ns := N, qualname := q, hasDict := true, slotNames := sn, subclasses := sub, abstract := ab, collection := col, hasDel := false } := by unfold PySem.W.clsIn; rw [l] <;> rfl
  exact ⟨_, e, rfl⟩
theorem ErX.sub {K : PySem.W.Frag} {mg : Str → Option Value} {x : Str} {C far : Addr} {f : Str} (h : ErX K mg x C far f) (b : Value) : PySem.W.subIn K (.ref C) b = some ((Value.ref C :: veM far).contains b) := by
  obtain ⟨cd, e, em⟩ := h.clsIn
  show ((PySem.W.clsIn K C).bind fun cd => if cd.mro.isEmpty = true then none else some (cd.mro.contains b)) = _
  rw [e]
  show (if cd.mro.isEmpty = true then none else some (cd.mro.contains b)) = _
  rw [em]
  rfl
theorem ErX.isC {K : PySem.W.Frag} {mg : Str → Option Value} {x : Str} {C far : Addr} {f : Str} (h : ErX K mg x C far f) : (PySem.W.clsIn K C).isSome = true := by
  obtain ⟨cd, e, _⟩ := h.clsIn
  rw [e]
  rfl
theorem ErX.ty {K : PySem.W.Frag} {mg : Str → Option Value} {x : Str} {C far : Addr} {f : Str} (h : ErX K mg x C far f) : PySem.W.typeIn K (.ref C) = some (.type "type") := by
  obtain ⟨nm, q, N, bs, sn, sub, ab, col, dd, k0, k1, k2, k3, k5, l⟩ := h.l
  show (K.lookup C).map (fun x => x.cls) = _
  rw [l]
  rfl
theorem ErX.oxc {K : PySem.W.Frag} {mg : Str → Option Value} {x : Str} {C far : Addr} {f : Str} (h : ErX K mg x C far f) : OxC K C := by
  obtain ⟨nm, q, N, bs, sn, sub, ab, col, dd, k0, k1, k2, k3, k5, l⟩ := h.l
  exact ⟨⟨nm, q, N, bs, veM far, sn, sub, ab, col, dd, k0, k1, k2, k3, k5, "ValueError", "ValueError.__new__", "ValueError.__init__", _, PySem.F.excBase_ValueError, l, fun Y => PySem.HandSPX.refsVE_contains Y (veM far) rfl, fun self => PySem.HandSPX.refsVE_pass self _ rfl, (PySem.HandSPX.refsVE_contains "object" (veM far) rfl).trans (by decide +kernel)⟩, h.sa, h.kC, h.ga, h.gg, h.ex, h.ac, h.an, h.tk, h.mo⟩
theorem ErX.oexc {K : PySem.W.Frag} {mg : Str → Option Value} {x : Str} {C far : Addr} {f : Str} (h : ErX K mg x C far f) : OexC K C := by
  obtain ⟨nm, q, N, bs, sn, sub, ab, col, dd, k0, k1, k2, k3, k5, l⟩ := h.l
  exact ⟨⟨nm, q, N, bs, veM far, sn, sub, ab, col, dd, k0, k1, k2, k3, k5, l, rfl⟩, h.sa, h.ex, h.ty, h.kC⟩
/-- raised by one class, named by the other -/
theorem ErX.exm {K : PySem.W.Frag} {mg : Str → Option Value} {x y : Str} {C D far : Addr} {f g : Str} (h : ErX K mg x C far f) (h2 : ErX K mg y D far g) (n : D ≠ far) : PySem.W.exmOne K (.ref C) (.ref D) = some (decide (C = D)) := by
  have e1 : (PySem.W.subIn K (.ref D) (.type "BaseException") == some true) = true := by rw [h2.ex] <;> rfl
  have e2 : ((PySem.W.clsIn K D).isSome && PySem.W.typeIn K (.ref D) == some (.type "type")) = true := by rw [h2.isC, h2.ty] <;> rfl
  show (if (PySem.W.subIn K (.ref D) (.type "BaseException") == some true) = true then (if ((PySem.W.clsIn K D).isSome && PySem.W.typeIn K (.ref D) == some (.type "type")) = true then PySem.W.subIn K (.ref C) (.ref D) else none) else none) = _
  rw [if_pos e1, if_pos e2, h.sub]
  congr 1
  rw [List.contains_cons]
  have n2 : (Value.ref D == Value.ref far) = false := beq_eq_false_iff_ne.mpr fun z => n (Value.ref.inj z)
  have e3 : (veM far).contains (.ref D) = false := by
    rw [List.contains_cons, n2]
    rfl
  rw [e3, Bool.or_false]
  by_cases e : C = D
  · subst e
    rw [decide_eq_true rfl]
    exact beq_self_eq_true _
  · rw [decide_eq_false e]
    exact beq_eq_false_iff_ne.mpr fun z => e (Value.ref.inj z).symm

def spLaw (K : PySem.W.Frag) : Sp := fun vs H Q _ => ∃ (a : Addr) (ns : List Int), vs = [.ref a] ∧ SqL K H a (ns.map V.int) ∧ ns.length ≤ 63 ∧ Only H ∧ ∀ H', Q (.bl true) H'
theorem ints_dpL {K : PySem.W.Frag} {H : Hp} : ∀ ns : List Int, DpAll K H (ns.map V.int) (ns.map PyData.int)
  | [] => .nil
  | n :: ns => .cons (.int n) (ints_dpL ns)
theorem law_sp {P : Program} {w : World} {K : PySem.W.Frag} {mg : Str → Option Value} {base : Heap} {k : Nat} {f : Addr} {fd : FuncData} {ps : List Str} (F : RunG P w K mg base CX0 k f fd ps (spP K PreLw ResLw)) : RunG P w K mg base CX0 k f fd ps (spLaw K) := F.imp fun vs H Q E z => by
  obtain ⟨a, ns, rfl, hs, hn, ho, q⟩ := z
  refine ⟨H, [.d (.list (ns.map .int))], rfl, ⟨Same.refl _, Same.refl _, fun a o e => .inl e, fun a o e _ => e, fun a ha => (nomatch ha), fun c hc => ?_, by simp [ads], fun b o e => ?_⟩, ⟨ns, rfl, hn⟩, fun r hr nb v H' hh => ?_⟩
  · rw [List.mem_singleton.mp hc]
    exact ⟨.ref a, rfl, .lst hs (ints_dpL ns)⟩
  · rcases ho b with h | ⟨o', xs, h⟩
    · rw [h] at e; cases e
    · rw [h] at e
      cases e
      exact .inr (.inr rfl)
  · subst hr
    have := hh.isB
    subst this
    exact q H'
section
variable {P : Program} {w : World} {K : PySem.W.Frag} {mg : Str → Option Value} {base : Heap}
theorem sx_InvalidTree {C fI : Addr} {fd : FuncData} (T : OxC K C) (no : PySem.W.findIn K (.ref C) "value" = some none) (F : Fun K "__init__" "InvalidTree.__init__" S_InvalidTree___init__ fI fd) : FnOk P w K mg base CX0 1 fI fd [("self" : Str), "value"] (spOx K C "value") := by
  refine F.ok sc_InvalidTree___init__ (fun vs H Q E h => ?_) (fun cdv A outer s H vs Q E hr h => ?_)
  · obtain ⟨a, v, rfl, _⟩ := h; rfl
  · obtain ⟨a, v, rfl, ha, q⟩ := h
    exact ⟨_, pss_one (ps_ox (pv 0) (pv 1)), ⟨_, rfl, _, rfl, a, C, rfl, T, no, ha, fun dx h1 h2 => q dx h1 h2⟩⟩
end
theorem all_mk {l : PySem.W.OpenLaw} {w : World} {K : PySem.W.Frag} {h : Heap} {mg : Str → Option Value} {fa : Addr}
    {C_FarError : Addr}
    {C_InvalidTree : Addr}
    {N_InvalidTree : Addr} {nm_InvalidTree q_InvalidTree : Str} {bs_InvalidTree sb_InvalidTree : List Value} {sn_InvalidTree : List Str} {ab_InvalidTree : Bool} {co_InvalidTree : Option Bool} {dd_InvalidTree : Option Addr} {x_InvalidTree y_InvalidTree zz_InvalidTree u_InvalidTree v_InvalidTree : Option Value}
    {f_InvalidTree___init__ : Addr} {oc_InvalidTree___init__ kV_InvalidTree___init__ dc_InvalidTree___init__ pm_InvalidTree___init__ cd_InvalidTree___init__ ct_InvalidTree___init__ : Value} {od_InvalidTree___init__ an_InvalidTree___init__ : Option Addr} {sl_InvalidTree___init__ : Array (Option Value)}
    {f_is_integer : Addr} {oc_is_integer kV_is_integer dc_is_integer pm_is_integer cd_is_integer ct_is_integer : Value} {od_is_integer an_is_integer : Option Addr} {sl_is_integer : Array (Option Value)}
    {t_LETTERS : Tok}
    {t_DIGITS : Tok}
    {t_GAPS : Tok}
    {t_BEYOND_DIGITS : Tok}
    {f_is_word : Addr} {oc_is_word kV_is_word dc_is_word pm_is_word cd_is_word ct_is_word : Value} {od_is_word an_is_word : Option Addr} {sl_is_word : Array (Option Value)}
    {f_has_few_digits : Addr} {oc_has_few_digits kV_has_few_digits dc_has_few_digits pm_has_few_digits cd_has_few_digits ct_has_few_digits : Value} {od_has_few_digits an_has_few_digits : Option Addr} {sl_has_few_digits : Array (Option Value)}
    {f_end_of_run : Addr} {oc_end_of_run kV_end_of_run dc_end_of_run pm_end_of_run cd_end_of_run ct_end_of_run : Value} {od_end_of_run an_end_of_run : Option Addr} {sl_end_of_run : Array (Option Value)}
    {t_KEYWORDS : Addr} {t_KEYWORDS0 t_KEYWORDS1 t_KEYWORDS2 t_KEYWORDS3 t_KEYWORDS4 t_KEYWORDS5 : Tok} {dd_KEYWORDS : Option Addr} {n_KEYWORDS : Nat} {ds_KEYWORDS : Array (Option Value)}
    {f_is_name : Addr} {oc_is_name kV_is_name dc_is_name pm_is_name cd_is_name ct_is_name : Value} {od_is_name an_is_name : Option Addr} {sl_is_name : Array (Option Value)}
    {t_DEEPEST : Tok}
    {t_MOST_PARTS : Tok}
    {t_MOST_ARRAYS : Tok}
    {t_MOST_STATEMENTS : Tok}
    {t_MOST_ACCESSES : Tok}
    {tMOST_LOOPS_trees : Tok}
    {f_is_tree : Addr} {oc_is_tree kV_is_tree dc_is_tree pm_is_tree cd_is_tree ct_is_tree : Value} {od_is_tree an_is_tree : Option Addr} {sl_is_tree : Array (Option Value)}
    {f_is_tuple_of : Addr} {oc_is_tuple_of kV_is_tuple_of dc_is_tuple_of pm_is_tuple_of cd_is_tuple_of ct_is_tuple_of : Value} {od_is_tuple_of an_is_tuple_of : Option Addr} {sl_is_tuple_of : Array (Option Value)}
    {f_is_named : Addr} {oc_is_named kV_is_named dc_is_named pm_is_named cd_is_named ct_is_named : Value} {od_is_named an_is_named : Option Addr} {sl_is_named : Array (Option Value)}
    {f_is_parts : Addr} {oc_is_parts kV_is_parts dc_is_parts pm_is_parts cd_is_parts ct_is_parts : Value} {od_is_parts an_is_parts : Option Addr} {sl_is_parts : Array (Option Value)}
    {f_is_block : Addr} {oc_is_block kV_is_block dc_is_block pm_is_block cd_is_block ct_is_block : Value} {od_is_block an_is_block : Option Addr} {sl_is_block : Array (Option Value)}
    {f_is_statement : Addr} {oc_is_statement kV_is_statement dc_is_statement pm_is_statement cd_is_statement ct_is_statement : Value} {od_is_statement an_is_statement : Option Addr} {sl_is_statement : Array (Option Value)}
    {f_is_index : Addr} {oc_is_index kV_is_index dc_is_index pm_is_index cd_is_index ct_is_index : Value} {od_is_index an_is_index : Option Addr} {sl_is_index : Array (Option Value)}
    {f_statements_of : Addr} {oc_statements_of kV_statements_of dc_statements_of pm_statements_of cd_statements_of ct_statements_of : Value} {od_statements_of an_statements_of : Option Addr} {sl_statements_of : Array (Option Value)}
    {f_accesses_of : Addr} {oc_accesses_of kV_accesses_of dc_accesses_of pm_accesses_of cd_accesses_of ct_accesses_of : Value} {od_accesses_of an_accesses_of : Option Addr} {sl_accesses_of : Array (Option Value)}
    {f_excess : Addr} {oc_excess kV_excess dc_excess pm_excess cd_excess ct_excess : Value} {od_excess an_excess : Option Addr} {sl_excess : Array (Option Value)}
    {f_sizes_of : Addr} {oc_sizes_of kV_sizes_of dc_sizes_of pm_sizes_of cd_sizes_of ct_sizes_of : Value} {od_sizes_of an_sizes_of : Option Addr} {sl_sizes_of : Array (Option Value)}
    {f_depth : Addr} {oc_depth kV_depth dc_depth pm_depth cd_depth ct_depth : Value} {od_depth an_depth : Option Addr} {sl_depth : Array (Option Value)}
    {f_check_names : Addr} {oc_check_names kV_check_names dc_check_names pm_check_names cd_check_names ct_check_names : Value} {od_check_names an_check_names : Option Addr} {sl_check_names : Array (Option Value)}
    {f_check_block : Addr} {oc_check_block kV_check_block dc_check_block pm_check_block cd_check_block ct_check_block : Value} {od_check_block an_check_block : Option Addr} {sl_check_block : Array (Option Value)}
    {C_Program : Addr}
    {f_Program___init__ : Addr} {oc_Program___init__ kV_Program___init__ dc_Program___init__ pm_Program___init__ cd_Program___init__ ct_Program___init__ : Value} {od_Program___init__ an_Program___init__ : Option Addr} {sl_Program___init__ : Array (Option Value)}
    {f_law_pool : Addr} {oc_law_pool kV_law_pool dc_law_pool pm_law_pool cd_law_pool ct_law_pool : Value} {od_law_pool an_law_pool : Option Addr} {sl_law_pool : Array (Option Value)}
    {f_law_take : Addr} {oc_law_take kV_law_take dc_law_take pm_law_take cd_law_take ct_law_take : Value} {od_law_take an_law_take : Option Addr} {sl_law_take : Array (Option Value)}
    {f_law_cleared : Addr} {oc_law_cleared kV_law_cleared dc_law_cleared pm_law_cleared cd_law_cleared ct_law_cleared : Value} {od_law_cleared an_law_cleared : Option Addr} {sl_law_cleared : Array (Option Value)}
    {f_law_parts : Addr} {oc_law_parts kV_law_parts dc_law_parts pm_law_parts cd_law_parts ct_law_parts : Value} {od_law_parts an_law_parts : Option Addr} {sl_law_parts : Array (Option Value)}
    {f_law_form : Addr} {oc_law_form kV_law_form dc_law_form pm_law_form cd_law_form ct_law_form : Value} {od_law_form an_law_form : Option Addr} {sl_law_form : Array (Option Value)}
    {f_law_statement : Addr} {oc_law_statement kV_law_statement dc_law_statement pm_law_statement cd_law_statement ct_law_statement : Value} {od_law_statement an_law_statement : Option Addr} {sl_law_statement : Array (Option Value)}
    {f_law_block : Addr} {oc_law_block kV_law_block dc_law_block pm_law_block cd_law_block ct_law_block : Value} {od_law_block an_law_block : Option Addr} {sl_law_block : Array (Option Value)}
    {f_law_tree : Addr} {oc_law_tree kV_law_tree dc_law_tree pm_law_tree cd_law_tree ct_law_tree : Value} {od_law_tree an_law_tree : Option Addr} {sl_law_tree : Array (Option Value)}
    {f_law_heard : Addr} {oc_law_heard kV_law_heard dc_law_heard pm_law_heard cd_law_heard ct_law_heard : Value} {od_law_heard an_law_heard : Option Addr} {sl_law_heard : Array (Option Value)}
    {f_law_odd_parts : Addr} {oc_law_odd_parts kV_law_odd_parts dc_law_odd_parts pm_law_odd_parts cd_law_odd_parts ct_law_odd_parts : Value} {od_law_odd_parts an_law_odd_parts : Option Addr} {sl_law_odd_parts : Array (Option Value)}
    {f_law_odd_forms : Addr} {oc_law_odd_forms kV_law_odd_forms dc_law_odd_forms pm_law_odd_forms cd_law_odd_forms ct_law_odd_forms : Value} {od_law_odd_forms an_law_odd_forms : Option Addr} {sl_law_odd_forms : Array (Option Value)}
    {f_law_odd_statements : Addr} {oc_law_odd_statements kV_law_odd_statements dc_law_odd_statements pm_law_odd_statements cd_law_odd_statements ct_law_odd_statements : Value} {od_law_odd_statements an_law_odd_statements : Option Addr} {sl_law_odd_statements : Array (Option Value)}
    {f_law_put : Addr} {oc_law_put kV_law_put dc_law_put pm_law_put cd_law_put ct_law_put : Value} {od_law_put an_law_put : Option Addr} {sl_law_put : Array (Option Value)}
    {f_law : Addr} {oc_law kV_law dc_law pm_law cd_law ct_law : Value} {od_law an_law : Option Addr} {sl_law : Array (Option Value)}
    (X : K.In h) (G : h.Ns mainGlobals mg) (hfa : mg "law" = some (.ref fa))
    (aC_InvalidTree : PySem.W.nsIn K mainGlobals "InvalidTree" = some (some (.ref C_InvalidTree)))
    (l_InvalidTree : K.lookup C_InvalidTree = some (excClassObj nm_InvalidTree q_InvalidTree C_InvalidTree N_InvalidTree bs_InvalidTree (veM C_FarError) true sn_InvalidTree sb_InvalidTree ab_InvalidTree co_InvalidTree dd_InvalidTree x_InvalidTree y_InvalidTree zz_InvalidTree u_InvalidTree v_InvalidTree "ValueError.__new__"))
    (sa_InvalidTree : PySem.W.findIn K (.ref C_InvalidTree) "__setattr__" = some (some (.builtin "object.__setattr__")))
    (kC_InvalidTree : PySem.W.keepIn K (.ref C_InvalidTree) = true)
    (ga_InvalidTree : PySem.W.findIn K (.ref C_InvalidTree) "__getattribute__" = some (some (.builtin "BaseException.__getattribute__")))
    (gg_InvalidTree : PySem.W.findIn K (.ref C_InvalidTree) "__getattr__" = some none)
    (ex_InvalidTree : PySem.W.subIn K (.ref C_InvalidTree) (.type "BaseException") = some true)
    (ac_InvalidTree : PySem.W.findIn K (.ref C_InvalidTree) "__class__" = some (some (.builtin "object.__class__")))
    (mo_InvalidTree : PySem.W.mroIn K C_InvalidTree (.type "object") = some true)
    (no_InvalidTree : PySem.W.findIn K (.ref C_InvalidTree) "value" = some none)
    (i_InvalidTree : PySem.W.findIn K (.ref C_InvalidTree) "__init__" = some (some (.ref f_InvalidTree___init__)))
    (t_InvalidTree : PySem.W.isFn K (.ref f_InvalidTree___init__) = true)
    (l_InvalidTree___init__ : K.lookup f_InvalidTree___init__ = some ⟨oc_InvalidTree___init__, od_InvalidTree___init__, .func (PySem.W.fnOf "__init__" "InvalidTree.__init__" (defArgs S_InvalidTree___init__) (defBody S_InvalidTree___init__) (defScope S_InvalidTree___init__) .none kV_InvalidTree___init__ dc_InvalidTree___init__ pm_InvalidTree___init__ an_InvalidTree___init__ cd_InvalidTree___init__ ct_InvalidTree___init__), sl_InvalidTree___init__⟩)
    (c_InvalidTree___init__ : PySem.W.codeIn K cd_InvalidTree___init__ "InvalidTree.__init__" = true)
    (k_InvalidTree___init__ : PySem.W.keepIn K (.ref f_InvalidTree___init__) = true)
    (a_is_integer : PySem.W.nsIn K mainGlobals "is_integer" = some (some (.ref f_is_integer)))
    (l_is_integer : K.lookup f_is_integer = some ⟨oc_is_integer, od_is_integer, .func (PySem.W.fnOf "is_integer" "is_integer" (defArgs S_is_integer) (defBody S_is_integer) (defScope S_is_integer) .none kV_is_integer dc_is_integer pm_is_integer an_is_integer cd_is_integer ct_is_integer), sl_is_integer⟩)
    (c_is_integer : PySem.W.codeIn K cd_is_integer "is_integer" = true)
    (k_is_integer : PySem.W.keepIn K (.ref f_is_integer) = true)
    (a_LETTERS : PySem.W.nsIn K mainGlobals "_LETTERS" = some (some (.str (Str.ofString "abcdefghijklmnopqrstuvwxyz") t_LETTERS)))
    (a_DIGITS : PySem.W.nsIn K mainGlobals "_DIGITS" = some (some (.str (Str.ofString "0123456789") t_DIGITS)))
    (a_GAPS : PySem.W.nsIn K mainGlobals "_GAPS" = some (some (.str (Str.ofString " \n") t_GAPS)))
    (a_BEYOND_DIGITS : PySem.W.nsIn K mainGlobals "_BEYOND_DIGITS" = some (some (.int 1000000000000000000000000000000000000000000000000000000000000000000000000000000000000000000000000000000000000000000000000000000000000000000000000000000 t_BEYOND_DIGITS)))
    (a_is_word : PySem.W.nsIn K mainGlobals "is_word" = some (some (.ref f_is_word)))
    (l_is_word : K.lookup f_is_word = some ⟨oc_is_word, od_is_word, .func (PySem.W.fnOf "is_word" "is_word" (defArgs S_is_word) (defBody S_is_word) (defScope S_is_word) .none kV_is_word dc_is_word pm_is_word an_is_word cd_is_word ct_is_word), sl_is_word⟩)
    (c_is_word : PySem.W.codeIn K cd_is_word "is_word" = true)
    (k_is_word : PySem.W.keepIn K (.ref f_is_word) = true)
    (a_has_few_digits : PySem.W.nsIn K mainGlobals "has_few_digits" = some (some (.ref f_has_few_digits)))
    (l_has_few_digits : K.lookup f_has_few_digits = some ⟨oc_has_few_digits, od_has_few_digits, .func (PySem.W.fnOf "has_few_digits" "has_few_digits" (defArgs S_has_few_digits) (defBody S_has_few_digits) (defScope S_has_few_digits) .none kV_has_few_digits dc_has_few_digits pm_has_few_digits an_has_few_digits cd_has_few_digits ct_has_few_digits), sl_has_few_digits⟩)
    (c_has_few_digits : PySem.W.codeIn K cd_has_few_digits "has_few_digits" = true)
    (k_has_few_digits : PySem.W.keepIn K (.ref f_has_few_digits) = true)
    (a_end_of_run : PySem.W.nsIn K mainGlobals "_end_of_run" = some (some (.ref f_end_of_run)))
    (l_end_of_run : K.lookup f_end_of_run = some ⟨oc_end_of_run, od_end_of_run, .func (PySem.W.fnOf "_end_of_run" "_end_of_run" (defArgs S_end_of_run) (defBody S_end_of_run) (defScope S_end_of_run) .none kV_end_of_run dc_end_of_run pm_end_of_run an_end_of_run cd_end_of_run ct_end_of_run), sl_end_of_run⟩)
    (c_end_of_run : PySem.W.codeIn K cd_end_of_run "_end_of_run" = true)
    (k_end_of_run : PySem.W.keepIn K (.ref f_end_of_run) = true)
    (a_KEYWORDS : PySem.W.nsIn K mainGlobals "_KEYWORDS" = some (some (.ref t_KEYWORDS)))
    (l_KEYWORDS : K.lookup t_KEYWORDS = some ⟨.type "tuple", dd_KEYWORDS, .seq #[.str (Str.ofString "array") t_KEYWORDS0, .str (Str.ofString "for") t_KEYWORDS1, .str (Str.ofString "read") t_KEYWORDS2, .str (Str.ofString "write") t_KEYWORDS3, .str (Str.ofString "flush") t_KEYWORDS4, .str (Str.ofString "n") t_KEYWORDS5] n_KEYWORDS, ds_KEYWORDS⟩)
    (a_is_name : PySem.W.nsIn K mainGlobals "is_name" = some (some (.ref f_is_name)))
    (l_is_name : K.lookup f_is_name = some ⟨oc_is_name, od_is_name, .func (PySem.W.fnOf "is_name" "is_name" (defArgs S_is_name) (defBody S_is_name) (defScope S_is_name) .none kV_is_name dc_is_name pm_is_name an_is_name cd_is_name ct_is_name), sl_is_name⟩)
    (c_is_name : PySem.W.codeIn K cd_is_name "is_name" = true)
    (k_is_name : PySem.W.keepIn K (.ref f_is_name) = true)
    (a_DEEPEST : PySem.W.nsIn K mainGlobals "_DEEPEST" = some (some (.int 30 t_DEEPEST)))
    (a_MOST_PARTS : PySem.W.nsIn K mainGlobals "_MOST_PARTS" = some (some (.int 4 t_MOST_PARTS)))
    (a_MOST_ARRAYS : PySem.W.nsIn K mainGlobals "_MOST_ARRAYS" = some (some (.int 8 t_MOST_ARRAYS)))
    (a_MOST_STATEMENTS : PySem.W.nsIn K mainGlobals "_MOST_STATEMENTS" = some (some (.int 40 t_MOST_STATEMENTS)))
    (a_MOST_ACCESSES : PySem.W.nsIn K mainGlobals "_MOST_ACCESSES" = some (some (.int 20 t_MOST_ACCESSES)))
    (aMOST_LOOPS_trees : PySem.W.nsIn K mainGlobals "MOST_LOOPS_trees" = some (some (.int 5 tMOST_LOOPS_trees)))
    (a_is_tree : PySem.W.nsIn K mainGlobals "is_tree" = some (some (.ref f_is_tree)))
    (l_is_tree : K.lookup f_is_tree = some ⟨oc_is_tree, od_is_tree, .func (PySem.W.fnOf "is_tree" "is_tree" (defArgs S_is_tree) (defBody S_is_tree) (defScope S_is_tree) .none kV_is_tree dc_is_tree pm_is_tree an_is_tree cd_is_tree ct_is_tree), sl_is_tree⟩)
    (c_is_tree : PySem.W.codeIn K cd_is_tree "is_tree" = true)
    (k_is_tree : PySem.W.keepIn K (.ref f_is_tree) = true)
    (a_is_tuple_of : PySem.W.nsIn K mainGlobals "_is_tuple_of" = some (some (.ref f_is_tuple_of)))
    (l_is_tuple_of : K.lookup f_is_tuple_of = some ⟨oc_is_tuple_of, od_is_tuple_of, .func (PySem.W.fnOf "_is_tuple_of" "_is_tuple_of" (defArgs S_is_tuple_of) (defBody S_is_tuple_of) (defScope S_is_tuple_of) .none kV_is_tuple_of dc_is_tuple_of pm_is_tuple_of an_is_tuple_of cd_is_tuple_of ct_is_tuple_of), sl_is_tuple_of⟩)
    (c_is_tuple_of : PySem.W.codeIn K cd_is_tuple_of "_is_tuple_of" = true)
    (k_is_tuple_of : PySem.W.keepIn K (.ref f_is_tuple_of) = true)
    (a_is_named : PySem.W.nsIn K mainGlobals "_is_named" = some (some (.ref f_is_named)))
    (l_is_named : K.lookup f_is_named = some ⟨oc_is_named, od_is_named, .func (PySem.W.fnOf "_is_named" "_is_named" (defArgs S_is_named) (defBody S_is_named) (defScope S_is_named) .none kV_is_named dc_is_named pm_is_named an_is_named cd_is_named ct_is_named), sl_is_named⟩)
    (c_is_named : PySem.W.codeIn K cd_is_named "_is_named" = true)
    (k_is_named : PySem.W.keepIn K (.ref f_is_named) = true)
    (a_is_parts : PySem.W.nsIn K mainGlobals "_is_parts" = some (some (.ref f_is_parts)))
    (l_is_parts : K.lookup f_is_parts = some ⟨oc_is_parts, od_is_parts, .func (PySem.W.fnOf "_is_parts" "_is_parts" (defArgs S_is_parts) (defBody S_is_parts) (defScope S_is_parts) .none kV_is_parts dc_is_parts pm_is_parts an_is_parts cd_is_parts ct_is_parts), sl_is_parts⟩)
    (c_is_parts : PySem.W.codeIn K cd_is_parts "_is_parts" = true)
    (k_is_parts : PySem.W.keepIn K (.ref f_is_parts) = true)
    (a_is_block : PySem.W.nsIn K mainGlobals "_is_block" = some (some (.ref f_is_block)))
    (l_is_block : K.lookup f_is_block = some ⟨oc_is_block, od_is_block, .func (PySem.W.fnOf "_is_block" "_is_block" (defArgs S_is_block) (defBody S_is_block) (defScope S_is_block) .none kV_is_block dc_is_block pm_is_block an_is_block cd_is_block ct_is_block), sl_is_block⟩)
    (c_is_block : PySem.W.codeIn K cd_is_block "_is_block" = true)
    (k_is_block : PySem.W.keepIn K (.ref f_is_block) = true)
    (a_is_statement : PySem.W.nsIn K mainGlobals "_is_statement" = some (some (.ref f_is_statement)))
    (l_is_statement : K.lookup f_is_statement = some ⟨oc_is_statement, od_is_statement, .func (PySem.W.fnOf "_is_statement" "_is_statement" (defArgs S_is_statement) (defBody S_is_statement) (defScope S_is_statement) .none kV_is_statement dc_is_statement pm_is_statement an_is_statement cd_is_statement ct_is_statement), sl_is_statement⟩)
    (c_is_statement : PySem.W.codeIn K cd_is_statement "_is_statement" = true)
    (k_is_statement : PySem.W.keepIn K (.ref f_is_statement) = true)
    (a_is_index : PySem.W.nsIn K mainGlobals "_is_index" = some (some (.ref f_is_index)))
    (l_is_index : K.lookup f_is_index = some ⟨oc_is_index, od_is_index, .func (PySem.W.fnOf "_is_index" "_is_index" (defArgs S_is_index) (defBody S_is_index) (defScope S_is_index) .none kV_is_index dc_is_index pm_is_index an_is_index cd_is_index ct_is_index), sl_is_index⟩)
    (c_is_index : PySem.W.codeIn K cd_is_index "_is_index" = true)
    (k_is_index : PySem.W.keepIn K (.ref f_is_index) = true)
    (a_statements_of : PySem.W.nsIn K mainGlobals "statements_of" = some (some (.ref f_statements_of)))
    (l_statements_of : K.lookup f_statements_of = some ⟨oc_statements_of, od_statements_of, .func (PySem.W.fnOf "statements_of" "statements_of" (defArgs S_statements_of) (defBody S_statements_of) (defScope S_statements_of) .none kV_statements_of dc_statements_of pm_statements_of an_statements_of cd_statements_of ct_statements_of), sl_statements_of⟩)
    (c_statements_of : PySem.W.codeIn K cd_statements_of "statements_of" = true)
    (k_statements_of : PySem.W.keepIn K (.ref f_statements_of) = true)
    (a_accesses_of : PySem.W.nsIn K mainGlobals "accesses_of" = some (some (.ref f_accesses_of)))
    (l_accesses_of : K.lookup f_accesses_of = some ⟨oc_accesses_of, od_accesses_of, .func (PySem.W.fnOf "accesses_of" "accesses_of" (defArgs S_accesses_of) (defBody S_accesses_of) (defScope S_accesses_of) .none kV_accesses_of dc_accesses_of pm_accesses_of an_accesses_of cd_accesses_of ct_accesses_of), sl_accesses_of⟩)
    (c_accesses_of : PySem.W.codeIn K cd_accesses_of "accesses_of" = true)
    (k_accesses_of : PySem.W.keepIn K (.ref f_accesses_of) = true)
    (a_excess : PySem.W.nsIn K mainGlobals "excess" = some (some (.ref f_excess)))
    (l_excess : K.lookup f_excess = some ⟨oc_excess, od_excess, .func (PySem.W.fnOf "excess" "excess" (defArgs S_excess) (defBody S_excess) (defScope S_excess) .none kV_excess dc_excess pm_excess an_excess cd_excess ct_excess), sl_excess⟩)
    (c_excess : PySem.W.codeIn K cd_excess "excess" = true)
    (k_excess : PySem.W.keepIn K (.ref f_excess) = true)
    (a_sizes_of : PySem.W.nsIn K mainGlobals "sizes_of" = some (some (.ref f_sizes_of)))
    (l_sizes_of : K.lookup f_sizes_of = some ⟨oc_sizes_of, od_sizes_of, .func (PySem.W.fnOf "sizes_of" "sizes_of" (defArgs S_sizes_of) (defBody S_sizes_of) (defScope S_sizes_of) .none kV_sizes_of dc_sizes_of pm_sizes_of an_sizes_of cd_sizes_of ct_sizes_of), sl_sizes_of⟩)
    (c_sizes_of : PySem.W.codeIn K cd_sizes_of "sizes_of" = true)
    (k_sizes_of : PySem.W.keepIn K (.ref f_sizes_of) = true)
    (a_depth : PySem.W.nsIn K mainGlobals "_depth" = some (some (.ref f_depth)))
    (l_depth : K.lookup f_depth = some ⟨oc_depth, od_depth, .func (PySem.W.fnOf "_depth" "_depth" (defArgs S_depth) (defBody S_depth) (defScope S_depth) .none kV_depth dc_depth pm_depth an_depth cd_depth ct_depth), sl_depth⟩)
    (c_depth : PySem.W.codeIn K cd_depth "_depth" = true)
    (k_depth : PySem.W.keepIn K (.ref f_depth) = true)
    (a_check_names : PySem.W.nsIn K mainGlobals "check_names" = some (some (.ref f_check_names)))
    (l_check_names : K.lookup f_check_names = some ⟨oc_check_names, od_check_names, .func (PySem.W.fnOf "check_names" "check_names" (defArgs S_check_names) (defBody S_check_names) (defScope S_check_names) .none kV_check_names dc_check_names pm_check_names an_check_names cd_check_names ct_check_names), sl_check_names⟩)
    (c_check_names : PySem.W.codeIn K cd_check_names "check_names" = true)
    (k_check_names : PySem.W.keepIn K (.ref f_check_names) = true)
    (a_check_block : PySem.W.nsIn K mainGlobals "_check_block" = some (some (.ref f_check_block)))
    (l_check_block : K.lookup f_check_block = some ⟨oc_check_block, od_check_block, .func (PySem.W.fnOf "_check_block" "_check_block" (defArgs S_check_block) (defBody S_check_block) (defScope S_check_block) .none kV_check_block dc_check_block pm_check_block an_check_block cd_check_block ct_check_block), sl_check_block⟩)
    (c_check_block : PySem.W.codeIn K cd_check_block "_check_block" = true)
    (k_check_block : PySem.W.keepIn K (.ref f_check_block) = true)
    (aC_Program : PySem.W.nsIn K mainGlobals "Program" = some (some (.ref C_Program)))
    (pg_Program : PySem.W.plainGet K C_Program Str.empty = true)
    (hd_Program : PySem.W.hasDictIn K C_Program = true)
    (po_Program : PySem.W.plainOver K C_Program = true)
    (sa_Program : PySem.W.findIn K (.ref C_Program) "__setattr__" = some (some (.builtin "object.__setattr__")))
    (mk_Program : PySem.W.makesIn K C_Program = true)
    (kc_Program : PySem.W.keepIn K (.ref C_Program) = true)
    (cc_Program : PySem.W.findIn K (.ref C_Program) "__class__" = some (some (.builtin "object.__class__")))
    (cm_Program : PySem.W.mroIn K C_Program (.type "object") = some true)
    (ic_Program : PySem.W.isClsIn K C_Program = true)
    (tc_Program : PySem.W.typeIn K (.ref C_Program) = some (.type "type"))
    (cgO : PySem.W.specialIn K (.builtin "object.__class__") "__get__" = some (some (.builtin "getset_descriptor.__get__")))
    (ctO : PySem.W.takesIn K (.builtin "object.__class__") = some true)
    (np_Program_tree : PySem.W.findIn K (.ref C_Program) "_tree" = some none)
    (np_Program_sizes : PySem.W.findIn K (.ref C_Program) "_sizes" = some none)
    (np_Program_accesses : PySem.W.findIn K (.ref C_Program) "_accesses" = some none)
    (a_Program___init__ : PySem.W.findIn K (.ref C_Program) "__init__" = some (some (.ref f_Program___init__)))
    (i_Program___init__ : PySem.W.isFn K (.ref f_Program___init__) = true)
    (l_Program___init__ : K.lookup f_Program___init__ = some ⟨oc_Program___init__, od_Program___init__, .func (PySem.W.fnOf "__init__" "Program.__init__" (defArgs S_Program___init__) (defBody S_Program___init__) (defScope S_Program___init__) .none kV_Program___init__ dc_Program___init__ pm_Program___init__ an_Program___init__ cd_Program___init__ ct_Program___init__), sl_Program___init__⟩)
    (c_Program___init__ : PySem.W.codeIn K cd_Program___init__ "Program.__init__" = true)
    (k_Program___init__ : PySem.W.keepIn K (.ref f_Program___init__) = true)
    (a_law_pool : PySem.W.nsIn K mainGlobals "_law_pool" = some (some (.ref f_law_pool)))
    (l_law_pool : K.lookup f_law_pool = some ⟨oc_law_pool, od_law_pool, .func (PySem.W.fnOf "_law_pool" "_law_pool" (defArgs S_law_pool) (defBody S_law_pool) (defScope S_law_pool) .none kV_law_pool dc_law_pool pm_law_pool an_law_pool cd_law_pool ct_law_pool), sl_law_pool⟩)
    (c_law_pool : PySem.W.codeIn K cd_law_pool "_law_pool" = true)
    (k_law_pool : PySem.W.keepIn K (.ref f_law_pool) = true)
    (a_law_take : PySem.W.nsIn K mainGlobals "_law_take" = some (some (.ref f_law_take)))
    (l_law_take : K.lookup f_law_take = some ⟨oc_law_take, od_law_take, .func (PySem.W.fnOf "_law_take" "_law_take" (defArgs S_law_take) (defBody S_law_take) (defScope S_law_take) .none kV_law_take dc_law_take pm_law_take an_law_take cd_law_take ct_law_take), sl_law_take⟩)
    (c_law_take : PySem.W.codeIn K cd_law_take "_law_take" = true)
    (k_law_take : PySem.W.keepIn K (.ref f_law_take) = true)
    (a_law_cleared : PySem.W.nsIn K mainGlobals "_law_cleared" = some (some (.ref f_law_cleared)))
    (l_law_cleared : K.lookup f_law_cleared = some ⟨oc_law_cleared, od_law_cleared, .func (PySem.W.fnOf "_law_cleared" "_law_cleared" (defArgs S_law_cleared) (defBody S_law_cleared) (defScope S_law_cleared) .none kV_law_cleared dc_law_cleared pm_law_cleared an_law_cleared cd_law_cleared ct_law_cleared), sl_law_cleared⟩)
    (c_law_cleared : PySem.W.codeIn K cd_law_cleared "_law_cleared" = true)
    (k_law_cleared : PySem.W.keepIn K (.ref f_law_cleared) = true)
    (a_law_parts : PySem.W.nsIn K mainGlobals "_law_parts" = some (some (.ref f_law_parts)))
    (l_law_parts : K.lookup f_law_parts = some ⟨oc_law_parts, od_law_parts, .func (PySem.W.fnOf "_law_parts" "_law_parts" (defArgs S_law_parts) (defBody S_law_parts) (defScope S_law_parts) .none kV_law_parts dc_law_parts pm_law_parts an_law_parts cd_law_parts ct_law_parts), sl_law_parts⟩)
    (c_law_parts : PySem.W.codeIn K cd_law_parts "_law_parts" = true)
    (k_law_parts : PySem.W.keepIn K (.ref f_law_parts) = true)
    (a_law_form : PySem.W.nsIn K mainGlobals "_law_form" = some (some (.ref f_law_form)))
    (l_law_form : K.lookup f_law_form = some ⟨oc_law_form, od_law_form, .func (PySem.W.fnOf "_law_form" "_law_form" (defArgs S_law_form) (defBody S_law_form) (defScope S_law_form) .none kV_law_form dc_law_form pm_law_form an_law_form cd_law_form ct_law_form), sl_law_form⟩)
    (c_law_form : PySem.W.codeIn K cd_law_form "_law_form" = true)
    (k_law_form : PySem.W.keepIn K (.ref f_law_form) = true)
    (a_law_statement : PySem.W.nsIn K mainGlobals "_law_statement" = some (some (.ref f_law_statement)))
    (l_law_statement : K.lookup f_law_statement = some ⟨oc_law_statement, od_law_statement, .func (PySem.W.fnOf "_law_statement" "_law_statement" (defArgs S_law_statement) (defBody S_law_statement) (defScope S_law_statement) .none kV_law_statement dc_law_statement pm_law_statement an_law_statement cd_law_statement ct_law_statement), sl_law_statement⟩)
    (c_law_statement : PySem.W.codeIn K cd_law_statement "_law_statement" = true)
    (k_law_statement : PySem.W.keepIn K (.ref f_law_statement) = true)
    (a_law_block : PySem.W.nsIn K mainGlobals "_law_block" = some (some (.ref f_law_block)))
    (l_law_block : K.lookup f_law_block = some ⟨oc_law_block, od_law_block, .func (PySem.W.fnOf "_law_block" "_law_block" (defArgs S_law_block) (defBody S_law_block) (defScope S_law_block) .none kV_law_block dc_law_block pm_law_block an_law_block cd_law_block ct_law_block), sl_law_block⟩)
    (c_law_block : PySem.W.codeIn K cd_law_block "_law_block" = true)
    (k_law_block : PySem.W.keepIn K (.ref f_law_block) = true)
    (a_law_tree : PySem.W.nsIn K mainGlobals "_law_tree" = some (some (.ref f_law_tree)))
    (l_law_tree : K.lookup f_law_tree = some ⟨oc_law_tree, od_law_tree, .func (PySem.W.fnOf "_law_tree" "_law_tree" (defArgs S_law_tree) (defBody S_law_tree) (defScope S_law_tree) .none kV_law_tree dc_law_tree pm_law_tree an_law_tree cd_law_tree ct_law_tree), sl_law_tree⟩)
    (c_law_tree : PySem.W.codeIn K cd_law_tree "_law_tree" = true)
    (k_law_tree : PySem.W.keepIn K (.ref f_law_tree) = true)
    (a_law_heard : PySem.W.nsIn K mainGlobals "_law_heard" = some (some (.ref f_law_heard)))
    (l_law_heard : K.lookup f_law_heard = some ⟨oc_law_heard, od_law_heard, .func (PySem.W.fnOf "_law_heard" "_law_heard" (defArgs S_law_heard) (defBody S_law_heard) (defScope S_law_heard) .none kV_law_heard dc_law_heard pm_law_heard an_law_heard cd_law_heard ct_law_heard), sl_law_heard⟩)
    (c_law_heard : PySem.W.codeIn K cd_law_heard "_law_heard" = true)
    (k_law_heard : PySem.W.keepIn K (.ref f_law_heard) = true)
    (a_law_odd_parts : PySem.W.nsIn K mainGlobals "_law_odd_parts" = some (some (.ref f_law_odd_parts)))
    (l_law_odd_parts : K.lookup f_law_odd_parts = some ⟨oc_law_odd_parts, od_law_odd_parts, .func (PySem.W.fnOf "_law_odd_parts" "_law_odd_parts" (defArgs S_law_odd_parts) (defBody S_law_odd_parts) (defScope S_law_odd_parts) .none kV_law_odd_parts dc_law_odd_parts pm_law_odd_parts an_law_odd_parts cd_law_odd_parts ct_law_odd_parts), sl_law_odd_parts⟩)
    (c_law_odd_parts : PySem.W.codeIn K cd_law_odd_parts "_law_odd_parts" = true)
    (k_law_odd_parts : PySem.W.keepIn K (.ref f_law_odd_parts) = true)
    (a_law_odd_forms : PySem.W.nsIn K mainGlobals "_law_odd_forms" = some (some (.ref f_law_odd_forms)))
    (l_law_odd_forms : K.lookup f_law_odd_forms = some ⟨oc_law_odd_forms, od_law_odd_forms, .func (PySem.W.fnOf "_law_odd_forms" "_law_odd_forms" (defArgs S_law_odd_forms) (defBody S_law_odd_forms) (defScope S_law_odd_forms) .none kV_law_odd_forms dc_law_odd_forms pm_law_odd_forms an_law_odd_forms cd_law_odd_forms ct_law_odd_forms), sl_law_odd_forms⟩)
    (c_law_odd_forms : PySem.W.codeIn K cd_law_odd_forms "_law_odd_forms" = true)
    (k_law_odd_forms : PySem.W.keepIn K (.ref f_law_odd_forms) = true)
    (a_law_odd_statements : PySem.W.nsIn K mainGlobals "_law_odd_statements" = some (some (.ref f_law_odd_statements)))
    (l_law_odd_statements : K.lookup f_law_odd_statements = some ⟨oc_law_odd_statements, od_law_odd_statements, .func (PySem.W.fnOf "_law_odd_statements" "_law_odd_statements" (defArgs S_law_odd_statements) (defBody S_law_odd_statements) (defScope S_law_odd_statements) .none kV_law_odd_statements dc_law_odd_statements pm_law_odd_statements an_law_odd_statements cd_law_odd_statements ct_law_odd_statements), sl_law_odd_statements⟩)
    (c_law_odd_statements : PySem.W.codeIn K cd_law_odd_statements "_law_odd_statements" = true)
    (k_law_odd_statements : PySem.W.keepIn K (.ref f_law_odd_statements) = true)
    (a_law_put : PySem.W.nsIn K mainGlobals "_law_put" = some (some (.ref f_law_put)))
    (l_law_put : K.lookup f_law_put = some ⟨oc_law_put, od_law_put, .func (PySem.W.fnOf "_law_put" "_law_put" (defArgs S_law_put) (defBody S_law_put) (defScope S_law_put) .none kV_law_put dc_law_put pm_law_put an_law_put cd_law_put ct_law_put), sl_law_put⟩)
    (c_law_put : PySem.W.codeIn K cd_law_put "_law_put" = true)
    (k_law_put : PySem.W.keepIn K (.ref f_law_put) = true)
    (a_law : PySem.W.nsIn K mainGlobals "law" = some (some (.ref f_law)))
    (l_law : K.lookup f_law = some ⟨oc_law, od_law, .func (PySem.W.fnOf "law" "law" (defArgs S_law) (defBody S_law) (defScope S_law) .none kV_law dc_law pm_law an_law cd_law ct_law), sl_law⟩)
    (c_law : PySem.W.codeIn K cd_law "law" = true)
    (k_law : PySem.W.keepIn K (.ref f_law) = true)
    (z_len : PySem.W.nsIn K mainGlobals "len" = some none)
    (z_tuple : PySem.W.nsIn K mainGlobals "tuple" = some none)
    (z_max : PySem.W.nsIn K mainGlobals "max" = some none)
    (z_isinstance : PySem.W.nsIn K mainGlobals "isinstance" = some none)
    (z_int : PySem.W.nsIn K mainGlobals "int" = some none)
    (z_bool : PySem.W.nsIn K mainGlobals "bool" = some none)
    (z_abs : PySem.W.nsIn K mainGlobals "abs" = some none)
    (z_range : PySem.W.nsIn K mainGlobals "range" = some none)
    (z_min : PySem.W.nsIn K mainGlobals "min" = some none)
    (z_all : PySem.W.nsIn K mainGlobals "all" = some none)
    (z_any : PySem.W.nsIn K mainGlobals "any" = some none)
    (z_str : PySem.W.nsIn K mainGlobals "str" = some none)
    (z_sorted : PySem.W.nsIn K mainGlobals "sorted" = some none)
    (z_set : PySem.W.nsIn K mainGlobals "set" = some none)
    (z_repr : PySem.W.nsIn K mainGlobals "repr" = some none)
    (anO : PySem.W.specialIn K (.builtin "object.__class__") "__get__" = some (some (.builtin "getset_descriptor.__get__")))
    (tkO : PySem.W.takesIn K (.builtin "object.__class__") = some true)
    (nf : C_InvalidTree ≠ C_FarError) :
    ∃ fd : FuncData, (∀ (s : Shared) (v : Value), BindsTo s fd ⟨[v], []⟩ [("_law_script", v)]) ∧ ∀ base : Heap, K.In base → base.Ns mainGlobals mg → RunG l.prog w K mg base CX0 27 fa fd ["_law_script"] (spLaw K) := by
  have e := hfa.symm.trans (PySem.W.mg_of X G a_law)
  cases e
  have F_InvalidTree___init__ := fun_mk (x := "__init__") (qual := "InvalidTree.__init__") (st := S_InvalidTree___init__) l_InvalidTree___init__ c_InvalidTree___init__ k_InvalidTree___init__
  have b_InvalidTree___init__ := F_InvalidTree___init__.binds (ps := ["self", "value"]) fun _ _ _ _ _ _ us hl => match us, hl with | [_, _], _ => rfl
  have F_is_integer := fun_mk (x := "is_integer") (qual := "is_integer") (st := S_is_integer) l_is_integer c_is_integer k_is_integer
  have b_is_integer := F_is_integer.binds (ps := ["value"]) fun _ _ _ _ _ _ us hl => match us, hl with | [_], _ => rfl
  have g_is_integer := PySem.W.mg_of X G a_is_integer
  have g_LETTERS := PySem.W.mg_of X G a_LETTERS
  have g_DIGITS := PySem.W.mg_of X G a_DIGITS
  have g_GAPS := PySem.W.mg_of X G a_GAPS
  have g_BEYOND_DIGITS := PySem.W.mg_of X G a_BEYOND_DIGITS
  have F_is_word := fun_mk (x := "is_word") (qual := "is_word") (st := S_is_word) l_is_word c_is_word k_is_word
  have b_is_word := F_is_word.binds (ps := ["text"]) fun _ _ _ _ _ _ us hl => match us, hl with | [_], _ => rfl
  have g_is_word := PySem.W.mg_of X G a_is_word
  have F_has_few_digits := fun_mk (x := "has_few_digits") (qual := "has_few_digits") (st := S_has_few_digits) l_has_few_digits c_has_few_digits k_has_few_digits
  have b_has_few_digits := F_has_few_digits.binds (ps := ["number"]) fun _ _ _ _ _ _ us hl => match us, hl with | [_], _ => rfl
  have g_has_few_digits := PySem.W.mg_of X G a_has_few_digits
  have F_end_of_run := fun_mk (x := "_end_of_run") (qual := "_end_of_run") (st := S_end_of_run) l_end_of_run c_end_of_run k_end_of_run
  have b_end_of_run := F_end_of_run.binds (ps := ["text", "begin"]) fun _ _ _ _ _ _ us hl => match us, hl with | [_, _], _ => rfl
  have g_end_of_run := PySem.W.mg_of X G a_end_of_run
  have g_KEYWORDS := PySem.W.mg_of X G a_KEYWORDS
  have q_KEYWORDS : ∀ H, SqT K H t_KEYWORDS ((["array", "for", "read", "write", "flush", "n"] : List Str).map V.str) := fun H => .inr ⟨_, _, _, l_KEYWORDS, rfl, rfl, (by show 6 ≤ sizeLine; decide), (.cons ⟨_, rfl⟩ (.cons ⟨_, rfl⟩ (.cons ⟨_, rfl⟩ (.cons ⟨_, rfl⟩ (.cons ⟨_, rfl⟩ (.cons ⟨_, rfl⟩ .nil))))))⟩
  have F_is_name := fun_mk (x := "is_name") (qual := "is_name") (st := S_is_name) l_is_name c_is_name k_is_name
  have b_is_name := F_is_name.binds (ps := ["value"]) fun _ _ _ _ _ _ us hl => match us, hl with | [_], _ => rfl
  have g_is_name := PySem.W.mg_of X G a_is_name
  have g_DEEPEST := PySem.W.mg_of X G a_DEEPEST
  have g_MOST_PARTS := PySem.W.mg_of X G a_MOST_PARTS
  have g_MOST_ARRAYS := PySem.W.mg_of X G a_MOST_ARRAYS
  have g_MOST_STATEMENTS := PySem.W.mg_of X G a_MOST_STATEMENTS
  have g_MOST_ACCESSES := PySem.W.mg_of X G a_MOST_ACCESSES
  have gMOST_LOOPS_trees := PySem.W.mg_of X G aMOST_LOOPS_trees
  have F_is_tree := fun_mk (x := "is_tree") (qual := "is_tree") (st := S_is_tree) l_is_tree c_is_tree k_is_tree
  have b_is_tree := F_is_tree.binds (ps := ["value"]) fun _ _ _ _ _ _ us hl => match us, hl with | [_], _ => rfl
  have g_is_tree := PySem.W.mg_of X G a_is_tree
  have F_is_tuple_of := fun_mk (x := "_is_tuple_of") (qual := "_is_tuple_of") (st := S_is_tuple_of) l_is_tuple_of c_is_tuple_of k_is_tuple_of
  have b_is_tuple_of := F_is_tuple_of.binds (ps := ["value", "many"]) fun _ _ _ _ _ _ us hl => match us, hl with | [_, _], _ => rfl
  have g_is_tuple_of := PySem.W.mg_of X G a_is_tuple_of
  have F_is_named := fun_mk (x := "_is_named") (qual := "_is_named") (st := S_is_named) l_is_named c_is_named k_is_named
  have b_is_named := F_is_named.binds (ps := ["value"]) fun _ _ _ _ _ _ us hl => match us, hl with | [_], _ => rfl
  have g_is_named := PySem.W.mg_of X G a_is_named
  have F_is_parts := fun_mk (x := "_is_parts") (qual := "_is_parts") (st := S_is_parts) l_is_parts c_is_parts k_is_parts
  have b_is_parts := F_is_parts.binds (ps := ["value"]) fun _ _ _ _ _ _ us hl => match us, hl with | [_], _ => rfl
  have g_is_parts := PySem.W.mg_of X G a_is_parts
  have F_is_block := fun_mk (x := "_is_block") (qual := "_is_block") (st := S_is_block) l_is_block c_is_block k_is_block
  have b_is_block := F_is_block.binds (ps := ["value", "loops"]) fun _ _ _ _ _ _ us hl => match us, hl with | [_, _], _ => rfl
  have g_is_block := PySem.W.mg_of X G a_is_block
  have F_is_statement := fun_mk (x := "_is_statement") (qual := "_is_statement") (st := S_is_statement) l_is_statement c_is_statement k_is_statement
  have b_is_statement := F_is_statement.binds (ps := ["value", "loops"]) fun _ _ _ _ _ _ us hl => match us, hl with | [_, _], _ => rfl
  have g_is_statement := PySem.W.mg_of X G a_is_statement
  have F_is_index := fun_mk (x := "_is_index") (qual := "_is_index") (st := S_is_index) l_is_index c_is_index k_is_index
  have b_is_index := F_is_index.binds (ps := ["value"]) fun _ _ _ _ _ _ us hl => match us, hl with | [_], _ => rfl
  have g_is_index := PySem.W.mg_of X G a_is_index
  have F_statements_of := fun_mk (x := "statements_of") (qual := "statements_of") (st := S_statements_of) l_statements_of c_statements_of k_statements_of
  have b_statements_of := F_statements_of.binds (ps := ["block"]) fun _ _ _ _ _ _ us hl => match us, hl with | [_], _ => rfl
  have g_statements_of := PySem.W.mg_of X G a_statements_of
  have F_accesses_of := fun_mk (x := "accesses_of") (qual := "accesses_of") (st := S_accesses_of) l_accesses_of c_accesses_of k_accesses_of
  have b_accesses_of := F_accesses_of.binds (ps := ["block"]) fun _ _ _ _ _ _ us hl => match us, hl with | [_], _ => rfl
  have g_accesses_of := PySem.W.mg_of X G a_accesses_of
  have F_excess := fun_mk (x := "excess") (qual := "excess") (st := S_excess) l_excess c_excess k_excess
  have b_excess := F_excess.binds (ps := ["tree"]) fun _ _ _ _ _ _ us hl => match us, hl with | [_], _ => rfl
  have g_excess := PySem.W.mg_of X G a_excess
  have F_sizes_of := fun_mk (x := "sizes_of") (qual := "sizes_of") (st := S_sizes_of) l_sizes_of c_sizes_of k_sizes_of
  have b_sizes_of := F_sizes_of.binds (ps := ["tree"]) fun _ _ _ _ _ _ us hl => match us, hl with | [_], _ => rfl
  have g_sizes_of := PySem.W.mg_of X G a_sizes_of
  have F_depth := fun_mk (x := "_depth") (qual := "_depth") (st := S_depth) l_depth c_depth k_depth
  have b_depth := F_depth.binds (ps := ["block"]) fun _ _ _ _ _ _ us hl => match us, hl with | [_], _ => rfl
  have g_depth := PySem.W.mg_of X G a_depth
  have F_check_names := fun_mk (x := "check_names") (qual := "check_names") (st := S_check_names) l_check_names c_check_names k_check_names
  have b_check_names := F_check_names.binds (ps := ["tree"]) fun _ _ _ _ _ _ us hl => match us, hl with | [_], _ => rfl
  have g_check_names := PySem.W.mg_of X G a_check_names
  have F_check_block := fun_mk (x := "_check_block") (qual := "_check_block") (st := S_check_block) l_check_block c_check_block k_check_block
  have b_check_block := F_check_block.binds (ps := ["block", "names", "counters"]) fun _ _ _ _ _ _ us hl => match us, hl with | [_, _, _], _ => rfl
  have g_check_block := PySem.W.mg_of X G a_check_block
  have kit_Program : InsKit K C_Program := ⟨⟨pg_Program, hd_Program, po_Program, sa_Program⟩, cc_Program, cgO, ctO, cm_Program⟩
  have mC_Program := PySem.W.mg_of X G aC_Program
  have F_Program___init__ := fun_mk (x := "__init__") (qual := "Program.__init__") (st := S_Program___init__) l_Program___init__ c_Program___init__ k_Program___init__
  have b_Program___init__ := F_Program___init__.binds (ps := ["self", "tree"]) fun _ _ _ _ _ _ us hl => match us, hl with | [_, _], _ => rfl
  have MK_Program : Mk K C_Program f_Program___init__ := ⟨mk_Program, a_Program___init__, i_Program___init__, kc_Program⟩
  have F_law_pool := fun_mk (x := "_law_pool") (qual := "_law_pool") (st := S_law_pool) l_law_pool c_law_pool k_law_pool
  have b_law_pool := F_law_pool.binds (ps := ["_law_script", "_law_k"]) fun _ _ _ _ _ _ us hl => match us, hl with | [_, _], _ => rfl
  have g_law_pool := PySem.W.mg_of X G a_law_pool
  have F_law_take := fun_mk (x := "_law_take") (qual := "_law_take") (st := S_law_take) l_law_take c_law_take k_law_take
  have b_law_take := F_law_take.binds (ps := ["_law_pool_here", "_law_wide"]) fun _ _ _ _ _ _ us hl => match us, hl with | [_, _], _ => rfl
  have g_law_take := PySem.W.mg_of X G a_law_take
  have F_law_cleared := fun_mk (x := "_law_cleared") (qual := "_law_cleared") (st := S_law_cleared) l_law_cleared c_law_cleared k_law_cleared
  have b_law_cleared := F_law_cleared.binds (ps := ["_law_parts_here"]) fun _ _ _ _ _ _ us hl => match us, hl with | [_], _ => rfl
  have g_law_cleared := PySem.W.mg_of X G a_law_cleared
  have F_law_parts := fun_mk (x := "_law_parts") (qual := "_law_parts") (st := S_law_parts) l_law_parts c_law_parts k_law_parts
  have b_law_parts := F_law_parts.binds (ps := ["_law_pool_here", "_law_most"]) fun _ _ _ _ _ _ us hl => match us, hl with | [_, _], _ => rfl
  have g_law_parts := PySem.W.mg_of X G a_law_parts
  have F_law_form := fun_mk (x := "_law_form") (qual := "_law_form") (st := S_law_form) l_law_form c_law_form k_law_form
  have b_law_form := F_law_form.binds (ps := ["_law_pool_here", "_law_counters"]) fun _ _ _ _ _ _ us hl => match us, hl with | [_, _], _ => rfl
  have g_law_form := PySem.W.mg_of X G a_law_form
  have F_law_statement := fun_mk (x := "_law_statement") (qual := "_law_statement") (st := S_law_statement) l_law_statement c_law_statement k_law_statement
  have b_law_statement := F_law_statement.binds (ps := ["_law_pool_here", "_law_env", "_law_counters"]) fun _ _ _ _ _ _ us hl => match us, hl with | [_, _, _], _ => rfl
  have g_law_statement := PySem.W.mg_of X G a_law_statement
  have F_law_block := fun_mk (x := "_law_block") (qual := "_law_block") (st := S_law_block) l_law_block c_law_block k_law_block
  have b_law_block := F_law_block.binds (ps := ["_law_pool_here", "_law_env", "_law_counters"]) fun _ _ _ _ _ _ us hl => match us, hl with | [_, _, _], _ => rfl
  have g_law_block := PySem.W.mg_of X G a_law_block
  have F_law_tree := fun_mk (x := "_law_tree") (qual := "_law_tree") (st := S_law_tree) l_law_tree c_law_tree k_law_tree
  have b_law_tree := F_law_tree.binds (ps := ["_law_pool_here"]) fun _ _ _ _ _ _ us hl => match us, hl with | [_], _ => rfl
  have g_law_tree := PySem.W.mg_of X G a_law_tree
  have F_law_heard := fun_mk (x := "_law_heard") (qual := "_law_heard") (st := S_law_heard) l_law_heard c_law_heard k_law_heard
  have b_law_heard := F_law_heard.binds (ps := ["_law_tree_here"]) fun _ _ _ _ _ _ us hl => match us, hl with | [_], _ => rfl
  have g_law_heard := PySem.W.mg_of X G a_law_heard
  have F_law_odd_parts := fun_mk (x := "_law_odd_parts") (qual := "_law_odd_parts") (st := S_law_odd_parts) l_law_odd_parts c_law_odd_parts k_law_odd_parts
  have b_law_odd_parts := F_law_odd_parts.binds (ps := []) fun _ _ _ _ _ _ us hl => match us, hl with | [], _ => rfl
  have g_law_odd_parts := PySem.W.mg_of X G a_law_odd_parts
  have F_law_odd_forms := fun_mk (x := "_law_odd_forms") (qual := "_law_odd_forms") (st := S_law_odd_forms) l_law_odd_forms c_law_odd_forms k_law_odd_forms
  have b_law_odd_forms := F_law_odd_forms.binds (ps := []) fun _ _ _ _ _ _ us hl => match us, hl with | [], _ => rfl
  have g_law_odd_forms := PySem.W.mg_of X G a_law_odd_forms
  have F_law_odd_statements := fun_mk (x := "_law_odd_statements") (qual := "_law_odd_statements") (st := S_law_odd_statements) l_law_odd_statements c_law_odd_statements k_law_odd_statements
  have b_law_odd_statements := F_law_odd_statements.binds (ps := []) fun _ _ _ _ _ _ us hl => match us, hl with | [], _ => rfl
  have g_law_odd_statements := PySem.W.mg_of X G a_law_odd_statements
  have F_law_put := fun_mk (x := "_law_put") (qual := "_law_put") (st := S_law_put) l_law_put c_law_put k_law_put
  have b_law_put := F_law_put.binds (ps := ["_law_pool_here", "_law_block_here", "_law_odd"]) fun _ _ _ _ _ _ us hl => match us, hl with | [_, _, _], _ => rfl
  have g_law_put := PySem.W.mg_of X G a_law_put
  have F_law := fun_mk (x := "law") (qual := "law") (st := S_law) l_law c_law k_law
  have X_InvalidTree : ErX K mg "InvalidTree" C_InvalidTree C_FarError "value" := ⟨⟨_, _, _, _, _, _, _, _, _, _, _, _, _, _, l_InvalidTree⟩, sa_InvalidTree, kC_InvalidTree, ga_InvalidTree, gg_InvalidTree, ex_InvalidTree, ac_InvalidTree, anO, tkO, mo_InvalidTree, no_InvalidTree, PySem.W.mg_of X G aC_InvalidTree⟩
  have SX_InvalidTree : ∀ base : Heap, SxC l.prog w K mg base "InvalidTree" C_InvalidTree "value" := fun base => ⟨X_InvalidTree.oexc, X_InvalidTree.m, _, _, i_InvalidTree, beq_iff_eq.mp t_InvalidTree, sx_InvalidTree X_InvalidTree.oxc X_InvalidTree.no F_InvalidTree___init__, b_InvalidTree___init__⟩
  have tb : TkB mg := ⟨⟨_, g_LETTERS⟩, ⟨_, g_DIGITS⟩, ⟨_, g_GAPS⟩, PySem.W.mg_none_of X G z_len, PySem.W.mg_none_of X G z_max, PySem.W.mg_none_of X G z_all⟩
  have tx : TxB K mg := ⟨⟨_, g_KEYWORDS, q_KEYWORDS⟩, PySem.W.mg_none_of X G z_isinstance, PySem.W.mg_none_of X G z_str⟩
  have te : PySem.W.exmOne K (.ref C_InvalidTree) (.ref C_InvalidTree) = some true := by rw [X_InvalidTree.exm X_InvalidTree nf, decide_eq_true rfl]
  refine ⟨PySem.W.fnOf "law" "law" (defArgs S_law) (defBody S_law) (defScope S_law) .none kV_law dc_law pm_law an_law cd_law ct_law, fun s v => .of_eq rfl, fun base _ _ => ?_⟩
  have GI := SX_InvalidTree base
  have B2 : Bn2 mg := ⟨PySem.W.mg_none_of X G z_len, PySem.W.mg_none_of X G z_int, PySem.W.mg_none_of X G z_abs⟩
  have TAKE : CalB l.prog w K mg base CX0 "_law_take" 1 PreT ResT := ⟨⟨_, _, _, take_B (ok_take F_law_take B2), g_law_take, F_law_take.kp, b_law_take⟩⟩
  have CLEAR : CalP l.prog w K mg base CX0 "_law_cleared" 1 PreCl ResCl := ⟨⟨_, _, _, t_cleared F_law_cleared (PySem.W.mg_none_of X G z_len) (PySem.W.mg_none_of X G z_tuple), g_law_cleared, F_law_cleared.kp, b_law_cleared⟩⟩
  have PARTS : CalB l.prog w K mg base CX0 "_law_parts" 2 PreQ ResQ := ⟨⟨_, _, _, t_parts F_law_parts TAKE CLEAR (PySem.W.mg_none_of X G z_range), g_law_parts, F_law_parts.kp, b_law_parts⟩⟩
  have FORM : ∀ cs : List Str, cs.length ≤ 5 → CalB l.prog w K mg base CX0 "_law_form" 3 (PreF cs) (ResF cs) := fun cs h => ⟨⟨_, _, _, t_dform F_law_form TAKE PARTS (PySem.W.mg_none_of X G z_sorted) (PySem.W.mg_none_of X G z_tuple) cs h, g_law_form, F_law_form.kp, b_law_form⟩⟩
  have BLK : ∀ (ar nm : List Str) (L : Nat), NmsOk ar → NmsOk nm → CalD l.prog w K mg base CX0 "_law_block" 13 (PreK ar nm [] L) (ResK ar nm [] L) := fun ar nm L h1 h2 => t_blocks F_law_statement g_law_statement b_law_statement F_law_block g_law_block b_law_block TAKE PARTS FORM (PySem.W.mg_none_of X G z_len) (PySem.W.mg_none_of X G z_range) (PySem.W.mg_none_of X G z_tuple) ar nm h1 h2 4 [] L rfl (by simp)
  have CI : CalP l.prog w K mg base CX0 "is_integer" 1 Any1 (Rs1 isIntD) := ⟨⟨_, _, _, g_integer F_is_integer (PySem.W.mg_none_of X G z_isinstance) (PySem.W.mg_none_of X G z_int) (PySem.W.mg_none_of X G z_bool), g_is_integer, F_is_integer.kp, b_is_integer⟩⟩
  have CNm : CalP l.prog w K mg base CX0 "is_name" 3 Any1 (Rs1 isNameD) := ⟨⟨_, _, _, g_name1 (ok_is_name F_is_name F_is_word b_is_word g_is_word F_end_of_run b_end_of_run g_end_of_run tb tx), g_is_name, F_is_name.kp, b_is_name⟩⟩
  have CTu : CalP l.prog w K mg base CX0 "_is_tuple_of" 1 (fun as => ∃ y n, as = [.d y, .d (.int n)]) RsT := ⟨⟨_, _, _, g_tuple_of F_is_tuple_of (PySem.W.mg_none_of X G z_isinstance) (PySem.W.mg_none_of X G z_tuple) (PySem.W.mg_none_of X G z_len), g_is_tuple_of, F_is_tuple_of.kp, b_is_tuple_of⟩⟩
  have CTd : CalP l.prog w K mg base CX0 "_is_tuple_of" 1 (fun as => ∃ n, as = [qS K (.dict []), .d (.int n)]) (ResQe false) := ⟨⟨_, _, _, g_tuple_ofD F_is_tuple_of (PySem.W.mg_none_of X G z_isinstance) (PySem.W.mg_none_of X G z_tuple) (PySem.W.mg_none_of X G z_len), g_is_tuple_of, F_is_tuple_of.kp, b_is_tuple_of⟩⟩
  have CPa : CalP l.prog w K mg base CX0 "_is_parts" 2 Any1 (Rs1 isPartsD) := ⟨⟨_, _, _, K08.g_is_parts F_is_parts CI (PySem.W.mg_none_of X G z_isinstance) (PySem.W.mg_none_of X G z_tuple) (PySem.W.mg_none_of X G z_all), g_is_parts, F_is_parts.kp, b_is_parts⟩⟩
  have CNd : CalP l.prog w K mg base CX0 "_is_named" 4 Any1 (Rs1 isNamedD) := ⟨⟨_, _, _, K08.g_is_named F_is_named CTu CNm CPa, g_is_named, F_is_named.kp, b_is_named⟩⟩
  have CIx : CalP l.prog w K mg base CX0 "_is_index" 5 Any1 (Rs1 isIdxD) := ⟨⟨_, _, _, K08.g_is_index F_is_index CTu CPa CNd (PySem.W.mg_none_of X G z_isinstance) (PySem.W.mg_none_of X G z_tuple) (PySem.W.mg_none_of X G z_all) (PySem.W.mg_none_of X G z_sorted) (PySem.W.mg_none_of X G z_set), g_is_index, F_is_index.kp, b_is_index⟩⟩
  have CBk : CalP l.prog w K mg base CX0 "_is_block" (7 + 2 * 7) (PreL 7 2) (RsL (isBlD (isStD 7))) := K08.g_is_block F_is_statement g_is_statement b_is_statement F_is_block g_is_block b_is_block CNm CNd CIx ⟨_, g_DEEPEST⟩ (PySem.W.mg_none_of X G z_isinstance) (PySem.W.mg_none_of X G z_tuple) (PySem.W.mg_none_of X G z_str) (PySem.W.mg_none_of X G z_len) (PySem.W.mg_none_of X G z_all) 7
  have FTr := K08.g_is_tree (P := l.prog) (w := w) (base := base) F_is_tree CTu CNd 7 (by decide) CBk (PySem.W.mg_none_of X G z_isinstance) (PySem.W.mg_none_of X G z_tuple) (PySem.W.mg_none_of X G z_all)
  have CTr : CalP l.prog w K mg base CX0 "is_tree" (8 + 2 * 7) (PreTG 7) (Rs1 (isTrD 7)) := ⟨⟨_, _, _, FTr, g_is_tree, F_is_tree.kp, b_is_tree⟩⟩
  have ZP : PgC K mg C_Program := ⟨kit_Program, np_Program_tree, np_Program_sizes, np_Program_accesses, ic_Program, tc_Program, mC_Program⟩
  have mB : ∃ t, mg "_BEYOND_DIGITS" = some (.int (10 ^ 150) t) := ⟨_, by
    have e : (10 : Int) ^ 150 = 1000000000000000000000000000000000000000000000000000000000000000000000000000000000000000000000000000000000000000000000000000000000000000000000000000000 := by decide +kernel
    rw [e]
    exact g_BEYOND_DIGITS⟩
  have FEW : CalP l.prog w K mg base CX0 "has_few_digits" 1 PreFd Tru := ⟨⟨_, _, _, t_few F_has_few_digits mB (PySem.W.mg_none_of X G z_abs), g_has_few_digits, F_has_few_digits.kp, b_has_few_digits⟩⟩
  have SOC : ∀ bl, GbV bl 4 → SoC l.prog w K mg base 4 bl := fun bl h => ⟨⟨_, _, _, t_statements F_statements_of g_statements_of b_statements_of 4 bl h, g_statements_of, F_statements_of.kp, b_statements_of⟩⟩
  have FINE : ∀ ars bl nm, TrD ars bl nm → RunG l.prog w K mg base CX0 25 f_law_heard (PySem.W.fnOf "_law_heard" "_law_heard" (defArgs S_law_heard) (defBody S_law_heard) (defScope S_law_heard) .none kV_law_heard dc_law_heard pm_law_heard an_law_heard cd_law_heard ct_law_heard) ["_law_tree_here"] (spP K (fun as => as = [qS K (treeD ars bl)] ∨ as = [.d (treeD ars bl)]) fun _ r => r = .d (.str "fine")) := fun ars bl nm htr => by
    have ok := htr.pg
    have S := SOC bl ok.x.g
    have A : CalP l.prog w K mg base CX0 "accesses_of" (4 + 2) (fun as => as = [.d (.tuple (blD bl))]) (fun _ r => r = .own (((stB bl).filter isAc).map trD)) := ⟨⟨_, _, _, t_accesses F_accesses_of ok.x.g S, g_accesses_of, F_accesses_of.kp, b_accesses_of⟩⟩
    have Zs : CalP l.prog w K mg base CX0 "sizes_of" (4 + 2) (fun as => as = [.d (treeD ars bl)]) (fun _ r => r = .own ((szsT ars bl).map pdI)) := ⟨⟨_, _, _, t_sizes F_sizes_of ok.x.a ok.x.g S, g_sizes_of, F_sizes_of.kp, b_sizes_of⟩⟩
    have Dp : CalP l.prog w K mg base CX0 "_depth" (4 + 1) (fun as => as = [.d (.tuple (blD bl))]) (fun _ r => r = .d (.int (dpB bl : Nat))) := ⟨⟨_, _, _, t_depth F_depth g_depth b_depth (PySem.W.mg_none_of X G z_max) 4 bl ok.x.g, g_depth, F_depth.kp, b_depth⟩⟩
    have Ex : CalP l.prog w K mg base CX0 "excess" (4 + 3) (fun as => as = [.d (treeD ars bl)]) (fun _ r => r = .d .none) := ⟨⟨_, _, _, t_excess F_excess ok.x S Zs A Dp FEW (PySem.W.mg_none_of X G z_any) (PySem.W.mg_none_of X G z_len) ⟨_, g_MOST_PARTS⟩ ⟨_, g_MOST_ARRAYS⟩ ⟨_, g_MOST_STATEMENTS⟩ ⟨_, g_MOST_ACCESSES⟩ ⟨_, gMOST_LOOPS_trees⟩, g_excess, F_excess.kp, b_excess⟩⟩
    have Cb : CalP l.prog w K mg base CX0 "_check_block" (4 + 1) (PreCk bl (ars.map (·.1)) []) (fun _ r => r = .d .none) := ⟨⟨_, _, _, t_check_block F_check_block g_check_block b_check_block 4 bl [] ok.x.g ok.nk (by decide), g_check_block, F_check_block.kp, b_check_block⟩⟩
    have Cn : CalP l.prog w K mg base CX0 "check_names" (4 + 2) (fun as => as = [.d (treeD ars bl)]) (fun _ r => r = .d .none) := ⟨⟨_, _, _, t_check_names F_check_names ok.x.a.n ok.nd Cb, g_check_names, F_check_names.kp, b_check_names⟩⟩
    exact heardQ (run_fine F_law_heard MK_Program (ok_pinit F_Program___init__ ZP ok CTr htr.good.2 htr.good.1 (by decide) Ex Cn A (PySem.W.mg_none_of X G z_tuple)) b_Program___init__ mC_Program (PySem.W.mg_none_of X G z_repr) X_InvalidTree.m X_InvalidTree.oxc no_InvalidTree)
  have BADC : ∀ y, BadY y → CalP l.prog w K mg base CX0 "is_tree" 22 (PreQe K y) (ResQe false) := fun y hy => by
    rcases hy.1 with rfl | hg
    · exact ⟨⟨_, _, _, (K08.g_is_treeD F_is_tree CTd).mono (by decide), g_is_tree, F_is_tree.kp, b_is_tree⟩⟩
    · exact ⟨⟨_, _, _, isT_q FTr hg hy.2.2, g_is_tree, F_is_tree.kp, b_is_tree⟩⟩
  have BAD : ∀ y, BadY y → RunG l.prog w K mg base CX0 25 f_law_heard (PySem.W.fnOf "_law_heard" "_law_heard" (defArgs S_law_heard) (defBody S_law_heard) (defScope S_law_heard) .none kV_law_heard dc_law_heard pm_law_heard an_law_heard cd_law_heard ct_law_heard) ["_law_tree_here"] (spP K (fun as => as = [qS K y] ∨ as = [.d y]) fun _ r => r = .d (.str y.shown)) := fun y hy => heardQ (run_heardT F_law_heard MK_Program (ok_prefT F_Program___init__ (by decide) (BADC y hy) GI) b_Program___init__ mC_Program (PySem.W.mg_none_of X G z_repr) X_InvalidTree.m X_InvalidTree.oxc no_InvalidTree te hy.2.1)
  have OP : Cal0 l.prog w K mg base CX0 "_law_odd_parts" 1 (ResO oddP) := ⟨⟨_, _, g_odd_parts F_law_odd_parts, g_law_odd_parts, F_law_odd_parts.kp, b_law_odd_parts⟩⟩
  have OF : Cal0 l.prog w K mg base CX0 "_law_odd_forms" 2 (ResO oddF) := ⟨⟨_, _, g_odd_forms F_law_odd_forms OP, g_law_odd_forms, F_law_odd_forms.kp, b_law_odd_forms⟩⟩
  have OS : Cal0 l.prog w K mg base CX0 "_law_odd_statements" 3 (ResO oddS) := ⟨⟨_, _, g_odd_statements F_law_odd_statements OP OF, g_law_odd_statements, F_law_odd_statements.kp, b_law_odd_statements⟩⟩
  exact law_sp (run_law F_law { pool := ⟨⟨_, _, _, pool_P (ok_pool F_law_pool B2), g_law_pool, F_law_pool.kp, b_law_pool⟩⟩, take := TAKE, tree := ⟨⟨_, _, _, t_tree F_law_tree TAKE PARTS BLK (PySem.W.mg_none_of X G z_range) (PySem.W.mg_none_of X G z_tuple) (PySem.W.mg_none_of X G z_str), g_law_tree, F_law_tree.kp, b_law_tree⟩⟩, oddP := OP, oddS := OS, put := fun o bl hb hc => g_puts F_law_put g_law_put b_law_put TAKE (PySem.W.mg_none_of X G z_len) o 4 bl hb hc, heard := ⟨_, _, ⟨g_law_heard, F_law_heard.kp, b_law_heard, BAD, FINE⟩⟩, rng := PySem.W.mg_none_of X G z_range, len := PySem.W.mg_none_of X G z_len, max := PySem.W.mg_none_of X G z_max, min := PySem.W.mg_none_of X G z_min, rep := PySem.W.mg_none_of X G z_repr })


end K08

namespace K08
end K08
open PySem PySem.W PyProof.Rows
/-- the program's text as it stands: its quick form is itself -/
def PySem.W.Fast.tw13774874585603846349 : PySem.Program := PySem.Challenge.pw_farmisses_k08_values_that_are_no_trees
theorem PySem.W.Fast.te13774874585603846349 : PySem.Challenge.pw_farmisses_k08_values_that_are_no_trees = PySem.W.Fast.tw13774874585603846349 := rfl
/-- no quick form of the last heap -/
def PySem.W.Fast.tw164021845768078107 : Nat := 0
def PySem.W.Fast.tw13086939858932784512 : Nat := 0
def PySem.W.Fast.tw6620684087040531093 : Nat := 0
def PySem.W.Fast.tw13884173882555939383 : Nat := 0
def PySem.W.Fast.tw17905974661328713161 : Nat := 0
def PySem.W.Fast.tw8716171117771055655 : Nat := 0
def PySem.W.Fast.tw8453447067976208353 : Nat := 0
def PySem.W.Fast.tw9263393284255687589 : Nat := 0
def PySem.W.Fast.tw709179186850604687 : Nat := 0
set_option maxRecDepth 100000 in
set_option maxHeartbeats 0 in
theorem PySem.Challenge.cw_farmisses_k08_values_that_are_no_trees_holds : PySem.Challenge.rw_farmisses_k08_values_that_are_no_trees.Holds := by
  w_on; o_law; k_head; (case hw => w_witness2)
  k_fill
  refine VX.walk_G (l := PySem.Challenge.rw_farmisses_k08_values_that_are_no_trees) (n := 63) (k := 27) (x := "_law_script") (CX := L2.CX0) (sp := K08.spLaw) rfl (by decide) rfl ⟨rfl, by decide, by decide⟩ (fun w h Y => PySem.W.kIn_of Y) ?F (fun _ _ a ns hl hO hS => ⟨a, ns, rfl, hS, hl, hO, fun _ => rfl⟩) (fun _ _ _ _ z => z)
  case F =>
    intro w mg fa h KX G hmg
    refine' K08.all_mk KX G hmg ?aC_InvalidTree ?l_InvalidTree ?sa_InvalidTree ?kC_InvalidTree ?ga_InvalidTree ?gg_InvalidTree ?ex_InvalidTree ?ac_InvalidTree ?mo_InvalidTree ?no_InvalidTree ?i_InvalidTree ?t_InvalidTree ?l_InvalidTree___init__ ?c_InvalidTree___init__ ?k_InvalidTree___init__ ?a_is_integer ?l_is_integer ?c_is_integer ?k_is_integer ?a_LETTERS ?a_DIGITS ?a_GAPS ?a_BEYOND_DIGITS ?a_is_word ?l_is_word ?c_is_word ?k_is_word ?a_has_few_digits ?l_has_few_digits ?c_has_few_digits ?k_has_few_digits ?a_end_of_run ?l_end_of_run ?c_end_of_run ?k_end_of_run ?a_KEYWORDS ?l_KEYWORDS ?a_is_name ?l_is_name ?c_is_name ?k_is_name ?a_DEEPEST ?a_MOST_PARTS ?a_MOST_ARRAYS ?a_MOST_STATEMENTS ?a_MOST_ACCESSES ?aMOST_LOOPS_trees ?a_is_tree ?l_is_tree ?c_is_tree ?k_is_tree ?a_is_tuple_of ?l_is_tuple_of ?c_is_tuple_of ?k_is_tuple_of ?a_is_named ?l_is_named ?c_is_named ?k_is_named ?a_is_parts ?l_is_parts ?c_is_parts ?k_is_parts ?a_is_block ?l_is_block ?c_is_block ?k_is_block ?a_is_statement ?l_is_statement ?c_is_statement ?k_is_statement ?a_is_index ?l_is_index ?c_is_index ?k_is_index ?a_statements_of ?l_statements_of ?c_statements_of ?k_statements_of ?a_accesses_of ?l_accesses_of ?c_accesses_of ?k_accesses_of ?a_excess ?l_excess ?c_excess ?k_excess ?a_sizes_of ?l_sizes_of ?c_sizes_of ?k_sizes_of ?a_depth ?l_depth ?c_depth ?k_depth ?a_check_names ?l_check_names ?c_check_names ?k_check_names ?a_check_block ?l_check_block ?c_check_block ?k_check_block ?aC_Program ?pg_Program ?hd_Program ?po_Program ?sa_Program ?mk_Program ?kc_Program ?cc_Program ?cm_Program ?ic_Program ?tc_Program ?cgO ?ctO ?np_Program_tree ?np_Program_sizes ?np_Program_accesses ?a_Program___init__ ?i_Program___init__ ?l_Program___init__ ?c_Program___init__ ?k_Program___init__ ?a_law_pool ?l_law_pool ?c_law_pool ?k_law_pool ?a_law_take ?l_law_take ?c_law_take ?k_law_take ?a_law_cleared ?l_law_cleared ?c_law_cleared ?k_law_cleared ?a_law_parts ?l_law_parts ?c_law_parts ?k_law_parts ?a_law_form ?l_law_form ?c_law_form ?k_law_form ?a_law_statement ?l_law_statement ?c_law_statement ?k_law_statement ?a_law_block ?l_law_block ?c_law_block ?k_law_block ?a_law_tree ?l_law_tree ?c_law_tree ?k_law_tree ?a_law_heard ?l_law_heard ?c_law_heard ?k_law_heard ?a_law_odd_parts ?l_law_odd_parts ?c_law_odd_parts ?k_law_odd_parts ?a_law_odd_forms ?l_law_odd_forms ?c_law_odd_forms ?k_law_odd_forms ?a_law_odd_statements ?l_law_odd_statements ?c_law_odd_statements ?k_law_odd_statements ?a_law_put ?l_law_put ?c_law_put ?k_law_put ?a_law ?l_law ?c_law ?k_law ?z_len ?z_tuple ?z_max ?z_isinstance ?z_int ?z_bool ?z_abs ?z_range ?z_min ?z_all ?z_any ?z_str ?z_sorted ?z_set ?z_repr ?anO ?tkO ?nf
    (case aC_InvalidTree => k_is)
    (case l_InvalidTree => k_is)
    (case sa_InvalidTree => k_is)
    (case kC_InvalidTree => k_is)
    (case ga_InvalidTree => k_is)
    (case gg_InvalidTree => k_is)
    (case ex_InvalidTree => k_is)
    (case ac_InvalidTree => k_is)
    (case mo_InvalidTree => k_is)
    (case no_InvalidTree => k_is)
    (case i_InvalidTree => k_is)
    (case t_InvalidTree => k_is)
    (case l_InvalidTree___init__ => k_is)
    (case c_InvalidTree___init__ => k_is)
    (case k_InvalidTree___init__ => k_is)
    (case a_is_integer => k_is)
    (case l_is_integer => k_is)
    (case c_is_integer => k_is)
    (case k_is_integer => k_is)
    (case a_LETTERS => k_is)
    (case a_DIGITS => k_is)
    (case a_GAPS => k_is)
    (case a_BEYOND_DIGITS => k_is)
    (case a_is_word => k_is)
    (case l_is_word => k_is)
    (case c_is_word => k_is)
    (case k_is_word => k_is)
    (case a_has_few_digits => k_is)
    (case l_has_few_digits => k_is)
    (case c_has_few_digits => k_is)
    (case k_has_few_digits => k_is)
    (case a_end_of_run => k_is)
    (case l_end_of_run => k_is)
    (case c_end_of_run => k_is)
    (case k_end_of_run => k_is)
    (case a_KEYWORDS => k_is)
    (case l_KEYWORDS => k_is)
    (case a_is_name => k_is)
    (case l_is_name => k_is)
    (case c_is_name => k_is)
    (case k_is_name => k_is)
    (case a_DEEPEST => k_is)
    (case a_MOST_PARTS => k_is)
    (case a_MOST_ARRAYS => k_is)
    (case a_MOST_STATEMENTS => k_is)
    (case a_MOST_ACCESSES => k_is)
    (case aMOST_LOOPS_trees => k_is)
    (case a_is_tree => k_is)
    (case l_is_tree => k_is)
    (case c_is_tree => k_is)
    (case k_is_tree => k_is)
    (case a_is_tuple_of => k_is)
    (case l_is_tuple_of => k_is)
    (case c_is_tuple_of => k_is)
    (case k_is_tuple_of => k_is)
    (case a_is_named => k_is)
    (case l_is_named => k_is)
    (case c_is_named => k_is)
    (case k_is_named => k_is)
    (case a_is_parts => k_is)
    (case l_is_parts => k_is)
    (case c_is_parts => k_is)
    (case k_is_parts => k_is)
    (case a_is_block => k_is)
    (case l_is_block => k_is)
    (case c_is_block => k_is)
    (case k_is_block => k_is)
    (case a_is_statement => k_is)
    (case l_is_statement => k_is)
    (case c_is_statement => k_is)
    (case k_is_statement => k_is)
    (case a_is_index => k_is)
    (case l_is_index => k_is)
    (case c_is_index => k_is)
    (case k_is_index => k_is)
    (case a_statements_of => k_is)
    (case l_statements_of => k_is)
    (case c_statements_of => k_is)
    (case k_statements_of => k_is)
    (case a_accesses_of => k_is)
    (case l_accesses_of => k_is)
    (case c_accesses_of => k_is)
    (case k_accesses_of => k_is)
    (case a_excess => k_is)
    (case l_excess => k_is)
    (case c_excess => k_is)
    (case k_excess => k_is)
    (case a_sizes_of => k_is)
    (case l_sizes_of => k_is)
    (case c_sizes_of => k_is)
    (case k_sizes_of => k_is)
    (case a_depth => k_is)
    (case l_depth => k_is)
    (case c_depth => k_is)
    (case k_depth => k_is)
    (case a_check_names => k_is)
    (case l_check_names => k_is)
    (case c_check_names => k_is)
    (case k_check_names => k_is)
    (case a_check_block => k_is)
    (case l_check_block => k_is)
    (case c_check_block => k_is)
    (case k_check_block => k_is)
    (case aC_Program => k_is)
    (case pg_Program => k_is)
    (case hd_Program => k_is)
    (case po_Program => k_is)
    (case sa_Program => k_is)
    (case mk_Program => k_is)
    (case kc_Program => k_is)
    (case cc_Program => k_is)
    (case cm_Program => k_is)
    (case ic_Program => k_is)
    (case tc_Program => k_is)
    (case cgO => k_is)
    (case ctO => k_is)
    (case np_Program_tree => k_is)
    (case np_Program_sizes => k_is)
    (case np_Program_accesses => k_is)
    (case a_Program___init__ => k_is)
    (case i_Program___init__ => k_is)
    (case l_Program___init__ => k_is)
    (case c_Program___init__ => k_is)
    (case k_Program___init__ => k_is)
    (case a_law_pool => k_is)
    (case l_law_pool => k_is)
    (case c_law_pool => k_is)
    (case k_law_pool => k_is)
    (case a_law_take => k_is)
    (case l_law_take => k_is)
    (case c_law_take => k_is)
    (case k_law_take => k_is)
    (case a_law_cleared => k_is)
    (case l_law_cleared => k_is)
    (case c_law_cleared => k_is)
    (case k_law_cleared => k_is)
    (case a_law_parts => k_is)
    (case l_law_parts => k_is)
    (case c_law_parts => k_is)
    (case k_law_parts => k_is)
    (case a_law_form => k_is)
    (case l_law_form => k_is)
    (case c_law_form => k_is)
    (case k_law_form => k_is)
    (case a_law_statement => k_is)
    (case l_law_statement => k_is)
    (case c_law_statement => k_is)
    (case k_law_statement => k_is)
    (case a_law_block => k_is)
    (case l_law_block => k_is)
    (case c_law_block => k_is)
    (case k_law_block => k_is)
    (case a_law_tree => k_is)
    (case l_law_tree => k_is)
    (case c_law_tree => k_is)
    (case k_law_tree => k_is)
    (case a_law_heard => k_is)
    (case l_law_heard => k_is)
    (case c_law_heard => k_is)
    (case k_law_heard => k_is)
    (case a_law_odd_parts => k_is)
    (case l_law_odd_parts => k_is)
    (case c_law_odd_parts => k_is)
    (case k_law_odd_parts => k_is)
    (case a_law_odd_forms => k_is)
    (case l_law_odd_forms => k_is)
    (case c_law_odd_forms => k_is)
    (case k_law_odd_forms => k_is)
    (case a_law_odd_statements => k_is)
    (case l_law_odd_statements => k_is)
    (case c_law_odd_statements => k_is)
    (case k_law_odd_statements => k_is)
    (case a_law_put => k_is)
    (case l_law_put => k_is)
    (case c_law_put => k_is)
    (case k_law_put => k_is)
    (case a_law => k_is)
    (case l_law => k_is)
    (case c_law => k_is)
    (case k_law => k_is)
    (case z_len => k_is)
    (case z_tuple => k_is)
    (case z_max => k_is)
    (case z_isinstance => k_is)
    (case z_int => k_is)
    (case z_bool => k_is)
    (case z_abs => k_is)
    (case z_range => k_is)
    (case z_min => k_is)
    (case z_all => k_is)
    (case z_any => k_is)
    (case z_str => k_is)
    (case z_sorted => k_is)
    (case z_set => k_is)
    (case z_repr => k_is)
    (case anO => k_is)
    (case tkO => k_is)
    (case nf => decide +kernel)

