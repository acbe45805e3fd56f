import PyProof.Rows.All
import Wide.All
import OpenK.AllK
import Wide.FinOn
import HandS.ForMost
import HandS.IsInst
import HandS.Property
import HandS.Star
import HandS.Rev
import HandS.TupMul
import HandS.Wide
import HandS.Style
import HandS.Walk
import HandS.Defaults
import HandS.ForExc
import HandS.ExcInit
import HandS.ExcIs
import HandS.ExcField
import HandS.RaiseMore
import HandS.ExcValue
import KE.GoesEnum
import KE.GoesMore
import HandS.TupAny
import KE.KRevSl
import KE.KExcIs
import HandS.Steps
import HandS.Text
import PySem.Challenge.RW_farmisses_k05_sizes_in_texts
import HandS.WordsExc
import HandS.ExcOwn
import HandS.Codes
import HandS.Small
import PyProof.ReprRoads
import HandS.TryMany
import HandS.Gcd
import KE.KMathGC
import HandS.ClsMeth
import HandS.Lambda
import HandS.EndTab
import HandS.FStr
import HandS.RevRange
import HandS.Conv
import HandS.Dict
import HandS.SetTxt0
import HandS.Set
import PyProof.Rows.SetFrom
import PyProof.Rows.SortStr
import HandS.Base
import HandS.Call
import HandS.List
import HandS.Strs
import KE.KDictList
import OpenK.KMeth
import PyProof.Rows.RowBridgeK
import HandS.CallLocal
import KE.KExcInit
import KE.KNest
set_option Elab.async false
set_option linter.all false
set_option maxRecDepth 100000
set_option maxHeartbeats 4000000
/-! Rules of my own over the hand layer. -/
namespace VR
open PySem PySem.Spec PyProof.Rows L2

/-! ### an own binary operator whose right side is of the same class, or of a built-in type -/
section
open PySem.W
variable {prog : Program} {w : World} {A : Around} {E : Value → Shared → Prop} {s : Shared} {K : Frag} {x C L f y : Addr} {h₀ : Heap} {m : Str → Option Value} {ox : Obj} {od : Option Obj} {nm : String}
theorem binSame {op : Operator} {Q : Value → Shared → Prop} (X : K.In s.heap) (I : InstAt s.heap x ox C od) (hb : Looks (model prog w) s.heap (typeOf (.ref y)) (.ref C)) (hc : selfFirst K C = true)
    (hs : findIn K (.ref C) (PySem.dunder op.info.2) = some (some (.ref f))) (hf : isFn K (.ref f) = true)
    (h : wpAny (model prog w) A (call (.ref f) [.ref x, .ref y]) (PySem.W.CmpBack Q) E s) : wpAny (model prog w) A (binaryOp op (.ref x) (.ref y)) Q E s := by
  obtain ⟨cd, rest, hcd, hm⟩ := ksp_first hc
  rcases hi : op.info with ⟨sym, nm'⟩
  rw [hi] at hs
  dsimp only at hs
  have one := ksp_try X I hs hf h
  obtain ⟨hh, g, d, tt, os⟩ := s
  have L1 : Looks (model prog w) hh (typeOf (.ref x)) (.ref C) := I.type
  have L2 : Looks (model prog w) hh (typeOf (.ref y)) (.ref C) := hb
  have L3 : Looks (model prog w) hh (fillsNumberSlot (.ref C) nm') true := fills_K X hcd hm hs
  have he : (Value.ref C == Value.ref C) = true := by simp
  simp only [binaryOp, hi]
  refine wpAny_holding (wpAny_bind ?_)
  unfold binaryOp1
  refine wpAny_bind (L1.at (wpAny_bind (L2.at (wpAny_bind (L3.at ?_)))))
  simp only [he, if_true]
  ksp_lk
  refine wpAny_mono one (fun r s' hr' => ?_) fun _ _ e => e
  obtain ⟨v, rfl, hq⟩ := hr'
  ksp_lk
  exact hq
end

/-- what the class at C must say that its own operator f is asked -/
structure BinOwn (K : PySem.W.Frag) (C : Addr) (nm : String) (f : Addr) : Prop where
  sf : PySem.W.selfFirst K C = true
  hs : PySem.W.findIn K (.ref C) (PySem.dunder nm) = some (some (.ref f))
  hf : PySem.W.isFn K (.ref f) = true
  hr : PySem.W.findIn K (.ref C) (dunderR nm) = some none
  ti : ∃ fo ro, PySem.W.findIn K (.type "int") (PySem.dunder nm) = some fo ∧ PySem.W.findIn K (.type "int") (dunderR nm) = some ro
  su : PySem.W.subIn K (.type "int") (.ref C) = some false

theorem relV_back {v : V} {u : Value} (r : RelV v u) {Q : Value → Shared → Prop} {s : Shared} (q : Q u s) : PySem.W.CmpBack Q u s := by
  cases v with
  | non => cases (show u = Value.none from r); exact q
  | bl b => cases (show u = Value.bool b from r); exact q
  | int i => obtain ⟨t, e⟩ := (show ∃ t, u = Value.int i t from r); cases e; exact q
  | str i => obtain ⟨t, e⟩ := (show ∃ t, u = Value.str i t from r); cases e; exact q
  | byt i => obtain ⟨t, e⟩ := (show ∃ t, u = Value.bytes i t from r); cases e; exact q
  | flt i => obtain ⟨t, e⟩ := (show ∃ t, u = Value.float i t from r); cases e; exact q
  | ref a => cases (show u = Value.ref a from r); exact q
  | ty n => cases (show u = Value.type n from r); exact q

/-- one + other -/
def rOwn (C : Addr) (sp : Sp) (E : XK) : R2 := fun x y H Q => ∃ a dx fs, x = .ref a ∧ H a = some (.ins C dx fs) ∧ ((∃ b dy gs, y = .ref b ∧ H b = some (.ins C dy gs)) ∨ ∃ i, y = .int i) ∧ sp [x, y] H Q E
section
variable {X : Cx} {CX : CXT} {k : Nat} {C f : Addr} {fd : FuncData} {ps : List Str} {sp : Sp} {E : XK} {op : Operator}
theorem op_own (B : BinOwn X.K C op.info.2 f) (F : FnOk X.prog X.w X.K X.mg X.base CX k f fd ps sp) (hr : Room k X.A) (hb : Binds X.K fd ps []) (hx : Passes CX X E) : OpR X (binaryOp op) (rOwn C sp E) := by
  intro pins s σ H x y v u Q I rx ry h
  obtain ⟨a, dx, fs, rfl, ha, hy, q⟩ := h
  cases rx
  obtain ⟨mA, O, _⟩ := ins_get I.hok ha
  obtain ⟨od, J, _⟩ := O.look
  have call : ∀ {u : Value}, RelV y u → wpAny (model X.prog X.w) X.A (call (.ref f) [.ref a, u]) (PySem.W.CmpBack (EP X pins σ Q)) X.xe s := fun {u} ry =>
    wpAny_mono (run_fn (us := [.ref a, u]) (vs := [.ref a, y]) (dvs := []) F hr hb .nil hx I (.cons rfl (.cons ry .nil)) q) (fun r s' hq => by
      obtain ⟨z, H', I', rz, hz⟩ := hq
      exact relV_back rz ⟨z, H', I', rz, hz⟩) fun _ _ z => z
  rcases hy with ⟨b, dy, gs, rfl, hb'⟩ | ⟨i, rfl⟩
  · cases ry
    obtain ⟨mB, O', _⟩ := ins_get I.hok hb'
    obtain ⟨od', J', _⟩ := O'.look
    exact binSame I.kIn J J'.type B.sf B.hs B.hf (call rfl)
  · obtain ⟨t, rfl⟩ := (show ∃ t, u = Value.int i t from ry)
    obtain ⟨m, hF⟩ := I.fr
    obtain ⟨fo, ro, h1, h2⟩ := B.ti
    exact PySem.W.ksp_binT hF I.ok.mod.kin J rfl B.sf B.hs B.hf B.hr (.inl rfl) h1 h2 B.su (call ⟨t, rfl⟩)
/-- -one -/
def rOwnU (C : Addr) (sp : Sp) (E : XK) : V → Hp → VK → Prop := fun x H Q => ∃ a dx fs, x = .ref a ∧ H a = some (.ins C dx fs) ∧ sp [x] H Q E
theorem un_own (hs : PySem.W.findIn X.K (.ref C) "__neg__" = some (some (.ref f))) (hf : PySem.W.isFn X.K (.ref f) = true) (F : FnOk X.prog X.w X.K X.mg X.base CX k f fd ps sp) (hr : Room k X.A) (hb : Binds X.K fd ps []) (hx : Passes CX X E) :
    UnR X (unaryOp .USub) (rOwnU C sp E) := by
  intro pins s σ H x v Q I rx h
  obtain ⟨a, dx, fs, rfl, ha, q⟩ := h
  cases rx
  obtain ⟨mA, O, _⟩ := ins_get I.hok ha
  obtain ⟨od, J, _⟩ := O.look
  obtain ⟨m, hF⟩ := I.fr
  exact PySem.W.ksp_neg hF I.ok.mod.kin J hs hf (run_fn (us := [.ref a]) (vs := [.ref a]) (dvs := []) F hr hb .nil hx I (.cons rfl .nil) q)
end

/-! ### enumerate(tuple) -/
def IteT (K : PySem.W.Frag) (a : Addr) : It :=
  ⟨fun i H => ∃ (xs : List V) (x : V), SqT K H a xs ∧ xs[i]? = some x, fun i H v H' => ∃ T x, v = .ref T ∧ H T = none ∧ H' = upd H T (.tup [.int (i : Nat), x]) ∧ ∀ xs, SqT K H a xs → xs[i]? = some x, fun i H => ∃ xs : List V, SqT K H a xs ∧ xs.length = i⟩
theorem isTup_isTuple {h : Heap} {a : Addr} {its : Array Value} (x : IsTup h a its) : h.IsTuple a its := x
theorem turn_enumT {P : Program} {w : World} {K : PySem.W.Frag} {elts : List Expr} {kk : Nat} {tpos : Pos} (a e it : Addr) (hai : a ≠ it) (hae : a ≠ e) :
    Turn P w K (.Tuple elts kk tpos) (IteT K a) [e, it] e (fun i h => (∃ old, IsEnum h e it ((i : Nat) : Int) old) ∧ h.IsTupleIter it a i ∧ e ≠ it) where
  mem := by simp
  obj := fun i h st b hb => by
    obtain ⟨⟨old, he⟩, ⟨o, ho, hc, hd⟩, _⟩ := st
    have e' : b = e ∨ b = it := by simpa using hb
    rcases e' with z | z
    · rw [z]; exact ⟨_, he, fun v q => nomatch q⟩
    · rw [z]; exact ⟨o, ho, fun v q => by rw [hd] at q; cases q⟩
  keep := fun i h h' st k => let ⟨⟨old, he⟩, hi, hne⟩ := st; ⟨⟨old, k e (by simp) _ he⟩, hi.at fun o q => k it (by simp) o q, hne⟩
  item := by
    intro X hP hw hK hc i pins s σ H E I hf st hg
    subst hP hw hK
    obtain ⟨⟨old, he⟩, hit, hne⟩ := st
    obtain ⟨xs, x, hq, hx⟩ := hg
    obtain ⟨its, rv, p, hz⟩ := I.tuple hq
    obtain ⟨u, hu, ru⟩ := rv.get hx
    have hel : e < s.heap.objs.size := Heap.lt_size he
    have hil : it < s.heap.objs.size := by obtain ⟨_, q, _⟩ := hit; exact Heap.lt_size q
    have hlt : i < its.toArray.size := by
      have := (List.getElem?_eq_some_iff.mp hu).1
      simpa using this
    have D := Draws.tuple (prog := X.prog) (w := X.w) (A := X.A.in1) (show X.A.in1.handled = none from I.ok.hd hc) it a hai its.toArray
    refine wpAny_pyNext_enum_itemC (i := i) D he ⟨hit, isTup_isTuple p⟩ hlt hne (by simp [hne, Ne.symm hae]) fun y h' tk hy ho hst' hT hsz hk => ?_
    obtain ⟨hit', hit2⟩ := hst'
    have ey : y = u := by
      have q : its.toArray[i]? = some u := by simpa using hu
      have q2 : its.toArray[i]? = some y := hy
      rw [q] at q2
      exact (Option.some.inj q2).symm
    subst ey
    refine ⟨_, rfl, wpAny_letOwnedTupleGo_enum (s := { s with heap := h', toks := tk + 1 }) ho fun h'' he' sb => ?_⟩
    have hT2 : h''.get? s.heap.objs.size = some { cls := .type "tuple", data := .seq #[.int i tk, y] } := (sb.2 _ (Nat.ne_of_gt hel)).trans hT
    have new : ObjOk X.prog X.w (upd H s.heap.objs.size (.tup [.int (i : Nat), x])) h'' s.heap.objs.size (.tup [.int (i : Nat), x]) :=
      ⟨by show 2 ≤ sizeLine; decide, [.int i tk, y], .cons ⟨_, rfl⟩ (.cons ru .nil), ⟨_, hT2, rfl, _, rfl⟩⟩
    have I1 : Inv X pins σ (upd H s.heap.objs.size (.tup [.int (i : Nat), x])) { s with heap := h'', toks := tk + 1 } :=
      I.turnedNew (ch := [e, it]) (fun b ob hb q => (sb.2 b (fun z => hb (by simp [z]))).trans (hk b ob (fun z => hb (by simp [z])) (fun z => hb (by simp [z])) q)) hf (Nat.le_refl _) new
    refine ⟨.ref s.heap.objs.size, _, I1, rfl, ⟨_, x, rfl, I.hok.fresh (Nat.le_refl _), rfl, fun ys hy => by rw [I.tuple_inj hy hq]; exact hx⟩, ⟨⟨y, ?_⟩, hit'.at fun o q => (sb.2 it (Ne.symm hne)).trans q, hne⟩, fun b hb => ?_⟩
    · have e1 : ((i + 1 : Nat) : Int) = (i : Int) + 1 := by omega
      rw [e1]; exact he'
    · have hb' : b < s.heap.objs.size := by
        have e' : b = e ∨ b = it := by simpa using hb
        rcases e' with z | z
        · rw [z]; exact hel
        · rw [z]; exact hil
      rw [upd_ne (Nat.ne_of_lt hb')]
      exact (hf b hb).1
  done := by
    intro X hP hw hK hc i pins s σ H E I hf st hg
    subst hP hw hK
    obtain ⟨⟨old, he⟩, hit, hne⟩ := st
    obtain ⟨xs, hq, hx⟩ := hg
    obtain ⟨its, rv, p, hz⟩ := I.tuple hq
    obtain ⟨f0, f1, f2, f3, f4, f5⟩ := hf it (by simp)
    have hl := rv.length
    have D := Draws.tuple (prog := X.prog) (w := X.w) (A := X.A.in1) (show X.A.in1.handled = none from I.ok.hd hc) it a hai its.toArray
    have hz : its.toArray.size = i := by rw [List.size_toArray]; omega
    subst hz
    exact wpAny_pyNext_enum_endD D he ⟨hit, isTup_isTuple p⟩ fun h' eb => ⟨rfl, I.turned (t' := s.toks) (fun b o hb q => eb b o hb q) f0 f1 f3 f4 f5⟩
  self := fun A i s Q E st h => let ⟨⟨_, he⟩, _⟩ := st; wpAny_pyIter_enum he h
theorem meets_enumB1 {v : Value} {o : Obj} {H : Heap → Prop} (B : Begins v o H) :
    Meets (Builtin.«enumerate.__new__» ⟨[.type "enumerate", v], []⟩) (fun _ R s => H s.heap ∧
      R (.ok (.ret (.ref (s.heap.push o).objs.size))) { s with heap := (s.heap.push o).push { cls := .type "enumerate", data := .fields #[.none, .bool false, .ref s.heap.objs.size, rawInt 0, .none, .none] } }) :=
  .of_wp fun prog w A R s h => by
    obtain ⟨hp, g, d, tk, os⟩ := s; obtain ⟨h1, h⟩ := h
    have hsub := sub_enumerate
    have q1 : ∀ {A' : Around} {E : Value → Shared → Prop} {Q : Value → Shared → Prop}, Q (.ref hp.objs.size) ⟨hp.push o, g, d, tk, os⟩ → wpAny (model prog w) A' (pyIter v) Q E ⟨hp, g, d, tk, os⟩ :=
      fun q => B.iter prog w _ _ ⟨hp, g, d, tk, os⟩ _ h1 q
    wp_walk using q1
    refine wpAny_stack_any fun st => wpAny_pure ?_
    split
    · rename_i c _ _ _ _ _
      cases (c == Value.type "enumerate")
      · wp_walk using q1
        exact ⟨_, rfl, h⟩
      · wp_walk using q1
        exact ⟨_, rfl, h⟩
    · wp_walk using q1
      exact ⟨_, rfl, h⟩
theorem call_enumT {prog : Program} {w : World} {A : Around} {E : Value → Shared → Prop} {s : Shared} {l : Addr} {items : Array Value} {Q : Value → Shared → Prop} (hL : s.heap.IsTuple l items)
    (h : ∀ h', IsEnum h' (s.heap.objs.size + 1) s.heap.objs.size 0 .none → h'.IsTupleIter s.heap.objs.size l 0 → h'.objs.size = s.heap.objs.size + 2 →
      (∀ b o, s.heap.get? b = some o → h'.get? b = some o) → Q (.ref (s.heap.objs.size + 1)) { s with heap := h' }) :
    wpAny (model prog w) A (call (.type "enumerate") [.ref l]) Q E s := by
  refine callType_new F.called_enumerate (by decide) (F.typeCall_enumerate_1 _) (F.newCall_enumerate_1 _) (fun obj => F.args_object_init_2 obj _) F.entry_enumerate_new
    (meets_enumB1 (begins_tuple l items)) ⟨hL, ?_⟩
  have hz : (s.heap.push { cls := .type "tuple_iterator", data := .fields #[.ref l, .int 0 0] }).objs.size = s.heap.objs.size + 1 := Heap.size_push ..
  show _ ∧ _
  rw [hz]
  have he : IsEnum ((s.heap.push { cls := .type "tuple_iterator", data := .fields #[.ref l, .int 0 0] }).push
      { cls := .type "enumerate", data := .fields #[.none, .bool false, .ref s.heap.objs.size, rawInt 0, .none, .none] }) (s.heap.objs.size + 1) s.heap.objs.size 0 .none := by
    have := Heap.get?_push_size (s.heap.push { cls := .type "tuple_iterator", data := .fields #[.ref l, .int 0 0] })
      (o := { cls := .type "enumerate", data := .fields #[.none, .bool false, .ref s.heap.objs.size, rawInt 0, .none, .none] }) rfl
    rw [hz] at this; exact this
  refine ⟨⟨_, he, rfl⟩, h _ he ⟨_, Heap.get?_push_of_some _ (Heap.get?_push_size _ rfl), rfl, rfl⟩ (by rw [Heap.size_push, hz]) fun b o x => Heap.get?_push_of_some _ (Heap.get?_push_of_some _ x)⟩
def iEnumT (K : PySem.W.Frag) (ta : TA) : TI := fun σ H R => ta σ H fun vs H1 => ∃ a xs, vs = [.ref a] ∧ SqT K H1 a xs ∧ R (IteT K a) H1
theorem pi_enumT {X : Cx} {e : Expr} {ta : TA} {p pos tpos : Pos} {elts : List Expr} {kk : Nat} (hg : Gl X "enumerate") (hm : X.mg "enumerate" = none) (ha : PA X [e] ta) (hs : starEach [e] X.env = [(false, eval e X.env)] := by rfl) :
    PI X (.Tuple elts kk tpos) (.Call (.Name "enumerate" p) [e] [] pos) (iEnumT X.K ta) := by
  refine ⟨fun pins s σ H R I h => ?_⟩
  refine Call_ (ld_blt I hg hm boot_enumerate (PyProof.Rows.callWith_type1 (thn (ha.run pos pins s σ H _ I h) fun us s1 ⟨vs, H1, I1, r1, q1⟩ => ?_) hs rfl))
  obtain ⟨a, xs, ex, hq, q⟩ := q1
  subst ex
  cases r1 with
  | cons r rr =>
    cases rr
    cases r
    obtain ⟨its, rv, p', hz⟩ := I1.tuple hq
    have hal : a < s1.heap.objs.size := by obtain ⟨o, ho, _⟩ := id p'; exact Heap.lt_size ho
    refine call_enumT (isTup_isTuple p') fun h' he hit hsz hk => wpAny_pyIter_enum he ?_
    have I2 : Inv X pins σ H1 { s1 with heap := h' } := I1.kept (t' := s1.toks) hk
    refine ⟨s1.heap.objs.size + 1, [s1.heap.objs.size + 1, s1.heap.objs.size], _, _, H1, rfl, I2, turn_enumT a (s1.heap.objs.size + 1) s1.heap.objs.size (Nat.ne_of_lt hal) (Nat.ne_of_lt (Nat.lt_succ_of_lt hal)), ⟨⟨.none, he⟩, hit, Nat.succ_ne_self _⟩, fun b hb => ?_, q⟩
    have e' : b = s1.heap.objs.size + 1 ∨ b = s1.heap.objs.size := by simpa using hb
    have hle : s1.heap.objs.size ≤ b := by
      rcases e' with z | z
      · rw [z]; exact Nat.le_add_right _ _
      · rw [z]; exact Nat.le_refl _
    exact I1.fpOk hle (I1.hok.fresh hle)
theorem walk_enumT {K : PySem.W.Frag} {a : Addr} {xs : List V} : Walk (IteT K a) xs.length (fun H => SqT K H a xs) (YPair (fun i => some (.int (i : Nat))) (fun i => xs[i]?)) := by
  refine ⟨fun i _ hi q => ⟨xs, xs[i], q, by simp [hi]⟩, fun _ q => ⟨xs, q, rfl⟩, fun i H v H' _ q y => ?_⟩
  obtain ⟨T, x, h1, h2, h3, h4⟩ := y
  exact ⟨T, .int (i : Nat), x, h1, h2, h3, rfl, h4 xs q⟩
end VR

namespace VR
open PySem PySem.Spec PyProof.Rows L2
section
open PySem.W
variable {prog : Program} {w : World} {A : Around} {E : Value → Shared → Prop} {s : Shared} {K : Frag} {x C L f y : Addr} {h₀ : Heap} {m : Str → Option Value} {ox : Obj} {od : Option Obj} {nm : String} {b tb : Value}
/-- x != b, the class at C with an own __eq__ and no __ne__ -/
theorem ne_K {Q : Value → Shared → Prop} (hu : A.units + 1 < cLine) (X : K.In s.heap) (I : InstAt s.heap x ox C od) (hb : Looks (model prog w) s.heap (typeOf b) tb) (hn : notFirst K C tb = true)
    (hs : findIn K (.ref C) "__ne__" = some (some (.builtin "object.__ne__"))) (he : findIn K (.ref C) "__eq__" = some (some (.ref f))) (hf : isFn K (.ref f) = true) (hm : mroIn K C (.type "object") = some true)
    (h : wpAny (model prog w) A.in1 (call (.ref f) [.ref x, b]) (fun v s' => ∃ c, v = .bool c ∧ Q (.bool (!c)) s') E s) : wpAny (model prog w) A (richCompare .NotEq (.ref x) b) Q E s := by
  have sub : Looks (model prog w) s.heap (isInstance (.ref x) (.type "object")) true := I.type.andThen (looks_mroIn X hm)
  have one : wpAny (model prog w) A (tryCompare (.ref x) "__ne__" b) (fun r s' => ∃ v, r = some v ∧ Q v s') E s := by
    unfold tryCompare
    have inner : wpAny (model prog w) A (call (.builtin "object.__ne__") [.ref x, b]) (fun v s' => ∃ c, v = .bool (!c) ∧ Q (.bool (!c)) s') E s := by
      refine wpAny_call (codeAny_call_builtin PySem.F.slot_tuple_iterator_ne.plain PySem.F.cmpEntry_ne (check_slot PySem.F.cmpKind_ne PySem.F.cmpSplit_ne sub (PySem.F.cmpArgs_ne _ _) ?_))
      unfold Builtin.«object.__ne__»
      refine wpAny_bind (wpAny_of_eq (a := ((Value.ref x : Value), [b])) (by first | rfl | (simp only [slotArgs]; rfl)) ?_)
      dsimp only
      refine wpAny_bind (wpAny_cRoomFor hu ?_)
      refine wpAny_bind (ifBound_K X I he hf (wpAny_mono h (fun v s' hv => ?_) fun _ _ e => e))
      obtain ⟨c, rfl, hq⟩ := hv
      dsimp only
      refine wpAny_bind (wpAny_truthy_bool ?_)
      exact wpAny_pure ⟨c, rfl, hq⟩
    have two : wpAny (model prog w) A (callSpecialIfBound? (.ref x) "__ne__" [b]) (fun r s' => ∃ c, r = some (.bool (!c)) ∧ Q (.bool (!c)) s') E s := by
      simp only [callSpecialIfBound?, bindSpecialIfBound?]
      refine wpAny_holding (wpAny_bind (wpAny_bind (wpAny_bind (I.type.here ((looks_findIn X hs).here ?_)))))
      simp only [PySem.F.slot_tuple_iterator_ne.bind]
      refine wpAny_bind (wpAny_askSetting (wpAny_ite ?_))
      have fin : wpAny (model prog w) A (call (.builtin "object.__ne__") ([.ref x] ++ [b]) >>= fun v => pure (some v)) (fun r s' => ∃ c, r = some (.bool (!c)) ∧ Q (.bool (!c)) s') E s :=
        wpAny_bind (wpAny_mono inner (fun v s' ⟨c, e, q⟩ => wpAny_pure ⟨c, by rw [e], q⟩) fun _ _ h' => h')
      split
      · exact wpAny_bind (wpAny_pure (wpAny_pure fin))
      · exact wpAny_tryCatch (wpAny_bind (wpAny_pure (wpAny_pure fin)))
    refine wpAny_bind (wpAny_mono two (fun v s' hv => ?_) fun _ _ e => e)
    obtain ⟨c, rfl, hq⟩ := hv
    exact wpAny_pure ⟨_, rfl, hq⟩
  unfold richCompare
  simp only [oneThing_ref]
  refine wpAny_holding (wpAny_bind (wpAny_cRoomFor (Nat.lt_of_succ_lt hu) ?_))
  refine wpAny_bind (I.type.here (wpAny_bind (hb.here ?_)))
  split
  · rename_i q
    have e : subIn K tb (.ref C) = some false := by
      rcases Bool.or_eq_true_iff.mp hn with e | e
      · rw [beq_iff_eq.mp e] at q; simp at q
      · exact beq_iff_eq.mp e
    refine wpAny_bind ((looks_subIn X e).here ?_)
    simp only [Bool.false_eq_true, if_false]
    refine wpAny_bind (wpAny_mono one (fun r s' z => ?_) fun _ _ e => e)
    obtain ⟨v, rfl, hq⟩ := z
    exact wpAny_pure hq
  · refine wpAny_bind (wpAny_pure ?_)
    simp only [Bool.false_eq_true, if_false]
    refine wpAny_bind (wpAny_mono one (fun r s' z => ?_) fun _ _ e => e)
    obtain ⟨v, rfl, hq⟩ := z
    exact wpAny_pure hq
end

/-- what the class at C must say for type(x) and isinstance -/
structure InsKit (K : PySem.W.Frag) (C : Addr) : Prop where
  cl : Cls K C
  ha : PySem.W.findIn K (.ref C) "__class__" = some (some (.builtin "object.__class__"))
  hn : PySem.W.specialIn K (.builtin "object.__class__") "__get__" = some (some (.builtin "getset_descriptor.__get__"))
  ht : PySem.W.takesIn K (.builtin "object.__class__") = some true
  hm : PySem.W.mroIn K C (.type "object") = some true
theorem InsKit.ty {K : PySem.W.Frag} {C a dx : Addr} {H : Hp} {fs : List (Str × V)} (k : InsKit K C) (e : H a = some (.ins C dx fs)) : TyX K H (.ref a) (.ref C) := .base (.ins e k.cl k.ha k.hn k.ht k.hm)
theorem TyX.tupT {K : PySem.W.Frag} {H : Hp} {a : Addr} {xs : List V} (h : SqT K H a xs) : TyX K H (.ref a) (.type "tuple") := by
  rcases h with (h | ⟨o, h⟩) | h
  · exact .base (.tup h)
  · exact .fTuple h
  · obtain ⟨o, its, n, h1, h2, _⟩ := h
    exact .kTuple h1 h2
/-- one == other, one != other by an own __eq__ that tells a bool -/
def rOwnE (K : PySem.W.Frag) (C : Addr) (sp : Sp) (E : XK) (neg : Bool) : R2 := fun x y H Q => ∃ a dx fs t, x = .ref a ∧ H a = some (.ins C dx fs) ∧ TyX K H y t ∧ PySem.W.notFirst K C t = true ∧ sp [x, y] H (fun v H' => ∃ c, v = .bl c ∧ Q (.bl (if neg then !c else c)) H') E
section
variable {X : Cx} {CX : CXT} {k : Nat} {C f : Addr} {fd : FuncData} {ps : List Str} {sp : Sp} {E : XK}
theorem op_ownEq (he : PySem.W.findIn X.K (.ref C) "__eq__" = some (some (.ref f))) (hf : PySem.W.isFn X.K (.ref f) = true) (F : FnOk X.prog X.w X.K X.mg X.base CX k f fd ps sp) (hr : Room k X.A) (hb : Binds X.K fd ps []) (hx : Passes CX X E) :
    OpR X (compareOp .Eq) (rOwnE X.K C sp E false) := by
  intro pins s σ H x y v u Q I rx ry h
  obtain ⟨a, dx, fs, t, rfl, ha, ty, hn, q⟩ := h
  cases rx
  obtain ⟨mA, O, _⟩ := ins_get I.hok ha
  obtain ⟨od, J, _⟩ := O.look
  obtain ⟨m, hF⟩ := I.fr
  obtain ⟨P, Z, hp, _⟩ := kit_of I ry ty
  show wpAny (model X.prog X.w) X.A (richCompare .Eq (.ref a) u) (EP X pins σ Q) X.xe s
  refine PySem.W.cmp_K (op := .Eq) hr.units0 hF I.ok.mod.kin J (Z.ty _ _ I.kIn hp) hn he hf ?_
  refine wpAny_mono (run_fn (us := [.ref a, u]) (vs := [.ref a, y]) (dvs := []) F hr hb .nil hx I (.cons rfl (.cons ry .nil)) q) (fun r s' hq => ?_) fun _ _ z => z
  obtain ⟨z, H', I', rz, c, ez, hz⟩ := hq
  subst ez
  cases rz
  exact ⟨.bl c, H', I', rfl, hz⟩
theorem op_ownNe (h0 : PySem.W.findIn X.K (.ref C) "__ne__" = some (some (.builtin "object.__ne__"))) (hmo : PySem.W.mroIn X.K C (.type "object") = some true)
    (he : PySem.W.findIn X.K (.ref C) "__eq__" = some (some (.ref f))) (hf : PySem.W.isFn X.K (.ref f) = true) (F : FnOk X.prog X.w X.K X.mg X.base CX k f fd ps sp) (hr : Room (k + 1) X.A) (hb : Binds X.K fd ps []) (hx : Passes CX X E) :
    OpR X (compareOp .NotEq) (rOwnE X.K C sp E true) := by
  intro pins s σ H x y v u Q I rx ry h
  obtain ⟨a, dx, fs, t, rfl, ha, ty, hn, q⟩ := h
  cases rx
  obtain ⟨mA, O, _⟩ := ins_get I.hok ha
  obtain ⟨od, J, _⟩ := O.look
  obtain ⟨P, Z, hp, _⟩ := kit_of I ry ty
  show wpAny (model X.prog X.w) X.A (richCompare .NotEq (.ref a) u) (EP X pins σ Q) X.xe s
  refine ne_K (Nat.lt_of_le_of_lt (Nat.add_le_add_left (by decide : 1 ≤ 64) _) hr.units) I.kIn J (Z.ty _ _ I.kIn hp) hn h0 he hf hmo ?_
  have r2 : Vals [V.ref a, y] [Value.ref a, u] := .cons rfl (.cons ry .nil)
  have hl : ([Value.ref a, u] : List Value).length = ps.length := by rw [← r2.length]; exact F.len _ _ _ _ q
  refine wpAny_call (codeAny_mono (F.run X.A.in1 X.stack s H ⟨[.ref a, u], []⟩ [.ref a, u] [.ref a, y] _ E hr.in1 I.env0.in1 (by simpa using hb s [.ref a, u] I.kIn (by simpa using hl)) r2 q) fun r s' hq => ?_)
  cases r with
  | error e => exact hx pins σ H s e s' I hq
  | ok fl =>
    cases fl with
    | ret w =>
      obtain ⟨z, H', I', rz, c, ez, hz⟩ := I.after hq
      subst ez
      cases rz
      exact ⟨c, rfl, .bl (!c), H', I', rfl, hz⟩
    | next => exact False.elim hq
    | brk => exact False.elim hq
    | cont => exact False.elim hq
end
end VR

namespace VR
open PySem PySem.Spec PyProof.Rows L2
theorem filterMap_cong {α β : Type} {f g : α → Option β} : ∀ {l : List α}, (∀ a, a ∈ l → f a = g a) → l.filterMap f = l.filterMap g
  | [], _ => rfl
  | a :: l, h => by
    rw [List.filterMap_cons, List.filterMap_cons, h a (List.mem_cons_self ..), filterMap_cong (l := l) fun b hb => h b (List.mem_cons_of_mem _ hb)]
section
open HT
variable {prog : Program} {w : World} {A : Around} {E : Value → Shared → Prop} {s : Shared}
theorem sliceApplied_rev {sl : Addr} {vs : Value} {n : Nat} {Q : Int × Int × Nat → Shared → Prop} (hs : s.heap.IsSliceOf sl .none .none vs) (ps : IsPart vs (some (-1)))
    (h : Q ((n : Int) - 1, -1, n) s) : wpAny (model prog w) A (Builtin.Slice.sliceApplied (.ref sl) (pure (n : Int))) Q E s := by
  obtain ⟨os, hos, hcs, hds⟩ := id hs
  unfold Builtin.Slice.sliceApplied Builtin.Slice.sliceFields
  refine wpAny_bind (wpAny_bind (wpAny_field hos hds (x := .none) rfl (wpAny_bind (wpAny_field hos hds (x := .none) rfl (wpAny_bind (wpAny_field hos hds (x := vs) rfl (wpAny_pure ?_)))))))
  refine wpAny_bind (slicePart_ ps ?_)
  show wpAny _ _ (if ((-1 : Int) == 0) = true then _ else _) _ _ s
  rw [if_neg (by decide)]
  refine wpAny_bind (slicePart_ .none (wpAny_bind (slicePart_ .none (wpAny_bind (wpAny_pure ?_)))))
  show wpAny _ _ (match Builtin.Slice.sliceAdjust none none (-1) (n : Int) with | (lo, hi) => pure (lo, (-1 : Int), Builtin.Slice.slicePlaces lo hi (-1))) _ _ s
  have e1 : Builtin.Slice.sliceAdjust none none (-1) (n : Int) = ((n : Int) - 1, -1) := by
    unfold Builtin.Slice.sliceAdjust
    have h1 : ((-1 : Int) < 0) := by decide
    simp only [h1, if_true]
  have e2 : Builtin.Slice.slicePlaces ((n : Int) - 1) (-1) (-1) = n := by
    unfold Builtin.Slice.slicePlaces
    have h1 : ¬ ((-1 : Int) > 0) := by decide
    have h2 : (-(-1 : Int)) = 1 := by decide
    simp only [h1, if_false, h2, Int.ediv_one]
    split <;> omega
  rw [e1]
  show wpAny _ _ (pure ((n : Int) - 1, (-1 : Int), Builtin.Slice.slicePlaces ((n : Int) - 1) (-1) (-1))) _ _ s
  rw [e2]
  exact wpAny_pure h
theorem pick_rev (xs : Array Value) : ((List.range xs.size).filterMap fun (m : Nat) => xs[(((xs.size : Int) - 1) + (m : Int) * (-1)).toNat]?).toArray = xs.toList.reverse.toArray := by
  have e : ∀ m, m ∈ List.range xs.size → xs[(((xs.size : Int) - 1) + (m : Int) * (-1)).toNat]? = xs[xs.size - 1 - m]? := by
    intro m hm
    have := List.mem_range.mp hm
    have q : (((xs.size : Int) - 1) + (m : Int) * (-1)).toNat = xs.size - 1 - m := by omega
    rw [q]
  have e3 : ((List.range xs.size).filterMap fun (m : Nat) => xs[(((xs.size : Int) - 1) + (m : Int) * (-1)).toNat]?) = (List.range xs.size).filterMap fun m => xs[xs.size - 1 - m]? :=
    filterMap_cong e
  rw [e3]
  have e4 : ((List.range xs.size).filterMap fun m => xs[xs.size - 1 - m]?) = ((List.range xs.size).map fun k => xs.size - 1 - k).filterMap (xs[·]?) := by
    rw [List.filterMap_map]; rfl
  rw [e4, PySem.W.krv_range, List.filterMap_reverse, PySem.W.krv_all]
theorem getItem_tuple_rev {t sl : Addr} {items : Array Value} {vs : Value} {Q : Value → Shared → Prop} (ht : IsTup s.heap t items) (hs : s.heap.IsSliceOf sl .none .none vs) (ps : IsPart vs (some (-1)))
    (h : Q (.ref s.heap.objs.size) { s with heap := s.heap.push { cls := .type "tuple", data := .seq items.toList.reverse.toArray } })
    (hsz : items.size ≤ sizeLine) : wpAny (model prog w) A (getItem (.ref t) (.ref sl)) Q E s := by
  have htake : sizeOk (.seq items.toList.reverse.toArray) := by
    show items.toList.reverse.toArray.size ≤ sizeLine
    rw [List.size_toArray, List.length_reverse, Array.length_toList]
    exact hsz
  obtain ⟨os, hos, hcs, hds⟩ := id hs
  have hTs : s.TypeIs (.ref sl) "slice" := ⟨os, hos, hcs⟩
  unfold getItem
  try with_reducible refine wpAny_holding ?_
  first | refine wpAny_bind (wpAny_pure ?_) | skip
  refine wpAny_bind (wpAny_sequenceKey ht.typeIs (by decide) ?_)
  refine wpAny_bind (wpAny_callSpecial?_slot (name := Str.ofString "__getitem__") ht.typeIs PyProof.Rows.slot_tuple_getitem
    (wpAny_call_entry PyProof.Rows.slot_tuple_getitem ht.typeIs entry_tuple_getitem ?_ (args_tuple_getitem _ _)))
  show wpAny _ _ (Builtin.Tuple.tupleItemsOf (.ref t) >>= _) _ _ s
  refine wpAny_bind (tupleItemsOf_ ht ?_)
  refine wpAny_bind (wpAny_typeOf hTs ?_)
  rw [if_pos (by decide)]
  refine wpAny_bind (sliceApplied_rev hs ps ?_)
  have hno : ¬ ((((items.size : Int) - 1) == 0 && (-1 : Int) == 1 && items.size == items.size) = true) := by
    intro q
    rw [Bool.and_eq_true, Bool.and_eq_true] at q
    exact absurd q.1.2 (by decide)
  show wpAny _ _ (if (((items.size : Int) - 1) == 0 && (-1 : Int) == 1 && items.size == items.size) = true then _ else _) _ _ s
  rw [if_neg hno, pick_rev]
  first
    | exact wpAny_bind (m := Builtin.Tuple.tupleExact _) (wpAny_newObj_type (wpAny_pure ⟨_, rfl, wpAny_pure h⟩) htake)
    | exact wpAny_bind (m := Builtin.Tuple.tupleExact _) (wpAny_newObj_type (wpAny_bind (wpAny_pure (wpAny_pure ⟨_, rfl, wpAny_pure h⟩))) htake)
    | exact wpAny_bind (wpAny_bind (m := Builtin.Tuple.tupleExact _) (wpAny_newObj_type (wpAny_pure (wpAny_pure ⟨_, rfl, wpAny_pure h⟩)) htake))
    | exact wpAny_bind (wpAny_bind (m := Builtin.Tuple.tupleExact _) (wpAny_newObj_type (wpAny_pure ⟨_, rfl, wpAny_pure h⟩) htake))
end
/-- t[::-1], a tuple -/
def tRevT (K : PySem.W.Frag) (te : TE) : TE := fun σ H Q => te σ H fun x H1 => ∃ a xs, x = .ref a ∧ SqT K H1 a xs ∧ ∀ p, H1 p = none → Q (.ref p) (upd H1 p (.tup xs.reverse))
theorem pe_revT {X : Cx} {e : Expr} {te : TE} {k : Nat} {p1 p2 p3 pos : Pos} (he : PE X e te) : PE X (.Subscript e (.Slice none none (some (.UnaryOp .USub (.Constant (.int 1) k p1) p2)) p3) pos) (tRevT X.K te) := by
  refine ⟨fun pins s σ H Q I h => ?_⟩
  refine Subscript_ (thn (he.run pins s σ H _ I h) fun v s1 ⟨x, H1, I1, r1, q1⟩ => ?_)
  obtain ⟨a, xs, ex, hx, q⟩ := q1
  subst ex
  cases r1
  have hst : PO X (some (.UnaryOp .USub (.Constant (.int 1) k p1) p2)) (tPart (tUn (rU fun i => .int (-i)) (tC (.int 1)))) := po_some (pe_un un_neg pe_int)
  refine wpAny_Slice (thn (po_none.run pins s1 σ H1 (fun o H2 => o = none ∧ H2 = H1) I1 ⟨rfl, rfl⟩) fun vl s2 ⟨l, H2, I2, pl, el, e2⟩ => ?_)
  subst el e2
  refine thn (po_none.run pins s2 σ H2 (fun o H3 => o = none ∧ H3 = H2) I2 ⟨rfl, rfl⟩) fun vu s3 ⟨u, H3, I3, pu, eu, e3⟩ => ?_
  subst eu e3
  refine thn (hst.run pins s3 σ H3 (fun o H4 => o = some (-1) ∧ H4 = H3) I3 ⟨1, rfl, -1, rfl, rfl, rfl⟩) fun vs s4 ⟨o, H4, I4, ps, eo, e4⟩ => ?_
  subst eo e4
  have I5 : Inv X pins σ H4 { s4 with heap := s4.heap.push { cls := .type "slice", data := .fields #[vl, vu, vs] } } := I4.kept (t' := s4.toks) fun b ob q => Heap.get?_push_of_some _ q
  obtain ⟨its, r, ht, hz⟩ := I5.tuple hx
  have hlen := r.length
  cases pl
  cases pu
  show wpAny (model X.prog X.w) X.A (subscriptTail e (.Slice none none (some (.UnaryOp .USub (.Constant (.int 1) k p1) p2)) p3) (.ref a) (.ref s4.heap.objs.size)) (EP X pins σ Q) X.xe { s4 with heap := s4.heap.push { cls := .type "slice", data := .fields #[.none, .none, vs] } }
  refine tail_any (ops := [.ref a, .ref s4.heap.objs.size]) ht.typeIs (PyProof.Rows.slot_tuple_getitem.lookup) ?_ (by with_unfolding_all rfl)
  refine getItem_tuple_rev ht (Heap.IsSliceOf.new _ .none .none vs) ps ?_ (by rw [List.size_toArray]; omega)
  refine ⟨.ref _, _, I5.laid (t' := s4.toks) (o := .tup xs.reverse) (fun b ob q => Heap.get?_push_of_some _ q) (Nat.le_refl _) ?_, rfl, q _ (I5.hok.fresh (Nat.le_refl _))⟩
  exact ⟨by rw [List.length_reverse]; exact hz, _, r.reverse, IsTup.new _ _⟩
end VR

/-! Small words: lists of ints as values, heaps that grow. -/
namespace VR
open PySem PySem.Spec PyProof.Rows L2
def iz (xs : List Int) : List V := xs.map V.int
theorem iz_get {xs : List Int} {i : Nat} {x : Int} (h : xs[i]? = some x) : (iz xs)[i]? = some (V.int x) := by unfold iz; rw [List.getElem?_map, h]; rfl
theorem of_iz_get {xs : List Int} {i : Nat} {v : V} (h : (iz xs)[i]? = some v) : ∃ x, xs[i]? = some x ∧ v = V.int x := by
  unfold iz at h
  rw [List.getElem?_map] at h
  cases e : xs[i]? with
  | none => rw [e] at h; cases h
  | some x => rw [e] at h; exact ⟨x, rfl, (Option.some.inj h).symm⟩
theorem iz_len (xs : List Int) : (iz xs).length = xs.length := by simp [iz]
theorem iz_set (xs : List Int) (j : Nat) (x : Int) : (iz xs).set j (V.int x) = iz (xs.set j x) := by simp [iz, List.map_set]
theorem smallL {n : Nat} (h : n ≤ 10000) : n ≤ sizeLine := by rw [sizeLine_eq]; omega
theorem _root_.L2.Same.tup {K : PySem.W.Frag} {H H' : Hp} {a : Addr} {xs : List V} (e : Same H H') (h : SqT K H a xs) : SqT K H' a xs := by
  rcases h with (h | ⟨o, h⟩) | h
  · exact .inl (.inl (e _ _ h))
  · exact .inl (.inr ⟨o, e _ _ h⟩)
  · exact .inr h
theorem _root_.L2.Same.new {H : Hp} {p : Addr} {o : HO} (h : H p = none) : Same H (upd H p o) := fun b u e => by rw [upd_ne (ne_of_none e h)]; exact e
theorem _root_.L2.Same.upd0 {H H' : Hp} {l : Addr} {o : HO} (e : Same H H') (h : H l = none) : Same H (upd H' l o) := fun b u q => by rw [upd_ne (ne_of_none q h)]; exact e b u q
theorem _root_.L2.Same.upN {H H' : Hp} {l : Addr} {o : HO} (e : Same H H') (h : H' l = none) : Same H (upd H' l o) := e.trans (L2.Same.new h)
theorem ite_max (a b : Nat) : (if (b : Int) > (a : Int) then V.int (b : Int) else V.int (a : Int)) = V.int ((max a b : Nat) : Int) := by
  split <;> congr 1 <;> omega
theorem iz_rep (n : Nat) : (List.replicate n [V.int 0]).flatten = iz (List.replicate n 0) := by
  induction n with
  | zero => rfl
  | succ n ih => rw [List.replicate_succ, List.flatten_cons, ih, List.replicate_succ]; rfl
theorem ixN_nat {n k : Nat} (h : k < n) : ixN n (k : Int) = some k := by
  unfold ixN
  rw [if_pos (by omega), if_pos (by omega)]
  simp

/-- a store to an object that is no tuple leaves the tuples -/
theorem _root_.L2.SqT.updNT {K : PySem.W.Frag} {H : Hp} {a p : Addr} {xs : List V} {o u : HO} (h : SqT K H a xs) (hp : H p = some u) (nt : ∀ ys, u ≠ .tup ys) (nf : ∀ ob v, u ≠ .frz ob v) : SqT K (upd H p o) a xs := by
  rcases h with (h | ⟨ob, h⟩) | h
  · exact .inl (.inl (by rw [upd_ne (ne_of h hp fun e => nt _ e.symm)]; exact h))
  · exact .inl (.inr ⟨ob, by rw [upd_ne (ne_of h hp fun e => nf _ _ e.symm)]; exact h⟩)
  · exact .inr h
theorem _root_.L2.SqT.updIns {K : PySem.W.Frag} {H : Hp} {a p C dx : Addr} {xs : List V} {o : HO} {fs : List (Str × V)} (h : SqT K H a xs) (hp : H p = some (.ins C dx fs)) : SqT K (upd H p o) a xs := h.updNT hp (fun _ e => nomatch e) (fun _ _ e => nomatch e)
end VR

/-! Tuples of ints as data. -/
namespace VR
open PySem PySem.Spec PyProof.Rows L2
def dI (xs : List Int) : PyData := .tuple (xs.map PyData.int)
theorem eqvAll_ints : ∀ xs ys : List Int, PyData.eqvAll (xs.map PyData.int) (ys.map PyData.int) = decide (xs = ys)
  | [], [] => by simp [PyData.eqvAll]
  | [], _ :: _ => by simp [PyData.eqvAll]
  | _ :: _, [] => by simp [PyData.eqvAll]
  | x :: xs, y :: ys => by
    rw [List.map_cons, List.map_cons, PyData.eqvAll, eqvAll_ints xs ys, PyData.eqv]
    by_cases h : x = y <;> by_cases g : xs = ys <;> simp [h, g]
theorem eqv_ints (xs ys : List Int) : PyData.eqv (dI xs) (dI ys) = decide (xs = ys) := by
  unfold dI
  rw [PyData.eqv, eqvAll_ints]
theorem canAll_ints : ∀ xs : List Int, PyData.canLayAll0 (xs.map PyData.int) = true
  | [] => by simp [PyData.canLayAll0]
  | x :: xs => by rw [List.map_cons, PyData.canLayAll0, canAll_ints xs, PyData.canLay0]; rfl
theorem depth_ints : ∀ xs : List Int, PyData.depthAll (xs.map PyData.int) = 0
  | [] => by simp [PyData.depthAll]
  | x :: xs => by rw [List.map_cons, PyData.depthAll, depth_ints xs, PyData.depth]; rfl
theorem shaped_ints (xs : List Int) : SeqAt.shaped (dI xs) = true := by
  unfold SeqAt.shaped dI
  rw [PyData.canLay0, canAll_ints, PyData.depth, depth_ints]
  rfl
theorem dpAll_ints {K : PySem.W.Frag} {H : Hp} : ∀ xs : List Int, DpAll K H (iz xs) (xs.map PyData.int)
  | [] => .nil
  | x :: xs => .cons (.int x) (dpAll_ints xs)
theorem dp_ints {K : PySem.W.Frag} {H : Hp} {a : Addr} {xs : List Int} (h : SqT K H a (iz xs)) : Dp K H (.ref a) (dI xs) := .tup h (dpAll_ints xs)
/-- a term of types for isinstance -/
theorem kit_cls_ref {K : PySem.W.Frag} {C : Addr} {t : Value} {b : Bool} (h1 : PySem.W.isClsIn K C = true) (h2 : PySem.W.typeIn K (.ref C) = some (.type "type")) (h3 : (t == .ref C) = false) (h4 : PySem.W.subIn K t (.ref C) = some b) : PySem.W.kitOne K t (.ref C) = some b := by
  unfold PySem.W.kitOne PySem.W.kitCls
  have h1' : (PySem.W.clsIn K C).isSome = true := h1
  rw [h3, if_neg (by decide)]
  show (if ((PySem.W.clsIn K C).isSome && PySem.W.typeIn K (Value.ref C) == some (Value.type "type")) = true then PySem.W.subIn K t (Value.ref C) else none) = some b
  rw [h1', h2, if_pos (by rfl), h4]
theorem kit_self {K : PySem.W.Frag} {t : Value} (h : (t == t) = true) : PySem.W.kitOne K t t = some true := by
  unfold PySem.W.kitOne
  rw [if_pos h]
end VR

/-! Own exceptions with their own __init__, as values. -/
namespace VX
open PySem PySem.W PySem.Calls PyProof.Rows PySem.HandSPX Builtin Builtin.ObjectAttr
section
variable {prog : Program} {w : World} {M : Model} {A : Around} {E : Value → Shared → Prop} {R : Result → Shared → Prop} {h : Heap} {g : Array GenState} {d : Drawn} {t : Nat} {os : OsState}
variable {nm q : Str} {C N : Addr} {bs bm bmB : List Value} {hdct : Bool} {sn : List Str} {sub : List Value} {ab : Bool} {col : Option Bool} {dd : Option Addr} {k0 k1 k2 k3 k5 : Option Value} {B newId initId : String}
theorem newC (F : ExcBaseFacts B newId initId bmB) (hT : ∀ Y : String, bm.contains (.type Y) = bmB.contains (.type Y)) {us : List Value} {kw : List (Str × Value)} {Q : Unit → Shared → Prop}
    (hC : h.get? C = some (excClassObj nm q C N bs bm hdct sn sub ab col dd k0 k1 k2 k3 k5 newId)) (hq : Q () ⟨h, g, d, t, os⟩) : wpAny M A (checkBuiltinCall newId ⟨.ref C :: us, kw⟩) Q E ⟨h, g, d, t, os⟩ := by
  have z1 : (Value.ref C :: bm).contains (.type B) = true := by rw [List.contains_cons, hT, F.hasB, Bool.or_true]
  have z2 := F.noStar
  simp only [checkBuiltinCall, F.newKind, F.newSplit, F.newRow]
  repeat (first | refine wpAny_loadPart_at hC ?_ | (refine wpAny_isSubtype_exc hC ?_; rw [z1]) | refine wpAny_staticBase_exc hC ?_ | refine wpAny_madeBy_exc hC ?_ | simp only [bne_self_eq_false, Bool.false_eq_true, if_false] | wp_step)
  exact hq
end
section
variable {prog : Program} {w : World} {A : Around} {E : Value → Shared → Prop} {R : Result → Shared → Prop} {h : Heap} {g : Array GenState} {d : Drawn} {t : Nat} {os : OsState}
variable {nm q : Str} {C N : Addr} {bs bm bmB : List Value} {hdct : Bool} {sn : List Str} {sub : List Value} {ab : Bool} {col : Option Bool} {dd : Option Addr} {k0 k1 k2 k3 k5 : Option Value} {B newId initId : String}
theorem newR (F : ExcBaseFacts B newId initId bmB) (hT : ∀ Y : String, bm.contains (.type Y) = bmB.contains (.type Y)) {us : List Value} {kw : List (Str × Value)}
    (hC : h.get? C = some (excClassObj nm q C N bs bm hdct sn sub ab col dd k0 k1 k2 k3 k5 newId))
    (hq : R (.ok (.ret (.ref (h.objs.size + 1)))) ⟨(h.push { cls := .type "tuple", data := .seq us.toArray }).push (excO C h.objs.size), g, d, t, os⟩) (hz : us.length ≤ sizeLine) :
    codeAny (model prog w) A (.builtin newId ⟨.ref C :: us, kw⟩) R ⟨h, g, d, t, os⟩ := by
  have z0 := F.ends
  have z1 : (Value.ref C :: bm).contains (.type B) = true := by rw [List.contains_cons, hT, F.hasB, Bool.or_true]
  have z2 : (Value.ref C :: bm).contains (.type "AttributeError") = false := by rw [List.contains_cons, hT, F.noAttr]; rfl
  have z3 : (Value.ref C :: bm).contains (.type "NameError") = false := by rw [List.contains_cons, hT, F.noName]; rfl
  refine codeAny_builtinAt F.entry ?_
  unfold Builtin.«BaseException.__new__»
  refine PySem.wpAt_bind ?_
  show PySem.wpAt _ _ _ (stack >>= _) _ _ _
  refine PySem.wpAt_bind (PySem.wpAt_stack fun p below => PySem.wpAt_of_wpAny ?_)
  wp_walk
  refine PySem.wpAt_of_wpAny ?_
  rw [F.owner]
  repeat (first | with_reducible refine wpAny_madeHere_exc F.canon hC ?_ | with_reducible refine wpAny_loadPart_at hC ?_ | (with_reducible refine wpAny_isSubtype_exc hC ?_; first | rw [z1] | rw [z2] | rw [z3]) | wp_step)
  show R _ _
  rw [Heap.size_push]
  exact hq
theorem tcR (F : ExcBaseFacts B newId initId bmB) (hT : ∀ Y : String, bm.contains (.type Y) = bmB.contains (.type Y)) {us : List Value} {kw : List (Str × Value)} {fI : Addr} {Q : Fin → Shared → Prop}
    (hC : h.get? C = some (excClassObj nm q C N bs bm hdct sn sub ab col dd k0 k1 k2 k3 k5 newId))
    (hi : W.Looks (model prog w) h (typeLookup (.ref C) "__init__") (some (.ref fI))) (hb : ∀ self, W.Looks (model prog w) h (bindSpecial (.ref fI) self) (.ref fI, [self])) (hz : us.length ≤ sizeLine)
    (hq : codeAny (model prog w) A (.call (.ref fI) ⟨.ref (h.objs.size + 1) :: us, kw⟩)
      (fun r s' => match r with | .ok (.ret v) => v = .none ∧ Q (.done (.ret (.ref (h.objs.size + 1)))) s' | .ok _ => False | .error e => E e s')
      ⟨(h.push (W.kdv_tup us)).push (excO C h.objs.size), g, d, t, os⟩) :
    wpAny (model prog w) A (Builtin.«type.__call__» ⟨.ref C :: us, kw⟩) Q E ⟨h, g, d, t, os⟩ := by
  repeat (first | with_reducible refine wpAny_loadPart_at hC ?_ | with_reducible refine wpAny_madeBy_exc hC ?_ | wp_step)
  refine codeAny_call_builtin_code (Code.quiet_builtin _ F.quiet) (newC F hT hC ?_)
  refine newR F hT hC ?_ hz
  show wpAny _ _ _ _ _ _
  have k : ∀ b o, h.get? b = some o → ((h.push (W.kdv_tup us)).push (excO C h.objs.size)).get? b = some o := fun b o e => Heap.get?_push_of_some _ (Heap.get?_push_of_some _ e)
  have y1 := k _ _ hC
  have y2 : ((h.push (W.kdv_tup us)).push (excO C h.objs.size)).get? (h.objs.size + 1) = some (excO C h.objs.size) := by heap_get
  have y3 : (Value.ref C :: bm).contains (.ref C) = true := by simp
  have i1 := hi.keeps k
  have b1 := (hb (.ref (h.objs.size + 1))).keeps k
  unfold isInstance
  repeat (first | with_reducible refine wpAny_loadPart_at y2 ?_ | (with_reducible refine wpAny_isSubtype_exc y1 ?_; rw [y3]) | wp_step)
  show wpAny _ _ (typeLookup (.ref C) _) _ _ _
  refine i1.at ?_
  refine wpAny_holding (wpAny_bind (b1.at ?_))
  refine wpAny_bind (wpAny_call (codeAny_mono hq fun r s' z => ?_))
  rcases r with e | (v | _ | _ | _) <;> first | exact z | exact z.elim | skip
  obtain ⟨rfl, z⟩ := z
  first
    | exact wpAny_pure (wpAny_pure z)
    | (wp_walk; exact z)
theorem tcC {M : Model} {us : List Value} {kw : List (Str × Value)} {Q : Unit → Shared → Prop} (hC : h.get? C = some (excClassObj nm q C N bs bm hdct sn sub ab col dd k0 k1 k2 k3 k5 newId))
    (hq : Q () ⟨h, g, d, t, os⟩) : wpAny M A (checkBuiltinCall "type.__call__" ⟨.ref C :: us, kw⟩) Q E ⟨h, g, d, t, os⟩ := by
  have z1 := tc_sub
  have z2 : (⟨h, g, d, t, os⟩ : Shared).TypeIs (.ref C) "type" := ⟨_, hC, rfl⟩
  simp only [checkBuiltinCall, tc_kind, tc_split]
  repeat (any_goals (first | assumption | with_reducible refine wpAny_loadPart_at hC ?_ | with_reducible refine wpAny_onRaise ?_ | with_reducible refine wpAny_map ?_ | wp_step))
/-- C(.., k = v, ..): the exception's own __init__ is called with the same -/
theorem callX (F : ExcBaseFacts B newId initId bmB) (hT : ∀ Y : String, bm.contains (.type Y) = bmB.contains (.type Y)) {us : List Value} {kw : List (Str × Value)} {fI : Addr}
    (hC : h.get? C = some (excClassObj nm q C N bs bm hdct sn sub ab col dd k0 k1 k2 k3 k5 newId))
    (hi : W.Looks (model prog w) h (typeLookup (.ref C) "__init__") (some (.ref fI))) (hb : ∀ self, W.Looks (model prog w) h (bindSpecial (.ref fI) self) (.ref fI, [self])) (hz : us.length ≤ sizeLine)
    (hq : codeAny (model prog w) (A.under (.builtin "type.__call__" ⟨.ref C :: us, kw⟩)) (.call (.ref fI) ⟨.ref (h.objs.size + 1) :: us, kw⟩) (W.InitBack (h.objs.size + 1) R)
      ⟨(h.push (W.kdv_tup us)).push (excO C h.objs.size), g, d, t, os⟩) :
    codeAny (model prog w) A (.call (.ref C) ⟨us, kw⟩) R ⟨h, g, d, t, os⟩ := by
  have f1 := tc_lookup
  have f2 := tc_bind (.ref C)
  have z2 : (⟨h, g, d, t, os⟩ : Shared).TypeIs (.ref C) "type" := ⟨_, hC, rfl⟩
  refine codeAny_of_tree ?_
  show wpAny _ _ (callAny (.ref C) _) _ _ _
  repeat (any_goals (first | assumption | with_reducible refine wpAny_loadPart_at hC ?_ | wp_step))
  refine ⟨rfl, ?_⟩
  refine codeAny_call_builtin_at (Code.quiet_builtin _ (by decide +kernel)) entry_typeCall (tcC hC (tcR F hT hC hi hb hz ?_))
  refine codeAny_mono hq fun r s' z => ?_
  rcases r with e | (v | _ | _ | _) <;> exact z
end
end VX

namespace VX
open PySem PySem.W PySem.Calls PyProof.Rows PySem.HandSPX Builtin Builtin.ObjectAttr
section
variable {prog : Program} {w : World} {A : Around} {R : Result → Shared → Prop} {hp : Heap} {g : Array GenState} {d : Drawn} {t : Nat} {os : OsState}
/-- self.x = v on an exception without a dict, whatever its built-in base -/
theorem osaX {K : W.Frag} {name : Str} {tk : Tok} {v : Value} {x C : Addr} {fv : Array Value} {cd : ClassData}
    (X : K.In hp) (hx : hp.get? x = some { cls := .ref C, data := .fields fv }) (hcd : W.clsIn K C = some cd) (ne : cd.mro.isEmpty = false) (hob : cd.mro.contains (.type "object") = true)
    (hr : ∀ self, refuseLoop self "__setattr__" cd.mro = pure ()) (hh : cd.hasDict = true) (ha : W.findIn K (.ref C) name = some none)
    (hq : ∀ h' tk' dx, (∀ b o, b ≠ x → hp.get? b = some o → h'.get? b = some o) → hp.objs.size ≤ dx → dx ≠ x → h'.get? x = some { cls := .ref C, dict := some dx, data := .fields fv } →
      h'.Ns1 dx (fun y => if y = name then some v else none) → R (.ok (.ret .none)) ⟨h', g, d, tk', os⟩) :
    codeAny (model prog w) A (.call (.builtin "object.__setattr__") ⟨[.ref x, .str name tk, v], []⟩) R ⟨hp, g, d, t, os⟩ := by
  have I : W.InstAt hp x { cls := .ref C, data := .fields fv } C none := ⟨hx, rfl, rfl, trivial⟩
  have F := PySem.F.store_object
  have dif : hp.objs.size ≠ x := (Nat.ne_of_lt (Heap.lt_size hx)).symm
  have isob : W.Looks (model prog w) hp (isInstance (.ref x) (.type "object")) true := I.type.andThen (W.looks_mroIn X (by unfold W.mroIn; rw [hcd, Option.bind_some, if_neg (by rw [ne]; decide), hob]))
  refine codeAny_call_builtin F.slot.plain F.entry (@W.check_slot (model prog w) _ _ ⟨hp, g, d, t, os⟩ "object.__setattr__" "object" "__setattr__" (.ref x) [.str name tk, v] [] _ F.kind F.split isob (F.args (.ref x) (.str name tk) v) ?_)
  have lm : W.Looks (model prog w) hp (mroOf (.ref C)) cd.mro := (W.looks_clsIn X hcd).andThen .now
  have lt : W.Looks (model prog w) hp (storeTaker? none) none := .now
  have lc : W.Looks (model prog w) hp (classData C) cd := W.looks_clsIn X hcd
  rw [W.osa_eq, refuse_eq]
  refine wpAny_bind (wpAny_bind (I.type.at (wpAny_bind (lm.at ?_))))
  rw [hr]
  refine wpAny_pure (wpAny_bind (I.type.at (wpAny_bind ((W.looks_findIn X ha).at (wpAny_bind (lt.at ?_))))))
  show wpAny _ _ (storeInOwnDict (.ref x) (.ref C) (.str name tk) name v false) _ _ _
  obtain ⟨nm, bs, mro, ns, qn, hd, sn, sb, ab, col, del⟩ := cd
  dsimp only at hh
  subst hh
  unfold storeInOwnDict ownDictForStores
  repeat (first | with_reducible refine store_in_new ?_ ?_ | with_reducible refine wpAny_loadPart_at hx ?_ | with_reducible refine lc.at ?_ | wp_step)
  · exact ⟨_, #[], _, (Heap.get?_update_ne _ _ _ _ dif).trans (Heap.get?_push_at rfl rfl), rfl, fun e he => absurd he (by simp), fun _ => rfl⟩
  · intro h' tk' hn' hs
    have x1 : (hp.push { cls := .type "dict", data := .dict #[] }).get? x = some { cls := .ref C, data := .fields fv } := Heap.get?_push_of_some _ hx
    refine hq h' tk' hp.objs.size (fun b o hb ho => ?_) (Nat.le_refl _) dif ?_ hn'
    · exact (hs.2 b (Nat.ne_of_lt (Heap.lt_size ho))).trans ((Heap.get?_update_ne _ _ _ _ hb).trans (Heap.get?_push_of_some _ ho))
    · exact (hs.2 x dif.symm).trans (Heap.get?_update_self _ x1 rfl)
end
end VX
namespace VX
open PySem PySem.Spec PyProof.Rows L2 VR

/-- an own exception class with an own __init__, no matter which built-in class it hangs on -/
structure OxC (K : PySem.W.Frag) (C : Addr) : Prop where
  cls : ∃ nm q N bs bm sn sub ab col dd k0 k1 k2 k3 k5 B newId initId bmB, ExcBaseFacts B newId initId bmB ∧ K.lookup C = some (excClassObj nm q C N bs bm true sn sub ab col dd k0 k1 k2 k3 k5 newId) ∧
    (∀ Y : String, bm.contains (.type Y) = bmB.contains (.type Y)) ∧ (∀ self, refuseLoop self "__setattr__" (.ref C :: bm) = pure ()) ∧ bm.contains (.type "object") = true
  sa : PySem.W.findIn K (.ref C) "__setattr__" = some (some (.builtin "object.__setattr__"))
  kC : PySem.W.keepIn K (.ref C) = true
  ga : PySem.W.findIn K (.ref C) "__getattribute__" = some (some (.builtin "BaseException.__getattribute__"))
  gg : PySem.W.findIn K (.ref C) "__getattr__" = some none
  ex : PySem.W.subIn K (.ref C) (.type "BaseException") = some true
  ac : PySem.W.findIn K (.ref C) "__class__" = some (some (.builtin "object.__class__"))
  an : PySem.W.specialIn K (.builtin "object.__class__") "__get__" = some (some (.builtin "getset_descriptor.__get__"))
  tk : PySem.W.takesIn K (.builtin "object.__class__") = some true
  mo : PySem.W.mroIn K C (.type "object") = some true
theorem OxC.cin {K : PySem.W.Frag} {C : Addr} (T : OxC K C) : (PySem.W.clsIn K C).isSome = true := by
  obtain ⟨nm, q, N, bs, bm, sn, sub, ab, col, dd, k0, k1, k2, k3, k5, B, ni, ii, bmB, _, hC, _⟩ := T.cls
  unfold PySem.W.clsIn; rw [hC]; rfl
theorem OxC.hd {K : PySem.W.Frag} {C : Addr} (T : OxC K C) : PySem.W.hasDictIn K C = true := by
  obtain ⟨nm, q, N, bs, bm, sn, sub, ab, col, dd, k0, k1, k2, k3, k5, B, ni, ii, bmB, _, hC, _⟩ := T.cls
  unfold PySem.W.hasDictIn PySem.W.clsIn; rw [hC]; rfl
/-- an exception of the class at C, its one field f holding v -/
def ExAt (H : Hp) (x : V) (C : Addr) (f : Str) (v : V) : Prop := ∃ a dx : Addr, x = .ref a ∧ H a = some (exo a C (some dx)) ∧ H dx = some (exd dx [(f, v)])
theorem ExAt.same {H H' : Hp} {x v : V} {C : Addr} {f : Str} (h : ExAt H x C f v) (s : Same H H') : ExAt H' x C f v := by
  obtain ⟨a, dx, e, h1, h2⟩ := h
  exact ⟨a, dx, e, s _ _ h1, s _ _ h2⟩
/-- self.f = e in such an __init__ -/
def tOx (K : PySem.W.Frag) (f : Str) (to te : TE) : TS := fun D σ H => te σ H fun y H1 => to σ H1 fun x H2 => ∃ a C : Addr, x = .ref a ∧ OxC K C ∧ PySem.W.findIn K (.ref C) f = some none ∧
  H2 a = some (exo a C none) ∧ ∀ dx, H2 dx = none → dx ≠ a → D.nx σ (upd (upd H2 dx (exd dx [(f, y)])) a (exo a C (some dx)))
section
variable {X : Cx} {pins : List (Addr × Obj)} {σ : L2.St} {H : Hp} {s : Shared} {a C dx : Addr} {f : Str} {y : V} {u : Value} {E : Value → Shared → Prop} {A : Around}
theorem putX {Q : Unit → Shared → Prop} (T : OxC X.K C) (I : Inv X pins σ H s) (e : H a = some (exo a C none)) (hno : PySem.W.findIn X.K (.ref C) f = some none) (ry : RelV y u)
    (h : ∀ dx s', H dx = none → dx ≠ a → Inv X pins σ (upd (upd H dx (exd dx [(f, y)])) a (exo a C (some dx))) s' → Q () s') : wpAny (model X.prog X.w) A (setAttr (.ref a) f u) Q E s := by
  obtain ⟨nm, q, N, bs, bm, sn, sub, ab, col, dd, k0, k1, k2, k3, k5, B, ni, ii, bmB, _, hC, _, hr, hob⟩ := T.cls
  have hcl : PySem.W.clsIn X.K C = some { name := nm, bases := bs, mro := .ref C :: bm, ns := N, qualname := q, hasDict := true, slotNames := sn, subclasses := sub, abstract := ab, collection := col, hasDel := false } := by unfold PySem.W.clsIn; rw [hC] <;> rfl
  obtain ⟨t1, ho⟩ := exo_at I.hok e
  obtain ⟨hp, g, d, t, os⟩ := s
  refine PySem.W.set_plain I.kIn (ox := { cls := .ref C, dict := none, data := .fields #[.ref t1, .none, .none, .none, .bool false, .none] }) (od := none) ⟨ho, rfl, rfl, trivial⟩ T.sa ?_
  refine osaX I.kIn ho hcl rfl (by show (Value.ref C :: bm).contains (.type "object") = true; rw [List.contains_cons, hob, Bool.or_true]) hr rfl hno (fun h' tk' dx k dn dne hx hn => ?_)
  have gone : H dx = none := I.hok.fresh dn
  have low : ∀ {b : Addr} {o : Obj}, hp.get? b = some o → b ≠ dx := fun {b o} q => Nat.ne_of_lt (Nat.lt_of_lt_of_le (Heap.lt_size q) dn)
  have apart : ∀ {b : Addr}, H b = none → b ≠ a := fun {b} n z => by
    rw [z, e] at n
    cases n
  have U : Un X.fs [] H (upd (upd H dx (exd dx [(f, y)])) a (exo a C (some dx))) hp h' := {
    keep := fun b o q n _ _ => k b o (apart n) q
    slot := fun b o q n _ _ => ⟨o.slots, k b o (apart n) q⟩
    free := fun b o q n _ => by rw [upd_ne (apart n), upd_ne (low q)]; exact n
    there := fun b o q _ => by
      by_cases hb : b = a
      · exact ⟨_, by rw [hb]; exact hx⟩
      · exact ⟨o, k b o hb q⟩
    tups := fun b xs q => by rw [upd_ne (at_ne e q exo_tup), upd_ne (ne_of_none q gone)]; exact q
    frzs := fun b o v q => by rw [upd_ne (at_ne e q exo_frz), upd_ne (ne_of_none q gone)]; exact q
    tbls := fun b ps q => ⟨#[], by rw [upd_ne (at_ne e q exo_tbl), upd_ne (ne_of_none q gone), q]; simp⟩ }
  refine h dx _ gone dne (I.un (t' := tk') U fun b o q => ?_)
  by_cases hb : b = a
  · subst hb
    rw [upd_same] at q
    cases q
    exact exo_ok hx
  rw [upd_ne hb] at q
  by_cases hd : b = dx
  · subst hd
    rw [upd_same] at q
    cases q
    exact exd_ok hn (relO_put (fs := []) ry fun g => True.intro)
  rw [upd_ne hd] at q
  refine (I.hok b o q).stay (fun c v hc z => k c v ?_ z) (fun c hc => ?_) (fun c xs hc => ?_)
  · rcases hc with hc | hc
    · rw [hc]
      exact hb
    · exact at_ne e hc exo_own
  · rw [upd_ne (at_ne e hc exo_own), upd_ne (ne_of_none hc gone)]; exact hc
  · rw [upd_ne (at_ne e hc exo_tup), upd_ne (ne_of_none hc gone)]; exact hc
end
theorem ps_ox {X : Cx} {o e : Expr} {to te : TE} {f : Str} {p' pos : Pos} (ho : PE X o to) (he : PE X e te) (hs : swapsWith e (some (.Attribute o f p')) pos.line X.env = pure false := by rfl) : PS X (.Assign [.Attribute o f p'] e pos) (tOx X.K f to te) := by
  refine ⟨fun pins s σ H D I h => ?_⟩
  refine plainObj_wpAny_Assign_Attribute (thn (he.run pins s σ H _ I h) fun v s1 ⟨y, H1, I1, r1, q1⟩ => thn (ho.run pins s1 σ H1 _ I1 q1) fun u s2 ⟨x, H2, I2, r2, a, C, ex, T, hno, ea, q⟩ => ?_) hs
  subst ex
  obtain rfl : u = Value.ref a := r2
  exact putX T I2 ea hno r1 fun dx s' n ne J => ⟨σ, _, J, q dx n ne⟩
/-- what __init__(self, v) promises -/
def spOx (K : PySem.W.Frag) (C : Addr) (f : Str) : Sp := fun vs H Q E => ∃ (a : Addr) (v : V), vs = [.ref a, v] ∧ H a = some (exo a C none) ∧ ∀ dx, H dx = none → dx ≠ a → Q .non (upd (upd H dx (exd dx [(f, v)])) a (exo a C (some dx)))
section
variable {X : Cx} {CX : CXT} {k : Nat} {fI C : Addr} {fd : FuncData} {p1 p2 : Str} {f x : Str} {e : Expr} {te : TE} {p pos kpos : Pos}
/-- the class, its __init__ and what that keeps -/
structure OxI (X : Cx) (CX : CXT) (C fI : Addr) (fd : FuncData) (k : Nat) (f : Str) : Prop where
  T : OxC X.K C
  no : PySem.W.findIn X.K (.ref C) f = some none
  iC : PySem.W.findIn X.K (.ref C) "__init__" = some (some (.ref fI))
  tI : PySem.W.typeIn X.K (.ref fI) = some (.type "function")
  F : FnOk X.prog X.w X.K X.mg X.base CX k fI fd [("self" : Str), f] (spOx X.K C f)
theorem runX {pins : List (Addr × Obj)} {σ : L2.St} {H : Hp} {s : Shared} {Q : VK} {us : List Value} {kw : List (Str × Value)} {v : V} {u : Value} (O : OxI X CX C fI fd k f) (hr : Room (k + 1) X.A) (hx : Passes CX X (fun _ _ _ => False))
    (I : Inv X pins σ H s) (hl : us.length ≤ sizeLine) (hb : ∀ (s : Shared) (a : Addr), X.K.In s.heap → BindsTo s fd ⟨.ref a :: us, kw⟩ (([("self" : Str), f]).zip [.ref a, u])) (ru : RelV v u)
    (h : ∀ x H2, Same H H2 → ExAt H2 x C f v → Q x H2) : wpAny (model X.prog X.w) X.A (call (.ref C) us kw) (EP X pins σ Q) X.xe s := by
  obtain ⟨nm, q, N, bs, bm, sn, sub, ab, col, dd, k0, k1, k2, k3, k5, B, ni, ii, bmB, FB, hC, hT, _⟩ := O.T.cls
  obtain ⟨hp, g, dr, tk, os⟩ := s
  have hsz : hp.objs.size ≤ hp.objs.size + 1 := Nat.le_succ _
  have hn : H (hp.objs.size + 1) = none := I.hok.fresh hsz
  have kk : ∀ b o, hp.get? b = some o → ((hp.push (PySem.W.kdv_tup us)).push (PySem.HandSPX.excO C hp.objs.size)).get? b = some o := fun b o e => Heap.get?_push_of_some _ (Heap.get?_push_of_some _ e)
  have hget : ((hp.push (PySem.W.kdv_tup us)).push (PySem.HandSPX.excO C hp.objs.size)).get? (hp.objs.size + 1) = some (PySem.HandSPX.excO C hp.objs.size) := by heap_get
  have I2 : Inv X pins σ (upd H (hp.objs.size + 1) (exo (hp.objs.size + 1) C none)) ⟨(hp.push (PySem.W.kdv_tup us)).push (PySem.HandSPX.excO C hp.objs.size), g, dr, tk, os⟩ :=
    I.laid (t' := tk) (a := hp.objs.size + 1) (o := exo (hp.objs.size + 1) C none) (h' := (hp.push (PySem.W.kdv_tup us)).push (PySem.HandSPX.excO C hp.objs.size)) kk hsz (exo_ok hget)
  have sp : spOx X.K C f [.ref (hp.objs.size + 1), v] (upd H (hp.objs.size + 1) (exo (hp.objs.size + 1) C none)) (fun w H2 => w = .non ∧ Q (.ref (hp.objs.size + 1)) H2) (fun _ _ _ => False) := by
    refine ⟨_, v, rfl, upd_same, fun dx h1 h2 => ⟨rfl, h _ _ ?_ ⟨_, dx, rfl, upd_same, ?_⟩⟩⟩
    · have hd : H dx = none := by rw [upd_ne h2] at h1; exact h1
      intro b o eb
      have b1 : b ≠ hp.objs.size + 1 := ne_of_none eb hn
      have b2 : b ≠ dx := ne_of_none eb hd
      rw [upd_ne b1, upd_ne b2, upd_ne b1]
      exact eb
    · rw [upd_ne h2, upd_same]
  have r2 : Vals [V.ref (hp.objs.size + 1), v] [Value.ref (hp.objs.size + 1), u] := .cons rfl (.cons ru .nil)
  refine wpAny_call (callX FB hT (I.kIn _ _ hC) (PySem.W.looks_findIn I.kIn O.iC) (fun self => PySem.W.bind_fn I.kIn self O.tI) hl
    (codeAny_mono (O.F.run _ X.stack _ _ ⟨Value.ref (hp.objs.size + 1) :: us, kw⟩ [Value.ref (hp.objs.size + 1), u] _ _ (fun _ _ _ => False) (hr.make C us kw) (I2.env0.make C us kw) (hb _ _ I2.kIn) r2 sp) fun r s' hq' => ?_))
  cases r with
  | error er => exact hx pins σ _ _ er s' I2 hq'
  | ok fl =>
    cases fl with
    | ret u =>
      obtain ⟨w, H', I3, rv, ev, q3⟩ := I2.after hq'
      subst ev
      exact ⟨rv, ⟨V.ref (hp.objs.size + 1), H', I3, rfl, q3⟩⟩
    | next => exact False.elim hq'
    | brk => exact False.elim hq'
    | cont => exact False.elim hq'
/-- C(e) -/
def tOxV (C : Addr) (f : Str) (te : TE) : TE := fun σ H Q => te σ H fun v H1 => ∀ x H2, Same H1 H2 → ExAt H2 x C f v → Q x H2
theorem pe_oxP (O : OxI X CX C fI fd k f) (hr : Room (k + 1) X.A) (hx : Passes CX X (fun _ _ _ => False)) (hb : ∀ (s : Shared) (a : Addr) (u : Value), X.K.In s.heap → BindsTo s fd ⟨[.ref a, u], []⟩ (([("self" : Str), f]).zip [.ref a, u]))
    (hg : Gl X x) (hm : X.mg x = some (.ref C)) (he : PE X e te) (hdb : (x == ("__debug__" : Str)) = false := by decide) (hs : starEach [e] X.env = (false, eval e X.env) :: starEach [] X.env := by rfl) :
    PE X (.Call (.Name x p) [e] [] pos) (tOxV C f te) := by
  refine ⟨fun pins s σ H Q I h => ?_⟩
  refine wpAny_Call_Name_kw (ld_glob I hg hm ?_ hdb)
  refine PySem.W.callWith_K (h₀ := X.base) I.ok.mod.kin O.T.kC ?_ hs (by rfl)
  rw [hs]
  show wpAny _ _ (spliced ((false, eval e X.env) :: backTo pos (starEach [] X.env))) _ _ s
  refine Calls.spliced_cons (thn (he.run pins s σ H _ I h) fun u s1 ⟨v, H1, I1, r1, q1⟩ => ?_)
  refine Calls.spliced_nil ⟨I1.kIn, ?_⟩
  exact runX (us := [u]) (kw := []) O hr hx I1 (by show 1 ≤ sizeLine; rw [sizeLine_eq]; omega) (fun s a K => hb s a u K) r1 q1
/-- C(f=e) -/
theorem pe_oxK (O : OxI X CX C fI fd k f) (hr : Room (k + 1) X.A) (hx : Passes CX X (fun _ _ _ => False)) (hb : ∀ (s : Shared) (a : Addr) (u : Value), X.K.In s.heap → BindsTo s fd ⟨[.ref a], [(f, u)]⟩ (([("self" : Str), f]).zip [.ref a, u]))
    (hg : Gl X x) (hm : X.mg x = some (.ref C)) (he : PE X e te) (hdb : (x == ("__debug__" : Str)) = false := by decide) :
    PE X (.Call (.Name x p) [] [⟨some f, e, kpos⟩] pos) (tOxV C f te) := by
  refine ⟨fun pins s σ H Q I h => ?_⟩
  refine wpAny_Call_Name_kw (ld_glob I hg hm ?_ hdb)
  refine PySem.W.callWith_KW0 (h₀ := X.base) I.ok.mod.kin O.T.kC (by rfl) ?_ (by rfl)
  refine thn ((pk_cons (nm := some f) (kpos := kpos) he pk_nil).run pos pins s σ H (fun zs H2 => match zs with | [v] => ∀ x H3, Same H2 H3 → ExAt H3 x C f v → Q x H3 | _ => False) I h) fun ws s2 ⟨zs, H2, I2, rz, q2⟩ => ⟨I2.kIn, ?_⟩
  match zs, ws, rz, q2 with
  | [v], _, .cons r1 .nil, q2 => exact runX (us := []) (kw := [(f, _)]) O hr hx I2 (Nat.zero_le _) (fun s a K => hb s a _ K) r1 q2
end
end VX

namespace VX
open PySem PySem.Spec PyProof.Rows L2 VR
/-! ### fields, isinstance -/
def tOxF (K : PySem.W.Frag) (f : Str) (te : TE) : TE := fun σ H Q => te σ H fun x H1 => ∃ (C : Addr) (v : V), ExAt H1 x C f v ∧ OxC K C ∧ PySem.W.findIn K (.ref C) f = some none ∧ Q v H1
theorem pe_oxf {X : Cx} {e : Expr} {te : TE} {pos : Pos} {n : Str} (he : PE X e te) (hb : attributeBase e n X.env (eval e X.env) = eval e X.env := by rfl) : PE X (.Attribute e n pos) (tOxF X.K n te) := by
  refine ⟨fun pins s σ H Q I h => ?_⟩
  refine attr_of hb (thn (he.run pins s σ H _ I h) fun u s1 ⟨x, H1, I1, rx, C, v, hx, T, hno, q⟩ => ?_)
  obtain ⟨a, dx, rfl, ea, ed⟩ := hx
  obtain rfl : u = Value.ref a := rx
  obtain ⟨t1, ho⟩ := exo_at I1.hok ea
  obtain ⟨mA, hns, hr⟩ := exd_at I1.hok ed
  obtain ⟨od, hod, hl⟩ := lookIn_ns hns
  obtain ⟨u, hu, ru⟩ := RelO.some_of (v := v) (o := mA n) (by have := hr n; simpa [List.lookup] using this)
  have J : PySem.W.InstAt s1.heap a _ C (some od) := ⟨ho, rfl, rfl, hod⟩
  exact HandSPX.exc_get I1.kIn J T.ga T.gg T.ex (PySem.W.findObj_own T.hd hno rfl (by rw [hl, hu])) (handed_of ru) ⟨v, H1, I1.tok _, ru, q⟩
/-- isinstance(e, c), e such an exception -/
def rIsX (K : PySem.W.Frag) : List V → Hp → VK → Prop := fun xs H Q => ∃ (x c : V) (cv : Value) (C : Addr) (f : Str) (v : V) (b : Bool), xs = [x, c] ∧ ClsV c cv ∧ ExAt H x C f v ∧ OxC K C ∧ PySem.W.kitOne K (.ref C) cv = some b ∧ Q (.bl b) H
theorem call_isX {X : Cx} : CallR X (.builtin "isinstance") (rIsX X.K) := by
  intro pins s σ H xs us Q I r h
  obtain ⟨x, c, cv, C, f, v, b, rfl, hc, hx, T, e, q⟩ := h
  obtain ⟨a, dx, rfl, ea, ed⟩ := hx
  obtain ⟨u1, u2, rfl, r1, r2⟩ := vals2 r
  have e2 := hc.eq r2
  subst e2
  obtain rfl : u1 = Value.ref a := r1
  obtain ⟨t1, ho⟩ := exo_at I.hok ea
  obtain ⟨mA, hns, hr⟩ := exd_at I.hok ed
  obtain ⟨od, hod, hl⟩ := lookIn_ns hns
  have J : PySem.W.InstAt s.heap a _ C (some od) := ⟨ho, rfl, rfl, hod⟩
  exact PySem.W.kia_one (PySem.W.kitx_exc T.cin T.ga T.gg T.ex T.ac T.an T.tk T.mo) I.kIn J e (fun z => nomatch z) fun tk => ⟨.bl b, H, I.tok tk, rfl, q⟩
/-! ### repr of a list -/
/-- the items' data: no dict among them, or all the one empty dict -/
def Rpd (K : PySem.W.Frag) (H : Hp) (vs : List V) (ds : List PyData) : Prop :=
  (DpAll K H vs ds ∧ PyData.hasDictAll ds = false) ∨ ∃ (b : Addr) (n : Nat), H b = some (.dT []) ∧ vs = List.replicate n (.ref b) ∧ ds = List.replicate n (.dict [])
theorem reads_dicts {h : Heap} {b : Addr} {o : Obj} {ep : Nat} (e : h.get? b = some o) (c : o.cls = .type "dict") (d : o.data = .dict #[] ep) (nb : b ≠ sysModules) : ∀ (n : Nat) (us : List Value), Vals (List.replicate n (V.ref b)) us →
    ∃ as, ReadsAll h us (List.replicate n (.dict [])) as ∧ sysModules ∉ as
  | 0, _, r => by
    cases r
    exact ⟨[], .nil, fun z => nomatch z⟩
  | n + 1, _, r => by
    rw [List.replicate_succ] at r
    cases r with
    | cons r1 r2 =>
      obtain ⟨as, h1, h2⟩ := reads_dicts e c d nb n _ r2
      obtain rfl := (show _ = Value.ref b from r1)
      refine ⟨([b] ++ []) ++ as, ?_, ?_⟩
      · rw [List.replicate_succ]
        exact .cons (.dict (kvs := []) e c d .nil .nil) h1
      · intro z
        rcases List.mem_append.mp z with z | z
        · simp at z
          exact nb z.symm
        · exact h2 z
theorem Rpd.reads {X : Cx} {pins : List (Addr × Obj)} {σ : L2.St} {H : Hp} {s : Shared} {vs : List V} {ds : List PyData} {us : List Value} (I : L2.Inv X pins σ H s) (h : Rpd X.K H vs ds) (r : Vals vs us) :
    ∃ as, ReadsAll s.heap us ds as ∧ (PyData.hasDictAll ds = true → sysModules ∉ as) := by
  rcases h with ⟨h1, h2⟩ | ⟨b, n, hb, rfl, rfl⟩
  · obtain ⟨as, q⟩ := Dp.readsAll I ds vs us h1 r
    exact ⟨as, q, fun z => by rw [h2] at z; cases z⟩
  · obtain ⟨_, nb, xs, pr, o, es, ep, e1, e2, e3, e4, _⟩ := (show ObjOk X.prog X.w H s.heap b (.dT []) from I.hok b _ hb)
    cases pr
    have es0 : es = #[] := by
      have : es.toList = [] := by rw [e4]; rfl
      exact Array.toList_eq_nil_iff.mp this
    subst es0
    obtain ⟨as, q, z⟩ := reads_dicts e1 e2.1 e3 (beq_eq_false_iff_ne.mp nb) n us r
    exact ⟨as, q, fun _ => z⟩
def rReprL (K : PySem.W.Frag) : List V → Hp → VK → Prop := fun xs H Q => ∃ (a : Addr) (v : V) (vs : List V) (ds : List PyData), xs = [.ref a] ∧ SqL K H a (v :: vs) ∧ Rpd K H (v :: vs) ds ∧ PyData.showableAll ds = true ∧ PyData.depthAll ds ≤ 8 ∧
  (listText (PyData.shownAll ds)).length ≤ sizeLine ∧ Q (.str (listText (PyData.shownAll ds))) H
theorem call_reprL {X : Cx} {k : Nat} (hg : X.A.guards = some []) (hr : Room k X.A) : CallR X (.builtin "repr") (rReprL X.K) := by
  intro pins s σ H xs us Q I r h
  obtain ⟨a, v, vs, ds, rfl, hl, hd, hs, hdp, hz, q⟩ := h
  obtain ⟨u, rfl, r1⟩ := vals1 r
  obtain rfl : u = Value.ref a := r1
  obtain ⟨its, rv, ⟨o, n, ho, hc, _, hda⟩, _⟩ := I.list hl
  obtain ⟨as, ra, hsm⟩ := hd.reads I rv
  cases rv with
  | @cons _ u0 _ ur r1 r2 =>
    obtain ⟨bs, hb, hk⟩ := ReprAllK.of_readsAll (prog := X.prog) (w := X.w) ra hs hsm (fun t ht => Nat.le_trans (listText_mem_le ht) hz)
    have hna : a ∉ bs := not_mem_of_deeper (.list ho hc hda (by simpa using ra)) (by simp only [PyData.depth]; omega) hb
    have hu := hr.units
    refine call_repr_slot (by omega) ⟨o, ho, hc⟩ F.slot_list_repr.toG ?_
    exact call_list_reprK ho hc hda hna (by simpa using hk.length_eq) (fun i y e => hk.item i y (by simpa using e)) (g := []) (by exact hg) (fun b _ => Clear.nil b) (by show X.A.units + 1 + _ < cLine; omega) (fun _ _ e => e)
      (fun h' u tk hk' => ⟨_, _, rfl, .str _, H, I.kept hk', ⟨u, rfl⟩, q⟩) hz
end VX

/-! Sizes as lists of ints: plain mathematics. -/
namespace SZ
/-- without the zeros at the end -/
def trim : List Int → List Int
  | [] => []
  | x :: r => match trim r with
    | [] => if x = 0 then [] else [x]
    | y :: ys => x :: y :: ys
theorem trim_app0 : ∀ ys : List Int, trim (ys ++ [0]) = trim ys
  | [] => by simp [trim]
  | y :: ys => by
    show trim (y :: (ys ++ [0])) = trim (y :: ys)
    simp only [trim]
    rw [trim_app0 ys]
theorem trim_app : ∀ (ys : List Int) {z : Int}, z ≠ 0 → trim (ys ++ [z]) = ys ++ [z]
  | [], z, h => by simp [trim, h]
  | y :: ys, z, h => by
    show trim (y :: (ys ++ [z])) = y :: (ys ++ [z])
    simp only [trim]
    rw [trim_app ys h]
    cases e : ys ++ [z] with
    | nil => simp at e
    | cons a b => rfl
theorem trim_len : ∀ xs : List Int, (trim xs).length ≤ xs.length
  | [] => Nat.le_refl _
  | x :: r => by
    have ih := trim_len r
    simp only [trim]
    cases e : trim r with
    | nil => dsimp only; split <;> simp
    | cons y ys => rw [e] at ih; simp only [List.length_cons] at ih ⊢; omega
theorem trim_mem : ∀ {xs : List Int} {c : Int}, c ∈ trim xs → c ∈ xs
  | [], _, h => h
  | x :: r, c, h => by
    have ih := @trim_mem r c
    simp only [trim] at h
    cases e : trim r with
    | nil =>
      rw [e] at h
      dsimp only at h
      split at h
      · cases h
      · exact List.mem_cons.mpr (.inl (by simpa using h))
    | cons y ys =>
      rw [e] at h ih
      rcases List.mem_cons.mp h with h | h
      · exact List.mem_cons.mpr (.inl h)
      · exact List.mem_cons.mpr (.inr (ih h))
theorem trim_trim : ∀ xs : List Int, trim (trim xs) = trim xs
  | [] => rfl
  | x :: r => by
    have ih := trim_trim r
    simp only [trim]
    cases e : trim r with
    | nil => dsimp only; split <;> simp [trim, *]
    | cons y ys =>
      rw [e] at ih
      show trim (x :: (y :: ys)) = x :: (y :: ys)
      rw [trim, ih]
/-- the value at n -/
def ev : List Int → Int → Int
  | [], _ => 0
  | c :: r, n => ev r n * n + c
theorem ev_trim : ∀ (xs : List Int) (n : Int), ev (trim xs) n = ev xs n
  | [], _ => rfl
  | x :: r, n => by
    have ih := ev_trim r n
    simp only [trim]
    cases e : trim r with
    | nil =>
      rw [e] at ih
      have h0 : ev r n = 0 := ih.symm
      dsimp only
      split
      · rename_i hx
        simp [ev, h0, hx]
      · simp [ev, h0]
    | cons y ys =>
      rw [e] at ih
      show ev (y :: ys) n * n + x = ev r n * n + x
      rw [ih]
/-- item by item -/
def sumL : List Int → List Int → List Int
  | [], ys => ys
  | x :: xs, [] => x :: xs
  | x :: xs, y :: ys => (x + y) :: sumL xs ys
theorem sumL_nil (xs : List Int) : sumL xs [] = xs := by cases xs <;> rfl
theorem ev_sumL : ∀ (xs ys : List Int) (n : Int), ev (sumL xs ys) n = ev xs n + ev ys n
  | [], ys, n => by simp [sumL, ev]
  | x :: xs, [], n => by simp [sumL, ev]
  | x :: xs, y :: ys, n => by
    simp only [sumL, ev, ev_sumL xs ys n, Int.add_mul]
    omega
theorem len_sumL : ∀ xs ys : List Int, (sumL xs ys).length = max xs.length ys.length
  | [], ys => by simp [sumL]
  | x :: xs, [] => by simp [sumL]
  | x :: xs, y :: ys => by simp only [sumL, List.length_cons, len_sumL xs ys]; omega
theorem get_sumL : ∀ (xs ys : List Int) (i : Nat), (sumL xs ys).getD i 0 = xs.getD i 0 + ys.getD i 0
  | [], ys, i => by simp [sumL]
  | x :: xs, [], i => by simp [sumL]
  | x :: xs, y :: ys, 0 => by simp [sumL]
  | x :: xs, y :: ys, i + 1 => by simpa [sumL] using get_sumL xs ys i
def negL (xs : List Int) : List Int := xs.map fun x => -x
theorem ev_negL : ∀ (xs : List Int) (n : Int), ev (negL xs) n = - ev xs n
  | [], n => by simp [negL, ev]
  | x :: xs, n => by
    have ih := ev_negL xs n
    show ev (negL xs) n * n + -x = -(ev xs n * n + x)
    rw [ih, Int.neg_mul]
    omega
/-- c times ys, added to zs from place k on -/
def addAt (zs : List Int) (k : Nat) (d : Int) : List Int := zs.set k (zs.getD k 0 + d)
theorem len_addAt (zs : List Int) (k : Nat) (d : Int) : (addAt zs k d).length = zs.length := by simp [addAt]
def rowAt (zs : List Int) (k : Nat) (c : Int) (ys : List Int) : List Int := ys.zipIdx.foldl (fun z p => addAt z (k + p.2) (c * p.1)) zs
/-- powers of n -/
theorem ev_addAt : ∀ (zs : List Int) (k : Nat) (d n : Int), k < zs.length → ev (addAt zs k d) n = ev zs n + d * n ^ k
  | [], k, d, n, h => by simp at h
  | z :: zs, 0, d, n, h => by simp [addAt, ev]; omega
  | z :: zs, k + 1, d, n, h => by
    have ih := ev_addAt zs k d n (by simpa using h)
    have e : addAt (z :: zs) (k + 1) d = z :: addAt zs k d := by simp [addAt]
    rw [e]
    show ev (addAt zs k d) n * n + z = ev zs n * n + z + d * n ^ (k + 1)
    rw [ih, Int.add_mul, Int.pow_succ, Int.mul_assoc]
    omega
/-- the product, as the two loops make it: the first i of xs whole, the first j of ys with the next one -/
def mulL : List Int → List Int → List Int
  | [], ys => List.replicate ys.length 0
  | x :: xs, ys => sumL (ys.map (x * ·)) (0 :: mulL xs ys)
theorem ev_map_mul : ∀ (x : Int) (ys : List Int) (n : Int), ev (ys.map (x * ·)) n = x * ev ys n
  | x, [], n => by simp [ev]
  | x, y :: ys, n => by
    show ev (ys.map (x * ·)) n * n + x * y = x * (ev ys n * n + y)
    rw [ev_map_mul x ys n, Int.mul_add, Int.mul_assoc]
theorem ev_rep0 : ∀ (k : Nat) (n : Int), ev (List.replicate k 0) n = 0
  | 0, _ => rfl
  | k + 1, n => by rw [List.replicate_succ]; simp [ev, ev_rep0 k n]
theorem ev_mulL : ∀ (xs ys : List Int) (n : Int), ev (mulL xs ys) n = ev xs n * ev ys n
  | [], ys, n => by simp [mulL, ev_rep0, ev]
  | x :: xs, ys, n => by
    rw [mulL, ev_sumL, ev_map_mul]
    show x * ev ys n + (ev (mulL xs ys) n * n + 0) = (ev xs n * n + x) * ev ys n
    rw [ev_mulL xs ys n, Int.add_mul, Int.add_zero, Int.add_comm, Int.mul_assoc, Int.mul_assoc, Int.mul_comm (ev ys n) n]
theorem len_mulL : ∀ xs ys : List Int, (mulL xs ys).length = xs.length + ys.length
  | [], ys => by simp [mulL]
  | x :: xs, ys => by rw [mulL, len_sumL, List.length_map, List.length_cons, len_mulL xs ys, List.length_cons]; omega
/-- all below 2 ^ k in size -/
def Bd (k : Nat) (xs : List Int) : Prop := ∀ c ∈ xs, c.natAbs < 2 ^ k
theorem Bd.mono {j k : Nat} {xs : List Int} (h : Bd j xs) (hk : j ≤ k) : Bd k xs := fun c hc => Nat.lt_of_lt_of_le (h c hc) (Nat.pow_le_pow_right (by decide) hk)
theorem Bd.trim {k : Nat} {xs : List Int} (h : Bd k xs) : Bd k (trim xs) := fun c hc => h c (trim_mem hc)
theorem Bd.nil {k : Nat} : Bd k [] := fun _ h => nomatch h
theorem Bd.cons {k : Nat} {x : Int} {xs : List Int} (h : x.natAbs < 2 ^ k) (t : Bd k xs) : Bd k (x :: xs) := fun c hc => by
  rcases List.mem_cons.mp hc with e | e
  · rw [e]; exact h
  · exact t c e
theorem natAbs_add_lt {a b : Int} {k : Nat} (ha : a.natAbs < 2 ^ k) (hb : b.natAbs < 2 ^ k) : (a + b).natAbs < 2 ^ (k + 1) := by
  have : (2 : Nat) ^ (k + 1) = 2 ^ k + 2 ^ k := by rw [Nat.pow_succ]; omega
  omega
theorem natAbs_mul_lt {a b : Int} {j k : Nat} (ha : a.natAbs < 2 ^ j) (hb : b.natAbs < 2 ^ k) : (a * b).natAbs < 2 ^ (j + k) := by
  rw [Int.natAbs_mul, Nat.pow_add]
  exact Nat.mul_lt_mul'' ha hb
theorem two_pos (k : Nat) : 0 < 2 ^ k := Nat.pow_pos (by decide)
theorem Bd.sumL : ∀ {k : Nat} {xs ys : List Int}, Bd k xs → Bd k ys → Bd (k + 1) (sumL xs ys)
  | k, [], ys, _, h => h.mono (Nat.le_succ _)
  | k, x :: xs, [], h, _ => h.mono (Nat.le_succ _)
  | k, x :: xs, y :: ys, h, g => by
    refine Bd.cons (natAbs_add_lt (h x (List.mem_cons_self ..)) (g y (List.mem_cons_self ..))) (Bd.sumL (fun c hc => h c (List.mem_cons_of_mem _ hc)) fun c hc => g c (List.mem_cons_of_mem _ hc))
theorem Bd.negL {k : Nat} {xs : List Int} (h : Bd k xs) : Bd k (negL xs) := fun c hc => by
  obtain ⟨x, hx, e⟩ := List.mem_map.mp hc
  rw [← e, Int.natAbs_neg]
  exact h x hx
theorem Bd.mulL : ∀ {j k : Nat} {xs ys : List Int}, Bd j xs → Bd k ys → Bd (j + k + xs.length) (mulL xs ys)
  | j, k, [], ys, _, h => fun c hc => by
    have : c = 0 := (List.mem_replicate.mp hc).2
    rw [this]; exact two_pos _
  | j, k, x :: xs, ys, h, g => by
    have ih := Bd.mulL (fun c hc => h c (List.mem_cons_of_mem _ hc) : Bd j xs) g
    have e : j + k + (x :: xs).length = (j + k + xs.length) + 1 := by rw [List.length_cons]; omega
    rw [e]
    refine Bd.sumL (fun c hc => ?_) (Bd.cons (two_pos _) ih)
    obtain ⟨y, hy, e2⟩ := List.mem_map.mp hc
    rw [← e2]
    exact Nat.lt_of_lt_of_le (natAbs_mul_lt (h x (List.mem_cons_self ..)) (g y hy)) (Nat.pow_le_pow_right (by decide) (Nat.le_add_right _ _))
/-- how great a value is -/
theorem ev_lt : ∀ {b m : Nat} {xs : List Int} {n : Int}, Bd b xs → n.natAbs < 2 ^ m → (ev xs n).natAbs < 2 ^ (b + xs.length * (m + 1))
  | b, m, [], n, _, _ => two_pos _
  | b, m, x :: xs, n, h, hn => by
    have ih := ev_lt (fun c hc => h c (List.mem_cons_of_mem _ hc) : Bd b xs) hn
    have e : b + (x :: xs).length * (m + 1) = (b + xs.length * (m + 1) + m) + 1 := by rw [List.length_cons, Nat.succ_mul]; omega
    rw [e]
    show (ev xs n * n + x).natAbs < _
    refine natAbs_add_lt (natAbs_mul_lt ih hn) (Nat.lt_of_lt_of_le (h x (List.mem_cons_self ..)) (Nat.pow_le_pow_right (by decide) (by omega)))
/-- ys in place of n: as the loop makes it, from the last one on -/
def cmp : List Int → List Int → List Int
  | [], _ => []
  | c :: r, ys => trim (sumL (trim (mulL (cmp r ys) ys)) [c])
theorem ev_cmp : ∀ (xs ys : List Int) (n : Int), ev (cmp xs ys) n = ev xs (ev ys n)
  | [], _, _ => rfl
  | c :: r, ys, n => by
    rw [cmp, ev_trim, ev_sumL, ev_trim, ev_mulL, ev_cmp r ys n]
    simp [ev]
end SZ

namespace SZ
theorem ext_getD {xs ys : List Int} (hl : xs.length = ys.length) (h : ∀ k, xs.getD k 0 = ys.getD k 0) : xs = ys := by
  apply List.ext_getElem hl
  intro k h1 h2
  have := h k
  rw [List.getD_eq_getElem?_getD, List.getD_eq_getElem?_getD, List.getElem?_eq_getElem h1, List.getElem?_eq_getElem h2] at this
  simpa using this
theorem getD_set (zs : List Int) (j k : Nat) (d : Int) : (zs.set j d).getD k 0 = if k = j ∧ j < zs.length then d else zs.getD k 0 := by
  rw [List.getD_eq_getElem?_getD, List.getD_eq_getElem?_getD, List.getElem?_set]
  by_cases e : j = k
  · subst e
    by_cases hl : j < zs.length
    · simp [hl]
    · simp [hl]
  · simp [e, Ne.symm e]
theorem getD_rep (n k : Nat) : (List.replicate n (0 : Int)).getD k 0 = 0 := by
  rw [List.getD_eq_getElem?_getD, List.getElem?_replicate]
  split <;> rfl
theorem getD_of_ge {xs : List Int} {k : Nat} (h : xs.length ≤ k) : xs.getD k 0 = 0 := by
  rw [List.getD_eq_getElem?_getD, List.getElem?_eq_none h]
  rfl
/-- the k-th coefficient of the product -/
def cf : List Int → List Int → Nat → Int
  | [], _, _ => 0
  | x :: xs, ys, k => x * ys.getD k 0 + (match k with | 0 => 0 | k + 1 => cf xs ys k)
theorem get_map_mul (x : Int) (ys : List Int) (k : Nat) : (ys.map (x * ·)).getD k 0 = x * ys.getD k 0 := by
  rw [List.getD_eq_getElem?_getD, List.getD_eq_getElem?_getD, List.getElem?_map]
  cases ys[k]? <;> simp
theorem get_mulL : ∀ (xs ys : List Int) (k : Nat), (mulL xs ys).getD k 0 = cf xs ys k
  | [], ys, k => by rw [mulL, getD_rep]; rfl
  | x :: xs, ys, 0 => by rw [mulL, get_sumL, get_map_mul]; simp [cf]
  | x :: xs, ys, k + 1 => by
    rw [mulL, get_sumL, get_map_mul]
    show x * ys.getD (k + 1) 0 + (mulL xs ys).getD k 0 = _
    rw [get_mulL xs ys k]
    rfl
theorem cf_app : ∀ (xs : List Int) (x : Int) (ys : List Int) (k : Nat), cf (xs ++ [x]) ys k = cf xs ys k + if xs.length ≤ k then x * ys.getD (k - xs.length) 0 else 0
  | [], x, ys, k => by
    show cf [x] ys k = 0 + if 0 ≤ k then x * ys.getD (k - 0) 0 else 0
    cases k <;> simp [cf]
  | z :: xs, x, ys, 0 => by simp [cf]
  | z :: xs, x, ys, k + 1 => by
    show z * ys.getD (k + 1) 0 + cf (xs ++ [x]) ys k = z * ys.getD (k + 1) 0 + cf xs ys k + if xs.length + 1 ≤ k + 1 then x * ys.getD (k + 1 - (xs.length + 1)) 0 else 0
    rw [cf_app xs x ys k]
    have e : k + 1 - (xs.length + 1) = k - xs.length := by omega
    rw [e, Int.add_assoc]
    congr 2
    by_cases h : xs.length ≤ k
    · rw [if_pos h, if_pos (by omega)]
    · rw [if_neg h, if_neg (by omega)]
theorem cf_take {xs ys : List Int} {i : Nat} {x : Int} (h : xs[i]? = some x) (k : Nat) : cf (xs.take (i + 1)) ys k = cf (xs.take i) ys k + if i ≤ k then x * ys.getD (k - i) 0 else 0 := by
  have hi : i < xs.length := (List.getElem?_eq_some_iff.mp h).1
  have e : xs.take (i + 1) = xs.take i ++ [x] := by rw [List.take_add_one, h]; rfl
  rw [e, cf_app, List.length_take, Nat.min_eq_left (Nat.le_of_lt hi)]
/-- the loops' lists, by their coefficients -/
structure Is (zs : List Int) (n : Nat) (F : Nat → Int) : Prop where
  len : zs.length = n
  get : ∀ k, zs.getD k 0 = F k
theorem Is.set {zs : List Int} {n : Nat} {F : Nat → Int} (h : Is zs n F) {j : Nat} (hj : j < n) {d : Int} {G : Nat → Int} (hg : ∀ k, G k = if k = j then d else F k) : Is (zs.set j d) n G :=
  ⟨by rw [List.length_set, h.len], fun k => by
    rw [getD_set, hg, h.get, h.len]
    by_cases e : k = j
    · rw [if_pos ⟨e, hj⟩, if_pos e]
    · rw [if_neg (fun q => e q.1), if_neg e]⟩
theorem Is.eq {zs ys : List Int} {n : Nat} {F : Nat → Int} (h : Is zs n F) (hl : ys.length = n) (hy : ∀ k, ys.getD k 0 = F k) : zs = ys := ext_getD (h.len.trans hl.symm) fun k => (h.get k).trans (hy k).symm
theorem getD_some {xs : List Int} {i : Nat} {x : Int} (h : xs[i]? = some x) : xs.getD i 0 = x := by rw [List.getD_eq_getElem?_getD, h]; rfl
end SZ

namespace K05
open PySem L2 SZ VR VX StX RT
def top (i : Nat) : Stmt := PySem.Challenge.pw_farmisses_k05_sizes_in_texts.main.body.getD i (.Pass ⟨0, 0, 0, 0⟩)
abbrev S_wall : Stmt := top 0
theorem sc_wall : FnScope ["k"] ["k"] (defScope S_wall) := ⟨rfl, rfl, rfl, by decide +kernel, rfl, by decide +kernel, by decide +kernel⟩
abbrev S_InvalidText___init__ : Stmt := inClass (top 3) 0
theorem sc_InvalidText___init__ : FnScope ["self", "value"] ["self", "value"] (defScope S_InvalidText___init__) := ⟨rfl, rfl, rfl, by decide +kernel, rfl, by decide +kernel, by decide +kernel⟩
abbrev S_InvalidSyntax___init__ : Stmt := inClass (top 4) 0
theorem sc_InvalidSyntax___init__ : FnScope ["self", "position"] ["self", "position"] (defScope S_InvalidSyntax___init__) := ⟨rfl, rfl, rfl, by decide +kernel, rfl, by decide +kernel, by decide +kernel⟩
abbrev S_TooLarge___init__ : Stmt := inClass (top 5) 0
theorem sc_TooLarge___init__ : FnScope ["self", "word"] ["self", "word"] (defScope S_TooLarge___init__) := ⟨rfl, rfl, rfl, by decide +kernel, rfl, by decide +kernel, by decide +kernel⟩
abbrev S_is_integer : Stmt := top 7
theorem sc_is_integer : FnScope ["value"] ["value"] (defScope S_is_integer) := ⟨rfl, rfl, rfl, by decide +kernel, rfl, by decide +kernel, by decide +kernel⟩
abbrev S_trimmed : Stmt := top 8
theorem sc_trimmed : FnScope ["parts", "many"] ["parts"] (defScope S_trimmed) := ⟨rfl, rfl, rfl, by decide +kernel, rfl, by decide +kernel, by decide +kernel⟩
abbrev S_sum : Stmt := top 9
theorem sc_sum : FnScope ["one", "other", "many", "parts", "power", "part"] ["one", "other"] (defScope S_sum) := ⟨rfl, rfl, rfl, by decide +kernel, rfl, by decide +kernel, by decide +kernel⟩
abbrev S_product : Stmt := top 10
theorem sc_product : FnScope ["one", "other", "many", "parts", "power", "part", "more", "factor"] ["one", "other"] (defScope S_product) := ⟨rfl, rfl, rfl, by decide +kernel, rfl, by decide +kernel, by decide +kernel⟩
abbrev S_negative : Stmt := top 11
theorem sc_negative : FnScope ["parts", "part"] ["parts"] (defScope S_negative) := ⟨rfl, rfl, rfl, by decide +kernel, rfl, by decide +kernel, by decide +kernel⟩
abbrev S_is_operand : Stmt := top 12
theorem sc_is_operand : FnScope ["value"] ["value"] (defScope S_is_operand) := ⟨rfl, rfl, rfl, by decide +kernel, rfl, by decide +kernel, by decide +kernel⟩
abbrev S_parts_of : Stmt := top 13
theorem sc_parts_of : FnScope ["operand"] ["operand"] (defScope S_parts_of) := ⟨rfl, rfl, rfl, by decide +kernel, rfl, by decide +kernel, by decide +kernel⟩
abbrev S_Size___init__ : Stmt := inClass (top 14) 0
theorem sc_Size___init__ : FnScope ["self", "parts"] ["self", "parts"] (defScope S_Size___init__) := ⟨rfl, rfl, rfl, by decide +kernel, rfl, by decide +kernel, by decide +kernel⟩
abbrev S_Size_coefficients : Stmt := inClass (top 14) 1
theorem sc_Size_coefficients : FnScope ["self"] ["self"] (defScope S_Size_coefficients) := ⟨rfl, rfl, rfl, by decide +kernel, rfl, by decide +kernel, by decide +kernel⟩
abbrev S_Size_degree : Stmt := inClass (top 14) 2
theorem sc_Size_degree : FnScope ["self"] ["self"] (defScope S_Size_degree) := ⟨rfl, rfl, rfl, by decide +kernel, rfl, by decide +kernel, by decide +kernel⟩
abbrev S_Size___add__ : Stmt := inClass (top 14) 3
theorem sc_Size___add__ : FnScope ["self", "other"] ["self", "other"] (defScope S_Size___add__) := ⟨rfl, rfl, rfl, by decide +kernel, rfl, by decide +kernel, by decide +kernel⟩
abbrev S_Size___sub__ : Stmt := inClass (top 14) 4
theorem sc_Size___sub__ : FnScope ["self", "other"] ["self", "other"] (defScope S_Size___sub__) := ⟨rfl, rfl, rfl, by decide +kernel, rfl, by decide +kernel, by decide +kernel⟩
abbrev S_Size___mul__ : Stmt := inClass (top 14) 5
theorem sc_Size___mul__ : FnScope ["self", "other"] ["self", "other"] (defScope S_Size___mul__) := ⟨rfl, rfl, rfl, by decide +kernel, rfl, by decide +kernel, by decide +kernel⟩
abbrev S_Size___neg__ : Stmt := inClass (top 14) 6
theorem sc_Size___neg__ : FnScope ["self"] ["self"] (defScope S_Size___neg__) := ⟨rfl, rfl, rfl, by decide +kernel, rfl, by decide +kernel, by decide +kernel⟩
abbrev S_Size___call__ : Stmt := inClass (top 14) 7
theorem sc_Size___call__ : FnScope ["self", "n", "value", "part"] ["self", "n"] (defScope S_Size___call__) := ⟨rfl, rfl, rfl, by decide +kernel, rfl, by decide +kernel, by decide +kernel⟩
abbrev S_Size___eq__ : Stmt := inClass (top 14) 8
theorem sc_Size___eq__ : FnScope ["self", "other"] ["self", "other"] (defScope S_Size___eq__) := ⟨rfl, rfl, rfl, by decide +kernel, rfl, by decide +kernel, by decide +kernel⟩
abbrev S_is_word : Stmt := top 20
theorem sc_is_word : FnScope ["text"] ["text"] (defScope S_is_word) := ⟨rfl, rfl, rfl, by decide +kernel, rfl, by decide +kernel, by decide +kernel⟩
abbrev S_is_number : Stmt := top 21
theorem sc_is_number : FnScope ["text", "character"] ["text"] (defScope S_is_number) := ⟨rfl, rfl, rfl, by decide +kernel, rfl, by decide +kernel, by decide +kernel⟩
abbrev S_end_of_run : Stmt := top 22
theorem sc_end_of_run : FnScope ["text", "begin", "end"] ["text", "begin"] (defScope S_end_of_run) := ⟨rfl, rfl, rfl, by decide +kernel, rfl, by decide +kernel, by decide +kernel⟩
abbrev S_tokens_of : Stmt := top 23
theorem sc_tokens_of : FnScope ["text", "found", "at", "end"] ["text"] (defScope S_tokens_of) := ⟨rfl, rfl, rfl, by decide +kernel, rfl, by decide +kernel, by decide +kernel⟩
abbrev S_Reader___init__ : Stmt := inClass (top 24) 0
theorem sc_Reader___init__ : FnScope ["self", "text"] ["self", "text"] (defScope S_Reader___init__) := ⟨rfl, rfl, rfl, by decide +kernel, rfl, by decide +kernel, by decide +kernel⟩
abbrev S_Reader_token : Stmt := inClass (top 24) 1
theorem sc_Reader_token : FnScope ["self", "token", "_"] ["self"] (defScope S_Reader_token) := ⟨rfl, rfl, rfl, by decide +kernel, rfl, by decide +kernel, by decide +kernel⟩
abbrev S_Reader_place : Stmt := inClass (top 24) 2
theorem sc_Reader_place : FnScope ["self", "_", "place"] ["self"] (defScope S_Reader_place) := ⟨rfl, rfl, rfl, by decide +kernel, rfl, by decide +kernel, by decide +kernel⟩
abbrev S_Reader_pass_any : Stmt := inClass (top 24) 3
theorem sc_Reader_pass_any : FnScope ["self", "token"] ["self"] (defScope S_Reader_pass_any) := ⟨rfl, rfl, rfl, by decide +kernel, rfl, by decide +kernel, by decide +kernel⟩
abbrev S_Reader_passes : Stmt := inClass (top 24) 4
theorem sc_Reader_passes : FnScope ["self", "token"] ["self", "token"] (defScope S_Reader_passes) := ⟨rfl, rfl, rfl, by decide +kernel, rfl, by decide +kernel, by decide +kernel⟩
abbrev S_Reader_pass_only : Stmt := inClass (top 24) 5
theorem sc_Reader_pass_only : FnScope ["self", "token"] ["self", "token"] (defScope S_Reader_pass_only) := ⟨rfl, rfl, rfl, by decide +kernel, rfl, by decide +kernel, by decide +kernel⟩
abbrev S_Reader_pass_one : Stmt := inClass (top 24) 6
theorem sc_Reader_pass_one : FnScope ["self", "tokens"] ["self", "tokens"] (defScope S_Reader_pass_one) := ⟨rfl, rfl, rfl, by decide +kernel, rfl, by decide +kernel, by decide +kernel⟩
abbrev S_Reader_pass_number : Stmt := inClass (top 24) 7
theorem sc_Reader_pass_number : FnScope ["self"] ["self"] (defScope S_Reader_pass_number) := ⟨rfl, rfl, rfl, by decide +kernel, rfl, by decide +kernel, by decide +kernel⟩
abbrev S_Reader_pass_end : Stmt := inClass (top 24) 8
theorem sc_Reader_pass_end : FnScope ["self"] ["self"] (defScope S_Reader_pass_end) := ⟨rfl, rfl, rfl, by decide +kernel, rfl, by decide +kernel, by decide +kernel⟩
abbrev S_is_name : Stmt := top 30
theorem sc_is_name : FnScope ["value"] ["value"] (defScope S_is_name) := ⟨rfl, rfl, rfl, by decide +kernel, rfl, by decide +kernel, by decide +kernel⟩
abbrev S_parse : Stmt := top 31
theorem sc_parse : FnScope ["text", "reader", "arrays", "name", "block"] ["text"] (defScope S_parse) := ⟨rfl, rfl, rfl, by decide +kernel, rfl, by decide +kernel, by decide +kernel⟩
abbrev S_parse_size : Stmt := top 32
theorem sc_parse_size : FnScope ["text", "reader", "parts"] ["text"] (defScope S_parse_size) := ⟨rfl, rfl, rfl, by decide +kernel, rfl, by decide +kernel, by decide +kernel⟩
abbrev S_parse_block : Stmt := top 33
theorem sc_parse_block : FnScope ["text", "reader", "block"] ["text"] (defScope S_parse_block) := ⟨rfl, rfl, rfl, by decide +kernel, rfl, by decide +kernel, by decide +kernel⟩
abbrev S_reader : Stmt := top 34
theorem sc_reader : FnScope ["text"] ["text"] (defScope S_reader) := ⟨rfl, rfl, rfl, by decide +kernel, rfl, by decide +kernel, by decide +kernel⟩
abbrev S_name : Stmt := top 35
theorem sc_name : FnScope ["reader"] ["reader"] (defScope S_name) := ⟨rfl, rfl, rfl, by decide +kernel, rfl, by decide +kernel, by decide +kernel⟩
abbrev S_block : Stmt := top 36
theorem sc_block : FnScope ["reader", "loops", "block"] ["reader", "loops"] (defScope S_block) := ⟨rfl, rfl, rfl, by decide +kernel, rfl, by decide +kernel, by decide +kernel⟩
abbrev S_statement : Stmt := top 37
theorem sc_statement : FnScope ["reader", "loops", "word", "array", "index"] ["reader", "loops"] (defScope S_statement) := ⟨rfl, rfl, rfl, by decide +kernel, rfl, by decide +kernel, by decide +kernel⟩
abbrev S_loop : Stmt := top 38
theorem sc_loop : FnScope ["reader", "loops", "counter", "parts", "block"] ["reader", "loops"] (defScope S_loop) := ⟨rfl, rfl, rfl, by decide +kernel, rfl, by decide +kernel, by decide +kernel⟩
abbrev S_size : Stmt := top 39
theorem sc_size : FnScope ["reader"] ["reader"] (defScope S_size) := ⟨rfl, rfl, rfl, by decide +kernel, rfl, by decide +kernel, by decide +kernel⟩
abbrev S_index : Stmt := top 40
theorem sc_index : FnScope ["reader", "sums", "factors", "counter", "parts"] ["reader"] (defScope S_index) := ⟨rfl, rfl, rfl, by decide +kernel, rfl, by decide +kernel, by decide +kernel⟩
abbrev S_sums : Stmt := top 41
theorem sc_sums : FnScope ["reader", "in_index", "sums", "sign", "goes_on", "number", "power", "counter", "size"] ["reader", "in_index"] (defScope S_sums) := ⟨rfl, rfl, rfl, by decide +kernel, rfl, by decide +kernel, by decide +kernel⟩
abbrev S_part : Stmt := top 42
theorem sc_part : FnScope ["reader", "in_index", "number", "power", "counter", "goes_on"] ["reader", "in_index"] (defScope S_part) := ⟨rfl, rfl, rfl, by decide +kernel, rfl, by decide +kernel, by decide +kernel⟩
abbrev S_law_pool : Stmt := top 44
theorem sc_law_pool : FnScope ["_law_script", "_law_k", "_law_cell", "_law_heavy", "_law_blend", "_law_seed"] ["_law_script", "_law_k"] (defScope S_law_pool) := ⟨rfl, rfl, rfl, by decide +kernel, rfl, by decide +kernel, by decide +kernel⟩
abbrev S_law_take : Stmt := top 45
theorem sc_law_take : FnScope ["_law_pool_here", "_law_wide", "_law_result"] ["_law_pool_here", "_law_wide"] (defScope S_law_take) := ⟨rfl, rfl, rfl, by decide +kernel, rfl, by decide +kernel, by decide +kernel⟩
abbrev S_law_heard : Stmt := top 46
theorem sc_law_heard : FnScope ["_law_call", "e"] ["_law_call"] (defScope S_law_heard) := ⟨rfl, rfl, rfl, by decide +kernel, rfl, by decide +kernel, by decide +kernel⟩
abbrev S_law_loops : Stmt := top 47
theorem sc_law_loops : FnScope ["_law_deep", "_law_inside"] ["_law_deep", "_law_inside"] (defScope S_law_loops) := ⟨rfl, rfl, rfl, by decide +kernel, rfl, by decide +kernel, by decide +kernel⟩
abbrev S_law_texts : Stmt := top 48
theorem sc_law_texts : FnScope ["_law_number", "_law_powers", "_law_deep", "_law_part", "_law_found", "_law_inner"] ["_law_number", "_law_powers", "_law_deep"] (defScope S_law_texts) := ⟨rfl, rfl, rfl, by decide +kernel, rfl, by decide +kernel, by decide +kernel⟩
abbrev S_law_due : Stmt := top 49
theorem sc_law_due : FnScope ["_law_at", "_law_digits", "_law_powers", "_law_deep"] ["_law_at", "_law_digits", "_law_powers", "_law_deep"] (defScope S_law_due) := ⟨rfl, rfl, rfl, by decide +kernel, rfl, by decide +kernel, by decide +kernel⟩
abbrev S_law : Stmt := top 50
theorem sc_law : FnScope ["_law_script", "_law_odd", "_law_door", "_law_k", "_law_pool_here", "_law_digits", "_law_powers", "_law_deep", "_law_number", "_law_at", "_law_text", "_law_due_here", "_law_turn"] ["_law_script"] (defScope S_law) := ⟨rfl, rfl, rfl, by decide +kernel, rfl, by decide +kernel, by decide +kernel⟩

/-! ### tokens: the signs -/
abbrev LET : Str := "abcdefghijklmnopqrstuvwxyz"
abbrev DIG : Str := "0123456789"
abbrev GAP : Str := " \n"
/-- a lowercase letter, a digit, either -/
def lc (c : Nat) : Bool := decide (c ∈ LET.cps.toList)
def dg (c : Nat) : Bool := decide (c ∈ DIG.cps.toList)
def gp (c : Nat) : Bool := decide (c ∈ GAP.cps.toList)
def an (c : Nat) : Bool := lc c || dg c
/-- the end of the run of letters and digits from b on -/
def runE (s : List Nat) (b : Nat) : Nat := b + ((s.drop b).takeWhile an).length
theorem runE_le {s : List Nat} {b : Nat} (h : b ≤ s.length) : runE s b ≤ s.length := by
  have h1 := (List.takeWhile_sublist an (l := s.drop b)).length_le
  rw [List.length_drop] at h1
  unfold runE
  omega
theorem runE_step {s : List Nat} {b : Nat} {c : Nat} (h : s[b]? = some c) (a : an c = true) : runE s b = runE s (b + 1) := by
  have hl : b < s.length := (List.getElem?_eq_some_iff.mp h).1
  have e : s.drop b = c :: s.drop (b + 1) := by
    rw [List.drop_eq_getElem_cons hl]
    congr 1
    have := List.getElem?_eq_getElem hl
    rw [h] at this
    exact (Option.some.inj this).symm
  unfold runE
  rw [e, List.takeWhile_cons, if_pos a, List.length_cons]
  omega
theorem runE_stop {s : List Nat} {b : Nat} {c : Nat} (h : s[b]? = some c) (a : an c = false) : runE s b = b := by
  have hl : b < s.length := (List.getElem?_eq_some_iff.mp h).1
  have e : s.drop b = c :: s.drop (b + 1) := by
    rw [List.drop_eq_getElem_cons hl]
    congr 1
    have := List.getElem?_eq_getElem hl
    rw [h] at this
    exact (Option.some.inj this).symm
  unfold runE
  rw [e, List.takeWhile_cons, if_neg (by rw [a]; exact Bool.false_ne_true)]
  rfl
theorem runE_end {s : List Nat} : runE s s.length = s.length := by
  unfold runE
  rw [List.drop_length]
  rfl
/-- the module's constants and Python's own names in it -/
structure TkB (mg : Str → Option Value) : Prop where
  let_ : ∃ t, mg "_LETTERS" = some (.str LET t)
  dig : ∃ t, mg "_DIGITS" = some (.str DIG t)
  gap : ∃ t, mg "_GAPS" = some (.str GAP t)
  len : mg "len" = none
  max : mg "max" = none
  all : mg "all" = none
def spEnd : Sp := fun vs H Q _ => ∃ (z : Str) (b : Nat), vs = [.str z, .int b] ∧ z.length ≤ 100000 ∧ b ≤ z.length ∧ Q (.int (runE z.cps.toList b : Nat)) H
theorem atN {α : Type} {xs : List α} {j : Nat} {x : α} (h : xs[j]? = some x) : atI xs (j : Int) = some x := by
  have hl : j < xs.length := (List.getElem?_eq_some_iff.mp h).1
  unfold atI
  rw [ixN_nat hl]
  exact h
theorem lenS {n : Nat} (h : n ≤ 100) : n ≤ sizeLine := smallL (by omega)
theorem zL {n : Nat} (h : n ≤ 100000) : n ≤ sizeLine := by rw [sizeLine_eq]; omega
section
variable {P : Program} {w : World} {K : PySem.W.Frag} {mg : Str → Option Value} {base : Heap}
theorem ok_end {f : Addr} {fd : FuncData} (F : Fun K "_end_of_run" "_end_of_run" S_end_of_run f fd) (B : TkB mg) : FnOk P w K mg base CX0 1 f fd ["text", "begin"] spEnd := by
  refine F.ok sc_end_of_run (fun vs H Q E h => ?_) (fun cdv A outer s H vs Q E hr h => ?_)
  · obtain ⟨z, b, rfl, _⟩ := h; rfl
  · obtain ⟨z, b, rfl, hz, hb, q⟩ := h
    obtain ⟨t1, m1⟩ := B.let_
    obtain ⟨t2, m2⟩ := B.dig
    refine ⟨_, pss_cons (ps_set (i := 2) sc_end_of_run.nd rfl (Or.inl rfl) (pv 1))
      (pss_cons (ps_while PassesOwn.never (PW.pt (pw_and (pt_cmpR op_lt (pv 2) (pe_callB call_len_str (by rfl) B.len PySem.boot_len (pa_cons (pv 0) pa_nil)) (nomark _))
          (pw_and1 (PW.pt (pw_or (pt_cmpR op_inS (pe_ix ix_str (pv 0) (pv 2) (fun _ _ => rfl)) (pe_glob (by rfl) m1 (v := .str LET) ⟨t1, rfl⟩) (by rfl))
            (pw_or1 (pt_cmpR op_inS (pe_ix ix_str (pv 0) (pv 2) (fun _ _ => rfl)) (pe_glob (by rfl) m2 (v := .str DIG) ⟨t2, rfl⟩) (by rfl))))))))
        (pss_one (ps_aug (i := 2) sc_end_of_run.nd rfl (.inl rfl) pe_int ip_add)))
      (pss_one (ps_ret (pv 2)))), ?_⟩
    refine ⟨_, rfl, ?_⟩
    have hsz : z.cps.toList.length = z.length := rfl
    refine ⟨fun m σ H' => ∃ e : Nat, m = z.length - e ∧ b ≤ e ∧ e ≤ z.length ∧ σ = [some (.str z), some (.int b), some (.int e)] ∧ H' = H ∧ runE z.cps.toList b = runE z.cps.toList e, ⟨_, b, rfl, Nat.le_refl _, hb, rfl, rfl, rfl⟩, ?_⟩
    rintro m σ H' ⟨e, rfl, hbe, hez, rfl, rfl, hrun⟩
    refine ⟨_, rfl, _, rfl, z, rfl, zL hz, _, _, rfl, rfl, _, rfl, ?_⟩
    have step : ∀ {c : Nat}, z.cps.toList[e]? = some c → an c = true → ∃ N : L2.St → Hp → Prop, (∀ σ' H'', N σ' H'' → ∃ m', m' < z.length - e ∧ ∃ e' : Nat, m' = z.length - e' ∧ b ≤ e' ∧ e' ≤ z.length ∧ σ' = [some (.str z), some (.int b), some (.int e')] ∧ H'' = H' ∧ runE z.cps.toList b = runE z.cps.toList e') ∧
        N [some (.str z), some (.int b), some (.int ((e : Int) + 1))] H' := fun {c} hc ha => by
      have hl : e < z.length := (List.getElem?_eq_some_iff.mp hc).1
      refine ⟨fun σ' H'' => σ' = [some (.str z), some (.int b), some (.int ((e + 1 : Nat) : Int))] ∧ H'' = H', ?_, ?_, rfl⟩
      · rintro σ' H'' ⟨rfl, rfl⟩
        exact ⟨_, by omega, e + 1, rfl, by omega, by omega, rfl, rfl, hrun.trans (runE_step hc ha)⟩
      · have e1 : ((e + 1 : Nat) : Int) = (e : Int) + 1 := by omega
        rw [e1]
    refine ite2 (fun h0 => ?_) (fun h0 => ?_)
    · have hl : e < z.length := by have := of_decide_eq_true h0; omega
      have hc : z.cps.toList[e]? = some (z.cps.toList[e]) := List.getElem?_eq_getElem hl
      generalize z.cps.toList[e] = c at hc
      refine ⟨_, rfl, _, rfl, z, _, c, rfl, rfl, zL hz, atN hc, c, LET, rfl, rfl, _, rfl, ?_⟩
      refine ite2 (fun h1 => ?_) (fun h1 => ?_)
      · obtain ⟨N, n1, n2⟩ := step hc (by unfold an lc; rw [h1]; rfl)
        exact ⟨N, n1, _, rfl, _, _, rfl, rfl, n2⟩
      · refine ⟨_, rfl, _, rfl, z, _, c, rfl, rfl, zL hz, atN hc, c, DIG, rfl, rfl, _, rfl, ?_⟩
        refine ite2 (fun h2 => ?_) (fun h2 => ?_)
        · obtain ⟨N, n1, n2⟩ := step hc (by unfold an dg; rw [h2, Bool.or_true])
          exact ⟨N, n1, _, rfl, _, _, rfl, rfl, n2⟩
        · have hs := runE_stop hc (by unfold an lc dg; rw [Bool.eq_false_iff.mpr h1, Bool.eq_false_iff.mpr h2]; rfl)
          rw [hs] at hrun
          rw [hrun] at q
          exact ⟨_, rfl, q⟩
    · have he : e = z.length := by
        have h1 : ¬ (e : Int) < (z.length : Int) := by simpa using h0
        omega
      subst he
      rw [hrun, ← hsz, runE_end] at q
      exact ⟨_, rfl, q⟩
/-- a lowercase letter, then letters and digits -/
def isW (s : List Nat) : Bool := match s with
  | [] => false
  | c :: r => lc c && r.all an
theorem takeWhile_all {α : Type} (p : α → Bool) : ∀ l : List α, ((l.takeWhile p).length = l.length) ↔ l.all p = true
  | [] => by simp
  | x :: l => by
    rw [List.takeWhile_cons, List.all_cons]
    cases h : p x with
    | false => simp
    | true => simp [takeWhile_all p l]
theorem isW_run {c : Nat} {r : List Nat} (h : lc c = true) : decide (runE (c :: r) 0 = (c :: r).length) = r.all an := by
  have ha : an c = true := by unfold an; rw [h]; rfl
  have e : runE (c :: r) 0 = 1 + (r.takeWhile an).length := by
    unfold runE
    rw [List.drop_zero, List.takeWhile_cons, if_pos ha, List.length_cons]
    omega
  rw [e, List.length_cons]
  have k := takeWhile_all an r
  cases h2 : r.all an with
  | true => rw [decide_eq_true_eq]; have := k.mpr h2; omega
  | false =>
    rw [decide_eq_false_iff_not]
    intro z
    have := k.mp (by omega)
    rw [h2] at this
    cases this
def spWord : Sp := fun vs H Q _ => ∃ z : Str, vs = [.str z] ∧ z.length ≤ 100000 ∧ Q (.bl (isW z.cps.toList)) H
theorem str_nil {z : Str} (h : z.cps.toList = []) : z = Str.empty := by
  obtain ⟨⟨l⟩⟩ := z
  simp only at h
  rw [h]
  rfl
theorem ok_is_word {f fE : Addr} {fd dE : FuncData} (F : Fun K "is_word" "is_word" S_is_word f fd) (FE : Fun K "_end_of_run" "_end_of_run" S_end_of_run fE dE) (bE : Binds K dE ["text", "begin"] []) (gE : mg "_end_of_run" = some (.ref fE)) (B : TkB mg) : FnOk P w K mg base CX0 2 f fd ["text"] spWord := by
  have GE : FnOk P w K mg base CX0 1 fE dE ["text", "begin"] spEnd := ok_end FE B
  refine F.ok sc_is_word (fun vs H Q E h => ?_) (fun cdv A outer s H vs Q E hr h => ?_)
  · obtain ⟨z, rfl, _⟩ := h; rfl
  · obtain ⟨z, rfl, hz, q⟩ := h
    obtain ⟨t1, m1⟩ := B.let_
    refine ⟨_, pss_one (ps_ret (pe_and (pe_cmpR op_ne (pv 0) pe_str (nomark _)) (pe_and (pe_cmpR op_inS (pe_ix ix_str (pv 0) pe_int (fun _ _ => rfl)) (pe_glob (by rfl) m1 (v := .str LET) ⟨t1, rfl⟩) (by rfl))
      (pe_one (pe_cmpR op_eq (pe_call GE hr (by rfl) gE FE.kp bE .nil pass0 (pa_cons (pv 0) (pa_cons pe_int pa_nil))) (pe_callB call_len_str (by rfl) B.len PySem.boot_len (pa_cons (pv 0) pa_nil)) (nomark _)))))), ?_⟩
    refine ⟨_, rfl, rfl, _, rfl, ?_⟩
    cases hs : z.cps.toList with
    | nil =>
      have e := str_nil hs
      subst e
      rw [hs] at q
      refine iteF q
    | cons c r =>
      have ne : z ≠ Str.ofString "" := fun e => by
        have e0 : (Str.ofString "").cps.toList = [] := by decide +kernel
        rw [e, e0] at hs
        cases hs
      rw [hs] at q
      rw [decide_eq_false (p := V.str z = V.str (Str.ofString "")) (fun e => ne (V.str.inj e))]
      refine iteT ?_
      refine ⟨_, rfl, z, 0, c, rfl, rfl, zL hz, by rw [hs]; exact atN (j := 0) rfl, c, LET, rfl, rfl, _, rfl, ?_⟩
      refine ite2 (fun h1 => ?_) (fun h1 => ?_)
      · refine ⟨_, rfl, z, 0, rfl, hz, Nat.zero_le _, ?_⟩
        refine ⟨_, rfl, z, rfl, zL hz, rfl, ?_⟩
        have e2 : decide (V.int ((runE z.cps.toList 0 : Nat) : Int) = V.int (z.length : Int)) = r.all an := by
          rw [← isW_run (c := c) (r := r) h1, hs]
          have hl : z.length = (c :: r).length := by rw [← hs]; rfl
          rw [hl]
          exact decide_eq_decide.mpr ⟨fun k => by have := V.int.inj k; omega, fun k => by rw [k]⟩
        rw [e2]
        have e3 : isW (c :: r) = r.all an := by
          show (decide (c ∈ LET.cps.toList) && r.all an) = _
          rw [h1, Bool.true_and]
        rw [← e3]
        exact q
      · have e3 : isW (c :: r) = false := by
          show (decide (c ∈ LET.cps.toList) && r.all an) = _
          rw [Bool.eq_false_iff.mpr h1, Bool.false_and]
        rw [e3] at q
        exact q
end

end K05

namespace K05
open PySem L2 SZ VR VX StX RT
/-! ### numbers, the list of tokens -/
/-- decimal digits without leading zeros -/
def isN (s : List Nat) : Bool := match s with
  | [] => false
  | c :: r => !(decide (c = 48) && !r.isEmpty) && (c :: r).all dg
def spNum : Sp := fun vs H Q _ => ∃ z : Str, vs = [.str z] ∧ z.length ≤ 50000 ∧ ∀ H', Same H H' → Q (.bl (isN z.cps.toList)) H'
theorem one_str (c : Nat) : (⟨#[c]⟩ : Str).cps.toList = [c] := rfl
section
variable {P : Program} {w : World} {K : PySem.W.Frag} {mg : Str → Option Value} {base : Heap}
theorem ok_is_number {f : Addr} {fd : FuncData} (F : Fun K "is_number" "is_number" S_is_number f fd) (B : TkB mg) : FnOk P w K mg base CX0 1 f fd ["text"] spNum := by
  refine F.ok sc_is_number (fun vs H Q E h => ?_) (fun cdv A outer s H vs Q E hr h => ?_)
  · obtain ⟨z, rfl, _⟩ := h; rfl
  · obtain ⟨z, rfl, hz, q⟩ := h
    obtain ⟨t2, m2⟩ := B.dig
    have hzL : z.length ≤ sizeLine := zL (by omega)
    refine ⟨_, pss_cons (ps_if (PW.pt (pw_or (pt_cmpR op_eq (pv 0) pe_str (nomark _)) (pw_or1 (PW.pt (pw_and (pt_cmpR op_eq (pe_ix ix_str (pv 0) pe_int (fun _ _ => rfl)) pe_str (nomark _)) (pw_and1 (pt_cmpR op_ne (pv 0) pe_str (nomark _))))))))
        (pss_one (ps_ret pe_bl)) pss_nil)
      (pss_one (ps_ret (pe_callB (cr_all (by rfl)) (by rfl) B.all (by decide +kernel) (pa_cons
        (pe_lc (own := [("character", 1)]) (g := gName 1) (by rfl) sc_is_number.nd (pi_str (pv 0)) (blkOk_by (own := [("character", 1)]) (N := ["text", "character"]) (sc := defScope S_is_number) (by decide +kernel)) (fun _ _ _ _ _ => pg_name (i := 1) sc_is_number.nd rfl (Or.inl rfl)) (fun _ _ _ _ _ => pts_nil)
          (fun _ _ _ _ _ => pe_cmpR op_inS (pv 1) (pe_glob (by rfl) m2 (v := .str DIG) ⟨t2, rfl⟩) (by rfl))) pa_nil)))), ?_⟩
    refine ⟨_, rfl, rfl, _, rfl, ?_⟩
    cases hs : z.cps.toList with
    | nil =>
      have e := str_nil hs
      subst e
      have q := q H (Same.refl _)
      rw [hs] at q
      refine iteT ?_
      exact q
    | cons c r =>
      have ne : z ≠ Str.ofString "" := fun e => by
        have e0 : (Str.ofString "").cps.toList = [] := by decide +kernel
        rw [e, e0] at hs
        cases hs
      rw [decide_eq_false (p := V.str z = V.str (Str.ofString "")) (fun e => ne (V.str.inj e))]
      refine iteF ?_
      refine ⟨_, rfl, z, 0, c, rfl, rfl, hzL, by rw [hs]; exact atN (j := 0) rfl, rfl, _, rfl, ?_⟩
      have h0 : (Str.ofString "0") = ⟨#[48]⟩ := by decide +kernel
      have d1 : decide (V.str ⟨#[c]⟩ = V.str (Str.ofString "0")) = decide (c = 48) := by
        rw [h0]
        exact decide_eq_decide.mpr ⟨fun k => by have k := V.str.inj k; injection k with k; simpa using k, fun k => by rw [k]⟩
      have d2 : (!decide (V.str z = V.str (Str.ofString "0"))) = !decide (c = 48 ∧ r = []) := by
        rw [h0]
        congr 1
        refine decide_eq_decide.mpr ⟨fun k => ?_, fun k => ?_⟩
        · have k := V.str.inj k
          rw [k] at hs
          have k2 : [48] = c :: r := hs
          injection k2 with k3 k4
          exact ⟨k3.symm, k4.symm⟩
        · obtain ⟨rfl, rfl⟩ := k
          congr 1
          obtain ⟨⟨l⟩⟩ := z
          simp only at hs
          rw [hs]
      have q' : ∀ H', Same H H' → (decide (c = 48) && !r.isEmpty) = false → Q (.bl ((c :: r).all dg)) H' := fun H' s e => by
        have q := q H' s
        rw [hs] at q
        have e1 : isN (c :: r) = (c :: r).all dg := by
          show (!(decide (c = 48) && !r.isEmpty) && (c :: r).all dg) = _
          rw [e]
          rfl
        rw [← e1]
        exact q
      have walk : (decide (c = 48) && !r.isEmpty) = false → tRet (tCB (rAll K) (tCons (tLc (iStr (tVar 0)) (gName 1) tYes (tOp rInS (tVar 1) (tC (.str DIG))) [1]) tNil)) { nx := fun _ H' => Q .non H', rt := Q } [some (.str z), none] H := fun e => by
        refine ⟨_, rfl, z, rfl, fun D hD => lc_it (walk_str (z := z)) (fun i H' => H' D = some (.lst ((z.cps.toList.take i).map fun c => V.bl (dg c))) ∧ Same H H') ⟨upd_same, Same.new hD⟩ (fun _ _ _ _ => trivial) ?_ ?_⟩
        · rintro i x H1 H2 hi ⟨hd, s1⟩ ⟨rfl, d, hd2, rfl⟩
          have hl : z.cps.toList[i]? = some d := by rw [Array.getElem?_toList]; exact hd2
          refine ⟨rfl, ?_⟩
          refine ⟨_, rfl, d, DIG, rfl, rfl, _, hd, ?_, ?_, s1.upd0 hD⟩
          · rw [List.length_map, List.length_take]
            exact Nat.lt_of_le_of_lt (show _ ≤ 50000 by have : z.cps.size = z.length := rfl; omega) (by decide)
          · rw [upd_same, List.take_add_one, hl]
            simp [dg]
        · rintro H1 ⟨hd, s1⟩
          have hfull : z.cps.toList.take z.cps.size = c :: r := by
            rw [hs]
            have : z.cps.size = (c :: r).length := by rw [← hs]; rfl
            rw [this, List.take_length]
          rw [hfull] at hd
          refine ⟨D, (c :: r).map dg, rfl, .of (by rw [hd, List.map_map]; rfl), ?_⟩
          have := q' H1 s1 e
          rw [List.all_map]
          exact this
      rw [d1]
      refine ite2 (fun h1 => ?_) (fun h1 => ?_)
      · refine ⟨_, rfl, rfl, _, rfl, ?_⟩
        rw [d2]
        have hc : c = 48 := of_decide_eq_true h1
        cases r with
        | nil =>
          rw [decide_eq_true (p := c = 48 ∧ ([] : List Nat) = []) ⟨hc, rfl⟩]
          refine iteF ?_
          exact walk (by simp)
        | cons c2 r2 =>
          rw [decide_eq_false (p := c = 48 ∧ c2 :: r2 = []) (fun k => nomatch k.2)]
          refine iteT ?_
          have q := q H (Same.refl _)
          rw [hs] at q
          have e1 : isN (c :: c2 :: r2) = false := by
            show (!(decide (c = 48) && !(c2 :: r2).isEmpty) && (c :: c2 :: r2).all dg) = _
            rw [h1]
            rfl
          rw [e1] at q
          exact q
      · refine iteF ?_
        exact walk (by rw [Bool.eq_false_iff.mpr h1, Bool.false_and])
end

end K05

namespace K05
open PySem L2 SZ VR VX StX RT
/-- where the next token may begin -/
def nxt (s : List Nat) (a : Nat) : Nat := max (a + 1) (runE s a)
theorem nxt_gt (s : List Nat) (a : Nat) : a < nxt s a := Nat.lt_of_lt_of_le (Nat.lt_succ_self a) (Nat.le_max_left _ _)
theorem nxt_le {s : List Nat} {a : Nat} (h : a < s.length) : nxt s a ≤ s.length := Nat.max_le.mpr ⟨h, runE_le (Nat.le_of_lt h)⟩
/-- the tokens from a on, each with its position; the end is not among them -/
def toks (s : List Nat) (a : Nat) : List (List Nat × Nat) :=
  if h : a < s.length then (if gp s[a] = true then [] else [((s.drop a).take (nxt s a - a), a)]) ++ toks s (nxt s a) else []
termination_by s.length - a
decreasing_by have := nxt_gt s a; omega
theorem toks_gap {s : List Nat} {a c : Nat} (hc : s[a]? = some c) (g : gp c = true) : toks s a = toks s (nxt s a) := by
  have hl : a < s.length := (List.getElem?_eq_some_iff.mp hc).1
  have e : s[a] = c := by
    rw [List.getElem?_eq_getElem hl] at hc
    exact Option.some.inj hc
  rw [toks, dif_pos hl, e, if_pos g, List.nil_append]
theorem toks_tok {s : List Nat} {a c : Nat} (hc : s[a]? = some c) (g : gp c = false) : toks s a = ((s.drop a).take (nxt s a - a), a) :: toks s (nxt s a) := by
  have hl : a < s.length := (List.getElem?_eq_some_iff.mp hc).1
  have e : s[a] = c := by
    rw [List.getElem?_eq_getElem hl] at hc
    exact Option.some.inj hc
  rw [toks, dif_pos hl, e, if_neg (by rw [g]; exact Bool.false_ne_true), List.singleton_append]
theorem toks_end {s : List Nat} {a : Nat} (h : ¬ a < s.length) : toks s a = [] := by rw [toks, dif_neg h]
/-- v is a pair (token, position) -/
def TokAt (H : Hp) (v : V) (t : List Nat × Nat) : Prop := ∃ p : Addr, v = .ref p ∧ H p = some (.tup [.str ⟨t.1.toArray⟩, .int (t.2 : Int)])
/-- a list of tokens at l -/
def TkL (H : Hp) (l : Addr) (ts : List (List Nat × Nat)) : Prop := ∃ vs : List V, H l = some (.lst vs) ∧ Paired (TokAt H) vs ts
theorem TokAt.same {H H' : Hp} {v : V} {t : List Nat × Nat} (h : TokAt H v t) (s : Same H H') : TokAt H' v t := let ⟨p, e, q⟩ := h; ⟨p, e, s _ _ q⟩
/-- the list grows by a pair that was just laid at p -/
theorem TkL.app {H : Hp} {l p : Addr} {vs : List V} {ts : List (List Nat × Nat)} {t : List Nat × Nat} (hl : H l = some (.lst vs)) (hv : Paired (TokAt H) vs ts) (hp : H p = none) :
    TkL (upd (upd H p (.tup [.str ⟨t.1.toArray⟩, .int (t.2 : Int)])) l (.lst (vs ++ [.ref p]))) l (ts ++ [t]) := by
  have ne : p ≠ l := fun e => by rw [e, hl] at hp; cases hp
  refine ⟨_, upd_same, (L2.Paired.mapP hv fun v t' h => ?_).snoc ⟨p, rfl, by rw [upd_ne ne, upd_same]⟩⟩
  obtain ⟨q, e, hq⟩ := h
  refine ⟨q, e, ?_⟩
  rw [upd_ne (fun z => by rw [z, hl] at hq; cases hq), upd_ne (fun z => by rw [z, hp] at hq; cases hq)]
  exact hq
def spToks : Sp := fun vs H Q _ => ∃ z : Str, vs = [.str z] ∧ z.length ≤ 50000 ∧ ∀ (l : Addr) (H' : Hp), H l = none → Same H H' → TkL H' l (toks z.cps.toList 0 ++ [([], z.length)]) → Q (.ref l) H'
theorem cut_eq {z : Str} {a e : Nat} (ha : a ≤ z.length) (he : e ≤ z.length) : cutS z (some (a : Int)) (some (e : Int)) = ⟨((z.cps.toList.drop a).take (e - a)).toArray⟩ := by
  unfold cutS
  rw [HT.sIx_nat, HT.sIx_nat, Nat.min_eq_left ha, Nat.min_eq_left he]
theorem toks_len (s : List Nat) : ∀ (n a : Nat), s.length - a = n → (toks s a).length ≤ n := by
  intro n
  induction n using Nat.strongRecOn with
  | ind n ih =>
    intro a e
    by_cases hl : a < s.length
    · have hc : s[a]? = some s[a] := List.getElem?_eq_getElem hl
      have h1 := nxt_gt s a
      have h2 := ih (s.length - nxt s a) (by omega) (nxt s a) rfl
      cases g : gp s[a] with
      | true => rw [toks_gap hc g]; omega
      | false => rw [toks_tok hc g, List.length_cons]; omega
    · rw [toks_end hl]; exact Nat.zero_le _
section
variable {P : Program} {w : World} {K : PySem.W.Frag} {mg : Str → Option Value} {base : Heap}
theorem ok_tokens {f fE : Addr} {fd dE : FuncData} (F : Fun K "tokens_of" "tokens_of" S_tokens_of f fd) (FE : Fun K "_end_of_run" "_end_of_run" S_end_of_run fE dE) (bE : Binds K dE ["text", "begin"] []) (gE : mg "_end_of_run" = some (.ref fE)) (B : TkB mg) : FnOk P w K mg base CX0 2 f fd ["text"] spToks := by
  have GE : FnOk P w K mg base CX0 1 fE dE ["text", "begin"] spEnd := ok_end FE B
  refine F.ok sc_tokens_of (fun vs H Q E h => ?_) (fun cdv A outer s H vs Q E hr h => ?_)
  · obtain ⟨z, rfl, _⟩ := h; rfl
  · obtain ⟨z, rfl, hz, q⟩ := h
    obtain ⟨t1, m1⟩ := B.gap
    refine ⟨_, pss_cons (ps_set (i := 1) sc_tokens_of.nd rfl (Or.inl rfl) (pe_lst pa_nil))
      (pss_cons (ps_set (i := 2) sc_tokens_of.nd rfl (Or.inl rfl) pe_int)
      (pss_cons (ps_while PassesOwn.never (pt_cmpR op_lt (pv 2) (pe_callB call_len_str (by rfl) B.len PySem.boot_len (pa_cons (pv 0) pa_nil)) (nomark _))
        (pss_cons (ps_set (i := 3) sc_tokens_of.nd rfl (Or.inl rfl) (pe_callB (call_max2 rfl) (by rfl) B.max (by decide +kernel) (pa_cons (pe_op op_add (pv 2) pe_int) (pa_cons (pe_call GE hr (by rfl) gE FE.kp bE .nil pass0 (pa_cons (pv 0) (pa_cons (pv 2) pa_nil))) pa_nil))))
        (pss_cons (ps_if (pt_cmpR op_notInS (pe_ix ix_str (pv 0) (pv 2) (fun _ _ => rfl)) (pe_glob (by rfl) m1 (v := .str GAP) ⟨t1, rfl⟩) (by rfl))
          (pss_one (ps_expr (pe_bm PySem.F.plainAttrs_list PySem.F.slot_list_append PySem.F.type_list_append mt_append (pv 1) (pa_cons (pe_tup (pa_cons (pe_slice sl_str (pv 0) (po_some (pv 2)) (po_some (pv 3))) (pa_cons (pv 2) pa_nil))) pa_nil)))) pss_nil)
        (pss_one (ps_set (i := 2) sc_tokens_of.nd rfl (Or.inl rfl) (pv 3))))))
      (pss_cons (ps_expr (pe_bm PySem.F.plainAttrs_list PySem.F.slot_list_append PySem.F.type_list_append mt_append (pv 1) (pa_cons (pe_tup (pa_cons pe_str (pa_cons (pe_callB call_len_str (by rfl) B.len PySem.boot_len (pa_cons (pv 0) pa_nil)) pa_nil))) pa_nil)))
      (pss_one (ps_ret (pv 1)))))), ?_⟩
    refine ⟨Nat.zero_le _, fun l hl => ?_⟩
    have hsz : z.cps.toList.length = z.length := rfl
    refine ⟨fun m σ H' => ∃ (a : Nat) (vs : List V) (ts : List (List Nat × Nat)) (v3 : Option V), m = z.length - a ∧ a ≤ z.length ∧ σ = [some (.str z), some (.ref l), some (.int (a : Int)), v3] ∧ Same H H' ∧ H' l = some (.lst vs) ∧ Paired (TokAt H') vs ts ∧ ts ++ toks z.cps.toList a = toks z.cps.toList 0 ∧ ts.length ≤ a,
      ⟨_, 0, [], [], none, rfl, Nat.zero_le _, rfl, Same.new hl, upd_same, .nil, rfl, Nat.zero_le _⟩, ?_⟩
    rintro m σ H' ⟨a, vs, ts, v3, rfl, ha, rfl, s1, hv, hp, ht, hn⟩
    refine ⟨_, rfl, _, rfl, z, rfl, zL (by omega), _, _, rfl, rfl, _, rfl, ?_⟩
    refine ite2 (fun h0 => ?_) (fun h0 => ?_)
    · have hal : a < z.length := by have := of_decide_eq_true h0; omega
      have hc : z.cps.toList[a]? = some (z.cps.toList[a]) := List.getElem?_eq_getElem hal
      generalize z.cps.toList[a] = c at hc
      have g1 := nxt_gt z.cps.toList a
      have g2 : nxt z.cps.toList a ≤ z.length := nxt_le (s := z.cps.toList) hal
      have em : (if ((runE z.cps.toList a : Nat) : Int) > (a : Int) + 1 then ((runE z.cps.toList a : Nat) : Int) else (a : Int) + 1) = ((nxt z.cps.toList a : Nat) : Int) := by
        unfold nxt
        split <;> omega
      have next : ∀ (H2 : Hp) (vs2 : List V) (ts2 : List (List Nat × Nat)), Same H H2 → H2 l = some (.lst vs2) → Paired (TokAt H2) vs2 ts2 → ts2 ++ toks z.cps.toList (nxt z.cps.toList a) = toks z.cps.toList 0 → ts2.length ≤ a + 1 →
          ∃ m', m' < z.length - a ∧ ∃ (a' : Nat) (vs : List V) (ts : List (List Nat × Nat)) (v3 : Option V), m' = z.length - a' ∧ a' ≤ z.length ∧ [some (V.str z), some (.ref l), some (.int ((nxt z.cps.toList a : Nat) : Int)), some (.int ((nxt z.cps.toList a : Nat) : Int))] = [some (.str z), some (.ref l), some (.int (a' : Int)), v3] ∧ Same H H2 ∧ H2 l = some (.lst vs) ∧ Paired (TokAt H2) vs ts ∧ ts ++ toks z.cps.toList a' = toks z.cps.toList 0 ∧ ts.length ≤ a' :=
        fun H2 vs2 ts2 k1 k2 k3 k4 k5 => ⟨z.length - nxt z.cps.toList a, by omega, nxt z.cps.toList a, vs2, ts2, _, rfl, g2, rfl, k1, k2, k3, k4, by omega⟩
      refine ⟨fun σ' H2 => σ' = [some (V.str z), some (.ref l), some (.int ((nxt z.cps.toList a : Nat) : Int)), some (.int ((nxt z.cps.toList a : Nat) : Int))] ∧ ∃ (vs2 : List V) (ts2 : List (List Nat × Nat)), Same H H2 ∧ H2 l = some (.lst vs2) ∧ Paired (TokAt H2) vs2 ts2 ∧ ts2 ++ toks z.cps.toList (nxt z.cps.toList a) = toks z.cps.toList 0 ∧ ts2.length ≤ a + 1, ?_, ?_⟩
      · rintro σ' H2 ⟨rfl, vs2, ts2, k1, k2, k3, k4, k5⟩
        exact next H2 vs2 ts2 k1 k2 k3 k4 k5
      refine ⟨_, rfl, _, _, rfl, rfl, _, rfl, _, rfl, z, a, rfl, by omega, ha, _, _, rfl, ?_⟩
      rw [em]
      refine ⟨_, rfl, _, rfl, z, _, c, rfl, rfl, zL (by omega), atN hc, c, GAP, rfl, rfl, _, rfl, ?_⟩
      refine ite2 (fun h1 => ?_) (fun h1 => ?_)
      · have gf : gp c = false := by unfold gp; simpa using h1
        have vl : vs.length = ts.length := hp.length
        refine ⟨_, rfl, .inl ⟨rfl, _, .of hv⟩, _, rfl, _, rfl, _, rfl, _, rfl, _, rfl, z, rfl, zL (by omega), _, rfl, lenS (by simp), fun p hpn => ?_⟩
        have ne : p ≠ l := fun e => by rw [e, hv] at hpn; cases hpn
        refine ⟨l, vs, .ref p, rfl, rfl, by rw [upd_ne ne.symm]; exact hv, Nat.lt_of_le_of_lt (show vs.length ≤ 50000 by omega) (by decide), ?_⟩
        rw [cut_eq ha g2]
        obtain ⟨vs2, k2, k3⟩ := TkL.app (t := ((z.cps.toList.drop a).take (nxt z.cps.toList a - a), a)) hv hp hpn
        refine ⟨_, rfl, rfl, vs2, _, (s1.upN hpn).upd0 hl, k2, k3, ?_, ?_⟩
        · rw [List.append_assoc, List.singleton_append, ← toks_tok hc gf]
          exact ht
        · rw [List.length_append, List.length_singleton]; omega
      · have gt : gp c = true := by unfold gp; simpa using h1
        refine ⟨_, rfl, rfl, vs, ts, s1, hv, hp, ?_, by omega⟩
        rw [← toks_gap hc gt]
        exact ht
    · have hE : ¬ a < z.length := fun k => h0 (decide_eq_true (by omega))
      rw [toks_end (s := z.cps.toList) hE, List.append_nil] at ht
      subst ht
      have vl : vs.length = (toks z.cps.toList 0).length := hp.length
      refine ⟨_, rfl, .inl ⟨rfl, _, .of hv⟩, _, rfl, z, rfl, zL (by omega), lenS (by simp), fun p hpn => ?_⟩
      have ne : p ≠ l := fun e => by rw [e, hv] at hpn; cases hpn
      refine ⟨l, vs, .ref p, rfl, rfl, by rw [upd_ne ne.symm]; exact hv, Nat.lt_of_le_of_lt (show vs.length ≤ 50000 by omega) (by decide), ?_⟩
      refine ⟨_, rfl, q l _ hl ((s1.upN hpn).upd0 hl) ?_⟩
      exact TkL.app (t := ([], z.length)) hv hp hpn
end

end K05

namespace K05
open PySem L2 SZ VR VX StX RT
/-! ### the class Reader -/
/-- a reader stands at R: its tokens ts, k of them passed -/
def RdAt (C : Addr) (H : Hp) (R : Addr) (ts : List (List Nat × Nat)) (k : Nat) : Prop := ∃ dx l : Addr, H R = some (.ins C dx [("_tokens", .ref l), ("_at", .int (k : Int))]) ∧ H dx = some (.own R) ∧ TkL H l ts
/-- all else is kept -/
def ButR (R : Addr) (H H' : Hp) : Prop := ∀ b o, H b = some o → b ≠ R → H' b = some o
theorem TkL.but {R l : Addr} {H H' : Hp} {ts : List (List Nat × Nat)} {C dx : Addr} {fs : List (Str × V)} (h : TkL H l ts) (hR : H R = some (.ins C dx fs)) (s : ButR R H H') : TkL H' l ts := by
  obtain ⟨vs, h1, h2⟩ := h
  refine ⟨vs, s _ _ h1 (fun e => by rw [e, hR] at h1; cases h1), L2.Paired.mapP h2 fun v t ⟨p, e, hp⟩ => ⟨p, e, s _ _ hp (fun e => by rw [e, hR] at hp; cases hp)⟩⟩
theorem RdAt.step {C R : Addr} {H : Hp} {dx l : Addr} {ts : List (List Nat × Nat)} {k : Nat} {j : Nat} (h1 : H R = some (.ins C dx [("_tokens", .ref l), ("_at", .int (k : Int))])) (h2 : H dx = some (.own R)) (h3 : TkL H l ts) :
    RdAt C (upd H R (.ins C dx [("_tokens", .ref l), ("_at", .int (j : Int))])) R ts j ∧ ButR R H (upd H R (.ins C dx [("_tokens", .ref l), ("_at", .int (j : Int))])) := by
  have b : ButR R H (upd H R (.ins C dx [("_tokens", .ref l), ("_at", .int (j : Int))])) := fun b o e n => by rw [upd_ne n]; exact e
  exact ⟨⟨dx, l, upd_same, b _ _ h2 (fun e => by rw [e, h1] at h2; cases h2), h3.but h1 b⟩, b⟩
/-- what the class's own objects say -/
structure RdC (K : PySem.W.Frag) (mg : Str → Option Value) (C : Addr) : Prop where
  kit : InsKit K C
  nT : NoAttr K C "_tokens"
  nA : NoAttr K C "_at"
theorem Paired.at' {α β : Type} {F : α → β → Prop} : ∀ {xs : List α} {ys : List β} {i : Nat} {y : β}, Paired F xs ys → ys[i]? = some y → ∃ x, xs[i]? = some x ∧ F x y
  | _, _, _, _, .nil, h => by simp at h
  | _, _, 0, _, .cons (a := a) f _, h => by
    simp at h
    subst h
    exact ⟨a, rfl, f⟩
  | _, _, i + 1, _, .cons _ r, h => by
    obtain ⟨x, e, f⟩ := Paired.at' r (by simpa using h)
    exact ⟨x, by simpa using e, f⟩
/-- the next token, the reader as it was -/
def spTok (C : Addr) : Sp := fun vs H Q _ => ∃ (R : Addr) (ts : List (List Nat × Nat)) (k : Nat) (t : List Nat × Nat), vs = [.ref R] ∧ RdAt C H R ts k ∧ ts[k]? = some t ∧ Q (.str ⟨t.1.toArray⟩) H
def spPlace (C : Addr) : Sp := fun vs H Q _ => ∃ (R : Addr) (ts : List (List Nat × Nat)) (k : Nat) (t : List Nat × Nat), vs = [.ref R] ∧ RdAt C H R ts k ∧ ts[k]? = some t ∧ Q (.int (t.2 : Int)) H
def spPassAny (C : Addr) : Sp := fun vs H Q _ => ∃ (R : Addr) (ts : List (List Nat × Nat)) (k : Nat) (t : List Nat × Nat), vs = [.ref R] ∧ RdAt C H R ts k ∧ ts[k]? = some t ∧ ∀ H', RdAt C H' R ts (k + 1) → ButR R H H' → Q (.str ⟨t.1.toArray⟩) H'
def spPasses (C : Addr) : Sp := fun vs H Q _ => ∃ (R : Addr) (ts : List (List Nat × Nat)) (k : Nat) (t : List Nat × Nat) (x : Str), vs = [.ref R, .str x] ∧ RdAt C H R ts k ∧ ts[k]? = some t ∧
  ((⟨t.1.toArray⟩ ≠ x ∧ Q (.bl false) H) ∨ (⟨t.1.toArray⟩ = x ∧ ∀ H', RdAt C H' R ts (k + 1) → ButR R H H' → Q (.bl true) H'))
def spRdInit (C : Addr) : Sp := fun vs H Q _ => ∃ (R dx : Addr) (z : Str), vs = [.ref R, .str z] ∧ H R = some (.ins C dx []) ∧ H dx = some (.own R) ∧ z.length ≤ 50000 ∧ ∀ H' : Hp, ButR R H H' → RdAt C H' R (toks z.cps.toList 0 ++ [([], z.length)]) 0 → Q .non H'
section
variable {P : Program} {w : World} {K : PySem.W.Frag} {mg : Str → Option Value} {base : Heap} {C : Addr}
theorem ok_token {f : Addr} {fd : FuncData} (F : Fun K "token" "Reader.token" S_Reader_token f fd) (Z : RdC K mg C) : FnOk P w K mg base CX0 1 f fd ["self"] (spTok C) := by
  refine F.ok sc_Reader_token (fun vs H Q E h => ?_) (fun cdv A outer s H vs Q E hr h => ?_)
  · obtain ⟨R, ts, k, t, rfl, _⟩ := h; rfl
  · obtain ⟨R, ts, k, t, rfl, ⟨dx, l, hR, ho, vs, hl, hp⟩, hk, q⟩ := h
    obtain ⟨v, hv, p, rfl, hT⟩ := Paired.at' hp hk
    refine ⟨_, pss_cons (ps_asg (pe_ix ix_list (pe_fld (pv 0) rfl) (pe_fld (pv 0) rfl) (fun _ _ => rfl)) (pg_tup rfl (pgs_cons (pg_name (i := 1) sc_Reader_token.nd rfl (Or.inl rfl)) (pgs_cons (pg_name (i := 2) sc_Reader_token.nd rfl (Or.inl rfl)) pgs_nil))))
      (pss_one (ps_ret (pv 1))), ?_⟩
    refine ⟨_, rfl, R, C, dx, _, .ref l, rfl, hR, Z.kit.cl, Z.nT, rfl, _, rfl, R, C, dx, _, .int (k : Int), rfl, hR, Z.kit.cl, Z.nA, rfl, ?_⟩
    refine ⟨l, vs, (k : Int), .ref p, rfl, rfl, .of hl, atN hv, ?_⟩
    refine ⟨p, _, rfl, .of hT, rfl, _, _, rfl, _, _, rfl, rfl, ?_⟩
    exact ⟨_, rfl, q⟩
theorem ok_place {f : Addr} {fd : FuncData} (F : Fun K "place" "Reader.place" S_Reader_place f fd) (Z : RdC K mg C) : FnOk P w K mg base CX0 1 f fd ["self"] (spPlace C) := by
  refine F.ok sc_Reader_place (fun vs H Q E h => ?_) (fun cdv A outer s H vs Q E hr h => ?_)
  · obtain ⟨R, ts, k, t, rfl, _⟩ := h; rfl
  · obtain ⟨R, ts, k, t, rfl, ⟨dx, l, hR, ho, vs, hl, hp⟩, hk, q⟩ := h
    obtain ⟨v, hv, p, rfl, hT⟩ := Paired.at' hp hk
    refine ⟨_, pss_cons (ps_asg (pe_ix ix_list (pe_fld (pv 0) rfl) (pe_fld (pv 0) rfl) (fun _ _ => rfl)) (pg_tup rfl (pgs_cons (pg_name (i := 1) sc_Reader_place.nd rfl (Or.inl rfl)) (pgs_cons (pg_name (i := 2) sc_Reader_place.nd rfl (Or.inl rfl)) pgs_nil))))
      (pss_one (ps_ret (pv 2))), ?_⟩
    refine ⟨_, rfl, R, C, dx, _, .ref l, rfl, hR, Z.kit.cl, Z.nT, rfl, _, rfl, R, C, dx, _, .int (k : Int), rfl, hR, Z.kit.cl, Z.nA, rfl, ?_⟩
    refine ⟨l, vs, (k : Int), .ref p, rfl, rfl, .of hl, atN hv, ?_⟩
    refine ⟨p, _, rfl, .of hT, rfl, _, _, rfl, _, _, rfl, rfl, ?_⟩
    exact ⟨_, rfl, q⟩
theorem succ_int (k : Nat) : V.int ((k : Int) + 1) = V.int ((k + 1 : Nat) : Int) := by congr 1
theorem ok_pass_any {f fT : Addr} {fd dT : FuncData} (F : Fun K "pass_any" "Reader.pass_any" S_Reader_pass_any f fd) (FT : Fun K "token" "Reader.token" S_Reader_token fT dT) (bT : Binds K dT ["self"] []) (MT : Meth K C "token" fT) (Z : RdC K mg C) : FnOk P w K mg base CX0 2 f fd ["self"] (spPassAny C) := by
  have GT : FnOk P w K mg base CX0 1 fT dT ["self"] (spTok C) := ok_token FT Z
  refine F.ok sc_Reader_pass_any (fun vs H Q E h => ?_) (fun cdv A outer s H vs Q E hr h => ?_)
  · obtain ⟨R, ts, k, t, rfl, _⟩ := h; rfl
  · obtain ⟨R, ts, k, t, rfl, hRd, hk, q⟩ := h
    obtain ⟨dx, l, hR, ho, hL⟩ := id hRd
    refine ⟨_, pss_cons (ps_set (i := 1) sc_Reader_pass_any.nd rfl (Or.inl rfl) (pe_meth0 (pv 0) Z.kit.cl MT GT hr bT .nil pass0))
      (pss_cons (ps_fldaug (pv 0) pe_int in_add) (pss_one (ps_ret (pv 1)))), ?_⟩
    refine ⟨_, rfl, R, dx, _, rfl, hR, rfl, R, ts, k, t, rfl, hRd, hk, ?_⟩
    refine ⟨_, rfl, R, C, dx, _, .int (k : Int), rfl, hR, Z.kit.cl, Z.nA, rfl, (k : Int), 1, rfl, rfl, dx, _, hR, (by show 2 < 1000; decide), ?_⟩
    rw [succ_int]
    obtain ⟨s1, s2⟩ := RdAt.step (j := k + 1) hR ho hL
    exact ⟨_, rfl, q _ s1 s2⟩
theorem ok_passes {f fT : Addr} {fd dT : FuncData} (F : Fun K "passes" "Reader.passes" S_Reader_passes f fd) (FT : Fun K "token" "Reader.token" S_Reader_token fT dT) (bT : Binds K dT ["self"] []) (MT : Meth K C "token" fT) (Z : RdC K mg C) : FnOk P w K mg base CX0 2 f fd ["self", "token"] (spPasses C) := by
  have GT : FnOk P w K mg base CX0 1 fT dT ["self"] (spTok C) := ok_token FT Z
  refine F.ok sc_Reader_passes (fun vs H Q E h => ?_) (fun cdv A outer s H vs Q E hr h => ?_)
  · obtain ⟨R, ts, k, t, x, rfl, _⟩ := h; rfl
  · obtain ⟨R, ts, k, t, x, rfl, hRd, hk, q⟩ := h
    obtain ⟨dx, l, hR, ho, hL⟩ := id hRd
    refine ⟨_, pss_cons (ps_if (pt_cmpR op_ne (pe_meth0 (pv 0) Z.kit.cl MT GT hr bT .nil pass0) (pv 1) (nomark _)) (pss_one (ps_ret pe_bl)) pss_nil)
      (pss_cons (ps_fldaug (pv 0) pe_int in_add) (pss_one (ps_ret pe_bl))), ?_⟩
    refine ⟨_, rfl, R, dx, _, rfl, hR, rfl, R, ts, k, t, rfl, hRd, hk, _, rfl, rfl, _, rfl, ?_⟩
    rcases q with ⟨ne, q⟩ | ⟨e, q⟩
    · rw [decide_eq_false (p := V.str ⟨t.1.toArray⟩ = V.str x) (fun z => ne (V.str.inj z))]
      exact iteT q
    · rw [decide_eq_true (p := V.str ⟨t.1.toArray⟩ = V.str x) (by rw [e])]
      refine iteF ?_
      refine ⟨_, rfl, R, C, dx, _, .int (k : Int), rfl, hR, Z.kit.cl, Z.nA, rfl, (k : Int), 1, rfl, rfl, dx, _, hR, (by show 2 < 1000; decide), ?_⟩
      rw [succ_int]
      obtain ⟨s1, s2⟩ := RdAt.step (j := k + 1) hR ho hL
      exact q _ s1 s2
theorem ok_rd_init {f fT fE : Addr} {fd dT dE : FuncData} (F : Fun K "__init__" "Reader.__init__" S_Reader___init__ f fd) (FT : Fun K "tokens_of" "tokens_of" S_tokens_of fT dT) (bT : Binds K dT ["text"] []) (gT : mg "tokens_of" = some (.ref fT))
    (FE : Fun K "_end_of_run" "_end_of_run" S_end_of_run fE dE) (bE : Binds K dE ["text", "begin"] []) (gE : mg "_end_of_run" = some (.ref fE)) (B : TkB mg) (Z : RdC K mg C) : FnOk P w K mg base CX0 3 f fd ["self", "text"] (spRdInit C) := by
  have GT : FnOk P w K mg base CX0 2 fT dT ["text"] spToks := ok_tokens FT FE bE gE B
  refine F.ok sc_Reader___init__ (fun vs H Q E h => ?_) (fun cdv A outer s H vs Q E hr h => ?_)
  · obtain ⟨R, dx, z, rfl, _⟩ := h; rfl
  · obtain ⟨R, dx, z, rfl, hR, ho, hz, q⟩ := h
    refine ⟨_, pss_cons (ps_fld (pv 0) (pe_call GT hr (by rfl) gT FT.kp bT .nil pass0 (pa_cons (pv 1) pa_nil)) rfl) (pss_one (ps_fld (pv 0) pe_int rfl)), ?_⟩
    refine ⟨_, rfl, z, rfl, hz, fun l H1 hl s1 hL => ?_⟩
    have hR1 := s1 _ _ hR
    refine ⟨_, rfl, R, C, dx, [], rfl, hR1, Z.kit.cl, Z.nT, (by show 0 < 1000; decide), ?_⟩
    refine ⟨_, rfl, R, C, dx, _, rfl, upd_same, Z.kit.cl, Z.nA, (by show 1 < 1000; decide), ?_⟩
    have b1 : ButR R H1 (upd (upd H1 R (.ins C dx (putF "_tokens" (.ref l) []))) R (.ins C dx (putF "_at" (.int 0) (putF "_tokens" (.ref l) [])))) := fun b o e n => by rw [upd_ne n, upd_ne n]; exact e
    have ho1 := s1 _ _ ho
    refine q _ (fun b o e n => b1 _ _ (s1 _ _ e) n) ⟨dx, l, upd_same, b1 _ _ ho1 (fun e => by rw [e, hR1] at ho1; cases ho1), hL.but hR1 b1⟩
end

end K05

namespace K05
open PySem L2 SZ VR VX StX RT
/-! ### raise InvalidSyntax(position) -/
/-- the class InvalidSyntax and its __init__ -/
structure SxC (P : Program) (w : World) (K : PySem.W.Frag) (mg : Str → Option Value) (base : Heap) (x : Str) (C : Addr) (f : Str) : Prop where
  O : OexC K C
  m : mg x = some (.ref C)
  i : ∃ (fI : Addr) (fd : FuncData), PySem.W.findIn K (.ref C) "__init__" = some (some (.ref fI)) ∧ PySem.W.typeIn K (.ref fI) = some (.type "function") ∧ FnOk P w K mg base CX0 1 fI fd [("self" : Str), f] (spOx K C f) ∧ Binds K fd [("self" : Str), f] []
/-- te, for any stronger wish -/
def tMono (te : TE) : TE := fun σ H Q => ∃ Q0 : VK, te σ H Q0 ∧ ∀ v H1, Q0 v H1 → Q v H1
theorem pe_tMono {X : Cx} {e : Expr} {te : TE} (he : PE X e te) : PE X e (tMono te) := ⟨fun pins s σ H Q I ⟨Q0, h, k⟩ => wpAny_mono (he.run pins s σ H Q0 I h) (fun u s' ⟨x, H1, I1, r, q⟩ => ⟨x, H1, I1, r, k _ _ q⟩) fun _ _ z => z⟩
/-- C(e) is made and raised: its dict is d, all else is kept -/
def tRaiseX (C : Addr) (f : Str) (te : TE) (W : WX) : TS := fun _ σ H => te σ H fun v H1 => ∀ (d : Addr) (H' : Hp), H1 d = none → Same H1 H' → H' d = some (.xd [(f, v)]) → W (.ref C) (some d) σ H'
theorem ps_raiseX {X : Cx} {W : WX} {x : Str} {C : Addr} {f : Str} {e : Expr} {te : TE} {p cpos pos : Pos} (G : SxC X.prog X.w X.K X.mg X.base x C f) (hc : X.calm = true) (tk : Takes X W) (hr : Room 2 X.A) (he : PE X e te) (hg : Gl X x := by rfl) (hdb : (x == ("__debug__" : Str)) = false := by decide)
    (hs : starEach [e] X.env = (false, eval e X.env) :: starEach [] X.env := by rfl) : PS X (.Raise (some (.Call (.Name x p) [e] [] cpos)) none pos) (tRaiseX C f te W) := by
  obtain ⟨fI, fd, iC, tI, F, b⟩ := G.i
  have h := ps_raise (pos := pos) hc tk (pmk_oex (ta := tCons (tMono te) tNil) (es := []) (p := p) (pos := cpos) (dvs := []) (ds := []) G.O iC tI F hr b .nil pass0 hg G.m (pa_cons (pe_tMono he) pa_nil hs) hdb hs (by rfl))
  refine ⟨fun pins s σ H D I q => h.run pins s σ H D I ⟨_, q, fun v H1 k => ⟨by simp, fun a ha => ⟨a, v, rfl, upd_same, fun dx h1 h2 => ?_⟩⟩⟩⟩
  have hd : H1 dx = none := by rw [upd_ne h2] at h1; exact h1
  refine ⟨rfl, dx, [(f, v)], upd_same, by rw [upd_ne h2, upd_same], hd, k dx _ hd (fun b o e => ?_) upd_same⟩
  have b1 : b ≠ a := ne_of_none e ha
  have b2 : b ≠ dx := ne_of_none e hd
  rw [upd_ne b2, del_ne b1, upd_ne b1, upd_ne b2, upd_ne b1]
  exact e
/-- what leaves: InvalidSyntax at position p; all but the reader at R is kept -/
def Out (CS R : Addr) (H : Hp) (p : Nat) (E : XK) : Prop := ∀ (d : Addr) (H' : Hp), ButR R H H' → H' d = some (.xd [("position", .int (p : Int))]) → E (.ref CS) (some d) H'
def spOnly (C CS : Addr) : Sp := fun vs H Q E => ∃ (R : Addr) (ts : List (List Nat × Nat)) (k : Nat) (t : List Nat × Nat) (x : Str), vs = [.ref R, .str x] ∧ RdAt C H R ts k ∧ ts[k]? = some t ∧
  ((⟨t.1.toArray⟩ = x ∧ ∀ H', RdAt C H' R ts (k + 1) → ButR R H H' → Q .non H') ∨ (⟨t.1.toArray⟩ ≠ x ∧ Out CS R H t.2 E))
def spPassEnd (C CS : Addr) : Sp := fun vs H Q E => ∃ (R : Addr) (ts : List (List Nat × Nat)) (k : Nat) (t : List Nat × Nat), vs = [.ref R] ∧ RdAt C H R ts k ∧ ts[k]? = some t ∧
  ((t.1 = [] ∧ Q .non H) ∨ (t.1 ≠ [] ∧ Out CS R H t.2 E))
section
variable {P : Program} {w : World} {K : PySem.W.Frag} {mg : Str → Option Value} {base : Heap} {C CS : Addr}
theorem ok_pass_only {f fP fT fL : Addr} {fd dP dT dL : FuncData} (F : Fun K "pass_only" "Reader.pass_only" S_Reader_pass_only f fd) (FP : Fun K "passes" "Reader.passes" S_Reader_passes fP dP) (bP : Binds K dP ["self", "token"] []) (MP : Meth K C "passes" fP)
    (FT : Fun K "token" "Reader.token" S_Reader_token fT dT) (bT : Binds K dT ["self"] []) (MT : Meth K C "token" fT) (FL : Fun K "place" "Reader.place" S_Reader_place fL dL) (bL : Binds K dL ["self"] []) (ML : Meth K C "place" fL) (Z : RdC K mg C) (G : SxC P w K mg base "InvalidSyntax" CS "position") :
    FnOk P w K mg base (L2.CX P w) 3 f fd ["self", "token"] (spOnly C CS) := by
  have GP : FnOk P w K mg base CX0 2 fP dP ["self", "token"] (spPasses C) := ok_passes FP FT bT MT Z
  have GL : FnOk P w K mg base CX0 1 fL dL ["self"] (spPlace C) := ok_place FL Z
  refine F.okX sc_Reader_pass_only (fun vs H Q E h => ?_) (fun cdv A outer s H vs Q E hr h => ?_)
  · obtain ⟨R, ts, k, t, x, rfl, _⟩ := h; rfl
  · obtain ⟨R, ts, k, t, x, rfl, hRd, hk, q⟩ := h
    obtain ⟨dx, l, hR, ho, hL⟩ := id hRd
    have hr1 : Room 1 _ := hr.mono (by decide)
    refine ⟨_, pss_one (ps_if (pt_not (pt_val (pe_meth (pv 0) Z.kit.cl MP GP hr bP .nil pass0 (pa_cons (pv 1) pa_nil))))
      (pss_one (ps_raiseX G rfl (takes_of rfl rfl rfl rfl) hr (pe_meth0 (pv 0) Z.kit.cl ML GL hr1 bL .nil pass0))) pss_nil), ?_⟩
    rcases q with ⟨e, q⟩ | ⟨ne, q⟩
    · refine ⟨_, rfl, R, dx, _, rfl, hR, rfl, _, rfl, R, ts, k, t, x, rfl, hRd, hk, .inr ⟨e, fun H' h1 h2 => ⟨true, rfl, ?_⟩⟩⟩
      refine iteF ?_
      exact q H' h1 h2
    · refine ⟨_, rfl, R, dx, _, rfl, hR, rfl, _, rfl, R, ts, k, t, x, rfl, hRd, hk, .inl ⟨ne, false, rfl, ?_⟩⟩
      refine iteT ?_
      refine ⟨_, rfl, R, dx, _, rfl, hR, rfl, R, ts, k, t, rfl, hRd, hk, fun d H' hd s1 h1 => ?_⟩
      exact q d H' (fun b o e _ => s1 _ _ e) h1
theorem ok_pass_end {f fT fL : Addr} {fd dT dL : FuncData} (F : Fun K "pass_end" "Reader.pass_end" S_Reader_pass_end f fd)
    (FT : Fun K "token" "Reader.token" S_Reader_token fT dT) (bT : Binds K dT ["self"] []) (MT : Meth K C "token" fT) (FL : Fun K "place" "Reader.place" S_Reader_place fL dL) (bL : Binds K dL ["self"] []) (ML : Meth K C "place" fL) (Z : RdC K mg C) (G : SxC P w K mg base "InvalidSyntax" CS "position") :
    FnOk P w K mg base (L2.CX P w) 3 f fd ["self"] (spPassEnd C CS) := by
  have GT : FnOk P w K mg base CX0 1 fT dT ["self"] (spTok C) := ok_token FT Z
  have GL : FnOk P w K mg base CX0 1 fL dL ["self"] (spPlace C) := ok_place FL Z
  refine F.okX sc_Reader_pass_end (fun vs H Q E h => ?_) (fun cdv A outer s H vs Q E hr h => ?_)
  · obtain ⟨R, ts, k, t, rfl, _⟩ := h; rfl
  · obtain ⟨R, ts, k, t, rfl, hRd, hk, q⟩ := h
    obtain ⟨dx, l, hR, ho, hL⟩ := id hRd
    have hr1 : Room 1 _ := hr.mono (by decide)
    refine ⟨_, pss_one (ps_if (pt_cmpR op_ne (pe_meth0 (pv 0) Z.kit.cl MT GT hr1 bT .nil pass0) pe_str (nomark _))
      (pss_one (ps_raiseX G rfl (takes_of rfl rfl rfl rfl) hr (pe_meth0 (pv 0) Z.kit.cl ML GL hr1 bL .nil pass0))) pss_nil), ?_⟩
    refine ⟨_, rfl, R, dx, _, rfl, hR, rfl, R, ts, k, t, rfl, hRd, hk, rfl, _, rfl, ?_⟩
    have e0 : (Str.ofString "") = ⟨#[]⟩ := by decide +kernel
    have em : decide (V.str ⟨t.1.toArray⟩ = V.str (Str.ofString "")) = decide (t.1 = []) := by
      rw [e0]
      refine decide_eq_decide.mpr ⟨fun z => ?_, fun z => by rw [z]⟩
      have z := V.str.inj z
      injection z with z
      simpa using z
    rw [em]
    rcases q with ⟨e, q⟩ | ⟨ne, q⟩
    · rw [decide_eq_true e]
      exact iteF q
    · rw [decide_eq_false ne]
      refine iteT ?_
      refine ⟨_, rfl, R, dx, _, rfl, hR, rfl, R, ts, k, t, rfl, hRd, hk, fun d H' hd s1 h1 => ?_⟩
      exact q d H' (fun b o e _ => s1 _ _ e) h1
end

end K05

namespace K05
open PySem L2 SZ VR VX StX RT
/-! ### names -/
abbrev KW : List Str := ["array", "for", "read", "write", "flush", "n"]
/-- a word that is no keyword -/
def isNm (z : Str) : Bool := isW z.cps.toList && !KW.contains z
structure TxB (K : PySem.W.Frag) (mg : Str → Option Value) : Prop where
  kw : ∃ a, mg "_KEYWORDS" = some (.ref a) ∧ ∀ H, SqT K H a (KW.map V.str)
  is : mg "isinstance" = none
  str : mg "str" = none
def spName (K : PySem.W.Frag) : Sp := fun vs H Q _ => ∃ v, vs = [v] ∧ ((∃ z : Str, v = .str z ∧ z.length ≤ 100000 ∧ Q (.bl (isNm z)) H) ∨ ∃ t, TyX K H v t ∧ PySem.W.kitOne K t (.type "str") = some false ∧ Q (.bl false) H)
theorem inV_str (z : Str) : ∀ l : List Str, inV (.str z) (l.map V.str) = l.contains z
  | [] => rfl
  | x :: l => by
    have ih := inV_str z l
    unfold inV at ih ⊢
    rw [List.map_cons, List.any_cons, ih, List.contains_cons]
    congr 1
    simp only [eqV]
    first | rfl | exact Bool.beq_comm .. | (rw [Bool.eq_iff_iff]; simp [eq_comm])
theorem flat_strs (l : List Str) : (l.map V.str).all flatV = true := by
  rw [List.all_map]
  exact List.all_eq_true.mpr fun _ _ => rfl
section
variable {P : Program} {w : World} {K : PySem.W.Frag} {mg : Str → Option Value} {base : Heap} {C CS : Addr}
theorem ok_is_name {f fW fE : Addr} {fd dW dE : FuncData} (F : Fun K "is_name" "is_name" S_is_name f fd) (FW : Fun K "is_word" "is_word" S_is_word fW dW) (bW : Binds K dW ["text"] []) (gW : mg "is_word" = some (.ref fW))
    (FE : Fun K "_end_of_run" "_end_of_run" S_end_of_run fE dE) (bE : Binds K dE ["text", "begin"] []) (gE : mg "_end_of_run" = some (.ref fE)) (B : TkB mg) (T : TxB K mg) : FnOk P w K mg base CX0 3 f fd ["value"] (spName K) := by
  have GW : FnOk P w K mg base CX0 2 fW dW ["text"] spWord := ok_is_word FW FE bE gE B
  refine F.ok sc_is_name (fun vs H Q E h => ?_) (fun cdv A outer s H vs Q E hr h => ?_)
  · obtain ⟨v, rfl, _⟩ := h; rfl
  · obtain ⟨v, rfl, q⟩ := h
    obtain ⟨a, ma, ha⟩ := T.kw
    refine ⟨_, pss_one (ps_ret (pe_and (pe_callB call_isi (by rfl) T.is (by decide +kernel) (pa_cons (pv 0) (pa_cons (pe_bltn (by rfl) T.str (u := .type "str") (v := .ty "str") (by decide +kernel) rfl) pa_nil)))
      (pe_and (pe_call GW hr (by rfl) gW FW.kp bW .nil pass0 (pa_cons (pv 0) pa_nil)) (pe_one (pe_cmpR op_notIn_seq (pv 0) (pe_glob (by rfl) ma (v := .ref a) rfl) (by rfl)))))), ?_⟩
    rcases q with ⟨z, rfl, hz, q⟩ | ⟨t, ty, kt, q⟩
    · refine ⟨_, rfl, .str z, .ty "str", .type "str", .type "str", true, rfl, .ty _, .base (.str z), if_pos (beq_self_eq_true _), true, rfl, ?_⟩
      refine iteT ?_
      refine ⟨_, rfl, z, rfl, hz, _, rfl, ?_⟩
      cases hw : isW z.cps.toList with
      | false =>
        have e : isNm z = false := by unfold isNm; rw [hw, Bool.false_and]
        rw [e] at q
        exact iteF q
      | true =>
        have e : isNm z = !KW.contains z := by unfold isNm; rw [hw, Bool.true_and]
        rw [e] at q
        refine iteT ?_
        refine ⟨_, rfl, a, KW.map V.str, rfl, .inr (ha H), rfl, flat_strs _, ?_⟩
        rw [inV_str]
        exact q
    · exact ⟨_, rfl, v, .ty "str", t, .type "str", false, rfl, .ty _, ty, kt, false, rfl, iteF q⟩
/-- _name(reader): the name, the reader behind it, or InvalidSyntax at it -/
def spRdName (C CS : Addr) : Sp := fun vs H Q E => ∃ (R : Addr) (ts : List (List Nat × Nat)) (k : Nat) (t : List Nat × Nat), vs = [.ref R] ∧ RdAt C H R ts k ∧ ts[k]? = some t ∧ t.1.length ≤ 100000 ∧
  ((isNm ⟨t.1.toArray⟩ = true ∧ ∀ H', RdAt C H' R ts (k + 1) → ButR R H H' → Q (.str ⟨t.1.toArray⟩) H') ∨ (isNm ⟨t.1.toArray⟩ = false ∧ Out CS R H t.2 E))
theorem ok_name {f fN fA fT fL fW fE : Addr} {fd dN dA dT dL dW dE : FuncData} (F : Fun K "_name" "_name" S_name f fd) (FN : Fun K "is_name" "is_name" S_is_name fN dN) (bN : Binds K dN ["value"] []) (gN : mg "is_name" = some (.ref fN))
    (FA : Fun K "pass_any" "Reader.pass_any" S_Reader_pass_any fA dA) (bA : Binds K dA ["self"] []) (MA : Meth K C "pass_any" fA)
    (FT : Fun K "token" "Reader.token" S_Reader_token fT dT) (bT : Binds K dT ["self"] []) (MT : Meth K C "token" fT) (FL : Fun K "place" "Reader.place" S_Reader_place fL dL) (bL : Binds K dL ["self"] []) (ML : Meth K C "place" fL)
    (FW : Fun K "is_word" "is_word" S_is_word fW dW) (bW : Binds K dW ["text"] []) (gW : mg "is_word" = some (.ref fW)) (FE : Fun K "_end_of_run" "_end_of_run" S_end_of_run fE dE) (bE : Binds K dE ["text", "begin"] []) (gE : mg "_end_of_run" = some (.ref fE))
    (B : TkB mg) (T : TxB K mg) (Z : RdC K mg C) (G : SxC P w K mg base "InvalidSyntax" CS "position") : FnOk P w K mg base (L2.CX P w) 4 f fd ["reader"] (spRdName C CS) := by
  have GN : FnOk P w K mg base CX0 3 fN dN ["value"] (spName K) := ok_is_name FN FW bW gW FE bE gE B T
  have GA : FnOk P w K mg base CX0 2 fA dA ["self"] (spPassAny C) := ok_pass_any FA FT bT MT Z
  have GT : FnOk P w K mg base CX0 1 fT dT ["self"] (spTok C) := ok_token FT Z
  have GL : FnOk P w K mg base CX0 1 fL dL ["self"] (spPlace C) := ok_place FL Z
  refine F.okX sc_name (fun vs H Q E h => ?_) (fun cdv A outer s H vs Q E hr h => ?_)
  · obtain ⟨R, ts, k, t, rfl, _⟩ := h; rfl
  · obtain ⟨R, ts, k, t, rfl, hRd, hk, hz, q⟩ := h
    obtain ⟨dx, l, hR, ho, hL⟩ := id hRd
    have hr1 : Room 1 _ := hr.mono (by decide)
    have hr2 : Room 2 _ := hr.mono (by decide)
    refine ⟨_, pss_cons (ps_if (pt_not (pt_val (pe_call GN hr (by rfl) gN FN.kp bN .nil pass0 (pa_cons (pe_meth0 (pv 0) Z.kit.cl MT GT hr1 bT .nil pass0) pa_nil))))
        (pss_one (ps_raiseX G rfl (takes_of rfl rfl rfl rfl) hr2 (pe_meth0 (pv 0) Z.kit.cl ML GL hr1 bL .nil pass0))) pss_nil)
      (pss_one (ps_ret (pe_meth0 (pv 0) Z.kit.cl MA GA hr2 bA .nil pass0))), ?_⟩
    refine ⟨_, rfl, R, dx, _, rfl, hR, rfl, R, ts, k, t, rfl, hRd, hk, _, rfl, .inl ⟨_, rfl, hz, _, rfl, ?_⟩⟩
    rcases q with ⟨e, q⟩ | ⟨e, q⟩
    · rw [e]
      refine iteF ?_
      exact ⟨_, rfl, R, dx, _, rfl, hR, rfl, R, ts, k, t, rfl, hRd, hk, q⟩
    · rw [e]
      refine iteT ?_
      refine ⟨_, rfl, R, dx, _, rfl, hR, rfl, R, ts, k, t, rfl, hRd, hk, fun d H' hd s1 h1 => ?_⟩
      exact q d H' (fun b o e _ => s1 _ _ e) h1
end

end K05

namespace K05
open PySem L2 SZ VR VX StX RT
/-! ### what the parser tells of a list of tokens -/
inductive Res (α : Type) where
  | ok (v : α) (k : Nat)
  | syn (p : Nat)
  | big (w : Str)
def tk (ts : List (List Nat × Nat)) (k : Nat) : List Nat := ((ts[k]?).getD ([], 0)).1
def ps (ts : List (List Nat × Nat)) (k : Nat) : Nat := ((ts[k]?).getD ([], 0)).2
theorem tk_of {ts : List (List Nat × Nat)} {k : Nat} {t : List Nat × Nat} (h : ts[k]? = some t) : tk ts k = t.1 ∧ ps ts k = t.2 := by
  unfold tk ps
  rw [h]
  exact ⟨rfl, rfl⟩
theorem at_tk {ts : List (List Nat × Nat)} {k : Nat} (h : k < ts.length) : ts[k]? = some (tk ts k, ps ts k) := by
  unfold tk ps
  rw [List.getElem?_eq_getElem h]
  rfl
/-- the end stands behind every token, and none is long -/
structure Snt (ts : List (List Nat × Nat)) : Prop where
  go : ∀ k, k < ts.length → tk ts k ≠ [] → k + 1 < ts.length
  sm : ∀ k, (tk ts k).length ≤ 50000
  ln : ts.length ≤ 100000
def isNmL (s : List Nat) : Bool := isNm ⟨s.toArray⟩
def numVal (s : List Nat) : Int := ((NumText.digitsVal s : Nat) : Int)
/-- TooLarge(w) leaves; all but the reader at R is kept -/
def OutW (CT R : Addr) (H : Hp) (x : Str) (E : XK) : Prop := ∀ (d : Addr) (H' : Hp), ButR R H H' → H' d = some (.xd [("word", .str x)]) → E (.ref CT) (some d) H'
theorem ButR.trans {R : Addr} {H H1 H2 : Hp} (a : ButR R H H1) (b : ButR R H1 H2) : ButR R H H2 := fun c o e n => b c o (a c o e n) n
theorem ButR.of {R : Addr} {H H' : Hp} (s : Same H H') : ButR R H H' := fun b o e _ => s b o e
theorem RdAt.same {C R : Addr} {H H' : Hp} {ts : List (List Nat × Nat)} {k : Nat} (h : RdAt C H R ts k) (s : Same H H') : RdAt C H' R ts k := by
  obtain ⟨dx, l, h1, h2, vs, h3, h4⟩ := h
  exact ⟨dx, l, s _ _ h1, s _ _ h2, vs, s _ _ h3, L2.Paired.mapP h4 fun v t q => q.same s⟩
theorem dg_iff (c : Nat) : dg c = (decide (48 ≤ c) && decide (c ≤ 57)) := by
  have e : DIG.cps.toList = [48, 49, 50, 51, 52, 53, 54, 55, 56, 57] := by decide +kernel
  unfold dg
  rw [e, Bool.eq_iff_iff]
  simp
  omega
theorem isN_val {s : List Nat} (h : isN s = true) (hl : s.length ≤ 4300) : PySem.intText? ⟨s.toArray⟩ = some (numVal s) := by
  cases s with
  | nil => cases h
  | cons c r =>
    have h2 : (c :: r).all dg = true := by
      have z : (!(decide (c = 48) && !r.isEmpty) && (c :: r).all dg) = true := h
      exact (Bool.and_eq_true_iff.mp z).2
    refine SX.int_S ?_ (by simp) hl
    rw [← h2]
    congr 1
    funext x
    exact (dg_iff x).symm
def spNumber (C CS CT : Addr) : Sp := fun vs H Q E => ∃ (R : Addr) (ts : List (List Nat × Nat)) (k : Nat), vs = [.ref R] ∧ RdAt C H R ts k ∧ k < ts.length ∧ Snt ts ∧
  ((isN (tk ts k) = false ∧ Out CS R H (ps ts k) E) ∨ (isN (tk ts k) = true ∧ 150 < (tk ts k).length ∧ OutW CT R H "numbers" E) ∨
   (isN (tk ts k) = true ∧ (tk ts k).length ≤ 150 ∧ ∀ H', RdAt C H' R ts (k + 1) → ButR R H H' → Q (.int (numVal (tk ts k))) H'))
theorem Out.but {CS R : Addr} {H H1 : Hp} {p : Nat} {E : XK} (h : Out CS R H p E) (b : ButR R H H1) : Out CS R H1 p E := fun d H' b' e => h d H' (b.trans b') e
theorem OutW.but {CS R : Addr} {H H1 : Hp} {p : Str} {E : XK} (h : OutW CS R H p E) (b : ButR R H H1) : OutW CS R H1 p E := fun d H' b' e => h d H' (b.trans b') e
section
variable {P : Program} {w : World} {K : PySem.W.Frag} {mg : Str → Option Value} {base : Heap} {C CS CT : Addr}
theorem ok_number {f fA fT fL fI : Addr} {fd dA dT dL dI : FuncData} (F : Fun K "pass_number" "Reader.pass_number" S_Reader_pass_number f fd) (FA : Fun K "pass_any" "Reader.pass_any" S_Reader_pass_any fA dA) (bA : Binds K dA ["self"] []) (MA : Meth K C "pass_any" fA)
    (FT : Fun K "token" "Reader.token" S_Reader_token fT dT) (bT : Binds K dT ["self"] []) (MT : Meth K C "token" fT) (FL : Fun K "place" "Reader.place" S_Reader_place fL dL) (bL : Binds K dL ["self"] []) (ML : Meth K C "place" fL)
    (FI : Fun K "is_number" "is_number" S_is_number fI dI) (bI : Binds K dI ["text"] []) (gI : mg "is_number" = some (.ref fI)) (B : TkB mg)
    (hlen : mg "len" = none) (hint : mg "int" = none) (hmd : ∃ t, mg "_MOST_DIGITS" = some (.int 150 t))
    (Z : RdC K mg C) (GS : SxC P w K mg base "InvalidSyntax" CS "position") (G : SxC P w K mg base "TooLarge" CT "word") : FnOk P w K mg base (L2.CX P w) 3 f fd ["self"] (spNumber C CS CT) := by
  have GA : FnOk P w K mg base CX0 2 fA dA ["self"] (spPassAny C) := ok_pass_any FA FT bT MT Z
  have GT : FnOk P w K mg base CX0 1 fT dT ["self"] (spTok C) := ok_token FT Z
  have GL : FnOk P w K mg base CX0 1 fL dL ["self"] (spPlace C) := ok_place FL Z
  have GI : FnOk P w K mg base CX0 1 fI dI ["text"] spNum := ok_is_number FI B
  obtain ⟨t0, m0⟩ := hmd
  refine F.okX sc_Reader_pass_number (fun vs H Q E h => ?_) (fun cdv A outer s H vs Q E hr h => ?_)
  · obtain ⟨R, ts, k, rfl, _⟩ := h; rfl
  · obtain ⟨R, ts, k, rfl, hRd, hkl, hS, q⟩ := h
    obtain ⟨dx, l, hR, ho, hL⟩ := id hRd
    have hk := at_tk hkl
    have hr1 : Room 1 _ := hr.mono (by decide)
    refine ⟨_, pss_cons (ps_if (pt_not (pt_val (pe_call GI hr1 (by rfl) gI FI.kp bI .nil pass0 (pa_cons (pe_meth0 (pv 0) Z.kit.cl MT GT hr1 bT .nil pass0) pa_nil))))
        (pss_one (ps_raiseX GS rfl (takes_of rfl rfl rfl rfl) hr (pe_meth0 (pv 0) Z.kit.cl ML GL hr1 bL .nil pass0))) pss_nil)
      (pss_cons (ps_if (pt_cmpR op_gt (pe_callB call_len_str (by rfl) hlen PySem.boot_len (pa_cons (pe_meth0 (pv 0) Z.kit.cl MT GT hr1 bT .nil pass0) pa_nil)) (pe_glob (by rfl) m0 (v := .int 150) ⟨t0, rfl⟩) (nomark _))
        (pss_one (ps_raiseX G rfl (takes_of rfl rfl rfl rfl) hr pe_str)) pss_nil)
      (pss_one (ps_ret (pe_callTy call_int_str (by rfl) hint (by decide +kernel) (pa_cons (pe_meth0 (pv 0) Z.kit.cl MA GA hr bA .nil pass0) pa_nil))))), ?_⟩
    have hlz : (⟨(tk ts k).toArray⟩ : Str).length = (tk ts k).length := by show (tk ts k).toArray.size = _; simp
    have hsm := hS.sm k
    refine ⟨_, rfl, R, dx, _, rfl, hR, rfl, R, ts, k, _, rfl, hRd, hk, _, rfl, by rw [hlz]; exact hsm, fun H1 s1 => ⟨_, rfl, ?_⟩⟩
    have hRd1 := hRd.same s1
    have hR1 := s1 _ _ hR
    rcases q with ⟨hN, q⟩ | q
    · rw [hN]
      refine iteT ?_
      refine ⟨_, rfl, R, dx, _, rfl, hR1, rfl, R, ts, k, _, rfl, hRd1, hk, fun d H' hd s2 h1 => ?_⟩
      exact q d H' ((ButR.of s1).trans (ButR.of s2)) h1
    have hN : isN (tk ts k) = true := by rcases q with ⟨h, _⟩ | ⟨h, _⟩ <;> exact h
    rw [hN]
    refine iteF ?_
    refine ⟨_, rfl, R, dx, _, rfl, hR1, rfl, R, ts, k, _, rfl, hRd1, hk, _, rfl, zL (by rw [hlz]; omega), _, _, rfl, rfl, _, rfl, ?_⟩
    rw [hlz]
    rcases q with ⟨_, hb, q⟩ | ⟨_, hb, q⟩
    · rw [decide_eq_true (p := (150 : Int) < ((tk ts k).length : Int)) (by omega)]
      refine iteT fun d H' hd s2 h1 => ?_
      exact q d H' ((ButR.of s1).trans (ButR.of s2)) h1
    · rw [decide_eq_false (p := (150 : Int) < ((tk ts k).length : Int)) (by omega)]
      refine iteF ?_
      refine ⟨_, rfl, R, dx, _, rfl, hR1, rfl, R, ts, k, _, rfl, hRd1, hk, fun H' h1 h2 => ⟨⟨(tk ts k).toArray⟩, numVal (tk ts k), rfl, isN_val hN (by omega), by rw [hlz]; omega, q H' h1 ((ButR.of s1).trans h2)⟩⟩
end

end K05

namespace K05
open PySem L2 SZ VR VX StX RT
/-! ### parts of a sum -/
def partLoop (ts : List (List Nat × Nat)) (idx : Bool) : Nat → Nat → Nat → Res (Nat × List Nat)
  | 0, _, _ => .syn 0
  | f + 1, k, pw =>
    if tk ts k = [110] then (if tk ts (k + 1) = [42] then partLoop ts idx f (k + 2) (pw + 1) else .ok (pw + 1, []) (k + 1))
    else if idx = true ∧ isNmL (tk ts k) = true then .ok (pw, tk ts k) (k + 1) else .syn (ps ts k)
def partFin (n : Int) : Res (Nat × List Nat) → Res (Int × Nat × List Nat)
  | .ok (pw, c) k => if 3 < pw then .big "degree" else .ok (n, pw, c) k
  | .syn p => .syn p
  | .big w => .big w
def partM (ts : List (List Nat × Nat)) (idx : Bool) (k : Nat) : Res (Int × Nat × List Nat) :=
  if isN (tk ts k) = true then (if 150 < (tk ts k).length then .big "numbers" else partFin (numVal (tk ts k)) (if tk ts (k + 1) = [42] then partLoop ts idx ts.length (k + 2) 0 else .ok (0, []) (k + 1)))
  else partFin 1 (partLoop ts idx ts.length k 0)
/-- how a def that reads at R leaves: with a value and the reader behind what was read, or by an error -/
def Ends' {α : Type} (C CS CT R : Addr) (H : Hp) (ts : List (List Nat × Nat)) (val : α → Hp → V → Prop) (r : Res α) (Q : VK) (E : XK) : Prop :=
  match r with
  | .ok v k => ∀ (x : V) (H' : Hp), RdAt C H' R ts k → k < ts.length → ButR R H H' → val v H' x → Q x H'
  | .syn p => Out CS R H p E
  | .big w => OutW CT R H w E
def spPart (C CS CT : Addr) : Sp := fun vs H Q E => ∃ (R : Addr) (ts : List (List Nat × Nat)) (k : Nat) (idx : Bool), vs = [.ref R, .bl idx] ∧ RdAt C H R ts k ∧ k < ts.length ∧ Snt ts ∧
  Ends' C CS CT R H ts (fun v H' x => ∃ p : Addr, x = .ref p ∧ H' p = some (.tup [.int v.1, .int (v.2.1 : Int), .str ⟨v.2.2.toArray⟩])) (partM ts idx k) Q E
theorem tkEq {s : List Nat} {c : Nat} {x : Str} (hx : x = ⟨#[c]⟩) : (⟨s.toArray⟩ : Str) = x ↔ s = [c] := by
  rw [hx]
  constructor
  · intro z
    injection z with z
    simpa using z
  · intro z
    rw [z]
structure PtB (mg : Str → Option Value) : Prop where
  pw : ∃ t, mg "_MOST_POWER" = some (.int 3 t)
/-- everything that reads names and numbers -/
structure RdS (P : Program) (w : World) (K : PySem.W.Frag) (mg : Str → Option Value) (base : Heap) (C CS CT : Addr) : Prop where
  Z : RdC K mg C
  tok : ∃ f fd, Meth K C "token" f ∧ Binds K fd ["self"] [] ∧ FnOk P w K mg base CX0 1 f fd ["self"] (spTok C)
  place : ∃ f fd, Meth K C "place" f ∧ Binds K fd ["self"] [] ∧ FnOk P w K mg base CX0 1 f fd ["self"] (spPlace C)
  any : ∃ f fd, Meth K C "pass_any" f ∧ Binds K fd ["self"] [] ∧ FnOk P w K mg base CX0 2 f fd ["self"] (spPassAny C)
  passes : ∃ f fd, Meth K C "passes" f ∧ Binds K fd ["self", "token"] [] ∧ FnOk P w K mg base CX0 2 f fd ["self", "token"] (spPasses C)
  isn : ∃ f fd, mg "is_number" = some (.ref f) ∧ PySem.W.keepIn K (.ref f) = true ∧ Binds K fd ["text"] [] ∧ FnOk P w K mg base CX0 1 f fd ["text"] spNum
  name : ∃ f fd, mg "_name" = some (.ref f) ∧ PySem.W.keepIn K (.ref f) = true ∧ Binds K fd ["reader"] [] ∧ FnOk P w K mg base (L2.CX P w) 4 f fd ["reader"] (spRdName C CS)
  number : ∃ f fd, Meth K C "pass_number" f ∧ Binds K fd ["self"] [] ∧ FnOk P w K mg base (L2.CX P w) 3 f fd ["self"] (spNumber C CS CT)
  GS : SxC P w K mg base "InvalidSyntax" CS "position"
  GT : SxC P w K mg base "TooLarge" CT "word"
section
variable {P : Program} {w : World} {K : PySem.W.Frag} {mg : Str → Option Value} {base : Heap} {C CS CT : Addr}
theorem ok_part {f : Addr} {fd : FuncData} (F : Fun K "_part" "_part" S_part f fd) (Y : RdS P w K mg base C CS CT) (B : PtB mg) : FnOk P w K mg base (L2.CX P w) 5 f fd ["reader", "in_index"] (spPart C CS CT) := by
  have Z := Y.Z
  obtain ⟨fT, dT, MT, bT, GTk⟩ := Y.tok
  obtain ⟨fL, dL, ML, bL, GL⟩ := Y.place
  obtain ⟨fP, dP, MP, bP, GP⟩ := Y.passes
  obtain ⟨fI, dI, gI, kI, bI, GI⟩ := Y.isn
  obtain ⟨fN, dN, gN, kN, bN, GN⟩ := Y.name
  obtain ⟨fU, dU, MU, bU, GU⟩ := Y.number
  obtain ⟨t0, m0⟩ := B.pw
  refine F.okX sc_part (fun vs H Q E h => ?_) (fun cdv A outer s H vs Q E hr h => ?_)
  · obtain ⟨R, ts, k, idx, rfl, _⟩ := h; rfl
  · obtain ⟨R, ts, k, idx, rfl, hRd, hkl, hS, q⟩ := h
    have hr1 : Room 1 _ := hr.mono (by decide)
    have hr2 : Room 2 _ := hr.mono (by decide)
    have hr3 : Room 3 _ := hr.mono (by decide)
    refine ⟨_, pss_cons (ps_set (i := 2) sc_part.nd rfl (Or.inl rfl) pe_int)
      (pss_cons (ps_set (i := 3) sc_part.nd rfl (Or.inl rfl) pe_int)
      (pss_cons (ps_set (i := 4) sc_part.nd rfl (Or.inl rfl) pe_str)
      (pss_cons (ps_set (i := 5) sc_part.nd rfl (Or.inl rfl) pe_bl)
      (pss_cons (ps_if (pt_val (pe_call GI hr1 (by rfl) gI kI bI .nil pass0 (pa_cons (pe_meth0 (pv 0) Z.kit.cl MT GTk hr1 bT .nil pass0) pa_nil)))
        (pss_cons (ps_set (i := 2) sc_part.nd rfl (Or.inl rfl) (pe_meth0 (pv 0) Z.kit.cl MU GU hr3 bU .nil (passes_call (takes_of rfl rfl rfl rfl) (fun _ _ _ _ h => h))))
        (pss_one (ps_set (i := 5) sc_part.nd rfl (Or.inl rfl) (pe_meth (pv 0) Z.kit.cl MP GP hr2 bP .nil pass0 (pa_cons pe_str pa_nil))))) pss_nil)
      (pss_cons (ps_while (passes_of rfl) (pt_val (pv 5))
        (pss_cons (ps_if (pt_val (pe_meth (pv 0) Z.kit.cl MP GP hr2 bP .nil pass0 (pa_cons pe_str pa_nil))) (pss_one (ps_aug (i := 3) sc_part.nd rfl (.inl rfl) pe_int ip_add))
          (pss_one (ps_if (pt_val (pv 1)) (pss_one (ps_set (i := 4) sc_part.nd rfl (Or.inl rfl) (pe_call GN hr (by rfl) gN kN bN .nil (passes_call (takes_of rfl rfl rfl rfl) (fun _ _ _ _ h => h)) (pa_cons (pv 0) pa_nil))))
            (pss_one (ps_raiseX Y.GS rfl (takes_of rfl rfl rfl rfl) hr2 (pe_meth0 (pv 0) Z.kit.cl ML GL hr1 bL .nil pass0))))))
        (pss_one (ps_set (i := 5) sc_part.nd rfl (Or.inl rfl) (pe_and (pe_cmpR op_eq (pv 4) pe_str (nomark _)) (pe_one (pe_meth (pv 0) Z.kit.cl MP GP hr2 bP .nil pass0 (pa_cons pe_str pa_nil))))))))
      (pss_cons (ps_if (pt_cmpR op_gt (pv 3) (pe_glob (by rfl) m0 (v := .int 3) ⟨t0, rfl⟩) (nomark _)) (pss_one (ps_raiseX Y.GT rfl (takes_of rfl rfl rfl rfl) hr2 pe_str)) pss_nil)
      (pss_one (ps_ret (pe_tup (pa_cons (pv 2) (pa_cons (pv 3) (pa_cons (pv 4) pa_nil)))))))))))), ?_⟩
    obtain ⟨dx, l, hR, ho, hL⟩ := id hRd
    have hk := at_tk hkl
    have hlz : ∀ j, (⟨(tk ts j).toArray⟩ : Str).length = (tk ts j).length := fun j => by show (tk ts j).toArray.size = _; simp
    have sN : Str.ofString "n" = ⟨#[110]⟩ := by decide +kernel
    have sS : Str.ofString "*" = ⟨#[42]⟩ := by decide +kernel
    have s0 : Str.ofString "" = (⟨([] : List Nat).toArray⟩ : Str) := by decide +kernel
    refine' (fun rest => ?_ : (∀ (n : Int) (k0 pw0 : Nat) (c0 : List Nat) (g0 : Bool) (H0 : Hp), RdAt C H0 R ts k0 → k0 < ts.length → ButR R H H0 → (g0 = true → c0 = []) → partFin n (if g0 = true then partLoop ts idx ts.length k0 pw0 else .ok (pw0, c0) k0) = partM ts idx k →
      (_ : L2.St → Hp → Prop) [some (.ref R), some (.bl idx), some (.int n), some (.int (pw0 : Int)), some (.str ⟨c0.toArray⟩), some (.bl g0)] H0) → _) ?_
    rotate_left
    · refine ⟨_, rfl, R, dx, _, rfl, hR, rfl, R, ts, k, _, rfl, hRd, hk, _, rfl, by have := hS.sm k; rw [hlz]; exact this, fun H1 s1 => ⟨_, rfl, ?_⟩⟩
      have hRd1 := hRd.same s1
      refine ite2 (fun hN => ?_) (fun hN => ?_)
      · have ne : tk ts k ≠ [] := fun e => by rw [e] at hN; cases hN
        have hk2 := hS.go k hkl ne
        have eM : partM ts idx k = if 150 < (tk ts k).length then .big "numbers" else partFin (numVal (tk ts k)) (if tk ts (k + 1) = [42] then partLoop ts idx ts.length (k + 2) 0 else .ok (0, []) (k + 1)) := by unfold partM; rw [if_pos hN]
        by_cases hb : 150 < (tk ts k).length
        · rw [eM, if_pos hb] at q
          exact ⟨_, rfl, R, dx, _, rfl, s1 _ _ hR, rfl, R, ts, k, rfl, hRd1, hkl, hS, .inr (.inl ⟨hN, hb, OutW.but q (ButR.of s1)⟩)⟩
        · rw [if_neg hb] at eM
          refine ⟨_, rfl, R, dx, _, rfl, s1 _ _ hR, rfl, R, ts, k, rfl, hRd1, hkl, hS, .inr (.inr ⟨hN, by omega, fun H2 h2 b2 => ?_⟩)⟩
          obtain ⟨dx2, l2, hR2, _⟩ := id h2
          have b02 := (ButR.of s1).trans b2
          by_cases hs : tk ts (k + 1) = [42]
          · refine ⟨_, rfl, R, dx2, _, rfl, hR2, rfl, R, ts, k + 1, _, _, rfl, h2, at_tk hk2, .inr ⟨(tkEq sS).mpr hs, fun H3 h3 b3 => ?_⟩⟩
            refine rest (numVal (tk ts k)) (k + 2) 0 [] true H3 h3 (hS.go (k + 1) hk2 (by rw [hs]; simp)) (b02.trans b3) (fun _ => rfl) ?_
            rw [eM, if_pos hs, if_pos rfl]
          · refine ⟨_, rfl, R, dx2, _, rfl, hR2, rfl, R, ts, k + 1, _, _, rfl, h2, at_tk hk2, .inl ⟨fun z => hs ((tkEq sS).mp z), ?_⟩⟩
            refine rest (numVal (tk ts k)) (k + 1) 0 [] false H2 h2 hk2 b02 (fun z => nomatch z) ?_
            rw [eM, if_neg hs, if_neg Bool.false_ne_true]
      · refine rest 1 k 0 [] true H1 hRd1 hkl (ButR.of s1) (fun _ => rfl) ?_
        unfold partM
        rw [if_neg hN, if_pos rfl]
    · intro n k0 pw0 c0 g0 H0 h0 hk0 b0 hc0 eM
      have d0 : decide (V.str ⟨([] : List Nat).toArray⟩ = V.str (Str.ofString "")) = true := by rw [s0]; exact decide_eq_true rfl
      refine ⟨fun f σ H' => ∃ (k1 pw : Nat) (c : List Nat) (g : Bool), σ = [some (.ref R), some (.bl idx), some (.int n), some (.int (pw : Int)), some (.str ⟨c.toArray⟩), some (.bl g)] ∧ RdAt C H' R ts k1 ∧ k1 < ts.length ∧ ButR R H H' ∧ (g = true → c = []) ∧ ts.length ≤ k1 + f ∧
        partFin n (if g = true then partLoop ts idx f k1 pw else .ok (pw, c) k1) = partM ts idx k, ⟨ts.length, k0, pw0, c0, g0, rfl, h0, hk0, b0, hc0, by omega, eM⟩, ?_⟩
      rintro f σ H' ⟨k1, pw, c, g, rfl, h1, hk1, b1, hc, hf, eM⟩
      obtain ⟨dx1, l1, hR1, _⟩ := id h1
      refine ⟨_, rfl, g, rfl, ?_⟩
      cases g with
      | false =>
        refine iteF ?_
        rw [if_neg Bool.false_ne_true] at eM
        rw [← eM] at q
        refine ⟨_, rfl, _, _, rfl, rfl, _, rfl, ?_⟩
        by_cases hp : 3 < pw
        · rw [decide_eq_true (p := (3 : Int) < (pw : Int)) (by omega)]
          refine iteT fun d H2 hd s1 e1 => ?_
          have e2 : partFin n (.ok (pw, c) k1) = .big "degree" := if_pos hp
          rw [e2] at q
          exact q d H2 (b1.trans (ButR.of s1)) e1
        · rw [decide_eq_false (p := (3 : Int) < (pw : Int)) (by omega)]
          refine iteF ?_
          have e2 : partFin n (.ok (pw, c) k1) = .ok (n, pw, c) k1 := if_neg hp
          rw [e2] at q
          exact ⟨_, rfl, _, rfl, _, rfl, lenS (by simp), fun p hpn => q (.ref p) _ (h1.same (Same.new hpn)) hk1 (b1.trans (ButR.of (Same.new hpn))) ⟨p, rfl, upd_same⟩⟩
      | true =>
        obtain rfl : c = [] := hc rfl
        obtain ⟨f, rfl⟩ : ∃ f', f = f' + 1 := ⟨f - 1, by omega⟩
        rw [if_pos rfl] at eM
        refine iteT ⟨fun σ' H2 => ∃ (k1 pw : Nat) (c : List Nat) (g : Bool), σ' = [some (.ref R), some (.bl idx), some (.int n), some (.int (pw : Int)), some (.str ⟨c.toArray⟩), some (.bl g)] ∧ RdAt C H2 R ts k1 ∧ k1 < ts.length ∧ ButR R H H2 ∧ (g = true → c = []) ∧ ts.length ≤ k1 + f ∧
          partFin n (if g = true then partLoop ts idx f k1 pw else .ok (pw, c) k1) = partM ts idx k, fun σ' H2 hN => ⟨f, Nat.lt_succ_self f, hN⟩, ?_⟩
        by_cases hn : tk ts k1 = [110]
        · have hk2 := hS.go k1 hk1 (by rw [hn]; simp)
          have eL : partLoop ts idx (f + 1) k1 pw = if tk ts (k1 + 1) = [42] then partLoop ts idx f (k1 + 2) (pw + 1) else .ok (pw + 1, []) (k1 + 1) := by
            show (if tk ts k1 = [110] then _ else _) = _
            rw [if_pos hn]
          rw [eL] at eM
          refine ⟨_, rfl, R, dx1, _, rfl, hR1, rfl, R, ts, k1, _, _, rfl, h1, at_tk hk1, .inr ⟨(tkEq sN).mpr hn, fun H2 h2 b2 => ⟨true, rfl, iteT ?_⟩⟩⟩
          obtain ⟨dx2, l2, hR2, _⟩ := id h2
          have b02 := b1.trans b2
          refine ⟨_, rfl, _, _, rfl, rfl, _, rfl, rfl, _, rfl, ?_⟩
          rw [d0]
          refine iteT ?_
          by_cases hs : tk ts (k1 + 1) = [42]
          · rw [if_pos hs] at eM
            refine ⟨_, rfl, R, dx2, _, rfl, hR2, rfl, R, ts, k1 + 1, _, _, rfl, h2, at_tk hk2, .inr ⟨(tkEq sS).mpr hs, fun H3 h3 b3 => ?_⟩⟩
            refine ⟨k1 + 2, pw + 1, [], true, ?_, h3, hS.go (k1 + 1) hk2 (by rw [hs]; simp), b02.trans b3, fun _ => rfl, by omega, by rw [if_pos rfl]; exact eM⟩
            rw [← succ_int]
            rfl
          · rw [if_neg hs] at eM
            refine ⟨_, rfl, R, dx2, _, rfl, hR2, rfl, R, ts, k1 + 1, _, _, rfl, h2, at_tk hk2, .inl ⟨fun z => hs ((tkEq sS).mp z), ?_⟩⟩
            refine ⟨k1 + 1, pw + 1, [], false, ?_, h2, hk2, b02, (fun z => nomatch z), by omega, by rw [if_neg Bool.false_ne_true]; exact eM⟩
            rw [← succ_int]
            rfl
        · have eL : partLoop ts idx (f + 1) k1 pw = if idx = true ∧ isNmL (tk ts k1) = true then .ok (pw, tk ts k1) (k1 + 1) else .syn (ps ts k1) := by
            show (if tk ts k1 = [110] then _ else _) = _
            rw [if_neg hn]
          rw [eL] at eM
          refine ⟨_, rfl, R, dx1, _, rfl, hR1, rfl, R, ts, k1, _, _, rfl, h1, at_tk hk1, .inl ⟨fun z => hn ((tkEq sN).mp z), false, rfl, iteF ?_⟩⟩
          refine ⟨_, rfl, idx, rfl, ?_⟩
          cases idx with
          | true =>
            refine iteT ?_
            by_cases hm : isNmL (tk ts k1) = true
            · rw [if_pos ⟨rfl, hm⟩] at eM
              have ne : tk ts k1 ≠ [] := fun e => by rw [e] at hm; exact absurd hm (by decide +kernel)
              have d1 : decide (V.str ⟨(tk ts k1).toArray⟩ = V.str (Str.ofString "")) = false := by
                rw [s0]
                refine decide_eq_false fun z => ne ?_
                have z := V.str.inj z
                injection z with z
                simpa using z
              refine ⟨_, rfl, R, ts, k1, _, rfl, h1, at_tk hk1, by have := hS.sm k1; show (tk ts k1).length ≤ 100000; omega, .inl ⟨hm, fun H2 h2 b2 => ?_⟩⟩
              refine ⟨_, rfl, rfl, _, rfl, ?_⟩
              rw [d1]
              refine iteF ?_
              exact ⟨k1 + 1, pw, tk ts k1, false, rfl, h2, hS.go k1 hk1 ne, b1.trans b2, (fun z => nomatch z), by omega, by rw [if_neg Bool.false_ne_true]; exact eM⟩
            · rw [if_neg (fun z => hm z.2)] at eM
              rw [← eM] at q
              exact ⟨_, rfl, R, ts, k1, _, rfl, h1, at_tk hk1, by have := hS.sm k1; show (tk ts k1).length ≤ 100000; omega, .inr ⟨Bool.eq_false_iff.mpr hm, Out.but q b1⟩⟩
          | false =>
            refine iteF ?_
            rw [if_neg (fun z => nomatch z.1)] at eM
            rw [← eM] at q
            exact ⟨_, rfl, R, dx1, _, rfl, hR1, rfl, R, ts, k1, _, rfl, h1, at_tk hk1, fun d H2 hd s1 e1 => q d H2 (b1.trans (ButR.of s1)) e1⟩
end

end K05

namespace K05
open PySem L2 SZ VR VX StX RT
/-! ### the sizes module -/
/-- the module's names that stand for Python's own -/
structure Bn (mg : Str → Option Value) : Prop where
  len : mg "len" = none
  tuple : mg "tuple" = none
  max : mg "max" = none
  enumerate : mg "enumerate" = none
  reversed : mg "reversed" = none
  isinstance : mg "isinstance" = none
  int : mg "int" = none
  bool : mg "bool" = none
/-- a tuple of iz goes in, the one without the noughts comes out -/
def spTrim (K : PySem.W.Frag) : Sp := fun vs H Q _ => ∃ (a : Addr) (xs : List Int), vs = [.ref a] ∧ SqT K H a (iz xs) ∧ xs.length ≤ 1000 ∧ ∀ (p : Addr) (H' : Hp), Same H H' → SqT K H' p (iz (trim xs)) → Q (.ref p) H'
section
variable {P : Program} {w : World} {K : PySem.W.Frag} {mg : Str → Option Value} {base : Heap}
theorem ok_trimmed {f : Addr} {fd : FuncData} (F : Fun K "_trimmed" "_trimmed" S_trimmed f fd) (B : Bn mg) : FnOk P w K mg base CX0 1 f fd ["parts"] (spTrim K) := by
  refine F.ok sc_trimmed (fun vs H Q E h => ?_) (fun cdv A outer s H vs Q E hr h => ?_)
  · obtain ⟨a, xs, rfl, _⟩ := h; rfl
  · obtain ⟨a, xs, rfl, ha, hl, k⟩ := h
    refine ⟨_, pss_cons (ps_set (i := 1) sc_trimmed.nd rfl (Or.inl rfl) (pe_callB call_len_seq (by rfl) B.len PySem.boot_len (pa_cons (pv 0) pa_nil)))
      (pss_cons (ps_while PassesOwn.never (PW.pt (pw_and (pt_cmpR op_gt (pv 1) pe_int (nomark _)) (pw_and1 (pt_cmpR op_eq (pe_ix ix_tup (pv 0) (pe_op op_sub (pv 1) pe_int) (fun _ _ => rfl)) pe_int (nomark _)))))
        (pss_one (ps_aug (i := 1) sc_trimmed.nd rfl (.inl rfl) pe_int ip_sub)))
      (pss_one (ps_ret (pe_callTy call_tuple_of (by rfl) B.tuple (by decide +kernel) (pa_cons (pe_slice sl_tupA (pv 0) po_none (po_some (pv 1))) pa_nil))))), ?_⟩
    refine ⟨_, rfl, a, iz xs, rfl, .inr ha, ?_⟩
    refine ⟨fun m σ H' => m ≤ xs.length ∧ σ = [some (.ref a), some (.int m)] ∧ H' = H ∧ trim (xs.take m) = trim xs, ⟨xs.length, Nat.le_refl _, by rw [iz_len]; rfl, rfl, by rw [List.take_length]⟩, ?_⟩
    rintro m σ H' ⟨hm, rfl, rfl, ht⟩
    refine ⟨_, rfl, _, _, rfl, rfl, _, rfl, ?_⟩
    have fin : trim xs = xs.take m → tRet (tCB (fun (ys : List V) (H1 : Hp) (Q1 : VK) => ∃ p zs, ys = [V.ref p] ∧ ((SqL K H1 p zs ∧ ∀ l, H1 l = none → Q1 (.ref l) (upd H1 l (.tup zs))) ∨ (SqT K H1 p zs ∧ Q1 (.ref p) H1)))
        (tCons (tSl (rSlA K) (tVar 0) tNoPart (tPart (tVar 1))) tNil)) { nx := fun _ H'' => Q .non H'', rt := Q } [some (.ref a), some (.int m)] H' := fun e => by
      refine ⟨_, rfl, _, rfl, _, rfl, a, iz xs, rfl, ha, fun hw => ?_, fun hw p hp => ?_⟩
      · refine ⟨a, iz xs, rfl, .inr ⟨ha, k a H' (Same.refl _) ?_⟩⟩
        have h2 := hw.2
        rw [HT.sIx_nat, iz_len, Nat.min_eq_left hm] at h2
        rw [e, h2, List.take_length]
        exact ha
      · refine ⟨p, _, rfl, .inr ⟨.of upd_same, k p _ (Same.new hp) ?_⟩⟩
        have ec : cutV (iz xs) none (some (m : Int)) = iz (trim xs) := by
          unfold cutV
          rw [HT.sIx_nat, HT.sIx_none, iz_len, Nat.min_eq_left hm, List.drop_zero, Nat.sub_zero, e]
          simp [iz, List.map_take]
        rw [← ec]
        exact .of upd_same
    refine ite2 (fun h0 => ?_) (fun h0 => ?_)
    · have h1 : (0 : Int) < m := of_decide_eq_true h0
      obtain ⟨j, rfl⟩ : ∃ j, m = j + 1 := ⟨m - 1, by omega⟩
      have h2 : j < xs.length := hm
      have hx : xs[j]? = some xs[j] := List.getElem?_eq_getElem h2
      refine ⟨_, rfl, _, rfl, _, _, rfl, rfl, a, iz xs, _, _, rfl, rfl, ha, at_of (j := j) (by omega) (iz_get hx), rfl, _, rfl, ?_⟩
      have et : xs.take (j + 1) = xs.take j ++ [xs[j]] := by rw [List.take_add_one, hx]; rfl
      refine ite2 (fun hz => ?_) (fun hz => ?_)
      · have ez : xs[j] = 0 := by simpa using hz
        refine ⟨fun σ' H'' => j ≤ xs.length ∧ σ' = [some (.ref a), some (.int (j : Int))] ∧ H'' = H' ∧ trim (xs.take j) = trim xs, fun σ' H'' q => ⟨j, by omega, q⟩, ?_⟩
        refine ⟨_, rfl, _, _, rfl, rfl, by omega, ?_, rfl, ?_⟩
        · show [some (V.ref a), some (V.int (((j + 1 : Nat) : Int) - 1))] = _
          have e2 : ((j + 1 : Nat) : Int) - 1 = (j : Int) := by omega
          rw [e2]
        · rw [← ht, et, ez, trim_app0]
      · have ez : xs[j] ≠ 0 := by simpa using hz
        have e3 : trim xs = xs.take (j + 1) := by rw [← ht, et, trim_app _ ez]
        exact fin e3
    · have h1 : ¬ (0 : Int) < m := by simpa using h0
      have e0 : m = 0 := by omega
      subst e0
      exact fin (by rw [← ht]; rfl)
end

/-- two tuples of ints go in, a new tuple comes out -/
def sp2 (K : PySem.W.Frag) (g : List Int → List Int → List Int) (C : List Int → List Int → Prop) : Sp := fun vs H Q _ => ∃ (a b : Addr) (xs ys : List Int), vs = [.ref a, .ref b] ∧ SqT K H a (iz xs) ∧ SqT K H b (iz ys) ∧ xs.length ≤ 500 ∧ ys.length ≤ 500 ∧ C xs ys ∧
  ∀ (p : Addr) (H' : Hp), Same H H' → H' p = some (.tup (iz (g xs ys))) → Q (.ref p) H'
section
variable {P : Program} {w : World} {K : PySem.W.Frag} {mg : Str → Option Value} {base : Heap}
theorem ok_sum {f : Addr} {fd : FuncData} (F : Fun K "_sum" "_sum" S_sum f fd) (B : Bn mg) : FnOk P w K mg base CX0 1 f fd ["one", "other"] (sp2 K sumL fun _ _ => True) := by
  refine F.ok sc_sum (fun vs H Q E h => ?_) (fun cdv A outer s H vs Q E hr h => ?_)
  · obtain ⟨a, b, xs, ys, rfl, _⟩ := h; rfl
  · obtain ⟨a, b, xs, ys, rfl, ha, hb, hxl, hyl, _, k⟩ := h
    refine ⟨_, pss_cons (ps_set (i := 2) sc_sum.nd rfl (Or.inl rfl) (pe_callB (call_max2 rfl) (by rfl) B.max (by decide +kernel)
          (pa_cons (pe_callB call_len_seq (by rfl) B.len PySem.boot_len (pa_cons (pv 0) pa_nil)) (pa_cons (pe_callB call_len_seq (by rfl) B.len PySem.boot_len (pa_cons (pv 1) pa_nil)) pa_nil))))
      (pss_cons (ps_set (i := 3) sc_sum.nd rfl (Or.inl rfl) (pe_op op_rep (pe_lst (pa_cons pe_int pa_nil)) (pv 2)))
      (pss_cons (ps_for PassesOwn.never rfl (pi_enumT (by rfl) B.enumerate (pa_cons (pv 0) pa_nil)) (pg_tup rfl (pgs_cons (pg_name (i := 4) sc_sum.nd rfl (Or.inl rfl)) (pgs_cons (pg_name (i := 5) sc_sum.nd rfl (Or.inl rfl)) pgs_nil)))
        (pss_one (ps_asg (pv 5) (pg_sub (pv 3) (pv 4) set_list))))
      (pss_cons (ps_for PassesOwn.never rfl (pi_enumT (by rfl) B.enumerate (pa_cons (pv 1) pa_nil)) (pg_tup rfl (pgs_cons (pg_name (i := 4) sc_sum.nd rfl (Or.inl rfl)) (pgs_cons (pg_name (i := 5) sc_sum.nd rfl (Or.inl rfl)) pgs_nil)))
        (pss_one (ps_asg (pe_op op_add (pe_ix ix_list (pv 3) (pv 4) (fun _ _ => rfl)) (pv 5)) (pg_sub (pv 3) (pv 4) set_list))))
      (pss_one (ps_ret (pe_callTy call_tuple_of (by rfl) B.tuple (by decide +kernel) (pa_cons (pv 3) pa_nil))))))), ?_⟩
    refine ⟨_, rfl, a, iz xs, rfl, .inr ha, _, rfl, b, iz ys, rfl, .inr hb, _, _, rfl, ?_⟩
    rw [iz_len, iz_len]
    show tSeq _ _ _ [some (.ref a), some (.ref b), some (.int (if (ys.length : Int) > (xs.length : Int) then (ys.length : Int) else (xs.length : Int))), none, none, none] _
    have em : (if (ys.length : Int) > (xs.length : Int) then (ys.length : Int) else (xs.length : Int)) = ((max xs.length ys.length : Nat) : Int) := by split <;> omega
    rw [em]
    -- parts = [0] * many
    refine ⟨smallL (by show 1 ≤ 10000; decide), fun l0 h0 => ⟨_, rfl, l0, _, _, rfl, rfl, upd_same, by omega, by omega, by rw [Int.toNat_natCast]; exact smallL (by show 1 * _ ≤ 10000; omega), fun l hl => ?_⟩⟩
    rw [Int.toNat_natCast, iz_rep]
    have hl0 : H l = none := (Same.new h0).free hl
    have s0 : Same H (upd (upd H l0 (.lst [V.int 0])) l (.lst (iz (List.replicate (max xs.length ys.length) 0)))) := (Same.new h0).upN hl
    -- for power, part in enumerate(one)
    refine ⟨_, rfl, a, iz xs, rfl, s0.tup ha, for_it (walk_enumT (xs := iz xs)) (fun i σ H' => ∃ zs v4 v5, σ = [some (.ref a), some (.ref b), some (.int ((max xs.length ys.length : Nat) : Int)), some (.ref l), v4, v5] ∧ H' l = some (.lst (iz zs)) ∧ Same H H' ∧ Is zs (max xs.length ys.length) (fun k => (xs.take i).getD k 0))
      ⟨_, none, none, rfl, upd_same, s0, ⟨by simp, fun k => by rw [getD_rep]; simp⟩⟩ (fun i σ H' _ ⟨_, _, _, _, _, s1, _⟩ => s1.tup ha) ?_ ?_⟩
    · rintro i v σ H1 H2 hi ⟨zs, v4, v5, rfl, hz, s1, I⟩ ⟨T, x', y', rfl, hT, rfl, ex, ey⟩
      obtain ⟨x, hx, rfl⟩ := of_iz_get ey
      cases ex
      rw [iz_len] at hi
      refine ⟨T, _, rfl, .of upd_same, rfl, _, _, rfl, _, _, rfl, rfl, ?_⟩
      have hlT : l ≠ T := ne_of_none hz hT
      refine ⟨_, rfl, _, rfl, _, rfl, l, iz zs, _, i, rfl, rfl, by rw [upd_ne hlT]; exact hz, ixN_nat (by rw [iz_len, I.len]; omega), ?_⟩
      rw [iz_set]
      refine ⟨_, _, _, rfl, upd_same, (s1.upN hT).upd0 hl0, I.set (d := x) (by omega) fun k => ?_⟩
      by_cases e : k = i
      · subst e
        rw [if_pos rfl, List.take_add_one, hx]
        simp only [List.getD_eq_getElem?_getD]
        rw [List.getElem?_append_right (by rw [List.length_take]; omega), List.length_take, Nat.min_eq_left (Nat.le_of_lt hi)]
        simp
      · rw [if_neg e]
        simp only [List.getD_eq_getElem?_getD, List.getElem?_take]
        by_cases h1 : k < i
        · rw [if_pos h1, if_pos (by omega)]
        · rw [if_neg h1, if_neg (by omega)]
    · rintro σ H1 ⟨zs, v4, v5, rfl, hz, s1, I⟩
      -- for power, part in enumerate(other)
      refine ⟨_, rfl, b, iz ys, rfl, s1.tup hb, for_it (walk_enumT (xs := iz ys)) (fun i σ H' => ∃ zs v4 v5, σ = [some (.ref a), some (.ref b), some (.int ((max xs.length ys.length : Nat) : Int)), some (.ref l), v4, v5] ∧ H' l = some (.lst (iz zs)) ∧ Same H H' ∧ Is zs (max xs.length ys.length) (fun k => xs.getD k 0 + (ys.take i).getD k 0))
        ⟨zs, v4, v5, rfl, hz, s1, ⟨I.len, fun k => by rw [I.get]; simp [iz_len]⟩⟩ (fun i σ H' _ ⟨_, _, _, _, _, s1, _⟩ => s1.tup hb) ?_ ?_⟩
      · rintro i v σ H1 H2 hi ⟨zs, v4, v5, rfl, hz, s1, I⟩ ⟨T, x', y', rfl, hT, rfl, ex, ey⟩
        obtain ⟨y, hy, rfl⟩ := of_iz_get ey
        cases ex
        rw [iz_len] at hi
        refine ⟨T, _, rfl, .of upd_same, rfl, _, _, rfl, _, _, rfl, rfl, ?_⟩
        have hlT : l ≠ T := ne_of_none hz hT
        have hil : i < zs.length := by rw [I.len]; omega
        have hzi : zs[i]? = some zs[i] := List.getElem?_eq_getElem hil
        refine ⟨_, rfl, _, rfl, l, iz zs, _, _, rfl, rfl, .of (by rw [upd_ne hlT]; exact hz), at_of (j := i) rfl (iz_get hzi), _, rfl, _, _, rfl, rfl, _, rfl, _, rfl, l, iz zs, _, i, rfl, rfl, by rw [upd_ne hlT]; exact hz, ixN_nat (by rw [iz_len]; exact hil), ?_⟩
        rw [iz_set]
        refine ⟨_, _, _, rfl, upd_same, (s1.upN hT).upd0 hl0, I.set (d := zs[i] + y) (by omega) fun k => ?_⟩
        have hzg : zs[i] = xs.getD i 0 + (ys.take i).getD i 0 := by rw [← I.get i, getD_some hzi]
        by_cases e : k = i
        · subst e
          rw [if_pos rfl, hzg]
          have e1 : (ys.take k).getD k 0 = 0 := getD_of_ge (by rw [List.length_take]; omega)
          have e2 : (ys.take (k + 1)).getD k 0 = y := by
            rw [List.take_add_one, hy]
            simp only [List.getD_eq_getElem?_getD]
            rw [List.getElem?_append_right (by rw [List.length_take]; omega), List.length_take, Nat.min_eq_left (Nat.le_of_lt hi)]
            simp
          rw [e1, e2]; omega
        · rw [if_neg e]
          simp only [List.getD_eq_getElem?_getD, List.getElem?_take]
          by_cases h1 : k < i
          · rw [if_pos h1, if_pos (by omega)]
          · rw [if_neg h1, if_neg (by omega)]
      · rintro σ H1 ⟨zs, v4, v5, rfl, hz, s1, I⟩
        have ez : zs = sumL xs ys := I.eq (len_sumL xs ys) fun k => by rw [get_sumL, iz_len, List.take_length]
        subst ez
        refine ⟨_, rfl, l, _, rfl, .inl ⟨.of hz, fun p hp => ?_⟩⟩
        exact k p _ (s1.upN hp) upd_same
end

section
variable {P : Program} {w : World} {K : PySem.W.Frag} {mg : Str → Option Value} {base : Heap}
theorem ok_product {f : Addr} {fd : FuncData} (F : Fun K "_product" "_product" S_product f fd) (B : Bn mg) : FnOk P w K mg base CX0 1 f fd ["one", "other"] (sp2 K mulL fun xs ys => ∀ x ∈ xs, ∀ y ∈ ys, CMulW x y) := by
  refine F.ok sc_product (fun vs H Q E h => ?_) (fun cdv A outer s H vs Q E hr h => ?_)
  · obtain ⟨a, b, xs, ys, rfl, _⟩ := h; rfl
  · obtain ⟨a, b, xs, ys, rfl, ha, hb, hxl, hyl, hC, k⟩ := h
    refine ⟨_, pss_cons (ps_set (i := 2) sc_product.nd rfl (Or.inl rfl) (pe_op op_add (pe_callB call_len_seq (by rfl) B.len PySem.boot_len (pa_cons (pv 0) pa_nil)) (pe_callB call_len_seq (by rfl) B.len PySem.boot_len (pa_cons (pv 1) pa_nil))))
      (pss_cons (ps_set (i := 3) sc_product.nd rfl (Or.inl rfl) (pe_op op_rep (pe_lst (pa_cons pe_int pa_nil)) (pv 2)))
      (pss_cons (ps_for PassesOwn.never rfl (pi_enumT (by rfl) B.enumerate (pa_cons (pv 0) pa_nil)) (pg_tup rfl (pgs_cons (pg_name (i := 4) sc_product.nd rfl (Or.inl rfl)) (pgs_cons (pg_name (i := 5) sc_product.nd rfl (Or.inl rfl)) pgs_nil)))
        (pss_one (ps_for PassesOwn.never rfl (pi_enumT (by rfl) B.enumerate (pa_cons (pv 1) pa_nil)) (pg_tup rfl (pgs_cons (pg_name (i := 6) sc_product.nd rfl (Or.inl rfl)) (pgs_cons (pg_name (i := 7) sc_product.nd rfl (Or.inl rfl)) pgs_nil)))
          (pss_one (ps_asg (pe_op op_add (pe_ix ix_list (pv 3) (pe_op op_add (pv 4) (pv 6)) (fun _ _ => rfl)) (pe_op op_mulW (pv 5) (pv 7))) (pg_sub (pv 3) (pe_op op_add (pv 4) (pv 6)) set_list))))))
      (pss_one (ps_ret (pe_callTy call_tuple_of (by rfl) B.tuple (by decide +kernel) (pa_cons (pv 3) pa_nil)))))), ?_⟩
    refine ⟨_, rfl, a, iz xs, rfl, .inr ha, _, rfl, b, iz ys, rfl, .inr hb, _, _, rfl, rfl, ?_⟩
    rw [iz_len, iz_len]
    have em : (xs.length : Int) + (ys.length : Int) = ((xs.length + ys.length : Nat) : Int) := by omega
    show tSeq _ _ _ [some (.ref a), some (.ref b), some (.int ((xs.length : Int) + (ys.length : Int))), none, none, none, none, none] _
    rw [em]
    refine ⟨smallL (by show 1 ≤ 10000; decide), fun l0 h0 => ⟨_, rfl, l0, _, _, rfl, rfl, upd_same, by omega, by omega, by rw [Int.toNat_natCast]; exact smallL (by show 1 * _ ≤ 10000; omega), fun l hl => ?_⟩⟩
    rw [Int.toNat_natCast, iz_rep]
    have hl0 : H l = none := (Same.new h0).free hl
    have s0 : Same H (upd (upd H l0 (.lst [V.int 0])) l (.lst (iz (List.replicate (xs.length + ys.length) 0)))) := L2.Same.upN (L2.Same.new h0) hl
    refine ⟨_, rfl, a, iz xs, rfl, L2.Same.tup s0 ha, for_it (walk_enumT (xs := iz xs)) (fun i σ H' => ∃ zs v4 v5 v6 v7, σ = [some (.ref a), some (.ref b), some (.int ((xs.length + ys.length : Nat) : Int)), some (.ref l), v4, v5, v6, v7] ∧ H' l = some (.lst (iz zs)) ∧ Same H H' ∧ Is zs (xs.length + ys.length) (cf (xs.take i) ys))
      ⟨_, none, none, none, none, rfl, upd_same, s0, ⟨by simp, fun k => by rw [getD_rep]; rfl⟩⟩ (fun i σ H' _ ⟨_, _, _, _, _, _, _, s1, _⟩ => s1.tup ha) ?_ ?_⟩
    · rintro i v σ H1 H2 hi ⟨zs, v4, v5, v6, v7, rfl, hz, s1, I⟩ ⟨T, x', y', rfl, hT, rfl, ex, ey⟩
      obtain ⟨x, hx, rfl⟩ := of_iz_get ey
      cases ex
      rw [iz_len] at hi
      have hlT : l ≠ T := ne_of_none hz hT
      refine ⟨T, _, rfl, .of upd_same, rfl, _, _, rfl, _, _, rfl, rfl, ?_⟩
      have s2 := s1.upN (o := .tup [.int (i : Nat), .int x]) hT
      refine ⟨_, rfl, b, iz ys, rfl, s2.tup hb, for_it (walk_enumT (xs := iz ys)) (fun j σ H' => ∃ zs v6 v7, σ = [some (.ref a), some (.ref b), some (.int ((xs.length + ys.length : Nat) : Int)), some (.ref l), some (.int (i : Nat)), some (.int x), v6, v7] ∧ H' l = some (.lst (iz zs)) ∧ Same H H' ∧ Is zs (xs.length + ys.length) (fun k => cf (xs.take i) ys k + if i ≤ k ∧ k < i + j then x * ys.getD (k - i) 0 else 0))
        ⟨zs, v6, v7, rfl, by rw [upd_ne hlT]; exact hz, s2, ⟨I.len, fun k => by rw [I.get, if_neg (by omega)]; omega⟩⟩ (fun i σ H' _ ⟨_, _, _, _, _, s1, _⟩ => s1.tup hb) ?_ ?_⟩
      · rintro j v σ H1 H2 hj ⟨zs, v6, v7, rfl, hz, s1, I⟩ ⟨T, x', y', rfl, hT, rfl, ex, ey⟩
        obtain ⟨y, hy, rfl⟩ := of_iz_get ey
        cases ex
        rw [iz_len] at hj
        have hlT : l ≠ T := ne_of_none hz hT
        have hil : i + j < zs.length := by rw [I.len]; omega
        have hzi : zs[i + j]? = some zs[i + j] := List.getElem?_eq_getElem hil
        have hzl : (upd H1 T (.tup [.int (j : Nat), .int y])) l = some (.lst (iz zs)) := by rw [upd_ne hlT]; exact hz
        refine ⟨T, _, rfl, .of upd_same, rfl, _, _, rfl, _, _, rfl, rfl, ?_⟩
        refine ⟨_, rfl, _, rfl, _, rfl, _, _, rfl, rfl, l, iz zs, _, _, rfl, rfl, .of hzl, at_of (j := i + j) (by omega) (iz_get hzi), _, rfl, _, rfl, _, _, rfl, rfl, hC x (List.mem_of_getElem? hx) y (List.mem_of_getElem? hy), _, _, rfl, rfl, _, rfl, _, rfl, _, rfl, _, _, rfl, rfl, l, iz zs, _, i + j, rfl, rfl, hzl, ?_, ?_⟩
        · have e : (i : Int) + (j : Int) = ((i + j : Nat) : Int) := by omega
          rw [e]
          exact ixN_nat (by rw [iz_len]; exact hil)
        rw [iz_set]
        refine ⟨_, _, _, rfl, upd_same, (s1.upN hT).upd0 hl0, I.set (d := zs[i + j] + x * y) (by omega) fun k => ?_⟩
        have hzg : zs[i + j] = cf (xs.take i) ys (i + j) := by
          have := I.get (i + j)
          rw [getD_some hzi, if_neg (by omega)] at this
          omega
        by_cases e : k = i + j
        · subst e
          have e2 : i + j - i = j := by omega
          rw [if_pos rfl, hzg, if_pos (by omega), e2, getD_some hy]
        · rw [if_neg e]
          by_cases h1 : i ≤ k ∧ k < i + j
          · rw [if_pos h1, if_pos (by omega)]
          · rw [if_neg h1, if_neg (by omega)]
      · rintro σ H1 ⟨zs, v6, v7, rfl, hz, s1, I⟩
        refine ⟨zs, _, _, v6, v7, rfl, hz, s1, ⟨I.len, fun k => ?_⟩⟩
        rw [I.get, cf_take hx, iz_len]
        by_cases h1 : i ≤ k ∧ k < i + ys.length
        · rw [if_pos h1, if_pos h1.1]
        · rw [if_neg h1]
          by_cases h2 : i ≤ k
          · rw [if_pos h2, getD_of_ge (by omega)]; simp
          · rw [if_neg h2]
    · rintro σ H1 ⟨zs, v4, v5, v6, v7, rfl, hz, s1, I⟩
      have ez : zs = mulL xs ys := I.eq (len_mulL xs ys) fun k => by rw [get_mulL, iz_len, List.take_length]
      subst ez
      refine ⟨_, rfl, l, _, rfl, .inl ⟨.of hz, fun p hp => ?_⟩⟩
      exact k p _ (s1.upN hp) upd_same
/-- one tuple of ints goes in, a new tuple comes out -/
def sp1 (K : PySem.W.Frag) (g : List Int → List Int) : Sp := fun vs H Q _ => ∃ (a : Addr) (xs : List Int), vs = [.ref a] ∧ SqT K H a (iz xs) ∧ xs.length ≤ 500 ∧
  ∀ (p : Addr) (H' : Hp), Same H H' → H' p = some (.tup (iz (g xs))) → Q (.ref p) H'
theorem ok_negative {f : Addr} {fd : FuncData} (F : Fun K "_negative" "_negative" S_negative f fd) (B : Bn mg) : FnOk P w K mg base CX0 1 f fd ["parts"] (sp1 K negL) := by
  refine F.ok sc_negative (fun vs H Q E h => ?_) (fun cdv A outer s H vs Q E hr h => ?_)
  · obtain ⟨a, xs, rfl, _⟩ := h; rfl
  · obtain ⟨a, xs, rfl, ha, hl, k⟩ := h
    refine ⟨_, pss_one (ps_ret (pe_callTy call_tuple_of (by rfl) B.tuple (by decide +kernel) (pa_cons
      (pe_lc (own := [("part", 1)]) (g := gName 1) (by rfl) sc_negative.nd (pi_tup (pv 0)) (blkOk_by (own := [("part", 1)]) (N := ["parts", "part"]) (sc := defScope S_negative) (by decide +kernel)) (fun _ _ _ _ _ => pg_name (i := 1) sc_negative.nd rfl (Or.inl rfl)) (fun _ _ _ _ _ => pts_nil) (fun _ _ _ _ _ => pe_un un_neg (pv 1))) pa_nil))), ?_⟩
    refine ⟨_, rfl, a, rfl, ⟨_, ha⟩, fun D hD => lc_it (walk_tup (xs := iz xs)) (fun i H' => H' D = some (.lst (iz (negL (xs.take i)))) ∧ Same H H') ⟨upd_same, Same.new hD⟩ (fun i H' _ ⟨_, s1⟩ => s1.tup ha) ?_ ?_⟩
    · rintro i v H1 H2 hi ⟨hd, s1⟩ ⟨rfl, hv⟩
      obtain ⟨x, hx, rfl⟩ := of_iz_get hv
      rw [iz_len] at hi
      refine ⟨rfl, ?_⟩
      refine ⟨_, rfl, _, rfl, _, hd, by rw [iz_len]; show _ < _; simp [negL]; exact Nat.lt_of_le_of_lt (Nat.min_le_right _ _) (small1000 (by omega)), ?_, s1.upd0 hD⟩
      rw [upd_same, List.take_add_one, hx]
      simp [negL, iz]
    · rintro H1 ⟨hd, s1⟩
      rw [iz_len, List.take_length] at hd
      refine ⟨D, _, rfl, .inl ⟨.of hd, fun p hp => ?_⟩⟩
      exact k p _ (s1.upN hp) upd_same
end

/-- a Size stands at p -/
def SzAt (K : PySem.W.Frag) (C : Addr) (H : Hp) (p : Addr) (xs : List Int) : Prop := ∃ dx t, H p = some (.ins C dx [("_parts", .ref t)]) ∧ SqT K H t (iz xs)
theorem SzAt.same {K : PySem.W.Frag} {C : Addr} {H H' : Hp} {p : Addr} {xs : List Int} (h : SzAt K C H p xs) (e : Same H H') : SzAt K C H' p xs := by
  obtain ⟨dx, t, h1, h2⟩ := h
  exact ⟨dx, t, e _ _ h1, e.tup h2⟩
/-- what may stand on the right: a Size, an int -/
def Opd (K : PySem.W.Frag) (C : Addr) (H : Hp) (y : V) (ys : List Int) : Prop := (∃ b, y = .ref b ∧ SzAt K C H b ys) ∨ ∃ i, y = .int i ∧ ys = [i]
theorem Opd.same {K : PySem.W.Frag} {C : Addr} {H H' : Hp} {y : V} {ys : List Int} (h : Opd K C H y ys) (e : Same H H') : Opd K C H' y ys := by
  rcases h with ⟨b, h1, h2⟩ | h
  · exact .inl ⟨b, h1, h2.same e⟩
  · exact .inr h
/-- what the class's own objects say -/
structure SzC (K : PySem.W.Frag) (mg : Str → Option Value) (C fT fS fP fN fI fO fA : Addr) : Prop where
  kit : InsKit K C
  nP : NoAttr K C "_parts"
  isC : PySem.W.isClsIn K C = true
  tyC : PySem.W.typeIn K (.ref C) = some (.type "type")
  intC : PySem.W.subIn K (.type "int") (.ref C) = some false
  mgC : mg "Size" = some (.ref C)
  gT : mg "_trimmed" = some (.ref fT)
  gS : mg "_sum" = some (.ref fS)
  gP : mg "_product" = some (.ref fP)
  gN : mg "_negative" = some (.ref fN)
  gI : mg "is_integer" = some (.ref fI)
  gO : mg "_is_operand" = some (.ref fO)
  gA : mg "_parts_of" = some (.ref fA)
/-- __init__ -/
def spInit (K : PySem.W.Frag) (C : Addr) : Sp := fun vs H Q _ => ∃ (p dx a : Addr) (xs : List Int), vs = [.ref p, .ref a] ∧ H p = some (.ins C dx []) ∧ SqT K H a (iz xs) ∧ xs.length ≤ 1000 ∧
  ∀ H' : Hp, (∀ b o, H b = some o → b ≠ p → H' b = some o) → SzAt K C H' p (trim xs) → Q .non H'
section
variable {P : Program} {w : World} {K : PySem.W.Frag} {mg : Str → Option Value} {base : Heap} {C fT fS fP fN fI fO fA : Addr} {fdT fdS fdP fdN fdI fdO fdA : FuncData}
theorem ok_init {f : Addr} {fd : FuncData} {dvs : List V} (F : FunD K "__init__" "Size.__init__" (defArgs S_Size___init__) (defBody S_Size___init__) (defScope S_Size___init__) dvs [] f fd) (Z : SzC K mg C fT fS fP fN fI fO fA) (FT : Fun K "_trimmed" "_trimmed" S_trimmed fT fdT) (bT : Binds K fdT ["parts"] []) (B : Bn mg) :
    FnOk P w K mg base CX0 2 f fd ["self", "parts"] (spInit K C) := by
  have GT : FnOk P w K mg base CX0 1 fT fdT ["parts"] (spTrim K) := ok_trimmed FT B
  refine F.ok sc_Size___init__ (fun vs H Q E h => ?_) (fun cdv A outer s H vs Q E hr h => ?_)
  · obtain ⟨p, dx, a, xs, rfl, _⟩ := h; rfl
  · obtain ⟨p, dx, a, xs, rfl, hp, ha, hl, k⟩ := h
    refine ⟨_, PSs.nox (pss_one (ps_fld (pv 0) (pe_call GT hr (by rfl) Z.gT FT.kp bT .nil pass0 (pa_cons (pv 1) pa_nil)) rfl)), ?_⟩
    refine ⟨_, rfl, a, xs, rfl, ha, hl, fun t H1 s1 ht => ?_⟩
    have hp1 := s1 _ _ hp
    refine ⟨_, rfl, p, C, dx, [], rfl, hp1, Z.kit.cl, Z.nP, (by show 0 < 1000; decide), ?_⟩
    refine k _ (fun b o hb hne => by rw [upd_ne hne]; exact s1 _ _ hb) ⟨dx, t, upd_same, ?_⟩
    exact SqT.updIns ht hp1
end

/-! ### the class Size -/
def spIsInt : Sp := fun vs H Q _ => ∃ i, vs = [.int i] ∧ Q (.bl true) H
def spIsOp (K : PySem.W.Frag) (C : Addr) : Sp := fun vs H Q _ => ∃ y ys, vs = [y] ∧ Opd K C H y ys ∧ Q (.bl true) H
def spPartsOf (K : PySem.W.Frag) (C : Addr) : Sp := fun vs H Q _ => ∃ y ys, vs = [y] ∧ Opd K C H y ys ∧ ∀ t H', Same H H' → SqT K H' t (iz ys) → Q (.ref t) H'
def spGet (K : PySem.W.Frag) (C : Addr) : Sp := fun vs H Q _ => ∃ a xs, vs = [.ref a] ∧ SzAt K C H a xs ∧ ∀ t, SqT K H t (iz xs) → Q (.ref t) H
def spDeg (K : PySem.W.Frag) (C : Addr) : Sp := fun vs H Q _ => ∃ a xs, vs = [.ref a] ∧ SzAt K C H a xs ∧ Q (.int ((xs.length - 1 : Nat) : Int)) H
def spBin (K : PySem.W.Frag) (C : Addr) (g : List Int → List Int → List Int) (Cn : List Int → List Int → Prop) : Sp := fun vs H Q _ => ∃ a y xs ys, vs = [.ref a, y] ∧ SzAt K C H a xs ∧ Opd K C H y ys ∧ xs.length ≤ 400 ∧ ys.length ≤ 400 ∧ Cn xs ys ∧
  ∀ p H', Same H H' → SzAt K C H' p (trim (g xs ys)) → Q (.ref p) H'
def spNeg (K : PySem.W.Frag) (C : Addr) : Sp := fun vs H Q _ => ∃ a xs, vs = [.ref a] ∧ SzAt K C H a xs ∧ xs.length ≤ 400 ∧ ∀ p H', Same H H' → SzAt K C H' p (trim (negL xs)) → Q (.ref p) H'
/-- ==: a Size, or a value of another kind -/
def spEqv (K : PySem.W.Frag) (C : Addr) : Sp := fun vs H Q _ => ∃ a y xs, vs = [.ref a, y] ∧ SzAt K C H a xs ∧
  ((∃ b ys, y = .ref b ∧ SzAt K C H b ys ∧ Q (.bl (decide (xs = ys))) H) ∨ (∃ t, TyX K H y t ∧ (t == .ref C) = false ∧ PySem.W.subIn K t (.ref C) = some false ∧ Q (.bl false) H))
abbrev CnAny : List Int → List Int → Prop := fun _ _ => True
abbrev CnMul : List Int → List Int → Prop := fun xs ys => ∀ x ∈ xs, ∀ y ∈ ys, CMulW x y
section
variable {P : Program} {w : World} {K : PySem.W.Frag} {mg : Str → Option Value} {base : Heap} {C fT fS fP fN fI fO fA : Addr} {fdT fdS fdP fdN fdI fdO fdA : FuncData}
theorem ok_is_integer {f : Addr} {fd : FuncData} (F : Fun K "is_integer" "is_integer" S_is_integer f fd) (B : Bn mg) : FnOk P w K mg base CX0 1 f fd ["value"] spIsInt := by
  refine F.ok sc_is_integer (fun vs H Q E h => ?_) (fun cdv A outer s H vs Q E hr h => ?_)
  · obtain ⟨i, rfl, _⟩ := h; rfl
  · obtain ⟨i, rfl, k⟩ := h
    refine ⟨_, pss_one (ps_ret (pe_and (pe_callB call_isi (by rfl) B.isinstance (by decide +kernel) (pa_cons (pv 0) (pa_cons (pe_bltn (by rfl) B.int (u := .type "int") (v := .ty "int") (by decide +kernel) rfl) pa_nil)))
      (pe_one (pe_not (pe_callB call_isi (by rfl) B.isinstance (by decide +kernel) (pa_cons (pv 0) (pa_cons (pe_bltn (by rfl) B.bool (u := .type "bool") (v := .ty "bool") (by decide +kernel) rfl) pa_nil))))))), ?_⟩
    refine ⟨_, rfl, _, _, _, _, true, rfl, .ty _, .base (.int i), kit_ty (by decide +kernel), true, rfl, ?_⟩
    refine iteT ?_
    exact ⟨_, rfl, _, _, _, _, false, rfl, .ty _, .base (.int i), kit_ty (by decide +kernel), false, rfl, k⟩
theorem ok_is_operand {f : Addr} {fd : FuncData} (F : Fun K "_is_operand" "_is_operand" S_is_operand f fd) (Z : SzC K mg C fT fS fP fN fI fO fA) (FI : Fun K "is_integer" "is_integer" S_is_integer fI fdI) (bI : Binds K fdI ["value"] []) (B : Bn mg) :
    FnOk P w K mg base CX0 2 f fd ["value"] (spIsOp K C) := by
  have GI : FnOk P w K mg base CX0 1 fI fdI ["value"] spIsInt := ok_is_integer FI B
  refine F.ok sc_is_operand (fun vs H Q E h => ?_) (fun cdv A outer s H vs Q E hr h => ?_)
  · obtain ⟨y, ys, rfl, _⟩ := h; rfl
  · obtain ⟨y, ys, rfl, hy, k⟩ := h
    refine ⟨_, pss_one (ps_ret (pe_or (pe_callB call_isi (by rfl) B.isinstance (by decide +kernel) (pa_cons (pv 0) (pa_cons (pe_glob (by rfl) Z.mgC (v := .ref C) rfl) pa_nil)))
      (pe_one (pe_call GI hr (by rfl) Z.gI FI.kp bI .nil pass0 (pa_cons (pv 0) pa_nil))))), ?_⟩
    rcases hy with ⟨b, rfl, dx, t, hb, ht⟩ | ⟨i, rfl, rfl⟩
    · refine ⟨_, rfl, _, _, _, _, true, rfl, .own C, Z.kit.ty hb, kit_self (by simp), true, rfl, ?_⟩
      exact iteT k
    · refine ⟨_, rfl, _, _, _, _, false, rfl, .own C, .base (.int i), kit_cls_ref Z.isC Z.tyC (by rfl) Z.intC, false, rfl, ?_⟩
      refine iteF ?_
      exact ⟨_, rfl, i, rfl, k⟩
theorem ok_coefficients {f : Addr} {fd : FuncData} (F : Fun K "coefficients" "Size.coefficients" S_Size_coefficients f fd) (Z : SzC K mg C fT fS fP fN fI fO fA) : FnOk P w K mg base CX0 1 f fd ["self"] (spGet K C) := by
  refine F.ok sc_Size_coefficients (fun vs H Q E h => ?_) (fun cdv A outer s H vs Q E hr h => ?_)
  · obtain ⟨a, xs, rfl, _⟩ := h; rfl
  · obtain ⟨a, xs, rfl, ⟨dx, t, ha, ht⟩, k⟩ := h
    refine ⟨_, pss_one (ps_ret (pe_fld (pv 0) rfl)), ?_⟩
    exact ⟨_, rfl, a, C, dx, _, _, rfl, ha, Z.kit.cl, Z.nP, rfl, k t ht⟩
theorem ok_degree {f : Addr} {fd : FuncData} (F : Fun K "degree" "Size.degree" S_Size_degree f fd) (Z : SzC K mg C fT fS fP fN fI fO fA) (B : Bn mg) : FnOk P w K mg base CX0 1 f fd ["self"] (spDeg K C) := by
  refine F.ok sc_Size_degree (fun vs H Q E h => ?_) (fun cdv A outer s H vs Q E hr h => ?_)
  · obtain ⟨a, xs, rfl, _⟩ := h; rfl
  · obtain ⟨a, xs, rfl, ⟨dx, t, ha, ht⟩, k⟩ := h
    refine ⟨_, pss_one (ps_ret (pe_callB (call_max2 rfl) (by rfl) B.max (by decide +kernel) (pa_cons pe_int (pa_cons (pe_op op_sub (pe_callB call_len_seq (by rfl) B.len PySem.boot_len (pa_cons (pe_fld (pv 0) rfl) pa_nil)) pe_int) pa_nil)))), ?_⟩
    refine ⟨_, rfl, a, C, dx, _, _, rfl, ha, Z.kit.cl, Z.nP, rfl, t, iz xs, rfl, .inr ht, _, _, rfl, rfl, _, _, rfl, ?_⟩
    rw [iz_len]
    have e : (if (xs.length : Int) - 1 > 0 then (xs.length : Int) - 1 else 0) = ((xs.length - 1 : Nat) : Int) := by split <;> omega
    rw [e]
    exact k
theorem ok_parts_of {f : Addr} {fd : FuncData} (F : Fun K "_parts_of" "_parts_of" S_parts_of f fd) (Z : SzC K mg C fT fS fP fN fI fO fA) {p g : Addr} {fdG : FuncData} (hp : PropOf K C "coefficients" p g) (FG : Fun K "coefficients" "Size.coefficients" S_Size_coefficients g fdG) (bG : Binds K fdG ["self"] []) (B : Bn mg) :
    FnOk P w K mg base CX0 3 f fd ["operand"] (spPartsOf K C) := by
  have GG : FnOk P w K mg base CX0 1 g fdG ["self"] (spGet K C) := ok_coefficients FG Z
  refine F.ok sc_parts_of (fun vs H Q E h => ?_) (fun cdv A outer s H vs Q E hr h => ?_)
  · obtain ⟨y, ys, rfl, _⟩ := h; rfl
  · obtain ⟨y, ys, rfl, hy, k⟩ := h
    refine ⟨_, pss_cons (ps_if (pt_val (pe_callB call_isi (by rfl) B.isinstance (by decide +kernel) (pa_cons (pv 0) (pa_cons (pe_glob (by rfl) Z.mgC (v := .ref C) rfl) pa_nil))))
        (pss_one (ps_ret (pe_prop (pv 0) Z.kit.cl hp GG hr bG .nil pass0 rfl))) pss_nil)
      (pss_one (ps_ret (pe_tup (pa_cons (pv 0) pa_nil)))), ?_⟩
    rcases hy with ⟨b, rfl, hz⟩ | ⟨i, rfl, rfl⟩
    · obtain ⟨dx, t, hb, ht⟩ := id hz
      refine ⟨_, rfl, _, _, _, _, true, rfl, .own C, Z.kit.ty hb, kit_self (by simp), true, rfl, ?_⟩
      refine iteT ?_
      exact ⟨_, rfl, b, dx, _, rfl, hb, b, ys, rfl, hz, fun t ht => k t H (Same.refl _) ht⟩
    · refine ⟨_, rfl, _, _, _, _, false, rfl, .own C, .base (.int i), kit_cls_ref Z.isC Z.tyC (by rfl) Z.intC, false, rfl, ?_⟩
      refine iteF ?_
      exact ⟨_, rfl, by show 1 ≤ sizeLine; decide, fun p hp => k p _ (Same.new hp) (.of upd_same)⟩
theorem ok_eq {f : Addr} {fd : FuncData} (F : Fun K "__eq__" "Size.__eq__" S_Size___eq__ f fd) (Z : SzC K mg C fT fS fP fN fI fO fA) (B : Bn mg) : FnOk P w K mg base CX0 1 f fd ["self", "other"] (spEqv K C) := by
  refine F.ok sc_Size___eq__ (fun vs H Q E h => ?_) (fun cdv A outer s H vs Q E hr h => ?_)
  · obtain ⟨a, y, xs, rfl, _⟩ := h; rfl
  · obtain ⟨a, y, xs, rfl, ⟨dx, t, ha, ht⟩, k⟩ := h
    refine ⟨_, pss_one (ps_ret (pe_and (pe_callB call_isi (by rfl) B.isinstance (by decide +kernel) (pa_cons (pv 1) (pa_cons (pe_glob (by rfl) Z.mgC (v := .ref C) rfl) pa_nil)))
      (pe_one (pe_cmpR (op_eqD hr.units) (pe_fld (pv 0) rfl) (pe_fld (pv 1) rfl) (nomark _))))), ?_⟩
    rcases k with ⟨b, ys, rfl, ⟨dy, u, hb, hu⟩, k⟩ | ⟨ty, hty, hne, hsub, k⟩
    · refine ⟨_, rfl, _, _, _, _, true, rfl, .own C, Z.kit.ty hb, kit_self (by simp), true, rfl, ?_⟩
      refine iteT ?_
      refine ⟨_, rfl, a, C, dx, _, _, rfl, ha, Z.kit.cl, Z.nP, rfl, _, rfl, b, C, dy, _, _, rfl, hb, Z.kit.cl, Z.nP, rfl, dI xs, dI ys, dp_ints ht, dp_ints hu, shaped_ints xs, shaped_ints ys, ?_⟩
      rw [eqv_ints]
      exact k
    · refine ⟨_, rfl, _, _, _, _, false, rfl, .own C, hty, kit_cls_ref Z.isC Z.tyC hne hsub, false, rfl, ?_⟩
      exact iteF k
end
/-- the class with its defs, as the top has made it -/
structure SzDefs (K : PySem.W.Frag) (mg : Str → Option Value) (C fT fS fP fN fI fO fA fM : Addr) (fdT fdS fdP fdN fdI fdO fdA fdM fdG : FuncData) (pc g : Addr) (dvs : List V) (ds : List Value) : Prop where
  Z : SzC K mg C fT fS fP fN fI fO fA
  B : Bn mg
  T : Fun K "_trimmed" "_trimmed" S_trimmed fT fdT
  bT : Binds K fdT ["parts"] []
  S : Fun K "_sum" "_sum" S_sum fS fdS
  bS : Binds K fdS ["one", "other"] []
  P : Fun K "_product" "_product" S_product fP fdP
  bP : Binds K fdP ["one", "other"] []
  N : Fun K "_negative" "_negative" S_negative fN fdN
  bN : Binds K fdN ["parts"] []
  I : Fun K "is_integer" "is_integer" S_is_integer fI fdI
  bI : Binds K fdI ["value"] []
  O : Fun K "_is_operand" "_is_operand" S_is_operand fO fdO
  bO : Binds K fdO ["value"] []
  A : Fun K "_parts_of" "_parts_of" S_parts_of fA fdA
  bA : Binds K fdA ["operand"] []
  M : Mk K C fM
  FM : FunD K "__init__" "Size.__init__" (defArgs S_Size___init__) (defBody S_Size___init__) (defScope S_Size___init__) dvs [] fM fdM
  bM : Binds K fdM ["self", "parts"] []
  bM0 : Binds K fdM ["self", "parts"] ds
  hd : Vals dvs ds
  dv : ∃ t0, dvs = [.ref t0] ∧ ∀ H, SqT K H t0 []
  pc : PropOf K C "coefficients" pc g
  G : Fun K "coefficients" "Size.coefficients" S_Size_coefficients g fdG
  bG : Binds K fdG ["self"] []
section
variable {P : Program} {w : World} {K : PySem.W.Frag} {mg : Str → Option Value} {base : Heap} {C fT fS fP fN fI fO fA fM : Addr} {fdT fdS fdP fdN fdI fdO fdA fdM fdG : FuncData} {pc g : Addr} {dvs : List V} {ds : List Value}
theorem SzDefs.okI (D : SzDefs K mg C fT fS fP fN fI fO fA fM fdT fdS fdP fdN fdI fdO fdA fdM fdG pc g dvs ds) : FnOk P w K mg base CX0 2 fM fdM ["self", "parts"] (spInit K C) := ok_init D.FM D.Z D.T D.bT D.B
theorem SzDefs.okA (D : SzDefs K mg C fT fS fP fN fI fO fA fM fdT fdS fdP fdN fdI fdO fdA fdM fdG pc g dvs ds) : FnOk P w K mg base CX0 3 fA fdA ["operand"] (spPartsOf K C) := ok_parts_of D.A D.Z D.pc D.G D.bG D.B
theorem SzDefs.okO (D : SzDefs K mg C fT fS fP fN fI fO fA fM fdT fdS fdP fdN fdI fdO fdA fdM fdG pc g dvs ds) : FnOk P w K mg base CX0 2 fO fdO ["value"] (spIsOp K C) := ok_is_operand D.O D.Z D.I D.bI D.B
/-- a new Size, behind its __init__ -/
theorem made {H H1 H2 : Hp} {C x dx a : Addr} {xs : List Int} {K : PySem.W.Frag} (nx : H x = none) (nd : H dx = none) (ne : dx ≠ x) (k : ∀ b o, (upd (upd H dx (.own x)) x (.ins C dx [])) b = some o → b ≠ x → H2 b = some o) : Same H H2 := Same.made nx nd k
theorem upd2_tup {K : PySem.W.Frag} {H : Hp} {x dx a C : Addr} {xs : List V} (h : SqT K H a xs) (nx : H x = none) (nd : H dx = none) (ne : dx ≠ x) : SqT K (upd (upd H dx (.own x)) x (.ins C dx [])) a xs :=
  ((Same.new nd).upN (by rw [upd_ne ne.symm]; exact nx)).tup h
/-- + and -, by the sum of the parts -/
theorem ok_add {f : Addr} {fd : FuncData} (F : Fun K "__add__" "Size.__add__" S_Size___add__ f fd) (D : SzDefs K mg C fT fS fP fN fI fO fA fM fdT fdS fdP fdN fdI fdO fdA fdM fdG pc g dvs ds) : FnOk P w K mg base CX0 4 f fd ["self", "other"] (spBin K C sumL CnAny) := by
  have GS : FnOk P w K mg base CX0 1 fS fdS ["one", "other"] (sp2 K sumL fun _ _ => True) := ok_sum D.S D.B
  refine F.ok sc_Size___add__ (fun vs H Q E h => ?_) (fun cdv A outer s H vs Q E hr h => ?_)
  · obtain ⟨a, y, xs, ys, rfl, _⟩ := h; rfl
  · obtain ⟨a, y, xs, ys, rfl, hz, hy, hxl, hyl, _, k⟩ := h
    obtain ⟨dx, t, ha, ht⟩ := id hz
    refine ⟨_, pss_cons (ps_if (pt_not (pt_val (pe_call D.okO (hr.mono (by decide)) (by rfl) D.Z.gO D.O.kp D.bO .nil pass0 (pa_cons (pv 1) pa_nil)))) pss_never pss_nil)
      (pss_one (ps_ret (pe_make D.M D.okI hr (by rfl) D.Z.mgC D.bM .nil pass0 (pa_cons (pe_call GS (hr.mono (by decide)) (by rfl) D.Z.gS D.S.kp D.bS .nil pass0
        (pa_cons (pe_fld (pv 0) rfl) (pa_cons (pe_call D.okA hr (by rfl) D.Z.gA D.A.kp D.bA .nil pass0 (pa_cons (pv 1) pa_nil)) pa_nil))) pa_nil)))), ?_⟩
    refine ⟨_, rfl, y, ys, rfl, hy, true, rfl, ?_⟩
    refine iteF ?_
    refine ⟨_, rfl, a, C, dx, _, _, rfl, ha, D.Z.kit.cl, D.Z.nP, rfl, _, rfl, y, ys, rfl, hy, fun u H1 s1 hu => ?_⟩
    refine ⟨t, u, xs, ys, rfl, s1.tup ht, hu, by omega, by omega, trivial, fun p H2 s2 hp => ?_⟩
    intro x dx' nx nd ne
    refine ⟨x, dx', p, sumL xs ys, rfl, upd_same, upd2_tup (.of hp) nx nd ne, by rw [len_sumL]; omega, fun H3 s3 h3 => ⟨rfl, ?_⟩⟩
    exact k x H3 ((s1.trans s2).trans (Same.made nx nd s3)) h3
end

section
variable {P : Program} {w : World} {K : PySem.W.Frag} {mg : Str → Option Value} {base : Heap} {C fT fS fP fN fI fO fA fM : Addr} {fdT fdS fdP fdN fdI fdO fdA fdM fdG : FuncData} {pc g : Addr} {dvs : List V} {ds : List Value}
theorem ok_sub {f : Addr} {fd : FuncData} (F : Fun K "__sub__" "Size.__sub__" S_Size___sub__ f fd) (D : SzDefs K mg C fT fS fP fN fI fO fA fM fdT fdS fdP fdN fdI fdO fdA fdM fdG pc g dvs ds) : FnOk P w K mg base CX0 4 f fd ["self", "other"] (spBin K C (fun xs ys => sumL xs (negL ys)) CnAny) := by
  have GS : FnOk P w K mg base CX0 1 fS fdS ["one", "other"] (sp2 K sumL fun _ _ => True) := ok_sum D.S D.B
  have GN : FnOk P w K mg base CX0 1 fN fdN ["parts"] (sp1 K negL) := ok_negative D.N D.B
  refine F.ok sc_Size___sub__ (fun vs H Q E h => ?_) (fun cdv A outer s H vs Q E hr h => ?_)
  · obtain ⟨a, y, xs, ys, rfl, _⟩ := h; rfl
  · obtain ⟨a, y, xs, ys, rfl, hz, hy, hxl, hyl, _, k⟩ := h
    obtain ⟨dx, t, ha, ht⟩ := id hz
    refine ⟨_, pss_cons (ps_if (pt_not (pt_val (pe_call D.okO (hr.mono (by decide)) (by rfl) D.Z.gO D.O.kp D.bO .nil pass0 (pa_cons (pv 1) pa_nil)))) pss_never pss_nil)
      (pss_one (ps_ret (pe_make D.M D.okI hr (by rfl) D.Z.mgC D.bM .nil pass0 (pa_cons (pe_call GS (hr.mono (by decide)) (by rfl) D.Z.gS D.S.kp D.bS .nil pass0
        (pa_cons (pe_fld (pv 0) rfl) (pa_cons (pe_call GN (hr.mono (by decide)) (by rfl) D.Z.gN D.N.kp D.bN .nil pass0 (pa_cons (pe_call D.okA hr (by rfl) D.Z.gA D.A.kp D.bA .nil pass0 (pa_cons (pv 1) pa_nil)) pa_nil)) pa_nil))) pa_nil)))), ?_⟩
    refine ⟨_, rfl, y, ys, rfl, hy, true, rfl, ?_⟩
    refine iteF ?_
    refine ⟨_, rfl, a, C, dx, _, _, rfl, ha, D.Z.kit.cl, D.Z.nP, rfl, _, rfl, y, ys, rfl, hy, fun u0 H0 s0 hu0 => ?_⟩
    refine ⟨u0, ys, rfl, hu0, by omega, fun u H1 s1' hu => ?_⟩
    have s1 := s0.trans s1'
    refine ⟨t, u, xs, negL ys, rfl, s1.tup ht, .of hu, by omega, by simp [negL]; omega, trivial, fun p H2 s2 hp => ?_⟩
    intro x dx' nx nd ne
    refine ⟨x, dx', p, sumL xs (negL ys), rfl, upd_same, upd2_tup (.of hp) nx nd ne, by rw [len_sumL]; simp [negL]; omega, fun H3 s3 h3 => ⟨rfl, ?_⟩⟩
    exact k x H3 ((s1.trans s2).trans (Same.made nx nd s3)) h3
theorem ok_mul {f : Addr} {fd : FuncData} (F : Fun K "__mul__" "Size.__mul__" S_Size___mul__ f fd) (D : SzDefs K mg C fT fS fP fN fI fO fA fM fdT fdS fdP fdN fdI fdO fdA fdM fdG pc g dvs ds) : FnOk P w K mg base CX0 4 f fd ["self", "other"] (spBin K C mulL CnMul) := by
  have GP : FnOk P w K mg base CX0 1 fP fdP ["one", "other"] (sp2 K mulL CnMul) := ok_product D.P D.B
  refine F.ok sc_Size___mul__ (fun vs H Q E h => ?_) (fun cdv A outer s H vs Q E hr h => ?_)
  · obtain ⟨a, y, xs, ys, rfl, _⟩ := h; rfl
  · obtain ⟨a, y, xs, ys, rfl, hz, hy, hxl, hyl, hC, k⟩ := h
    obtain ⟨dx, t, ha, ht⟩ := id hz
    refine ⟨_, pss_cons (ps_if (pt_not (pt_val (pe_call D.okO (hr.mono (by decide)) (by rfl) D.Z.gO D.O.kp D.bO .nil pass0 (pa_cons (pv 1) pa_nil)))) pss_never pss_nil)
      (pss_one (ps_ret (pe_make D.M D.okI hr (by rfl) D.Z.mgC D.bM .nil pass0 (pa_cons (pe_call GP (hr.mono (by decide)) (by rfl) D.Z.gP D.P.kp D.bP .nil pass0
        (pa_cons (pe_fld (pv 0) rfl) (pa_cons (pe_call D.okA hr (by rfl) D.Z.gA D.A.kp D.bA .nil pass0 (pa_cons (pv 1) pa_nil)) pa_nil))) pa_nil)))), ?_⟩
    refine ⟨_, rfl, y, ys, rfl, hy, true, rfl, ?_⟩
    refine iteF ?_
    refine ⟨_, rfl, a, C, dx, _, _, rfl, ha, D.Z.kit.cl, D.Z.nP, rfl, _, rfl, y, ys, rfl, hy, fun u H1 s1 hu => ?_⟩
    refine ⟨t, u, xs, ys, rfl, s1.tup ht, hu, by omega, by omega, hC, fun p H2 s2 hp => ?_⟩
    intro x dx' nx nd ne
    refine ⟨x, dx', p, mulL xs ys, rfl, upd_same, upd2_tup (.of hp) nx nd ne, by rw [len_mulL]; omega, fun H3 s3 h3 => ⟨rfl, ?_⟩⟩
    exact k x H3 ((s1.trans s2).trans (Same.made nx nd s3)) h3
theorem ok_neg {f : Addr} {fd : FuncData} (F : Fun K "__neg__" "Size.__neg__" S_Size___neg__ f fd) (D : SzDefs K mg C fT fS fP fN fI fO fA fM fdT fdS fdP fdN fdI fdO fdA fdM fdG pc g dvs ds) : FnOk P w K mg base CX0 4 f fd ["self"] (spNeg K C) := by
  have GN : FnOk P w K mg base CX0 1 fN fdN ["parts"] (sp1 K negL) := ok_negative D.N D.B
  refine F.ok sc_Size___neg__ (fun vs H Q E h => ?_) (fun cdv A outer s H vs Q E hr h => ?_)
  · obtain ⟨a, xs, rfl, _⟩ := h; rfl
  · obtain ⟨a, xs, rfl, hz, hxl, k⟩ := h
    obtain ⟨dx, t, ha, ht⟩ := id hz
    refine ⟨_, pss_one (ps_ret (pe_make D.M D.okI hr (by rfl) D.Z.mgC D.bM .nil pass0 (pa_cons (pe_call GN (hr.mono (by decide)) (by rfl) D.Z.gN D.N.kp D.bN .nil pass0 (pa_cons (pe_fld (pv 0) rfl) pa_nil)) pa_nil))), ?_⟩
    refine ⟨_, rfl, a, C, dx, _, _, rfl, ha, D.Z.kit.cl, D.Z.nP, rfl, t, xs, rfl, ht, by omega, fun p H2 s2 hp => ?_⟩
    intro x dx' nx nd ne
    refine ⟨x, dx', p, negL xs, rfl, upd_same, upd2_tup (.of hp) nx nd ne, by simp [negL]; omega, fun H3 s3 h3 => ⟨rfl, ?_⟩⟩
    exact k x H3 (s2.trans (Same.made nx nd s3)) h3
end
/-- what of the own operators the class says -/
structure SzOps (K : PySem.W.Frag) (C fadd fsub fmul fneg fcall feq : Addr) (da dsu dm dn dc de : FuncData) : Prop where
  add : BinOwn K C "add" fadd
  sub : BinOwn K C "sub" fsub
  mul : BinOwn K C "mul" fmul
  Fadd : Fun K "__add__" "Size.__add__" S_Size___add__ fadd da
  Fsub : Fun K "__sub__" "Size.__sub__" S_Size___sub__ fsub dsu
  Fmul : Fun K "__mul__" "Size.__mul__" S_Size___mul__ fmul dm
  Fneg : Fun K "__neg__" "Size.__neg__" S_Size___neg__ fneg dn
  Fcall : Fun K "__call__" "Size.__call__" S_Size___call__ fcall dc
  Feq : Fun K "__eq__" "Size.__eq__" S_Size___eq__ feq de
  badd : Binds K da ["self", "other"] []
  bsub : Binds K dsu ["self", "other"] []
  bmul : Binds K dm ["self", "other"] []
  bneg : Binds K dn ["self"] []
  bcall : Binds K dc ["self", "n"] []
  beq : Binds K de ["self", "other"] []
  neg : PySem.W.findIn K (.ref C) "__neg__" = some (some (.ref fneg))
  fneg : PySem.W.isFn K (.ref fneg) = true
  call : CallO K C fcall
  eq : PySem.W.findIn K (.ref C) "__eq__" = some (some (.ref feq))
  feq : PySem.W.isFn K (.ref feq) = true
  ne : PySem.W.findIn K (.ref C) "__ne__" = some (some (.builtin "object.__ne__"))
  tup : PySem.W.subIn K (.type "tuple") (.ref C) = some false
  str : PySem.W.subIn K (.type "str") (.ref C) = some false
/-- size(n): an int, a Size -/
def spCall (K : PySem.W.Frag) (C : Addr) : Sp := fun vs H Q _ => ∃ a y xs, vs = [.ref a, y] ∧ SzAt K C H a xs ∧ xs.length ≤ 20 ∧
  ((∃ i b m, y = .int i ∧ Bd b xs ∧ i.natAbs < 2 ^ m ∧ 0 < b ∧ 0 < m ∧ b + xs.length * (m + 1) + m ≤ 1000000 ∧ ∀ H', Same H H' → Q (.int (ev xs i)) H') ∨
   (∃ u ys b, y = .ref u ∧ SzAt K C H u ys ∧ ys.length ≤ 8 ∧ Bd b xs ∧ Bd b ys ∧ 0 < b ∧ b ≤ 2000 ∧ ∀ p H', Same H H' → SzAt K C H' p (cmp xs ys) → Q (.ref p) H'))
theorem ev_rev (xs : List Int) (n : Int) {i : Nat} {x : Int} (h : xs[xs.length - 1 - i]? = some x) (hi : i < xs.length) : ev (xs.drop (xs.length - (i + 1))) n = ev (xs.drop (xs.length - i)) n * n + x := by
  have e : xs.length - i = (xs.length - 1 - i) + 1 := by omega
  have e2 : xs.length - (i + 1) = xs.length - 1 - i := by omega
  rw [e, e2, List.drop_eq_getElem_cons (by omega : xs.length - 1 - i < xs.length)]
  have hx : xs[xs.length - 1 - i] = x := by
    have := List.getElem?_eq_getElem (show xs.length - 1 - i < xs.length by omega)
    rw [this] at h
    exact Option.some.inj h
  rw [hx, ev]
theorem cmp_rev (xs ys : List Int) {i : Nat} {x : Int} (h : xs[xs.length - 1 - i]? = some x) (hi : i < xs.length) : cmp (xs.drop (xs.length - (i + 1))) ys = trim (sumL (trim (mulL (cmp (xs.drop (xs.length - i)) ys) ys)) [x]) := by
  have e : xs.length - i = (xs.length - 1 - i) + 1 := by omega
  have e2 : xs.length - (i + 1) = xs.length - 1 - i := by omega
  rw [e, e2, List.drop_eq_getElem_cons (by omega : xs.length - 1 - i < xs.length)]
  have hx : xs[xs.length - 1 - i] = x := by
    have := List.getElem?_eq_getElem (show xs.length - 1 - i < xs.length by omega)
    rw [this] at h
    exact Option.some.inj h
  rw [hx, cmp]
theorem Bd.drop {b : Nat} {xs : List Int} (h : Bd b xs) (k : Nat) : Bd b (xs.drop k) := fun c hc => h c (List.mem_of_mem_drop hc)
theorem cmp_len : ∀ xs ys : List Int, (cmp xs ys).length ≤ xs.length * ys.length + 1
  | [], _ => Nat.zero_le _
  | c :: r, ys => by
    have ih := cmp_len r ys
    rw [cmp]
    refine Nat.le_trans (trim_len _) ?_
    rw [len_sumL]
    show max _ 1 ≤ (r.length + 1) * ys.length + 1
    rw [Nat.succ_mul]
    have := trim_len (mulL (cmp r ys) ys)
    rw [len_mulL] at this
    omega
theorem cmp_bd {b : Nat} (hb : 0 < b) : ∀ {xs ys : List Int}, xs.length ≤ 20 → ys.length ≤ 8 → Bd b xs → Bd b ys → Bd (b + xs.length * (b + 200)) (cmp xs ys)
  | [], _, _, _, _, _ => Bd.nil
  | c :: r, ys, hl, hy, h, g => by
    have hl' : r.length ≤ 20 := by rw [List.length_cons] at hl; omega
    have ih := cmp_bd hb hl' hy (fun d hd => h d (List.mem_cons_of_mem _ hd)) g
    rw [cmp]
    have h1 := Bd.trim (Bd.mulL ih g)
    have hlen : (cmp r ys).length ≤ 161 := by
      have := cmp_len r ys
      have : r.length * ys.length ≤ 20 * 8 := Nat.mul_le_mul hl' hy
      omega
    refine Bd.trim (Bd.mono (Bd.sumL (Bd.mono h1 (j := b + r.length * (b + 200) + b + (cmp r ys).length) (k := b + r.length * (b + 200) + b + 161) (by omega)) (Bd.mono (fun d hd => ?_) (j := b) (by omega))) ?_)
    · have : d = c := by simpa using hd
      rw [this]
      exact h c (List.mem_cons_self ..)
    · rw [List.length_cons, Nat.succ_mul]; omega
section
variable {P : Program} {w : World} {K : PySem.W.Frag} {mg : Str → Option Value} {base : Heap} {C fT fS fP fN fI fO fA fM : Addr} {fdT fdS fdP fdN fdI fdO fdA fdM fdG : FuncData} {pc g : Addr} {dvs : List V} {ds : List Value}
  {fadd fsub fmul fneg fcall feq : Addr} {da dsu dm dn dc de : FuncData}
theorem ok_call (D : SzDefs K mg C fT fS fP fN fI fO fA fM fdT fdS fdP fdN fdI fdO fdA fdM fdG pc g dvs ds) (O : SzOps K C fadd fsub fmul fneg fcall feq da dsu dm dn dc de) : FnOk P w K mg base CX0 5 fcall dc ["self", "n"] (spCall K C) := by
  have GA : FnOk P w K mg base CX0 4 fadd da ["self", "other"] (spBin K C sumL CnAny) := ok_add O.Fadd D
  have GM : FnOk P w K mg base CX0 4 fmul dm ["self", "other"] (spBin K C mulL CnMul) := ok_mul O.Fmul D
  refine O.Fcall.ok sc_Size___call__ (fun vs H Q E h => ?_) (fun cdv A outer s H vs Q E hr h => ?_)
  · obtain ⟨a, y, xs, rfl, _⟩ := h; rfl
  · obtain ⟨a, y, xs, rfl, hz, hxl, k⟩ := h
    obtain ⟨dx, t, ha, ht⟩ := id hz
    obtain ⟨t0, hdv, ht0⟩ := D.dv
    refine ⟨_, pss_cons (ps_set (i := 2) sc_Size___call__.nd rfl (Or.inl rfl) (pe_ifExp (pt_val (pe_callB call_isi (by rfl) D.B.isinstance (by decide +kernel) (pa_cons (pv 1) (pa_cons (pe_glob (by rfl) D.Z.mgC (v := .ref C) rfl) pa_nil))))
        (pe_make0 D.M D.okI (hr.mono (by decide)) (by rfl) D.Z.mgC D.bM0 D.hd pass0) pe_int))
      (pss_cons (ps_for PassesOwn.never rfl (pi_revA (by rfl) D.B.reversed (pe_fld (pv 0) rfl)) (pg_name (i := 3) sc_Size___call__.nd rfl (Or.inl rfl))
        (pss_one (ps_set (i := 2) sc_Size___call__.nd rfl (Or.inl rfl)
          (pe_op (op_add.or (op_own O.add GA hr O.badd pass0)) (pe_op (op_mulW.or (op_own O.mul GM hr O.bmul pass0)) (pv 2) (pv 1)) (pv 3)))))
      (pss_one (ps_ret (pv 2)))), ?_⟩
    rcases k with ⟨i, b, m, rfl, hb, hm, b0, m0, hbm, k⟩ | ⟨u, ys, b, rfl, hu, hyl, hb, hb2, b0, b1, k⟩
    · refine ⟨_, rfl, _, _, _, _, false, rfl, .own C, .base (.int i), kit_cls_ref D.Z.isC D.Z.tyC (by rfl) D.Z.intC, false, rfl, ?_⟩
      refine iteF ?_
      refine ⟨_, rfl, a, C, dx, _, _, rfl, ha, D.Z.kit.cl, D.Z.nP, rfl, t, iz xs, rfl, .inr ⟨ht, for_ItvT (xs := iz xs) (fun j σ H' => ∃ v3, σ = [some (.ref a), some (.int i), some (.int (ev (xs.drop (xs.length - j)) i)), v3] ∧ H' = H)
        ⟨none, by simp [ev]; rfl, rfl⟩ (fun j σ H' ⟨_, _, e⟩ => by rw [e]; exact ht) ?_ ?_⟩⟩
      · rintro j v σ H' hj hv ⟨v3, rfl, rfl⟩
        rw [iz_len] at hj hv
        obtain ⟨x, hx, rfl⟩ := of_iz_get hv
        have hd := Bd.drop hb (xs.length - j)
        have hl : (xs.drop (xs.length - j)).length ≤ xs.length := by rw [List.length_drop]; omega
        have hlt := ev_lt hd hm
        have hle : (xs.drop (xs.length - j)).length * (m + 1) ≤ xs.length * (m + 1) := Nat.mul_le_mul_right _ hl
        refine ⟨_, rfl, _, rfl, .inl ⟨_, _, rfl, rfl, wide_mul hlt hm (by omega) m0 (by omega), _, rfl, .inl ⟨_, _, rfl, rfl, ?_⟩⟩⟩
        refine ⟨some (.int x), ?_, rfl⟩
        rw [ev_rev xs i hx hj]
        rfl
      · rintro σ H' ⟨v3, rfl, rfl⟩
        rw [iz_len, Nat.sub_self, List.drop_zero]
        exact ⟨_, rfl, k _ (Same.refl _)⟩
    · obtain ⟨dy, tu, hu1, hu2⟩ := id hu
      refine ⟨_, rfl, _, _, _, _, true, rfl, .own C, D.Z.kit.ty hu1, kit_self (by simp), true, rfl, ?_⟩
      refine iteT ?_
      intro x dx' nx nd ne
      rw [hdv]
      refine ⟨x, dx', t0, [], rfl, upd_same, ht0 _, Nat.zero_le _, fun H3 s3 h3 => ⟨rfl, ?_⟩⟩
      have s0 : Same H H3 := Same.made nx nd s3
      refine ⟨_, rfl, a, C, dx, _, _, rfl, s0 _ _ ha, D.Z.kit.cl, D.Z.nP, rfl, t, iz xs, rfl, .inr ⟨s0.tup ht, for_ItvT (xs := iz xs) (fun j σ H' => ∃ v3 p, σ = [some (.ref a), some (.ref u), some (.ref p), v3] ∧ Same H H' ∧ SzAt K C H' p (cmp (xs.drop (xs.length - j)) ys))
        ⟨none, x, rfl, s0, by simpa [cmp, trim] using h3⟩ (fun j σ H' ⟨_, _, _, s1, _⟩ => s1.tup ht) ?_ ?_⟩⟩
      · rintro j v σ H' hj hv ⟨v3, p, rfl, s1, hp⟩
        rw [iz_len] at hj hv
        obtain ⟨z, hx, rfl⟩ := of_iz_get hv
        have hd := Bd.drop hb (xs.length - j)
        have hl : (xs.drop (xs.length - j)).length ≤ 20 := by rw [List.length_drop]; omega
        have hc := cmp_bd b0 hl hyl hd hb2
        have hcl := cmp_len (xs.drop (xs.length - j)) ys
        have hcm : (xs.drop (xs.length - j)).length * ys.length ≤ 20 * 8 := Nat.mul_le_mul hl hyl
        have hcb : (xs.drop (xs.length - j)).length * (b + 200) ≤ 20 * (b + 200) := Nat.mul_le_mul_right _ hl
        obtain ⟨dp, tp, hp1, hp2⟩ := id hp
        obtain ⟨du, tu', hu3, hu4⟩ := id (hu.same s1)
        refine ⟨_, rfl, _, rfl, .inr ⟨p, dp, _, rfl, hp1, .inl ⟨u, du, _, rfl, hu3⟩, p, .ref u, _, ys, rfl, hp, .inl ⟨u, rfl, hu.same s1⟩, by omega, by omega, fun c hc' d hd' => wide_mul (hc c hc') (hb2 d hd') (by omega) b0 (by omega), fun q H2 s2 hq => ?_⟩⟩
        obtain ⟨dq, tq, hq1, hq2⟩ := id hq
        refine ⟨_, rfl, .inr ⟨q, dq, _, rfl, hq1, .inr ⟨z, rfl⟩, q, .int z, _, [z], rfl, hq, .inr ⟨z, rfl, rfl⟩, ?_, by show 1 ≤ 400; decide, trivial, fun r H4 s4 hr4 => ?_⟩⟩
        · have := trim_len (mulL (cmp (xs.drop (xs.length - j)) ys) ys)
          rw [len_mulL] at this
          omega
        · refine ⟨some (.int z), r, rfl, (s1.trans s2).trans s4, ?_⟩
          rw [cmp_rev xs ys hx hj]
          exact hr4
      · rintro σ H' ⟨v3, p, rfl, s1, hp⟩
        rw [iz_len, Nat.sub_self, List.drop_zero] at hp
        exact ⟨_, rfl, k p H' s1 hp⟩
end

end K05

/-! t * k for a tuple t and k = 0 or 1 (HandS.TupMul has k from 2 on). -/
namespace VX
open PySem PySem.Spec PyProof.Rows L2 VR
theorem mul0 (l : Addr) (items : Array Value) (n : Nat) (dd : Option Addr) (sl : Array (Option Value)) (u : Tok) (c1 : (items.isEmpty || (0 : Int) == 1) = false) :
    Meets (Builtin.«tuple.__mul__» ⟨[.ref l, .int 0 u], []⟩) (fun _ R s => s.heap.get? l = some { cls := .type "tuple", dict := dd, data := .seq items n, slots := sl } ∧
      R (.ok (.ret (Value.ref s.heap.objs.size))) { s with heap := s.heap.push { cls := Value.type "tuple", data := Data.seq #[] }, toks := s.toks }) :=
  .of_wp fun prog w A R s h => by
    obtain ⟨hp, g, d, tk, os⟩ := s
    obtain ⟨hl, h⟩ := h
    have f1 := AutoSeq1.idx_int
    wp_walk using wpAny_loadPart' hl
    repeat (first
      | (refine wpAny_ite_false (decide_eq_false (by decide)) ?_; wp_walk using wpAny_loadPart' hl)
      | (refine wpAny_ite_false (decide_eq_false (by rw [c1]; exact Bool.false_ne_true)) ?_; wp_walk using wpAny_loadPart' hl)
      | (refine wpAny_ite_true (decide_eq_true (by decide)) ?_; wp_walk using wpAny_loadPart' hl))
    exact ⟨_, rfl, h⟩
theorem mul1 (l : Addr) (items : Array Value) (n : Nat) (dd : Option Addr) (sl : Array (Option Value)) (u : Tok) :
    Meets (Builtin.«tuple.__mul__» ⟨[.ref l, .int 1 u], []⟩) (fun _ R s => s.heap.get? l = some { cls := .type "tuple", dict := dd, data := .seq items n, slots := sl } ∧ R (.ok (.ret (Value.ref l))) s) :=
  .of_wp fun prog w A R s h => by
    obtain ⟨hp, g, d, tk, os⟩ := s
    obtain ⟨hl, h⟩ := h
    have f1 := AutoSeq1.idx_int
    have c1 : (items.isEmpty || (1 : Int) == 1) = true := by simp
    wp_walk using wpAny_loadPart' hl
    repeat (first
      | (refine wpAny_ite_false (decide_eq_false (by decide)) ?_; wp_walk using wpAny_loadPart' hl)
      | (refine wpAny_ite_true (decide_eq_true (by rw [c1])) ?_; wp_walk using wpAny_loadPart' hl))
    exact ⟨_, rfl, h⟩
/-- t * k, t not empty, 0 ≤ k -/
def rRepA (K : PySem.W.Frag) : R2 := fun x y H Q => ∃ (l : Addr) (k : Nat) (xs : List V), x = .ref l ∧ y = .int (k : Int) ∧ SqT K H l xs ∧ xs ≠ [] ∧ k ≤ 1000 ∧ xs.length ≤ 1000 ∧
  ((k = 1 ∧ Q (.ref l) H) ∨ (k ≠ 1 ∧ ∀ p, H p = none → Q (.ref p) (upd H p (.tup (List.replicate k xs).flatten))))
theorem op_repA {X : Cx} : OpR X (binaryOp .Mult) (rRepA X.K) := by
  intro pins s σ H x y v u Q I rx ry h
  obtain ⟨l, k, xs, rfl, rfl, hT, hne, hk, hz, q⟩ := h
  by_cases h2 : 2 ≤ k
  · rcases q with ⟨e, _⟩ | ⟨_, q⟩
    · omega
    · exact op_repT pins s σ H _ _ v u Q I rx ry ⟨l, (k : Int), xs, rfl, rfl, hT, hne, by omega, by omega, hz, fun p hp => q p hp⟩
  cases rx
  obtain ⟨t, rfl⟩ := ry
  obtain ⟨its, r, ⟨⟨cls, dd, data, sl⟩, ho, hc, n, hd⟩, hs⟩ := I.tuple hT
  simp only at hc hd
  subst hc hd
  have hn : its ≠ [] := fun e => hne (by
    rw [e] at r
    cases r
    rfl)
  have hi : its.toArray.isEmpty = false := by
    cases its with
    | nil => exact absurd rfl hn
    | cons a b => rfl
  rcases q with ⟨rfl, q⟩ | ⟨n1, q⟩
  · exact wpAny_binaryOp_repeat_ref (T := "tuple") (U := "int") (by decide) ⟨_, ho, rfl⟩ (fun s' => typeIs_int s' _ t) noFill_tuple_mul F.fills_int_mul F.slot_int_rmul repeat_tuple F.slot_int_index.lookup
      (call_meets F.slot_int_rmul (typeIs_int s _ t) F.entry_int_rmul (F.args_int_rmul_2 _ _) (int_rmul_tuple _ t l its.toArray n dd sl)
        ⟨ho, rfl, ⟨_, ho, rfl⟩, call_meets F.slot_tuple_mul ⟨_, ho, rfl⟩ F.entry_tuple_mul (F.args_tuple_mul_2 _ _) (mul1 l its.toArray n dd sl t) ⟨ho, ⟨.ref l, H, I, rfl, q⟩⟩⟩)
  · have k0 : k = 0 := by omega
    subst k0
    have c1 : (its.toArray.isEmpty || (0 : Int) == 1) = false := by rw [hi]; rfl
    refine wpAny_binaryOp_repeat_ref (T := "tuple") (U := "int") (by decide) ⟨_, ho, rfl⟩ (fun s' => typeIs_int s' _ t) noFill_tuple_mul F.fills_int_mul F.slot_int_rmul repeat_tuple F.slot_int_index.lookup
      (call_meets F.slot_int_rmul (typeIs_int s _ t) F.entry_int_rmul (F.args_int_rmul_2 _ _) (int_rmul_tuple _ t l its.toArray n dd sl)
        ⟨ho, rfl, ⟨_, ho, rfl⟩, call_meets F.slot_tuple_mul ⟨_, ho, rfl⟩ F.entry_tuple_mul (F.args_tuple_mul_2 _ _) (mul0 l its.toArray n dd sl t c1) ⟨ho, ?_⟩⟩)
    refine ⟨.ref s.heap.objs.size, _, I.laid (t' := s.toks) (o := .tup []) (fun b ob q => Heap.get?_push_of_some _ q) (Nat.le_refl _) ?_, rfl, q _ (I.hok.fresh (Nat.le_refl _))⟩
    exact ⟨Nat.zero_le _, [], .nil, IsTup.new _ _⟩
/-- t * k, one answer for all k -/
def rRepW (K : PySem.W.Frag) : R2 := fun x y H Q => ∃ (l : Addr) (k : Nat) (xs : List V), x = .ref l ∧ y = .int (k : Int) ∧ SqT K H l xs ∧ xs ≠ [] ∧ k ≤ 1000 ∧ xs.length ≤ 1000 ∧
  ∀ (tz : Addr) (Hz : Hp), Same H Hz → SqT K Hz tz (List.replicate k xs).flatten → Q (.ref tz) Hz
theorem op_repW {X : Cx} : OpR X (binaryOp .Mult) (rRepW X.K) := by
  intro pins s σ H x y v u Q I rx ry h
  obtain ⟨l, k, xs, e1, e2, hT, hne, hk, hz, q⟩ := h
  refine op_repA pins s σ H x y v u Q I rx ry ⟨l, k, xs, e1, e2, hT, hne, hk, hz, ?_⟩
  by_cases h : k = 1
  · refine .inl ⟨h, q l H (Same.refl _) ?_⟩
    rw [h]
    simpa using hT
  · exact .inr ⟨h, fun p hp => q p _ (Same.new hp) (.of upd_same)⟩
/-- t + u of tuples, one answer for all -/
def rCatW (K : PySem.W.Frag) : R2 := fun x y H Q => ∃ (a b : Addr) (xs ys : List V), x = .ref a ∧ y = .ref b ∧ SqT K H a xs ∧ SqT K H b ys ∧ xs.length + ys.length ≤ sizeLine ∧
  ∀ (tz : Addr) (Hz : Hp), Same H Hz → SqT K Hz tz (xs ++ ys) → Q (.ref tz) Hz
theorem op_catW {X : Cx} : OpR X (binaryOp .Add) (rCatW X.K) := by
  intro pins s σ H x y v u Q I rx ry h
  obtain ⟨a, b, xs, ys, e1, e2, ha, hb, hz, q⟩ := h
  refine op_catA pins s σ H x y v u Q I rx ry ⟨a, b, xs, ys, e1, e2, ha, hb, hz, fun e => q b H (Same.refl _) (by rw [e]; exact hb), fun _ e => q a H (Same.refl _) (by rw [e, List.append_nil]; exact ha), fun _ _ p hp => q p _ (Same.new hp) (.of upd_same)⟩
end VX

namespace K05
open PySem L2 SZ VR VX StX RT
/-! ### sums -/
/-- a part is added to what stands with its counter -/
def addC : List (List Nat × List Int) → List Nat → List Int → List (List Nat × List Int)
  | [], c, xs => [(c, trim (sumL [] xs))]
  | (d, ys) :: r, c, xs => if d = c then (d, trim (sumL ys xs)) :: r else (d, ys) :: addC r c xs
def partC (n : Int) (pw : Nat) : List Int := trim (List.replicate pw 0 ++ [n])
def sumsLoop (ts : List (List Nat × Nat)) (idx : Bool) : Nat → Nat → Int → List (List Nat × List Int) → Res (List (List Nat × List Int))
  | 0, _, _, _ => .syn 0
  | f + 1, k, sg, cs => match partM ts idx k with
    | .syn p => .syn p
    | .big w => .big w
    | .ok v k' =>
      if tk ts k' = [43] then sumsLoop ts idx f (k' + 1) 1 (addC cs v.2.2 (partC (sg * v.1) v.2.1))
      else if tk ts k' = [45] then sumsLoop ts idx f (k' + 1) (-1) (addC cs v.2.2 (partC (sg * v.1) v.2.1)) else .ok (addC cs v.2.2 (partC (sg * v.1) v.2.1)) k'
def sumsM (ts : List (List Nat × Nat)) (idx : Bool) (k : Nat) : Res (List (List Nat × List Int)) :=
  if tk ts k = [45] then sumsLoop ts idx ts.length (k + 1) (-1) [([], [])] else sumsLoop ts idx ts.length k 1 [([], [])]
theorem partLoop_gt (ts : List (List Nat × Nat)) (idx : Bool) : ∀ (f k pw : Nat) (v : Nat × List Nat) (k' : Nat), partLoop ts idx f k pw = .ok v k' → k < k'
  | 0, _, _, _, _, h => by cases h
  | f + 1, k, pw, v, k', h => by
    unfold partLoop at h
    split at h
    · split at h
      · have := partLoop_gt ts idx f _ _ _ _ h
        omega
      · cases h
        omega
    · split at h
      · cases h
        omega
      · cases h
theorem partFin_ok {n : Int} {r : Res (Nat × List Nat)} {v : Int × Nat × List Nat} {k' : Nat} (h : partFin n r = .ok v k') : (∃ u, r = .ok u k') ∧ v.2.1 ≤ 3 := by
  cases r with
  | ok u j =>
    obtain ⟨pw, c⟩ := u
    have h2 : (if 3 < pw then Res.big "degree" else Res.ok (n, pw, c) j) = .ok v k' := h
    split at h2
    · cases h2
    · cases h2
      exact ⟨⟨_, rfl⟩, by show pw ≤ 3; omega⟩
  | syn p => cases h
  | big w => cases h
theorem partM_ok {ts : List (List Nat × Nat)} {idx : Bool} {k : Nat} {v : Int × Nat × List Nat} {k' : Nat} (h : partM ts idx k = .ok v k') : k < k' ∧ v.2.1 ≤ 3 := by
  unfold partM at h
  split at h
  · split at h
    · cases h
    · obtain ⟨⟨u, e⟩, h3⟩ := partFin_ok h
      split at e
      · have := partLoop_gt _ _ _ _ _ _ _ e
        exact ⟨by omega, h3⟩
      · cases e
        exact ⟨by omega, h3⟩
  · obtain ⟨⟨u, e⟩, h3⟩ := partFin_ok h
    exact ⟨partLoop_gt _ _ _ _ _ _ _ e, h3⟩
/-- a dict with a Size for each counter -/
def SumAt (K : PySem.W.Frag) (CZ : Addr) (H : Hp) (d : Addr) (cs : List (List Nat × List Int)) : Prop := ∃ kvs : List (Key × V), H d = some (.dK kvs) ∧ Paired (fun kv p => kv.1 = .inr ⟨p.1.toArray⟩ ∧ ∃ a, kv.2 = .ref a ∧ SzAt K CZ H a p.2 ∧ p.2.length ≤ 4) kvs cs
theorem key_inj {c d : List Nat} : ((.inr ⟨c.toArray⟩ : Key) = .inr ⟨d.toArray⟩) ↔ c = d := by
  constructor
  · intro z
    injection z with z
    injection z with z
    simpa using z
  · intro z
    rw [z]
/-- what stands with a counter -/
def getC : List (List Nat × List Int) → List Nat → Option (List Int)
  | [], _ => none
  | (d, ys) :: r, c => if d = c then some ys else getC r c
theorem sum_get {K : PySem.W.Frag} {CZ : Addr} {H : Hp} (c : List Nat) : ∀ {kvs : List (Key × V)} {cs : List (List Nat × List Int)}, Paired (fun kv p => kv.1 = .inr ⟨p.1.toArray⟩ ∧ ∃ a, kv.2 = .ref a ∧ SzAt K CZ H a p.2 ∧ p.2.length ≤ 4) kvs cs →
    (getC cs c = none ∧ valV kvs (.inr ⟨c.toArray⟩ : Key) = none) ∨ ∃ ys a, getC cs c = some ys ∧ valV kvs (.inr ⟨c.toArray⟩ : Key) = some (.ref a) ∧ SzAt K CZ H a ys ∧ ys.length ≤ 4
  | _, _, .nil => .inl ⟨rfl, rfl⟩
  | _, _, .cons (a := kv) (b := p) (l₁ := r1) (l₂ := r2) ⟨e, a, ea, hz, hl⟩ r => by
    obtain ⟨d, ys⟩ := p
    by_cases hd : d = c
    · subst hd
      exact .inr ⟨ys, a, by unfold getC; rw [if_pos rfl], by rw [valV_pos (p := kv) e, ea], hz, hl⟩
    · have ne : ¬ kv.1 = (.inr ⟨c.toArray⟩ : Key) := fun z => hd (key_inj.mp (e.symm.trans z))
      have g : getC ((d, ys) :: r2) c = getC r2 c := by
        show (if d = c then some ys else getC r2 c) = _
        rw [if_neg hd]
      rw [g, valV_neg (p := kv) ne]
      exact sum_get c r
theorem addC_len (ys xs : List Int) (h1 : ys.length ≤ 4) (h2 : xs.length ≤ 4) : (trim (sumL ys xs)).length ≤ 4 := Nat.le_trans (trim_len _) (by rw [len_sumL]; omega)
theorem putK_ne {p : Key × V} {r : List (Key × V)} {k : Key} {v : V} (h : ¬ p.1 = k) : putK (p :: r) k v = p :: putK r k v := by
  unfold putK
  rw [List.any_cons, decide_eq_false h, Bool.false_or]
  split
  · rw [List.map_cons, if_neg h]
  · rfl
theorem putK_eq {p : Key × V} {r : List (Key × V)} {k : Key} {v : V} (h : p.1 = k) (hr : ∀ q ∈ r, ¬ q.1 = k) : putK (p :: r) k v = (p.1, v) :: r := by
  unfold putK
  rw [List.any_cons, decide_eq_true h, Bool.true_or, if_pos rfl, List.map_cons, if_pos h]
  congr 1
  exact (List.map_congr_left (f := fun kv : Key × V => if kv.1 = k then (kv.1, v) else kv) (g := id) (fun q hq => if_neg (hr q hq))).trans (List.map_id r)
theorem sum_put {K : PySem.W.Frag} {CZ : Addr} {H : Hp} {b : Addr} (c : List Nat) (xs : List Int) (hx : xs.length ≤ 4) : ∀ {kvs : List (Key × V)} {cs : List (List Nat × List Int)}, Paired (fun kv p => kv.1 = .inr ⟨p.1.toArray⟩ ∧ ∃ a, kv.2 = .ref a ∧ SzAt K CZ H a p.2 ∧ p.2.length ≤ 4) kvs cs →
    SzAt K CZ H b (trim (sumL ((getC cs c).getD []) xs)) → (cs.map (·.1)).Nodup → Paired (fun kv p => kv.1 = .inr ⟨p.1.toArray⟩ ∧ ∃ a, kv.2 = .ref a ∧ SzAt K CZ H a p.2 ∧ p.2.length ≤ 4) (putK kvs (.inr ⟨c.toArray⟩ : Key) (.ref b)) (addC cs c xs)
  | _, _, .nil, hb, _ => .cons ⟨rfl, b, rfl, hb, addC_len [] xs (by simp) hx⟩ .nil
  | _, _, .cons (a := kv) (b := p) (l₁ := r1) (l₂ := r2) ⟨e, a, ea, hz, hl⟩ r, hb, nd => by
    obtain ⟨d, ys⟩ := p
    rw [List.map_cons, List.nodup_cons] at nd
    by_cases hd : d = c
    · subst hd
      have far : ∀ q ∈ r1, ¬ q.1 = (.inr ⟨d.toArray⟩ : Key) := fun q hq z => by
        have key : ∀ {l1 : List (Key × V)} {l2 : List (List Nat × List Int)}, Paired (fun kv p => kv.1 = .inr ⟨p.1.toArray⟩ ∧ ∃ a, kv.2 = .ref a ∧ SzAt K CZ H a p.2 ∧ p.2.length ≤ 4) l1 l2 → q ∈ l1 → d ∈ l2.map (·.1) := by
          intro l1 l2 w
          induction w with
          | nil => intro h; cases h
          | cons h t ih =>
            intro h2
            rcases List.mem_cons.mp h2 with h3 | h3
            · subst h3
              rw [h.1] at z
              rw [List.map_cons, key_inj.mp z]
              exact List.mem_cons_self ..
            · rw [List.map_cons]
              exact List.mem_cons_of_mem _ (ih h3)
        exact nd.1 (key r hq)
      rw [putK_eq (p := kv) e far]
      have g : addC ((d, ys) :: r2) d xs = (d, trim (sumL ys xs)) :: r2 := by
        show (if d = d then _ else _) = _
        rw [if_pos rfl]
      have g2 : getC ((d, ys) :: r2) d = some ys := by
        show (if d = d then some ys else _) = _
        rw [if_pos rfl]
      rw [g2] at hb
      rw [g]
      exact .cons ⟨e, b, rfl, hb, addC_len ys xs hl hx⟩ r
    · have ne : ¬ kv.1 = (.inr ⟨c.toArray⟩ : Key) := fun z => hd (key_inj.mp (e.symm.trans z))
      have g : addC ((d, ys) :: r2) c xs = (d, ys) :: addC r2 c xs := by
        show (if d = c then _ else _) = _
        rw [if_neg hd]
      have g2 : getC ((d, ys) :: r2) c = getC r2 c := by
        show (if d = c then some ys else getC r2 c) = _
        rw [if_neg hd]
      rw [g2] at hb
      rw [putK_ne (p := kv) ne, g]
      exact .cons ⟨e, a, ea, hz, hl⟩ (sum_put c xs hx r hb nd.2)
theorem addC_keys (c : List Nat) (xs : List Int) : ∀ cs : List (List Nat × List Int), (cs.map (·.1)).Nodup → ((addC cs c xs).map (·.1)).Nodup ∧ ∀ d, d ∈ (addC cs c xs).map (·.1) → d = c ∨ d ∈ cs.map (·.1)
  | [], _ => ⟨by simp [addC], fun d hd => .inl (by simpa [addC] using hd)⟩
  | (d, ys) :: r, nd => by
    rw [List.map_cons, List.nodup_cons] at nd
    by_cases h : d = c
    · have g : addC ((d, ys) :: r) c xs = (d, trim (sumL ys xs)) :: r := by
        show (if d = c then _ else _) = _
        rw [if_pos h]
      rw [g]
      exact ⟨by rw [List.map_cons, List.nodup_cons]; exact nd, fun e he => .inr he⟩
    · have g : addC ((d, ys) :: r) c xs = (d, ys) :: addC r c xs := by
        show (if d = c then _ else _) = _
        rw [if_neg h]
      obtain ⟨i1, i2⟩ := addC_keys c xs r nd.2
      rw [g]
      refine ⟨?_, fun e he => ?_⟩
      · rw [List.map_cons, List.nodup_cons]
        exact ⟨fun z => (i2 d z).elim h nd.1, i1⟩
      · rw [List.map_cons] at he ⊢
        rcases List.mem_cons.mp he with z | z
        · exact .inr (by rw [z]; exact List.mem_cons_self ..)
        · exact (i2 e z).imp id (List.mem_cons_of_mem _)

end K05

namespace K05
open PySem L2 SZ VR VX StX RT
/-- the class Size as the parser uses it -/
structure SzS (P : Program) (w : World) (K : PySem.W.Frag) (mg : Str → Option Value) (base : Heap) (CZ : Addr) : Prop where
  m : mg "Size" = some (.ref CZ)
  mkS : ∃ (f : Addr) (fd : FuncData) (ds : List Value) (t0 : Addr), Mk K CZ f ∧ FnOk P w K mg base CX0 2 f fd ["self", "parts"] (spInit K CZ) ∧ Binds K fd ["self", "parts"] [] ∧ Binds K fd ["self", "parts"] ds ∧ Vals [V.ref t0] ds ∧ ∀ H, SqT K H t0 []
  add : ∃ (f : Addr) (fd : FuncData), BinOwn K CZ "add" f ∧ Binds K fd ["self", "other"] [] ∧ FnOk P w K mg base CX0 4 f fd ["self", "other"] (spBin K CZ sumL CnAny)
/-- a text in a tuple of two texts -/
def rInTwo (K : PySem.W.Frag) (p q : Str) : R2 := fun x y H Q => ∃ (z : Str) (a : Addr), x = .str z ∧ y = .ref a ∧ SqT K H a [.str p, .str q] ∧ Q (.bl (decide (z = p) || decide (z = q))) H
theorem op_inTwo {X : Cx} {p q : Str} : OpR X (compareOp .In) (rInTwo X.K p q) := by
  intro pins s σ H x y v u Q I rx ry h
  obtain ⟨z, a, e1, e2, h, qq⟩ := h
  subst e1
  refine op_in_seq pins s σ H _ y v u Q I rx ry ⟨a, _, e2, .inr h, rfl, rfl, ?_⟩
  show Q (.bl (inV (.str z) [.str p, .str q])) H
  have e : inV (.str z) [.str p, .str q] = (decide (z = p) || decide (z = q)) := by
    refine Eq.trans (inV_str z [p, q]) ?_
    rw [List.contains_cons, List.contains_cons, List.contains_nil, Bool.or_false]
    congr 1
  rw [e]
  exact qq
theorem addC_length (c : List Nat) (xs : List Int) : ∀ cs : List (List Nat × List Int), (addC cs c xs).length ≤ cs.length + 1
  | [] => by simp [addC]
  | (d, ys) :: r => by
    have ih := addC_length c xs r
    show (if d = c then (d, trim (sumL ys xs)) :: r else (d, ys) :: addC r c xs).length ≤ _
    split
    · simp
    · rw [List.length_cons, List.length_cons]; omega
theorem putK_len {H : Hp} {K : PySem.W.Frag} {CZ : Addr} {kvs : List (Key × V)} {cs : List (List Nat × List Int)} (h : Paired (fun kv p => kv.1 = .inr ⟨p.1.toArray⟩ ∧ ∃ a, kv.2 = .ref a ∧ SzAt K CZ H a p.2 ∧ p.2.length ≤ 4) kvs cs) : kvs.length = cs.length := h.length
theorem partC_len (n : Int) (pw : Nat) (h : pw ≤ 3) : (partC n pw).length ≤ 4 := Nat.le_trans (trim_len _) (by rw [List.length_append, List.length_replicate]; simp; omega)
theorem RdAt.updD {C R d : Addr} {H : Hp} {ts : List (List Nat × Nat)} {k : Nat} {kvs : List (Key × V)} {o : HO} (h : RdAt C H R ts k) (e : H d = some (.dK kvs)) : RdAt C (upd H d o) R ts k := by
  obtain ⟨dx, l, h1, h2, vs, h3, h4⟩ := h
  have ne : ∀ {b : Addr} {u : HO}, H b = some u → (∀ z, u ≠ .dK z) → b ≠ d := fun {b u} eb n z => by rw [z, e] at eb; exact n _ (Option.some.inj eb).symm
  refine ⟨dx, l, by rw [upd_ne (ne h1 fun z => by simp)]; exact h1, by rw [upd_ne (ne h2 fun z => by simp)]; exact h2, vs, by rw [upd_ne (ne h3 fun z => by simp)]; exact h3, L2.Paired.mapP h4 fun v t ⟨p, e1, e2⟩ => ⟨p, e1, by rw [upd_ne (ne e2 fun z => by simp)]; exact e2⟩⟩
theorem SqT.butR {K : PySem.W.Frag} {H H' : Hp} {R t : Addr} {C dx : Addr} {fs : List (Str × V)} {xs : List V} (hR : H R = some (.ins C dx fs)) (b : ButR R H H') (h : SqT K H t xs) : SqT K H' t xs := by
  rcases h with (h | ⟨o, h⟩) | h
  · exact .inl (.inl (b _ _ h (fun z => by rw [z, hR] at h; cases h)))
  · exact .inl (.inr ⟨o, b _ _ h (fun z => by rw [z, hR] at h; cases h)⟩)
  · exact .inr h
theorem SzAt.butR {K : PySem.W.Frag} {CZ C R a : Addr} {H H' : Hp} {ts : List (List Nat × Nat)} {k : Nat} {xs : List Int} (r : RdAt C H R ts k) (b : ButR R H H') (h : SzAt K CZ H a xs) : SzAt K CZ H' a xs := by
  obtain ⟨dx, l, hR, _⟩ := r
  obtain ⟨dz, t, h1, h2⟩ := h
  exact ⟨dz, t, b _ _ h1 (fun z => by rw [z, hR] at h1; simp at h1), SqT.butR hR b h2⟩
theorem SumAt.butR {K : PySem.W.Frag} {CZ C R d : Addr} {H H' : Hp} {ts : List (List Nat × Nat)} {k : Nat} {cs : List (List Nat × List Int)} (r : RdAt C H R ts k) (b : ButR R H H') (h : SumAt K CZ H d cs) : SumAt K CZ H' d cs := by
  obtain ⟨kvs, h1, h2⟩ := h
  obtain ⟨dx, l, hR, _⟩ := id r
  exact ⟨kvs, b _ _ h1 (fun z => by rw [z, hR] at h1; cases h1), L2.Paired.mapP h2 fun kv p ⟨e, a, ea, hz, hl⟩ => ⟨e, a, ea, hz.butR r b, hl⟩⟩
theorem SumAt.same {K : PySem.W.Frag} {CZ d : Addr} {H H' : Hp} {cs : List (List Nat × List Int)} (h : SumAt K CZ H d cs) (s : Same H H') : SumAt K CZ H' d cs := by
  obtain ⟨kvs, h1, h2⟩ := h
  exact ⟨kvs, s _ _ h1, L2.Paired.mapP h2 fun kv p ⟨e, a, ea, hz, hl⟩ => ⟨e, a, ea, hz.same s, hl⟩⟩
theorem SzAt.updD {K : PySem.W.Frag} {CZ a d : Addr} {H : Hp} {xs : List Int} {kvs : List (Key × V)} {o : HO} (h : SzAt K CZ H a xs) (e : H d = some (.dK kvs)) : SzAt K CZ (upd H d o) a xs := by
  obtain ⟨dz, t, h1, h2⟩ := h
  exact ⟨dz, t, by rw [upd_ne (fun z => by rw [z, e] at h1; cases h1)]; exact h1, SqT.updNT h2 e (fun ys => by simp) (fun ob v => by simp)⟩
def spSums (K : PySem.W.Frag) (C CS CT CZ : Addr) : Sp := fun vs H Q E => ∃ (R : Addr) (ts : List (List Nat × Nat)) (k : Nat) (idx : Bool), vs = [.ref R, .bl idx] ∧ RdAt C H R ts k ∧ k < ts.length ∧ Snt ts ∧
  Ends' C CS CT R H ts (fun v H' x => ∃ p : Addr, x = .ref p ∧ SumAt K CZ H' p v) (sumsM ts idx k) Q E
section
variable {P : Program} {w : World} {K : PySem.W.Frag} {mg : Str → Option Value} {base : Heap} {C CS CT CZ : Addr}
theorem ok_sums {f fQ : Addr} {fd dQ : FuncData} (F : Fun K "_sums" "_sums" S_sums f fd) (FQ : Fun K "_part" "_part" S_part fQ dQ) (bQ : Binds K dQ ["reader", "in_index"] []) (gQ : mg "_part" = some (.ref fQ)) (Y : RdS P w K mg base C CS CT) (B : PtB mg) (Wz : SzS P w K mg base CZ) : FnOk P w K mg base (L2.CX P w) 6 f fd ["reader", "in_index"] (spSums K C CS CT CZ) := by
  have Z := Y.Z
  have GQ : FnOk P w K mg base (L2.CX P w) 5 fQ dQ ["reader", "in_index"] (spPart C CS CT) := ok_part FQ Y B
  obtain ⟨fT, dT, MT, bT, GTk⟩ := Y.tok
  obtain ⟨fA, dA, MA, bA, GA⟩ := Y.any
  obtain ⟨fP, dP, MP, bP, GP⟩ := Y.passes
  obtain ⟨fM, dM, ds, t0, MM, GM, bM, bM0, hd, ht0⟩ := Wz.mkS
  obtain ⟨fD, dD, BD, bD, GD⟩ := Wz.add
  refine F.okX sc_sums (fun vs H Q E h => ?_) (fun cdv A outer s H vs Q E hr h => ?_)
  · obtain ⟨R, ts, k, idx, rfl, _⟩ := h; rfl
  · obtain ⟨R, ts, k, idx, rfl, hRd, hkl, hS, q⟩ := h
    have hr1 : Room 1 _ := hr.mono (by decide)
    have hr2 : Room 2 _ := hr.mono (by decide)
    have hr3 : Room 3 _ := hr.mono (by decide)
    have hr4 : Room 4 _ := hr.mono (by decide)
    refine ⟨_, pss_cons (ps_set (i := 2) sc_sums.nd rfl (Or.inl rfl) (pe_disp (pps_cons pe_str (pe_make0 MM GM hr3 (by rfl) Wz.m bM0 hd pass0) pps_nil) (by rfl) rfl (by simp) (by decide)))
      (pss_cons (ps_set (i := 3) sc_sums.nd rfl (Or.inl rfl) (pe_ifExp (pt_val (pe_meth (pv 0) Z.kit.cl MP GP hr2 bP .nil pass0 (pa_cons pe_str pa_nil))) (pe_un un_neg pe_int) pe_int))
      (pss_cons (ps_set (i := 4) sc_sums.nd rfl (Or.inl rfl) pe_bl)
      (pss_cons (ps_while (passes_of rfl) (pt_val (pv 4))
        (pss_cons (ps_asg (pe_call GQ hr (by rfl) gQ FQ.kp bQ .nil (passes_call (takes_of rfl rfl rfl rfl) (fun _ _ _ _ h => h)) (pa_cons (pv 0) (pa_cons (pv 1) pa_nil)))
          (pg_tup rfl (pgs_cons (pg_name (i := 5) sc_sums.nd rfl (Or.inl rfl)) (pgs_cons (pg_name (i := 6) sc_sums.nd rfl (Or.inl rfl)) (pgs_cons (pg_name (i := 7) sc_sums.nd rfl (Or.inl rfl)) pgs_nil)))))
        (pss_cons (ps_set (i := 8) sc_sums.nd rfl (Or.inl rfl) (pe_make MM GM hr3 (by rfl) Wz.m bM .nil pass0 (pa_cons (pe_op op_catW (pe_op op_repW (pe_tup (pa_cons pe_int pa_nil)) (pv 6)) (pe_tup (pa_cons (pe_op op_mul (pv 3) (pv 5)) pa_nil))) pa_nil)))
        (pss_cons (ps_asg (pe_op (op_own BD GD hr4 bD pass0) (pe_dget2 (hu_of hr) (pv 2) (pv 7) (pe_make0 MM GM hr3 (by rfl) Wz.m bM0 hd pass0) ⟨rfl, rfl, rfl, rfl⟩) (pv 8)) (pg_sub (pv 2) (pv 7) (set_dict (hu_of hr))))
        (pss_cons (ps_set (i := 4) sc_sums.nd rfl (Or.inl rfl) (pe_cmpR (op_inTwo (p := Str.ofString "+") (q := Str.ofString "-")) (pe_meth0 (pv 0) Z.kit.cl MT GTk hr1 bT .nil pass0) (pe_tup (pa_cons pe_str (pa_cons pe_str pa_nil))) (by rfl)))
        (pss_one (ps_if (pt_val (pv 4)) (pss_one (ps_set (i := 3) sc_sums.nd rfl (Or.inl rfl) (pe_ifExp (pt_cmpR op_eq (pe_meth0 (pv 0) Z.kit.cl MA GA hr2 bA .nil pass0) pe_str (nomark _)) (pe_un un_neg pe_int) pe_int))) pss_nil)))))))
      (pss_one (ps_ret (pv 2)))))), ?_⟩
    obtain ⟨dx, l, hR, ho, hL⟩ := id hRd
    have sM : Str.ofString "-" = ⟨#[45]⟩ := by decide +kernel
    have sP : Str.ofString "+" = ⟨#[43]⟩ := by decide +kernel
    have s0 : Str.ofString "" = (⟨([] : List Nat).toArray⟩ : Str) := by decide +kernel
    refine fun d0 hd0 x dx0 nx nd ne => ⟨x, dx0, t0, [], rfl, upd_same, ht0 _, by simp, fun H1 m1 z1 => ⟨rfl, ?_⟩⟩
    have made := Same.made nx nd m1
    have hE := made _ _ upd_same
    refine ⟨hE, [(.inr (Str.ofString ""), .ref x)], rfl, by simp, ?_⟩
    have hS2 : SumAt K CZ (upd H1 d0 (.dK (mergeK [] [(.inr (Str.ofString ""), .ref x)]))) d0 [([], [])] := ⟨_, upd_same, .cons ⟨by show (.inr (Str.ofString "") : Key) = _; rw [s0], x, rfl, SzAt.updD z1 hE, by simp⟩ .nil⟩
    have hR2 : RdAt C (upd H1 d0 (.dK (mergeK [] [(.inr (Str.ofString ""), .ref x)]))) R ts k := ((hRd.same (Same.new hd0)).same made).updD hE
    have b2 : ButR R H (upd H1 d0 (.dK (mergeK [] [(.inr (Str.ofString ""), .ref x)]))) := fun b o e n => by
      rw [upd_ne (ne_of_none e hd0)]
      exact made _ _ ((Same.new hd0) _ _ e)
    generalize upd H1 d0 (.dK (mergeK [] [(.inr (Str.ofString ""), .ref x)])) = H2 at hS2 hR2 b2
    obtain ⟨dx2, l2, hRR, _⟩ := id hR2
    refine' (fun rest => ?_ : (∀ (k0 : Nat) (sg : Int) (H0 : Hp), (sg = 1 ∨ sg = -1) → RdAt C H0 R ts k0 → k0 < ts.length → ButR R H H0 → SumAt K CZ H0 d0 [([], [])] → sumsLoop ts idx ts.length k0 sg [([], [])] = sumsM ts idx k →
      (_ : L2.St → Hp → Prop) [some (.ref R), some (.bl idx), some (.ref d0), some (.int sg), none, none, none, none, none] H0) → _) ?_
    rotate_left
    · by_cases hm : tk ts k = [45]
      · refine ⟨_, rfl, R, dx2, _, rfl, hRR, rfl, R, ts, k, _, _, rfl, hR2, at_tk hkl, .inr ⟨(tkEq sM).mpr hm, fun H3 h3 b3 => ⟨true, rfl, iteT ⟨1, rfl, ?_⟩⟩⟩⟩
        refine rest (k + 1) (-1) H3 (.inr rfl) h3 (hS.go k hkl (by rw [hm]; simp)) (b2.trans b3) (hS2.butR hR2 b3) ?_
        unfold sumsM
        rw [if_pos hm]
      · refine ⟨_, rfl, R, dx2, _, rfl, hRR, rfl, R, ts, k, _, _, rfl, hR2, at_tk hkl, .inl ⟨fun z => hm ((tkEq sM).mp z), false, rfl, iteF ?_⟩⟩
        refine rest k 1 H2 (.inl rfl) hR2 hkl b2 hS2 ?_
        unfold sumsM
        rw [if_neg hm]
    · intro k0 sg0 H0 hsg0 h0 hk0 b0 hs0 eM
      refine ⟨fun f σ H' => ∃ (k1 : Nat) (sg : Int) (cs : List (List Nat × List Int)) (g : Bool) (v5 v6 v7 v8 : Option V), σ = [some (.ref R), some (.bl idx), some (.ref d0), some (.int sg), some (.bl g), v5, v6, v7, v8] ∧ (sg = 1 ∨ sg = -1) ∧ RdAt C H' R ts k1 ∧ k1 < ts.length ∧ ButR R H H' ∧ SumAt K CZ H' d0 cs ∧
        (cs.map (·.1)).Nodup ∧ cs.length ≤ k1 + 1 ∧ ts.length ≤ k1 + f ∧ (if g = true then sumsLoop ts idx f k1 sg cs else .ok cs k1) = sumsM ts idx k,
        ⟨ts.length, k0, sg0, [([], [])], true, none, none, none, none, rfl, hsg0, h0, hk0, b0, hs0, by simp, by simp, by omega, by rw [if_pos rfl]; exact eM⟩, ?_⟩
      clear eM hs0 b0 hk0 h0 hsg0
      rintro f σ H' ⟨k1, sg, cs, g, v5, v6, v7, v8, rfl, hsg, h1, hk1, b1, hs, ndk, hcl, hf, eM⟩
      obtain ⟨dx1, l1, hR1, _⟩ := id h1
      refine ⟨_, rfl, g, rfl, ?_⟩
      cases g with
      | false =>
        refine iteF ?_
        rw [if_neg Bool.false_ne_true] at eM
        rw [← eM] at q
        exact ⟨_, rfl, q (.ref d0) _ h1 hk1 b1 ⟨d0, rfl, hs⟩⟩
      | true =>
        obtain ⟨f, rfl⟩ : ∃ f', f = f' + 1 := ⟨f - 1, by omega⟩
        rw [if_pos rfl] at eM
        refine iteT ⟨fun σ' H2 => ∃ (k1 : Nat) (sg : Int) (cs : List (List Nat × List Int)) (g : Bool) (v5 v6 v7 v8 : Option V), σ' = [some (.ref R), some (.bl idx), some (.ref d0), some (.int sg), some (.bl g), v5, v6, v7, v8] ∧ (sg = 1 ∨ sg = -1) ∧ RdAt C H2 R ts k1 ∧ k1 < ts.length ∧ ButR R H H2 ∧ SumAt K CZ H2 d0 cs ∧
          (cs.map (·.1)).Nodup ∧ cs.length ≤ k1 + 1 ∧ ts.length ≤ k1 + f ∧ (if g = true then sumsLoop ts idx f k1 sg cs else .ok cs k1) = sumsM ts idx k, fun σ' H2 hN => ⟨f, Nat.lt_succ_self f, hN⟩, ?_⟩
        refine ⟨_, rfl, _, rfl, R, ts, k1, idx, rfl, h1, hk1, hS, ?_⟩
        unfold sumsLoop at eM
        cases hp : partM ts idx k1 with
        | syn p =>
          rw [hp] at eM
          rw [← eM] at q
          exact Out.but q b1
        | big wd =>
          rw [hp] at eM
          rw [← eM] at q
          exact OutW.but q b1
        | ok v k' =>
          rw [hp] at eM
          obtain ⟨gk, gp⟩ := partM_ok hp
          obtain ⟨n, pw, c⟩ := v
          have gp : pw ≤ 3 := gp
          rintro xv H3 h3 hk3 b3 ⟨pt, rfl, hT⟩
          refine ⟨pt, _, rfl, .of hT, rfl, _, _, rfl, _, _, rfl, _, _, rfl, rfl, ?_⟩
          have hs3 := hs.butR h1 b3
          refine ⟨lenS (by simp), fun z0 hz0 => ⟨_, rfl, z0, pw, [.int 0], rfl, rfl, .of upd_same, by simp, by omega, by simp, fun tz Hz sz0 htz => ?_⟩⟩
          rw [iz_rep] at htz
          have sz := (Same.new hz0).trans sz0
          refine ⟨_, rfl, _, rfl, sg, n, rfl, rfl, .inl ⟨by rcases hsg with e | e <;> subst e <;> decide, by rcases hsg with e | e <;> subst e <;> decide⟩, lenS (by simp), fun z1 hz1 => ?_⟩
          refine ⟨tz, z1, iz (List.replicate pw 0), [.int (sg * n)], rfl, rfl, (Same.new hz1).tup htz, .of upd_same, by rw [iz_len, List.length_replicate]; exact lenS (by simp; omega), fun tt Ht st0 htt => ?_⟩
          have st := (Same.new (o := .tup [V.int (sg * n)]) hz1).trans st0
          have e3 : iz (List.replicate pw 0) ++ [V.int (sg * n)] = iz (List.replicate pw 0 ++ [sg * n]) := by simp [iz]
          rw [e3] at htt
          refine fun xz dz nxz ndz nez => ⟨xz, dz, tt, _, rfl, upd_same, ((Same.new ndz).upN (by rw [upd_ne nez.symm]; exact nxz)).tup htt, by rw [List.length_append, List.length_replicate]; simp; omega, fun H4 m4 z4 => ⟨rfl, ?_⟩⟩
          have S4 := (sz.trans st).trans (Same.made nxz ndz m4)
          refine ⟨_, rfl, d0, rfl, ?_⟩
          obtain ⟨kv0, hk0', P0⟩ := hs3.same S4
          refine ⟨.inl ⟨kv0, .inl hk0'⟩, _, rfl, ?_⟩
          refine fun y dy ny ndy ney => ⟨y, dy, t0, [], rfl, upd_same, ht0 _, by simp, fun H5 m5 z5 => ⟨rfl, ?_⟩⟩
          have S5 := S4.trans (Same.made ny ndy m5)
          obtain ⟨kvs, hk5, P5⟩ := hs3.same S5
          have hx5 := z4.same (Same.made ny ndy m5)
          refine ⟨_, DGet.k (k := .inr ⟨c.toArray⟩) hk5, ?_⟩
          have get : ∃ (b : Addr) (ys : List Int), (valV kvs (.inr ⟨c.toArray⟩ : Key)).getD (.ref y) = .ref b ∧ SzAt K CZ H5 b ys ∧ (getC cs c).getD [] = ys ∧ ys.length ≤ 4 := by
            rcases sum_get c P5 with ⟨g1, g2⟩ | ⟨ys, b, g1, g2, g3, g4⟩
            · exact ⟨y, [], by rw [g2]; rfl, z5, by rw [g1]; rfl, by simp⟩
            · exact ⟨b, ys, by rw [g2]; rfl, g3, by rw [g1]; rfl, g4⟩
          obtain ⟨b, ys, g1, g2, g3, g4⟩ := get
          rw [g1]
          obtain ⟨db, tb, hb1, _⟩ := id g2
          obtain ⟨dx5, tx5, hx1, _⟩ := id hx5
          have pl := partC_len (sg * n) pw gp
          refine ⟨_, rfl, b, db, _, rfl, hb1, .inl ⟨xz, dx5, _, rfl, hx1⟩, b, .ref xz, ys, partC (sg * n) pw, rfl, g2, .inl ⟨xz, rfl, hx5⟩, by omega, by omega, trivial, fun p6 H6 s6 z6 => ?_⟩
          have S6 := S5.trans s6
          obtain ⟨kv6, hk6, P6⟩ := hs3.same S6
          have e67 : kv6.length = cs.length := P6.length
          refine ⟨_, rfl, _, rfl, d0, _, rfl, DPut.k (k := .inr ⟨c.toArray⟩) hk6 (by rw [e67, sizeLine_eq]; have := hS.ln; omega), ?_⟩
          have hR7 : RdAt C (upd H6 d0 (.dK (putK kv6 (.inr ⟨c.toArray⟩) (.ref p6)))) R ts k' := (h3.same S6).updD hk6
          have hs7 : SumAt K CZ (upd H6 d0 (.dK (putK kv6 (.inr ⟨c.toArray⟩) (.ref p6)))) d0 (addC cs c (partC (sg * n) pw)) := by
            refine ⟨_, upd_same, L2.Paired.mapP (sum_put c _ pl P6 (by rw [g3]; exact z6) ndk) fun kv q ⟨e1, a1, ea1, hz1, hl1⟩ => ⟨e1, a1, ea1, hz1.updD hk6, hl1⟩⟩
          have b7 : ButR R H (upd H6 d0 (.dK (putK kv6 (.inr ⟨c.toArray⟩) (.ref p6)))) := fun o u e n => by
            rw [upd_ne (ne_of_none e hd0)]
            exact S6 _ _ ((b1.trans b3) _ _ e n)
          generalize upd H6 d0 (.dK (putK kv6 (.inr ⟨c.toArray⟩) (.ref p6))) = H7 at hR7 hs7 b7
          obtain ⟨dx7, l7, hRR7, _⟩ := id hR7
          refine ⟨_, rfl, R, dx7, _, rfl, hRR7, rfl, R, ts, k', _, rfl, hR7, at_tk hk3, lenS (by simp), fun z7 hz7 => ⟨_, z7, rfl, rfl, .of upd_same, ?_⟩⟩
          have hR8 := hR7.same (Same.new (o := .tup [.str (Str.ofString "+"), .str (Str.ofString "-")]) hz7)
          have hs8 := hs7.same (Same.new (o := .tup [.str (Str.ofString "+"), .str (Str.ofString "-")]) hz7)
          have b8 := b7.trans (ButR.of (R := R) (Same.new (o := .tup [.str (Str.ofString "+"), .str (Str.ofString "-")]) hz7))
          obtain ⟨dx8, l8, hRR8, _⟩ := id hR8
          have eP : decide ((⟨(tk ts k').toArray⟩ : Str) = Str.ofString "+") = decide (tk ts k' = [43]) := decide_eq_decide.mpr (tkEq sP)
          have eM' : decide ((⟨(tk ts k').toArray⟩ : Str) = Str.ofString "-") = decide (tk ts k' = [45]) := decide_eq_decide.mpr (tkEq sM)
          have ndk2 := (addC_keys c (partC (sg * n) pw) cs ndk).1
          have len2 := addC_length c (partC (sg * n) pw) cs
          rw [eP, eM']
          refine ⟨_, rfl, _, rfl, ?_⟩
          by_cases hp1 : tk ts k' = [43]
          · rw [decide_eq_true hp1, Bool.true_or]
            have eM2 : sumsLoop ts idx f (k' + 1) 1 (addC cs c (partC (sg * n) pw)) = sumsM ts idx k := by
              rw [← eM]
              show _ = if tk ts k' = [43] then _ else _
              rw [if_pos hp1]
            refine iteT ⟨_, rfl, R, dx8, _, rfl, hRR8, rfl, R, ts, k', _, rfl, hR8, at_tk hk3, fun H9 h9 b9 => ⟨rfl, _, rfl, ?_⟩⟩
            rw [decide_eq_false (p := V.str ⟨(tk ts k').toArray⟩ = V.str (Str.ofString "-")) (fun z => by have := (tkEq sM).mp (V.str.inj z); rw [hp1] at this; cases this)]
            refine iteF ?_
            exact ⟨k' + 1, 1, _, true, _, _, _, _, rfl, .inl rfl, h9, hS.go k' hk3 (by rw [hp1]; simp), b8.trans b9, hs8.butR hR8 b9, ndk2, by omega, by omega, by rw [if_pos rfl]; exact eM2⟩
          · by_cases hm1 : tk ts k' = [45]
            · rw [decide_eq_false hp1, decide_eq_true hm1, Bool.false_or]
              have eM2 : sumsLoop ts idx f (k' + 1) (-1) (addC cs c (partC (sg * n) pw)) = sumsM ts idx k := by
                rw [← eM]
                show _ = if tk ts k' = [43] then _ else if tk ts k' = [45] then _ else _
                rw [if_neg hp1, if_pos hm1]
              refine iteT ⟨_, rfl, R, dx8, _, rfl, hRR8, rfl, R, ts, k', _, rfl, hR8, at_tk hk3, fun H9 h9 b9 => ⟨rfl, _, rfl, ?_⟩⟩
              rw [decide_eq_true (p := V.str ⟨(tk ts k').toArray⟩ = V.str (Str.ofString "-")) (by rw [(tkEq sM).mpr hm1])]
              refine iteT ⟨1, rfl, ?_⟩
              exact ⟨k' + 1, -1, _, true, _, _, _, _, rfl, .inr rfl, h9, hS.go k' hk3 (by rw [hm1]; simp), b8.trans b9, hs8.butR hR8 b9, ndk2, by omega, by omega, by rw [if_pos rfl]; exact eM2⟩
            · rw [decide_eq_false hp1, decide_eq_false hm1, Bool.false_or]
              have eM2 : (.ok (addC cs c (partC (sg * n) pw)) k' : Res (List (List Nat × List Int))) = sumsM ts idx k := by
                rw [← eM]
                show _ = if tk ts k' = [43] then _ else if tk ts k' = [45] then _ else _
                rw [if_neg hp1, if_neg hm1]
              refine iteF ?_
              exact ⟨k', sg, _, false, _, _, _, _, rfl, hsg, hR8, hk3, b8, hs8, ndk2, by omega, by omega, by rw [if_neg Bool.false_ne_true]; exact eM2⟩
end

end K05

namespace K05
open PySem L2 SZ VR VX StX RT
/-! ### sizes in texts -/
theorem getC_addC (c d : List Nat) (xs : List Int) : ∀ cs : List (List Nat × List Int), (getC cs d).isSome = true → (getC (addC cs c xs) d).isSome = true
  | [], h => by cases h
  | (e, ys) :: r, h => by
    by_cases h1 : e = c
    · have g : addC ((e, ys) :: r) c xs = (e, trim (sumL ys xs)) :: r := by
        show (if e = c then _ else _) = _
        rw [if_pos h1]
      rw [g]
      show (if e = d then some _ else getC r d).isSome = true
      have h2 : (if e = d then some ys else getC r d).isSome = true := h
      split
      · rfl
      · rename_i n
        rw [if_neg n] at h2
        exact h2
    · have g : addC ((e, ys) :: r) c xs = (e, ys) :: addC r c xs := by
        show (if e = c then _ else _) = _
        rw [if_neg h1]
      rw [g]
      show (if e = d then some ys else getC (addC r c xs) d).isSome = true
      have h2 : (if e = d then some ys else getC r d).isSome = true := h
      split
      · rfl
      · rename_i n
        rw [if_neg n] at h2
        exact getC_addC c d xs r h2
theorem sumsLoop_ok {ts : List (List Nat × Nat)} {idx : Bool} : ∀ (f k : Nat) (sg : Int) (cs cs' : List (List Nat × List Int)) (k' : Nat), sumsLoop ts idx f k sg cs = .ok cs' k' → k < k' ∧ ∀ d, (getC cs d).isSome = true → (getC cs' d).isSome = true
  | 0, _, _, _, _, _, h => by cases h
  | f + 1, k, sg, cs, cs', k', h => by
    unfold sumsLoop at h
    cases hp : partM ts idx k with
    | syn p => rw [hp] at h; cases h
    | big w => rw [hp] at h; cases h
    | ok v j =>
      rw [hp] at h
      obtain ⟨g1, _⟩ := partM_ok hp
      have h : (if tk ts j = [43] then sumsLoop ts idx f (j + 1) 1 (addC cs v.2.2 (partC (sg * v.1) v.2.1)) else if tk ts j = [45] then sumsLoop ts idx f (j + 1) (-1) (addC cs v.2.2 (partC (sg * v.1) v.2.1)) else .ok (addC cs v.2.2 (partC (sg * v.1) v.2.1)) j) = .ok cs' k' := h
      split at h
      · obtain ⟨a, b⟩ := sumsLoop_ok f _ _ _ _ _ h
        exact ⟨by omega, fun d hd => b d (getC_addC _ _ _ _ hd)⟩
      · split at h
        · obtain ⟨a, b⟩ := sumsLoop_ok f _ _ _ _ _ h
          exact ⟨by omega, fun d hd => b d (getC_addC _ _ _ _ hd)⟩
        · cases h
          exact ⟨g1, fun d hd => getC_addC _ _ _ _ hd⟩
theorem sumsM_ok {ts : List (List Nat × Nat)} {idx : Bool} {k k' : Nat} {cs : List (List Nat × List Int)} (h : sumsM ts idx k = .ok cs k') : k < k' ∧ (getC cs []).isSome = true := by
  unfold sumsM at h
  split at h
  · obtain ⟨a, b⟩ := sumsLoop_ok _ _ _ _ _ _ h
    exact ⟨by omega, b [] rfl⟩
  · obtain ⟨a, b⟩ := sumsLoop_ok _ _ _ _ _ _ h
    exact ⟨a, b [] rfl⟩
def sizeM (ts : List (List Nat × Nat)) (k : Nat) : Res (List Int) := match sumsM ts false k with
  | .ok cs k' => .ok ((getC cs []).getD []) k'
  | .syn p => .syn p
  | .big w => .big w
theorem sizeM_gt {ts : List (List Nat × Nat)} {k k' : Nat} {xs : List Int} (h : sizeM ts k = .ok xs k') : k < k' := by
  unfold sizeM at h
  cases e : sumsM ts false k with
  | ok cs j =>
    rw [e] at h
    cases h
    exact (sumsM_ok e).1
  | syn p => rw [e] at h; cases h
  | big w => rw [e] at h; cases h
def spSizeP (K : PySem.W.Frag) (C CS CT : Addr) : Sp := fun vs H Q E => ∃ (R : Addr) (ts : List (List Nat × Nat)) (k : Nat), vs = [.ref R] ∧ RdAt C H R ts k ∧ k < ts.length ∧ Snt ts ∧
  Ends' C CS CT R H ts (fun v H' x => ∃ t : Addr, x = .ref t ∧ SqT K H' t (iz v)) (sizeM ts k) Q E
section
variable {P : Program} {w : World} {K : PySem.W.Frag} {mg : Str → Option Value} {base : Heap} {C CS CT CZ : Addr}
theorem ok_size {f fS g p : Addr} {fd dS dG : FuncData} (F : Fun K "_size" "_size" S_size f fd) (GS : FnOk P w K mg base (L2.CX P w) 6 fS dS ["reader", "in_index"] (spSums K C CS CT CZ)) (kS : PySem.W.keepIn K (.ref fS) = true) (bS : Binds K dS ["reader", "in_index"] []) (gS : mg "_sums" = some (.ref fS))
    (hp : PropOf K CZ "coefficients" p g) (cl : Cls K CZ) (GG : FnOk P w K mg base CX0 1 g dG ["self"] (spGet K CZ)) (bG : Binds K dG ["self"] []) : FnOk P w K mg base (L2.CX P w) 7 f fd ["reader"] (spSizeP K C CS CT) := by
  refine F.okX sc_size (fun vs H Q E h => ?_) (fun cdv A outer s H vs Q E hr h => ?_)
  · obtain ⟨R, ts, k, rfl, _⟩ := h; rfl
  · obtain ⟨R, ts, k, rfl, hRd, hkl, hS, q⟩ := h
    have hr2 : Room 2 _ := hr.mono (by decide)
    refine ⟨_, pss_one (ps_ret (pe_prop (pe_dget (hu_of hr) (pe_call GS hr (by rfl) gS kS bS .nil (passes_call (takes_of rfl rfl rfl rfl) (fun _ _ _ _ h => h)) (pa_cons (pv 0) (pa_cons pe_bl pa_nil))) pe_str (fun _ _ => rfl)) cl hp GG hr2 bG .nil pass0 rfl)), ?_⟩
    refine ⟨_, rfl, R, ts, k, false, rfl, hRd, hkl, hS, ?_⟩
    unfold sizeM at q
    cases hm : sumsM ts false k with
    | syn p => rw [hm] at q; exact q
    | big w => rw [hm] at q; exact q
    | ok cs k' =>
      rw [hm] at q
      rintro x H1 h1 hk1 b1 ⟨d, rfl, kvs, hd, P1⟩
      have s0 : Str.ofString "" = (⟨([] : List Nat).toArray⟩ : Str) := by decide +kernel
      rcases sum_get [] P1 with ⟨g1, _⟩ | ⟨ys, a, g1, g2, g3, g4⟩
      · have := (sumsM_ok hm).2
        rw [g1] at this
        cases this
      · obtain ⟨dz, tz, ha, _⟩ := id g3
        refine ⟨d, .ref a, rfl, ?_, ?_⟩
        · have := DGet.k (k := .inr ⟨([] : List Nat).toArray⟩) hd
          rw [g2] at this
          rw [s0]
          exact this
        · refine ⟨a, dz, _, rfl, ha, a, ys, rfl, g3, fun t ht => ?_⟩
          have q := q (.ref t) H1 h1 hk1 b1 ⟨t, rfl, by rw [g1]; exact ht⟩
          exact q
end

end K05

namespace K05
open PySem L2 SZ VR VX StX RT
/-! ### indexes in texts -/
/-- the factors of these counters, in this order -/
def facs (cs : List (List Nat × List Int)) (ys : List (List Nat)) : List (List Nat × List Int) := ys.filterMap fun c => if c ≠ [] ∧ (getC cs c).getD [] ≠ [] then some (c, (getC cs c).getD []) else none
/-- all but the list at fl is kept -/
def ButL (fl : Addr) (H H' : Hp) : Prop := ∀ b o, H b = some o → b ≠ fl → H' b = some o
/-- a pair (counter, parts) -/
def FacAt (K : PySem.W.Frag) (H : Hp) (v : V) (p : List Nat × List Int) : Prop := ∃ a t : Addr, v = .ref a ∧ H a = some (.tup [.str ⟨p.1.toArray⟩, .ref t]) ∧ SqT K H t (iz p.2)
theorem FacAt.same {K : PySem.W.Frag} {H H' : Hp} {v : V} {p : List Nat × List Int} (h : FacAt K H v p) (s : Same H H') : FacAt K H' v p := let ⟨a, t, e, h1, h2⟩ := h; ⟨a, t, e, s _ _ h1, s.tup h2⟩
theorem SqT.butL {K : PySem.W.Frag} {H H' : Hp} {fl t : Addr} {vs xs : List V} (hf : H fl = some (.lst vs)) (b : ButL fl H H') (h : SqT K H t xs) : SqT K H' t xs := by
  rcases h with (h | ⟨o, h⟩) | h
  · exact .inl (.inl (b _ _ h (fun z => by rw [z, hf] at h; cases h)))
  · exact .inl (.inr ⟨o, b _ _ h (fun z => by rw [z, hf] at h; cases h)⟩)
  · exact .inr h
theorem FacAt.butL {K : PySem.W.Frag} {H H' : Hp} {fl : Addr} {vs : List V} {v : V} {p : List Nat × List Int} (hf : H fl = some (.lst vs)) (b : ButL fl H H') (h : FacAt K H v p) : FacAt K H' v p := by
  obtain ⟨a, t, e, h1, h2⟩ := h
  exact ⟨a, t, e, b _ _ h1 (fun z => by rw [z, hf] at h1; cases h1), SqT.butL hf b h2⟩
theorem SumAt.butL {K : PySem.W.Frag} {CZ d fl : Addr} {H H' : Hp} {vs : List V} {cs : List (List Nat × List Int)} (hf : H fl = some (.lst vs)) (b : ButL fl H H') (h : SumAt K CZ H d cs) : SumAt K CZ H' d cs := by
  obtain ⟨kvs, h1, h2⟩ := h
  refine ⟨kvs, b _ _ h1 (fun z => by rw [z, hf] at h1; cases h1), L2.Paired.mapP h2 fun kv p ⟨e, a, ea, ⟨dz, t, hz1, hz2⟩, hl⟩ => ⟨e, a, ea, ⟨dz, t, b _ _ hz1 (fun z => by rw [z, hf] at hz1; cases hz1), SqT.butL hf b hz2⟩, hl⟩⟩
theorem RdAt.butL {C R fl : Addr} {H H' : Hp} {vs : List V} {ts : List (List Nat × Nat)} {k : Nat} (hf : H fl = some (.lst vs)) (hn : ∀ dx l, H R = some (.ins C dx [("_tokens", .ref l), ("_at", .int (k : Int))]) → l ≠ fl) (b : ButL fl H H') (h : RdAt C H R ts k) : RdAt C H' R ts k := by
  obtain ⟨dx, l, h1, h2, vs2, h3, h4⟩ := h
  exact ⟨dx, l, b _ _ h1 (fun z => by rw [z, hf] at h1; cases h1), b _ _ h2 (fun z => by rw [z, hf] at h2; cases h2), vs2, b _ _ h3 (hn dx l h1), L2.Paired.mapP h4 fun v t ⟨p, e, hp⟩ => ⟨p, e, b _ _ hp (fun z => by rw [z, hf] at hp; cases hp)⟩⟩
theorem sum_keys {K : PySem.W.Frag} {CZ : Addr} {H : Hp} : ∀ {kvs : List (Key × V)} {cs : List (List Nat × List Int)}, Paired (fun kv p => kv.1 = .inr ⟨p.1.toArray⟩ ∧ ∃ a, kv.2 = .ref a ∧ SzAt K CZ H a p.2 ∧ p.2.length ≤ 4) kvs cs →
    kvs.map (fun kv => kV kv.1) = (cs.map fun p => (⟨p.1.toArray⟩ : Str)).map V.str
  | _, _, .nil => rfl
  | _, _, .cons ⟨e, _⟩ r => by
    rw [List.map_cons, List.map_cons, List.map_cons, sum_keys r, e]
    rfl
theorem getC_mem {cs : List (List Nat × List Int)} {c : List Nat} (h : c ∈ cs.map (·.1)) : (getC cs c).isSome = true := by
  induction cs with
  | nil => cases h
  | cons p r ih =>
    obtain ⟨d, ys⟩ := p
    show (if d = c then some ys else getC r c).isSome = true
    split
    · rfl
    · rename_i n
      rw [List.map_cons] at h
      rcases List.mem_cons.mp h with z | z
      · exact absurd z.symm n
      · exact ih z
/-- what `_index` tells: the parts without a counter, the factors in the counters' order -/
def IdxOk (K : PySem.W.Frag) (cs : List (List Nat × List Int)) (H : Hp) (x : V) : Prop := ∃ (q t f : Addr) (ys : List (List Nat)) (vs : List V), x = .ref q ∧ H q = some (.tup [.ref t, .ref f]) ∧ SqT K H t (iz ((getC cs []).getD [])) ∧
  SqT K H f vs ∧ Paired (FacAt K H) vs (facs cs ys) ∧ ys.Perm (cs.map (·.1)) ∧ PyProof.Rows.sortedS (ys.map fun c => (⟨c.toArray⟩ : Str)) = true
def spIndex (K : PySem.W.Frag) (C CS CT : Addr) : Sp := fun vs H Q E => ∃ (R : Addr) (ts : List (List Nat × Nat)) (k : Nat), vs = [.ref R] ∧ RdAt C H R ts k ∧ k < ts.length ∧ Snt ts ∧ (∀ cs k', sumsM ts true k = .ok cs k' → cs.length < 64) ∧
  Ends' C CS CT R H ts (fun cs H' x => IdxOk K cs H' x) (sumsM ts true k) Q E

end K05

namespace K05
open PySem L2 SZ VR VX StX RT
section
variable {P : Program} {w : World} {K : PySem.W.Frag} {mg : Str → Option Value} {base : Heap} {C CS CT CZ : Addr}
theorem facs_snoc (cs : List (List Nat × List Int)) (ys : List (List Nat)) (c : List Nat) : facs cs (ys ++ [c]) = facs cs ys ++ (if c ≠ [] ∧ (getC cs c).getD [] ≠ [] then [(c, (getC cs c).getD [])] else []) := by
  unfold facs
  rw [List.filterMap_append]
  congr 1
  by_cases h : c ≠ [] ∧ (getC cs c).getD [] ≠ []
  · rw [List.filterMap_cons, if_pos h, if_pos h]; rfl
  · rw [List.filterMap_cons, if_neg h, if_neg h]; rfl
theorem facs_len (cs : List (List Nat × List Int)) (ys : List (List Nat)) : (facs cs ys).length ≤ ys.length := List.length_filterMap_le _ _
theorem ok_index {f fS g p : Addr} {fd dS dG : FuncData} (F : Fun K "_index" "_index" S_index f fd) (GS : FnOk P w K mg base (L2.CX P w) 6 fS dS ["reader", "in_index"] (spSums K C CS CT CZ)) (kS : PySem.W.keepIn K (.ref fS) = true) (bS : Binds K dS ["reader", "in_index"] []) (gS : mg "_sums" = some (.ref fS))
    (hp : PropOf K CZ "coefficients" p g) (cl : Cls K CZ) (GG : FnOk P w K mg base CX0 1 g dG ["self"] (spGet K CZ)) (bG : Binds K dG ["self"] []) (hso : mg "sorted" = none) (hli : mg "list" = none) (htu : mg "tuple" = none) : FnOk P w K mg base (L2.CX P w) 7 f fd ["reader"] (spIndex K C CS CT) := by
  refine F.okX sc_index (fun vs H Q E h => ?_) (fun cdv A outer s H vs Q E hr h => ?_)
  · obtain ⟨R, ts, k, rfl, _⟩ := h; rfl
  · obtain ⟨R, ts, k, rfl, hRd, hkl, hS, h64, q⟩ := h
    have hr2 : Room 2 _ := hr.mono (by decide)
    refine ⟨_, pss_cons (ps_set (i := 1) sc_index.nd rfl (Or.inl rfl) (pe_call GS hr (by rfl) gS kS bS .nil (passes_call (takes_of rfl rfl rfl rfl) (fun _ _ _ _ h => h)) (pa_cons (pv 0) (pa_cons pe_bl pa_nil))))
      (pss_cons (ps_set (i := 2) sc_index.nd rfl (Or.inl rfl) (pe_lst pa_nil))
      (pss_cons (ps_for (passes_of rfl) rfl (pi_list (pe_callB cr_sortedS (by rfl) hso (by decide +kernel) (pa_cons (pe_callTy (call_listD rfl) (by rfl) hli (by decide +kernel) (pa_cons (pv 1) pa_nil)) pa_nil))) (pg_name (i := 3) sc_index.nd rfl (Or.inl rfl))
        (pss_cons (ps_set (i := 4) sc_index.nd rfl (Or.inl rfl) (pe_prop (pe_dget (hu_of hr) (pv 1) (pv 3) (fun _ _ => rfl)) cl hp GG hr2 bG .nil pass0 rfl))
        (pss_one (ps_if (PW.pt (pw_and (pt_cmpR op_ne (pv 3) pe_str (nomark _)) (pw_and1 (pt_cmpR (op_neD hr.units) (pv 4) (pe_tup pa_nil) (nomark _)))))
          (pss_one (ps_expr (pe_bm PySem.F.plainAttrs_list PySem.F.slot_list_append PySem.F.type_list_append mt_append (pv 2) (pa_cons (pe_tup (pa_cons (pv 3) (pa_cons (pv 4) pa_nil))) pa_nil)))) pss_nil))))
      (pss_one (ps_ret (pe_tup (pa_cons (pe_prop (pe_dget (hu_of hr) (pv 1) pe_str (fun _ _ => rfl)) cl hp GG hr2 bG .nil pass0 rfl) (pa_cons (pe_callTy call_tuple_of (by rfl) htu (by decide +kernel) (pa_cons (pv 2) pa_nil)) pa_nil))))))), ?_⟩
    refine ⟨_, rfl, R, ts, k, true, rfl, hRd, hkl, hS, ?_⟩
    cases hm : sumsM ts true k with
    | syn p => rw [hm] at q; exact q
    | big w => rw [hm] at q; exact q
    | ok cs k' =>
      rw [hm] at q
      have hc64 := h64 cs k' hm
      have hc0 := (sumsM_ok hm).2
      rintro x H1 h1 hk1 b1 ⟨d, rfl, hs⟩
      refine ⟨Nat.zero_le _, fun fl hfl => ?_⟩
      have hs2 := hs.same (Same.new (o := .lst []) hfl)
      obtain ⟨kvs, hd, P1⟩ := id hs2
      have s0 : Str.ofString "" = (⟨([] : List Nat).toArray⟩ : Str) := by decide +kernel
      refine ⟨_, rfl, d, kvs, rfl, .inl hd, fun pl hpl => ⟨pl, cs.map fun p => (⟨p.1.toArray⟩ : Str), rfl, ?_, by rw [List.length_map]; exact hc64, fun ysS ps hperm hsort hps => ⟨ps, rfl, ⟨_, .of upd_same⟩, ?_⟩⟩⟩
      · rw [sum_keys P1]
        exact .of upd_same
      have S0 : Same H1 (upd (upd (upd H1 fl (.lst [])) pl (.lst (kvs.map fun kv => kV kv.1))) ps (.lst (ysS.map V.str))) := ((Same.new hfl).upN hpl).upN hps
      have F0 := (Same.new (o := .lst (ysS.map V.str)) hps) _ _ ((Same.new (o := .lst (kvs.map fun kv => kV kv.1)) hpl) _ _ (upd_same (H := H1) (a := fl) (o := .lst [])))
      have nps : ps ≠ fl := (ne_of_none ((Same.new (o := .lst (kvs.map fun kv => kV kv.1)) hpl) _ _ (upd_same (H := H1) (a := fl) (o := .lst []))) hps).symm
      have L0 := upd_same (H := upd (upd H1 fl (.lst [])) pl (.lst (kvs.map fun kv => kV kv.1))) (a := ps) (o := .lst (ysS.map V.str))
      generalize upd (upd (upd H1 fl (.lst [])) pl (.lst (kvs.map fun kv => kV kv.1))) ps (.lst (ysS.map V.str)) = Hs at S0 F0 L0
      obtain ⟨ys, eY⟩ : ∃ ys : List (List Nat), ysS = ys.map fun c => (⟨c.toArray⟩ : Str) := ⟨ysS.map fun z => z.cps.toList, by rw [List.map_map]; exact (List.map_id _).symm.trans (List.map_congr_left fun z _ => rfl)⟩
      have hpy : ys.Perm (cs.map (·.1)) := by
        have h2 := hperm.map (fun z : Str => z.cps.toList)
        rw [eY, List.map_map, List.map_map] at h2
        have e1 : ys.map ((fun z : Str => z.cps.toList) ∘ fun c => (⟨c.toArray⟩ : Str)) = ys := (List.map_congr_left (g := id) fun _ _ => rfl).trans (List.map_id ys)
        rw [e1] at h2
        exact h2
      have hylen : ys.length < 64 := by rw [hpy.length_eq, List.length_map]; exact hc64
      subst eY
      refine for_list (xs := (ys.map fun c => (⟨c.toArray⟩ : Str)).map V.str) (fun i σ H' => ∃ (v3 v4 : Option V) (vsf : List V), σ = [some (.ref R), some (.ref d), some (.ref fl), v3, v4] ∧ Same H1 H' ∧ H' fl = some (.lst vsf) ∧ H' ps = some (.lst ((ys.map fun c => (⟨c.toArray⟩ : Str)).map V.str)) ∧ Paired (FacAt K H') vsf (facs cs (ys.take i)))
        ⟨none, none, [], rfl, S0, F0, L0, .nil⟩ (fun i σ H' _ ⟨_, _, _, _, _, _, h, _⟩ => .of h) ?_ ?_
      · rintro i v σ H' hx ⟨v3, v4, vsf, rfl, sH, hf, hl, Pf⟩
        have hcx : ∃ c, ys[i]? = some c ∧ v = .str ⟨c.toArray⟩ := by
          rw [List.getElem?_map, List.getElem?_map] at hx
          cases e : ys[i]? with
          | none => rw [e] at hx; cases hx
          | some c => rw [e] at hx; exact ⟨c, rfl, (Option.some.inj hx).symm⟩
        obtain ⟨c, hci, rfl⟩ := hcx
        have hmem : c ∈ cs.map (·.1) := hpy.subset (List.mem_of_getElem? hci)
        have et : ys.take (i + 1) = ys.take i ++ [c] := by rw [List.take_add_one, hci]; rfl
        obtain ⟨kv', hd', P'⟩ := hs.same sH
        rcases sum_get c P' with ⟨g1, _⟩ | ⟨yy, a, g1, g2, g3, g4⟩
        · have := getC_mem hmem
          rw [g1] at this
          cases this
        obtain ⟨dz, tz, ha, _⟩ := id g3
        have dg := DGet.k (k := .inr ⟨c.toArray⟩) hd'
        rw [g2] at dg
        have eg : (getC cs c).getD [] = yy := by rw [g1]; rfl
        refine ⟨_, rfl, _, rfl, d, .ref a, rfl, dg, a, dz, _, rfl, ha, a, yy, rfl, g3, fun t ht => ?_⟩
        have dz0 : decide (V.str ⟨c.toArray⟩ = V.str (Str.ofString "")) = decide (c = []) := by
          rw [s0]
          refine decide_eq_decide.mpr ⟨fun z => ?_, fun z => by rw [z]⟩
          have z := V.str.inj z
          injection z with z
          simpa using z
        refine ⟨_, rfl, rfl, _, rfl, ?_⟩
        rw [dz0]
        by_cases hc : c = []
        · rw [decide_eq_true hc]
          refine iteF (iteF ?_)
          exact ⟨_, _, vsf, rfl, sH, hf, hl, by rw [et, facs_snoc, if_neg (fun z => z.1 hc), List.append_nil]; exact Pf⟩
        · rw [decide_eq_false hc]
          refine iteT ⟨_, rfl, Nat.zero_le _, fun e0 he0 => ⟨dI yy, dI [], dp_ints ((Same.new he0).tup ht), dp_ints (.of upd_same), shaped_ints _, shaped_ints _, _, rfl, ?_⟩⟩
          rw [eqv_ints]
          have sE := Same.new (o := .tup []) he0
          by_cases hy : yy = []
          · rw [decide_eq_true hy]
            refine iteF ?_
            exact ⟨_, _, vsf, rfl, sH.trans sE, sE _ _ hf, sE _ _ hl, by rw [et, facs_snoc, if_neg (fun z => z.2 (eg.trans hy)), List.append_nil]; exact L2.Paired.mapP Pf fun _ _ h => h.same sE⟩
          · rw [decide_eq_false hy]
            refine iteT ?_
            refine ⟨_, rfl, .inl ⟨rfl, _, .of (sE _ _ hf)⟩, _, rfl, _, rfl, lenS (by simp), fun pa hpa => ?_⟩
            have sP := sE.trans (Same.new (o := .tup [.str ⟨c.toArray⟩, .ref t]) hpa)
            have hf2 := sP _ _ hf
            have lv : vsf.length = (facs cs (ys.take i)).length := Pf.length
            have lf := facs_len cs (ys.take i)
            have lt : (ys.take i).length ≤ ys.length := by rw [List.length_take]; omega
            refine ⟨fl, vsf, .ref pa, rfl, rfl, hf2, Nat.lt_of_le_of_lt (show vsf.length ≤ 50000 by omega) (by decide), ?_⟩
            have npa : pa ≠ fl := (ne_of_none (sE _ _ hf) hpa).symm
            have bL : ButL fl (upd (upd H' e0 (.tup [])) pa (.tup [.str ⟨c.toArray⟩, .ref t])) (upd (upd (upd H' e0 (.tup [])) pa (.tup [.str ⟨c.toArray⟩, .ref t])) fl (.lst (vsf ++ [.ref pa]))) := fun b o e n => by rw [upd_ne n]; exact e
            refine ⟨_, _, _, rfl, (sH.trans sP).upd0 hfl, upd_same, bL _ _ (sP _ _ hl) nps, ?_⟩
            rw [et, facs_snoc, if_pos ⟨hc, by rw [eg]; exact hy⟩, eg]
            refine (L2.Paired.mapP Pf fun _ _ h => (h.same sP).butL hf2 bL).snoc ⟨pa, t, rfl, ?_, SqT.butL hf2 bL (sP.tup ht)⟩
            rw [upd_ne npa, upd_same]
      · rintro σ H' ⟨v3, v4, vsf, rfl, sH, hf, hl, Pf⟩
        rw [List.length_map, List.length_map, List.take_length] at Pf
        obtain ⟨kv', hd', P'⟩ := hs.same sH
        rcases sum_get [] P' with ⟨g1, _⟩ | ⟨yy, a, g1, g2, g3, g4⟩
        · rw [g1] at hc0
          cases hc0
        obtain ⟨dz, tz, ha, _⟩ := id g3
        have dg := DGet.k (k := .inr ⟨([] : List Nat).toArray⟩) hd'
        rw [g2] at dg
        have eg : (getC cs []).getD [] = yy := by rw [g1]; rfl
        refine ⟨_, rfl, d, .ref a, rfl, by rw [s0]; exact dg, a, dz, _, rfl, ha, a, yy, rfl, g3, fun t ht => ?_⟩
        refine ⟨_, rfl, fl, vsf, rfl, .inl ⟨.of hf, fun ft hft => ⟨lenS (by simp), fun qp hqp => ?_⟩⟩⟩
        have sF := (Same.new (o := .tup vsf) hft).trans (Same.new (o := .tup [.ref t, .ref ft]) hqp)
        refine q (.ref qp) _ (h1.same (sH.trans sF)) hk1 (b1.trans (ButR.of (sH.trans sF))) ⟨qp, t, ft, ys, vsf, rfl, upd_same, sF.tup (by rw [eg]; exact ht), (Same.new hqp).tup (.of upd_same), L2.Paired.mapP Pf fun _ _ h => h.same sF, hpy, hsort⟩
end

end K05

namespace K05
open PySem L2 SZ VR VX StX RT
/-! ### statements and blocks -/
mutual
inductive Stm where
  | flush
  | acc (w a : List Nat) (cs : List (List Nat × List Int))
  | loop (c : List Nat) (sz : List Int) (b : Blk)
inductive Blk where
  | nil
  | snoc (p : Blk) (s : Stm)
end
mutual
def StOk (K : PySem.W.Frag) (H : Hp) : Stm → V → Prop
  | .flush, x => ∃ t : Addr, x = .ref t ∧ H t = some (.tup [.str ⟨[102, 108, 117, 115, 104].toArray⟩])
  | .acc w a cs, x => ∃ t i : Addr, x = .ref t ∧ H t = some (.tup [.str ⟨w.toArray⟩, .str ⟨a.toArray⟩, .ref i]) ∧ IdxOk K cs H (.ref i)
  | .loop c sz b, x => ∃ (t z tb : Addr) (vs : List V), x = .ref t ∧ H t = some (.tup [.str (Str.ofString "for"), .str ⟨c.toArray⟩, .ref z, .ref tb]) ∧ SqT K H z (iz sz) ∧ SqT K H tb vs ∧ BkOk K H b vs
def BkOk (K : PySem.W.Frag) (H : Hp) : Blk → List V → Prop
  | .nil, vs => vs = []
  | .snoc p s, vs => ∃ (v0 : List V) (x : V), vs = v0 ++ [x] ∧ StOk K H s x ∧ BkOk K H p v0
end
/-- tuples are kept -/
def KpT (H H' : Hp) : Prop := ∀ b o, H b = some o → ((∃ xs, o = .tup xs) ∨ ∃ u v, o = .frz u v) → H' b = some o
theorem SqT.kp {K : PySem.W.Frag} {H H' : Hp} {t : Addr} {xs : List V} (s : KpT H H') (h : SqT K H t xs) : SqT K H' t xs := by
  rcases h with (h | ⟨o, h⟩) | h
  · exact .inl (.inl (s _ _ h (.inl ⟨_, rfl⟩)))
  · exact .inl (.inr ⟨o, s _ _ h (.inr ⟨_, _, rfl⟩)⟩)
  · exact .inr h
theorem FacAt.kp {K : PySem.W.Frag} {H H' : Hp} {v : V} {p : List Nat × List Int} (s : KpT H H') (h : FacAt K H v p) : FacAt K H' v p := let ⟨a, t, e, h1, h2⟩ := h; ⟨a, t, e, s _ _ h1 (.inl ⟨_, rfl⟩), SqT.kp s h2⟩
theorem IdxOk.kp {K : PySem.W.Frag} {cs : List (List Nat × List Int)} {H H' : Hp} {x : V} (s : KpT H H') (h : IdxOk K cs H x) : IdxOk K cs H' x :=
  let ⟨q, t, f, ys, vs, e, h1, h2, h3, h4, h5, h6⟩ := h
  ⟨q, t, f, ys, vs, e, s _ _ h1 (.inl ⟨_, rfl⟩), SqT.kp s h2, SqT.kp s h3, L2.Paired.mapP h4 fun _ _ z => FacAt.kp s z, h5, h6⟩
mutual
theorem StOk.kp {K : PySem.W.Frag} {H H' : Hp} (s : KpT H H') : ∀ (st : Stm) (x : V), StOk K H st x → StOk K H' st x
  | .flush, _, h => by
    simp only [StOk] at h ⊢
    obtain ⟨t, e, h⟩ := h
    exact ⟨t, e, s _ _ h (.inl ⟨_, rfl⟩)⟩
  | .acc w a cs, _, h => by
    simp only [StOk] at h ⊢
    obtain ⟨t, i, e, h, hi⟩ := h
    exact ⟨t, i, e, s _ _ h (.inl ⟨_, rfl⟩), hi.kp s⟩
  | .loop c sz b, _, h => by
    simp only [StOk] at h ⊢
    obtain ⟨t, z, tb, vs, e, h, hz, hb, hk⟩ := h
    exact ⟨t, z, tb, vs, e, s _ _ h (.inl ⟨_, rfl⟩), SqT.kp s hz, SqT.kp s hb, BkOk.kp s b vs hk⟩
theorem BkOk.kp {K : PySem.W.Frag} {H H' : Hp} (s : KpT H H') : ∀ (b : Blk) (vs : List V), BkOk K H b vs → BkOk K H' b vs
  | .nil, _, h => by
    simp only [BkOk] at h ⊢
    exact h
  | .snoc p st, _, h => by
    simp only [BkOk] at h ⊢
    obtain ⟨v0, x, e, hs, hp⟩ := h
    exact ⟨v0, x, e, StOk.kp s st x hs, BkOk.kp s p v0 hp⟩
end
theorem ButR.kp {C R dx : Addr} {fs : List (Str × V)} {H H' : Hp} (hR : H R = some (.ins C dx fs)) (b : ButR R H H') : KpT H H' := fun c o e z => b c o e (fun n => by
  rw [n, hR] at e
  rcases z with ⟨xs, rfl⟩ | ⟨u, v, rfl⟩ <;> cases e)
theorem updL.kp {l : Addr} {vs : List V} {o : HO} {H : Hp} (hl : H l = some (.lst vs)) : KpT H (upd H l o) := fun c o' e z => by
  rw [upd_ne (fun n => by
    rw [n, hl] at e
    rcases z with ⟨xs, rfl⟩ | ⟨u, v, rfl⟩ <;> cases e)]
  exact e
theorem Same.kp {H H' : Hp} (s : Same H H') : KpT H H' := fun c o e _ => s c o e
theorem StOk.tup {K : PySem.W.Frag} {H : Hp} : ∀ (s : Stm) (x : V), StOk K H s x → ∃ (t : Addr) (us : List V), x = .ref t ∧ H t = some (.tup us) ∧ us.length ≠ 2
  | .flush, _, h => by
    simp only [StOk] at h
    obtain ⟨t, e, h⟩ := h
    exact ⟨t, _, e, h, by simp⟩
  | .acc w a cs, _, h => by
    simp only [StOk] at h
    obtain ⟨t, i, e, h, _⟩ := h
    exact ⟨t, _, e, h, by simp⟩
  | .loop c sz b, _, h => by
    simp only [StOk] at h
    obtain ⟨t, z, tb, vs, e, h, _⟩ := h
    exact ⟨t, _, e, h, by simp⟩
theorem BkOk.far {K : PySem.W.Frag} {H : Hp} : ∀ (b : Blk) (vs : List V), BkOk K H b vs → ∀ x ∈ vs, ∀ t : List Nat × Nat, ¬ TokAt H x t
  | .nil, vs, h => by
    simp only [BkOk] at h
    subst h
    intro x hx
    cases hx
  | .snoc p s, vs, h => by
    simp only [BkOk] at h
    obtain ⟨v0, y, rfl, hs, hp⟩ := h
    intro x hx t ht
    rcases List.mem_append.mp hx with hx | hx
    · exact BkOk.far p v0 hp x hx t ht
    · obtain rfl := List.mem_singleton.mp hx
      obtain ⟨a, us, rfl, ha, hn⟩ := StOk.tup s x hs
      obtain ⟨b, eb, hb⟩ := ht
      cases eb
      rw [ha] at hb
      have hb := Option.some.inj hb
      injection hb with hb
      rw [hb] at hn
      exact hn rfl
/-- a list that holds no tokens is another one than the reader's -/
theorem RdAt.updL {C R l : Addr} {H : Hp} {ts : List (List Nat × Nat)} {k : Nat} {vs : List V} {o : HO} (h : RdAt C H R ts k) (hk : k < ts.length) (e : H l = some (.lst vs)) (far : ∀ x ∈ vs, ∀ t : List Nat × Nat, ¬ TokAt H x t) : RdAt C (upd H l o) R ts k := by
  obtain ⟨dx, tl, h1, h2, ws, h3, h4⟩ := h
  have ne : tl ≠ l := fun n => by
    rw [n, e] at h3
    have h3 := Option.some.inj h3
    injection h3 with h3
    subst h3
    obtain ⟨x, hx, f⟩ := Paired.at' h4 (at_tk hk)
    exact far x (List.mem_of_getElem? hx) _ f
  have k1 : ∀ {b : Addr} {u : HO}, H b = some u → (∀ ys, u ≠ .lst ys) → b ≠ l := fun {b u} hb n z => by
    rw [z, e] at hb
    exact n _ (Option.some.inj hb).symm
  exact ⟨dx, tl, by rw [upd_ne (k1 h1 fun _ => by simp)]; exact h1, by rw [upd_ne (k1 h2 fun _ => by simp)]; exact h2, ws, by rw [upd_ne ne]; exact h3,
    L2.Paired.mapP h4 fun v t ⟨p, e1, e2⟩ => ⟨p, e1, by rw [upd_ne (k1 e2 fun _ => by simp)]; exact e2⟩⟩
def Res.bind {α β : Type} (r : Res α) (g : α → Nat → Res β) : Res β := match r with
  | .ok v k => g v k
  | .syn p => .syn p
  | .big w => .big w
abbrev tFLUSH : List Nat := [102, 108, 117, 115, 104]
abbrev tFOR : List Nat := [102, 111, 114]
abbrev tREAD : List Nat := [114, 101, 97, 100]
abbrev tWRITE : List Nat := [119, 114, 105, 116, 101]
abbrev tARRAY : List Nat := [97, 114, 114, 97, 121]
abbrev STs : List (List Nat) := [tFOR, tREAD, tWRITE, tFLUSH]
/-- behind the word for; blk reads a block -/
def loopM (ts : List (List Nat × Nat)) (blk : Nat → Nat → Res Blk) (L k : Nat) : Res Stm :=
  if isNmL (tk ts k) = true then (sizeM ts (k + 1)).bind fun sz j =>
    if tk ts j = [123] then (if 5 ≤ L then .big "nesting" else (blk (L + 1) (j + 1)).bind fun b i => if tk ts i = [125] then .ok (.loop (tk ts k) sz b) (i + 1) else .syn (ps ts i)) else .syn (ps ts j)
  else .syn (ps ts k)
/-- at a word of a statement -/
def stmM (ts : List (List Nat × Nat)) (blk : Nat → Nat → Res Blk) (L k : Nat) : Res Stm :=
  if tk ts k = tFLUSH then .ok .flush (k + 1) else if tk ts k = tFOR then loopM ts blk L (k + 1)
  else if isNmL (tk ts (k + 1)) = true then (if tk ts (k + 2) = [91] then (sumsM ts true (k + 3)).bind fun cs j => if tk ts j = [93] then .ok (.acc (tk ts k) (tk ts (k + 1)) cs) (j + 1) else .syn (ps ts j) else .syn (ps ts (k + 2)))
  else .syn (ps ts (k + 1))
def blockM (ts : List (List Nat × Nat)) : Nat → Nat → Nat → Blk → Res Blk
  | 0, _, _, _ => .syn 0
  | f + 1, L, k, acc => if tk ts k ∈ STs then (stmM ts (fun L' k' => blockM ts f L' k' .nil) L k).bind fun s j => blockM ts f L j (.snoc acc s) else .ok acc k
theorem Res.bind_ok {α β : Type} {r : Res α} {g : α → Nat → Res β} {v : β} {k : Nat} (h : r.bind g = .ok v k) : ∃ u j, r = .ok u j ∧ g u j = .ok v k := by
  cases r with
  | ok u j => exact ⟨u, j, rfl, h⟩
  | syn p => cases h
  | big w => cases h
theorem Ends'.but {α : Type} {C CS CT R : Addr} {H H1 : Hp} {ts : List (List Nat × Nat)} {val : α → Hp → V → Prop} {r : Res α} {Q : VK} {E : XK} (h : Ends' C CS CT R H ts val r Q E) (b : ButR R H H1) : Ends' C CS CT R H1 ts val r Q E := by
  cases r with
  | ok v k => exact fun x H' h1 hk b1 hv => h x H' h1 hk (b.trans b1) hv
  | syn p => exact Out.but h b
  | big w => exact OutW.but h b
theorem loopM_gt {ts : List (List Nat × Nat)} {blk : Nat → Nat → Res Blk} (hb : ∀ L k b j, blk L k = .ok b j → k ≤ j) {L k : Nat} {s : Stm} {j : Nat} (h : loopM ts blk L k = .ok s j) : k < j := by
  unfold loopM at h
  split at h
  · obtain ⟨sz, i, h1, h2⟩ := Res.bind_ok h
    have g1 := sizeM_gt h1
    split at h2
    · split at h2
      · cases h2
      · obtain ⟨b, i2, h3, h4⟩ := Res.bind_ok h2
        have g2 := hb _ _ _ _ h3
        split at h4
        · cases h4; omega
        · cases h4
    · cases h2
  · cases h
theorem stmM_gt {ts : List (List Nat × Nat)} {blk : Nat → Nat → Res Blk} (hb : ∀ L k b j, blk L k = .ok b j → k ≤ j) {L k : Nat} {s : Stm} {j : Nat} (h : stmM ts blk L k = .ok s j) : k < j := by
  unfold stmM at h
  split at h
  · cases h; omega
  · split at h
    · have := loopM_gt hb h
      omega
    · split at h
      · split at h
        · obtain ⟨cs, i, h1, h2⟩ := Res.bind_ok h
          have g1 := (sumsM_ok h1).1
          split at h2
          · cases h2; omega
          · cases h2
        · cases h
      · cases h
theorem blockM_ge (ts : List (List Nat × Nat)) : ∀ (f L k : Nat) (acc b : Blk) (j : Nat), blockM ts f L k acc = .ok b j → k ≤ j
  | 0, _, _, _, _, _, h => by cases h
  | f + 1, L, k, acc, b, j, h => by
    unfold blockM at h
    split at h
    · obtain ⟨s, i, h1, h2⟩ := Res.bind_ok h
      have g1 := stmM_gt (fun L' k' b' j' e => blockM_ge ts f L' k' .nil b' j' e) h1
      have g2 := blockM_ge ts f _ _ _ _ _ h2
      omega
    · cases h
      exact Nat.le_refl _

end K05

namespace K05
open PySem L2 SZ VR VX StX RT
/-! ### _loop, _statement, _block -/
/-- what they all read with -/
structure PsS (P : Program) (w : World) (K : PySem.W.Frag) (mg : Str → Option Value) (base : Heap) (C CS CT : Addr) : Prop where
  Y : RdS P w K mg base C CS CT
  only : ∃ f fd, Meth K C "pass_only" f ∧ Binds K fd ["self", "token"] [] ∧ FnOk P w K mg base (L2.CX P w) 3 f fd ["self", "token"] (spOnly C CS)
  size : ∃ f fd, mg "_size" = some (.ref f) ∧ PySem.W.keepIn K (.ref f) = true ∧ Binds K fd ["reader"] [] ∧ FnOk P w K mg base (L2.CX P w) 7 f fd ["reader"] (spSizeP K C CS CT)
  index : ∃ f fd, mg "_index" = some (.ref f) ∧ PySem.W.keepIn K (.ref f) = true ∧ Binds K fd ["reader"] [] ∧ FnOk P w K mg base (L2.CX P w) 7 f fd ["reader"] (spIndex K C CS CT)
  most : ∃ t, mg "_MOST_LOOPS" = some (.int 5 t)
  st : ∃ a, mg "_STATEMENTS" = some (.ref a) ∧ ∀ H, SqT K H a ((["for", "read", "write", "flush"] : List Str).map V.str)
  tup : mg "tuple" = none
/-- no index has 64 counters -/
def I64 (ts : List (List Nat × Nat)) : Prop := ∀ k cs k', sumsM ts true k = .ok cs k' → cs.length < 64
def blkF (ts : List (List Nat × Nat)) (f : Nat) : Nat → Nat → Res Blk := fun L k => blockM ts f L k .nil
def spBlock (K : PySem.W.Frag) (C CS CT : Addr) (L : Nat) : Sp := fun vs H Q E => ∃ (R : Addr) (ts : List (List Nat × Nat)) (k f : Nat), vs = [.ref R, .int (L : Int)] ∧ RdAt C H R ts k ∧ k < ts.length ∧ Snt ts ∧ I64 ts ∧ ts.length ≤ k + f ∧
  Ends' C CS CT R H ts (fun b H' x => ∃ (t : Addr) (us : List V), x = .ref t ∧ SqT K H' t us ∧ BkOk K H' b us) (blockM ts f L k .nil) Q E
def spStm (K : PySem.W.Frag) (C CS CT : Addr) (L : Nat) : Sp := fun vs H Q E => ∃ (R : Addr) (ts : List (List Nat × Nat)) (k f : Nat), vs = [.ref R, .int (L : Int)] ∧ RdAt C H R ts k ∧ k < ts.length ∧ Snt ts ∧ I64 ts ∧ ts.length ≤ k + 1 + f ∧ tk ts k ∈ STs ∧
  Ends' C CS CT R H ts (fun s H' x => StOk K H' s x) (stmM ts (blkF ts f) L k) Q E
def spLoop (K : PySem.W.Frag) (C CS CT : Addr) (L : Nat) : Sp := fun vs H Q E => ∃ (R : Addr) (ts : List (List Nat × Nat)) (k f : Nat), vs = [.ref R, .int (L : Int)] ∧ RdAt C H R ts k ∧ k < ts.length ∧ Snt ts ∧ I64 ts ∧ ts.length ≤ k + f ∧
  Ends' C CS CT R H ts (fun s H' x => StOk K H' s x) (loopM ts (blkF ts f) L k) Q E
theorem one_int (L : Nat) : V.int ((L : Int) + 1) = V.int ((L + 1 : Nat) : Int) := by congr 1
section
variable {P : Program} {w : World} {K : PySem.W.Frag} {mg : Str → Option Value} {base : Heap} {C CS CT : Addr}
theorem ok_loop {L kb : Nat} {spB : Sp} {f fB : Addr} {fd dB : FuncData} (F : Fun K "_loop" "_loop" S_loop f fd) (V' : PsS P w K mg base C CS CT) (GB : FnOk P w K mg base (L2.CX P w) kb fB dB ["reader", "loops"] spB) (kB : PySem.W.keepIn K (.ref fB) = true) (bB : Binds K dB ["reader", "loops"] []) (gB : mg "_block" = some (.ref fB))
    (hB : L < 5 → spB = spBlock K C CS CT (L + 1)) (hkb : 7 ≤ kb) (hL5 : L ≤ 5) : FnOk P w K mg base (L2.CX P w) (kb + 1) f fd ["reader", "loops"] (spLoop K C CS CT L) := by
  have Y := V'.Y
  have Z := Y.Z
  obtain ⟨fT, dT, MT, bT, GTk⟩ := Y.tok
  obtain ⟨fN, dN, gN, kN, bN, GN⟩ := Y.name
  obtain ⟨fO, dO, MO, bO, GO⟩ := V'.only
  obtain ⟨fS, dS, gS, kS, bS, GS⟩ := V'.size
  obtain ⟨t5, m5⟩ := V'.most
  refine F.okX sc_loop (fun vs H Q E h => ?_) (fun cdv A outer s H vs Q E hr h => ?_)
  · obtain ⟨R, ts, k, f, rfl, _⟩ := h; rfl
  · obtain ⟨R, ts, k, f, rfl, hRd, hkl, hS, hI, hf, q⟩ := h
    have hr1 : Room 1 _ := hr.mono (by omega)
    have hr2 : Room 2 _ := hr.mono (by omega)
    have hr3 : Room 3 _ := hr.mono (by omega)
    have hr4 : Room 4 _ := hr.mono (by omega)
    have hr7 : Room 7 _ := hr.mono (by omega)
    refine ⟨_, pss_cons (ps_set (i := 2) sc_loop.nd rfl (Or.inl rfl) (pe_call GN hr4 (by rfl) gN kN bN .nil (passes_call (takes_of rfl rfl rfl rfl) (fun _ _ _ _ h => h)) (pa_cons (pv 0) pa_nil)))
      (pss_cons (ps_set (i := 3) sc_loop.nd rfl (Or.inl rfl) (pe_call GS hr7 (by rfl) gS kS bS .nil (passes_call (takes_of rfl rfl rfl rfl) (fun _ _ _ _ h => h)) (pa_cons (pv 0) pa_nil)))
      (pss_cons (ps_if (PW.pt (pw_and (pt_cmpR op_eq (pe_meth0 (pv 0) Z.kit.cl MT GTk hr1 bT .nil pass0) pe_str (nomark _)) (pw_and1 (pt_cmpR op_ge (pv 1) (pe_glob (by rfl) m5 (v := .int 5) ⟨t5, rfl⟩) (nomark _)))))
        (pss_one (ps_raiseX Y.GT rfl (takes_of rfl rfl rfl rfl) hr2 pe_str)) pss_nil)
      (pss_cons (ps_expr (pe_meth (pv 0) Z.kit.cl MO GO hr3 bO .nil (passes_call (takes_of rfl rfl rfl rfl) (fun _ _ _ _ h => h)) (pa_cons pe_str pa_nil)))
      (pss_cons (ps_set (i := 4) sc_loop.nd rfl (Or.inl rfl) (pe_call GB hr (by rfl) gB kB bB .nil (passes_call (takes_of rfl rfl rfl rfl) (fun _ _ _ _ h => h)) (pa_cons (pv 0) (pa_cons (pe_op op_add (pv 1) pe_int) pa_nil))))
      (pss_cons (ps_expr (pe_meth (pv 0) Z.kit.cl MO GO hr3 bO .nil (passes_call (takes_of rfl rfl rfl rfl) (fun _ _ _ _ h => h)) (pa_cons pe_str pa_nil)))
      (pss_one (ps_ret (pe_tup (pa_cons pe_str (pa_cons (pv 2) (pa_cons (pv 3) (pa_cons (pv 4) pa_nil)))))))))))), ?_⟩
    have sO : Str.ofString "{" = ⟨#[123]⟩ := by decide +kernel
    have sC : Str.ofString "}" = ⟨#[125]⟩ := by decide +kernel
    have hsm : ∀ j, (tk ts j).length ≤ 100000 := fun j => by have := hS.sm j; omega
    unfold loopM at q
    by_cases hN : isNmL (tk ts k) = true
    · rw [if_pos hN] at q
      refine ⟨_, rfl, R, ts, k, _, rfl, hRd, at_tk hkl, hsm k, .inl ⟨hN, fun H1 h1 b1 => ?_⟩⟩
      have ne : tk ts k ≠ [] := fun e => by rw [e] at hN; exact absurd hN (by decide +kernel)
      have hk1 := hS.go k hkl ne
      have q := Ends'.but q b1
      refine ⟨_, rfl, R, ts, k + 1, rfl, h1, hk1, hS, ?_⟩
      cases hm : sizeM ts (k + 1) with
      | syn p => rw [hm] at q; exact q
      | big w => rw [hm] at q; exact q
      | ok sz j =>
        rw [hm] at q
        have gj := sizeM_gt hm
        rintro x H2 h2 hkj b2 ⟨z, rfl, hz⟩
        have q := Ends'.but q b2
        have q : Ends' C CS CT R H2 ts (fun s H' x => StOk K H' s x) (if tk ts j = [123] then (if 5 ≤ L then .big "nesting" else (blkF ts f (L + 1) (j + 1)).bind fun b i => if tk ts i = [125] then .ok (.loop (tk ts k) sz b) (i + 1) else .syn (ps ts i)) else .syn (ps ts j)) Q E := q
        obtain ⟨dx2, l2, hR2, ho2, hL2⟩ := id h2
        refine ⟨_, rfl, R, dx2, _, rfl, hR2, rfl, R, ts, j, _, rfl, h2, at_tk hkj, rfl, _, rfl, ?_⟩
        have em : decide (V.str ⟨(tk ts j).toArray⟩ = V.str (Str.ofString "{")) = decide (tk ts j = [123]) := decide_eq_decide.mpr ⟨fun z => (tkEq sO).mp (V.str.inj z), fun z => by rw [(tkEq sO).mpr z]⟩
        rw [em]
        by_cases hB1 : tk ts j = [123]
        · rw [if_pos hB1] at q
          rw [decide_eq_true hB1]
          refine iteT ⟨_, rfl, _, _, rfl, rfl, _, rfl, ?_⟩
          by_cases h5 : 5 ≤ L
          · rw [if_pos h5] at q
            rw [decide_eq_true (p := (5 : Int) ≤ (L : Int)) (by omega)]
            refine iteT fun d H3 hd s3 e3 => ?_
            exact q d H3 (ButR.of s3) e3
          · rw [if_neg h5] at q
            rw [decide_eq_false (p := (5 : Int) ≤ (L : Int)) (by omega)]
            refine iteF ?_
            have hkj1 := hS.go j hkj (by rw [hB1]; simp)
            refine ⟨_, rfl, R, dx2, _, rfl, hR2, rfl, R, ts, j, _, _, rfl, h2, at_tk hkj, .inl ⟨(tkEq sO).mpr hB1, fun H3 h3 b3 => ?_⟩⟩
            have q := Ends'.but q b3
            have hz3 := SqT.kp (ButR.kp hR2 b3) hz
            have eB := hB (by omega)
            subst eB
            refine ⟨_, rfl, _, rfl, _, _, rfl, rfl, ?_⟩
            refine ⟨R, ts, j + 1, f, by show [V.ref R, V.int ((L : Int) + 1)] = _; rw [one_int], h3, hkj1, hS, hI, by omega, ?_⟩
            cases hb : blkF ts f (L + 1) (j + 1) with
            | syn p => rw [hb] at q; have hb' : blockM ts f (L + 1) (j + 1) .nil = _ := hb; rw [hb']; exact q
            | big w => rw [hb] at q; have hb' : blockM ts f (L + 1) (j + 1) .nil = _ := hb; rw [hb']; exact q
            | ok b i =>
              rw [hb] at q
              have hb' : blockM ts f (L + 1) (j + 1) .nil = _ := hb
              rw [hb']
              rintro x H4 h4 hki b4 ⟨tb, us, rfl, htb, hbk⟩
              have q : Ends' C CS CT R H3 ts (fun s H' x => StOk K H' s x) (if tk ts i = [125] then .ok (.loop (tk ts k) sz b) (i + 1) else .syn (ps ts i)) Q E := q
              have q := Ends'.but q b4
              obtain ⟨dx3, l3, hR3, _⟩ := id h3
              obtain ⟨dx4, l4, hR4, _⟩ := id h4
              have hz4 := SqT.kp (ButR.kp hR3 b4) hz3
              by_cases hC1 : tk ts i = [125]
              · rw [if_pos hC1] at q
                have hki1 := hS.go i hki (by rw [hC1]; simp)
                refine ⟨_, rfl, R, dx4, _, rfl, hR4, rfl, R, ts, i, _, _, rfl, h4, at_tk hki, .inl ⟨(tkEq sC).mpr hC1, fun H5 h5 b5 => ?_⟩⟩
                have k5 := ButR.kp hR4 b5
                refine ⟨_, rfl, _, rfl, _, rfl, lenS (by simp), fun p hp => ?_⟩
                have k6 := Same.kp (Same.new (o := .tup [.str (Str.ofString "for"), .str ⟨(tk ts k).toArray⟩, .ref z, .ref tb]) hp)
                refine q (.ref p) _ (h5.same (Same.new hp)) hki1 (b5.trans (ButR.of (Same.new hp))) ?_
                simp only [StOk]
                exact ⟨p, z, tb, us, rfl, upd_same, SqT.kp k6 (SqT.kp k5 hz4), SqT.kp k6 (SqT.kp k5 htb), BkOk.kp k6 b us (BkOk.kp k5 b us hbk)⟩
              · rw [if_neg hC1] at q
                exact ⟨_, rfl, R, dx4, _, rfl, hR4, rfl, R, ts, i, _, _, rfl, h4, at_tk hki, .inr ⟨fun z => hC1 ((tkEq sC).mp z), q⟩⟩
        · rw [if_neg hB1] at q
          rw [decide_eq_false hB1]
          refine iteF (iteF ?_)
          exact ⟨_, rfl, R, dx2, _, rfl, hR2, rfl, R, ts, j, _, _, rfl, h2, at_tk hkj, .inr ⟨fun z => hB1 ((tkEq sO).mp z), q⟩⟩
    · rw [if_neg hN] at q
      exact ⟨_, rfl, R, ts, k, _, rfl, hRd, at_tk hkl, hsm k, .inr ⟨Bool.eq_false_iff.mpr hN, q⟩⟩
theorem ok_statement {L kl : Nat} {f fL : Addr} {fd dL : FuncData} (F : Fun K "_statement" "_statement" S_statement f fd) (V' : PsS P w K mg base C CS CT) (GL : FnOk P w K mg base (L2.CX P w) kl fL dL ["reader", "loops"] (spLoop K C CS CT L)) (kL : PySem.W.keepIn K (.ref fL) = true) (bL : Binds K dL ["reader", "loops"] []) (gL : mg "_loop" = some (.ref fL))
    (hkl : 8 ≤ kl) : FnOk P w K mg base (L2.CX P w) (kl + 1) f fd ["reader", "loops"] (spStm K C CS CT L) := by
  have Y := V'.Y
  have Z := Y.Z
  obtain ⟨fA, dA, MA, bA, GA⟩ := Y.any
  obtain ⟨fN, dN, gN, kN, bN, GN⟩ := Y.name
  obtain ⟨fO, dO, MO, bO, GO⟩ := V'.only
  obtain ⟨fI, dI, gI, kI, bI, GI⟩ := V'.index
  refine F.okX sc_statement (fun vs H Q E h => ?_) (fun cdv A outer s H vs Q E hr h => ?_)
  · obtain ⟨R, ts, k, f, rfl, _⟩ := h; rfl
  · obtain ⟨R, ts, k, f, rfl, hRd, hk, hS, hI, hf, hst, q⟩ := h
    have hr2 : Room 2 _ := hr.mono (by omega)
    have hr3 : Room 3 _ := hr.mono (by omega)
    have hr4 : Room 4 _ := hr.mono (by omega)
    have hr7 : Room 7 _ := hr.mono (by omega)
    refine ⟨_, pss_cons (ps_set (i := 2) sc_statement.nd rfl (Or.inl rfl) (pe_meth0 (pv 0) Z.kit.cl MA GA hr2 bA .nil pass0))
      (pss_cons (ps_if (pt_cmpR op_eq (pv 2) pe_str (nomark _)) (pss_one (ps_ret (pe_tup (pa_cons (pv 2) pa_nil)))) pss_nil)
      (pss_cons (ps_if (pt_cmpR op_eq (pv 2) pe_str (nomark _)) (pss_one (ps_ret (pe_call GL hr (by rfl) gL kL bL .nil (passes_call (takes_of rfl rfl rfl rfl) (fun _ _ _ _ h => h)) (pa_cons (pv 0) (pa_cons (pv 1) pa_nil))))) pss_nil)
      (pss_cons (ps_set (i := 3) sc_statement.nd rfl (Or.inl rfl) (pe_call GN hr4 (by rfl) gN kN bN .nil (passes_call (takes_of rfl rfl rfl rfl) (fun _ _ _ _ h => h)) (pa_cons (pv 0) pa_nil)))
      (pss_cons (ps_expr (pe_meth (pv 0) Z.kit.cl MO GO hr3 bO .nil (passes_call (takes_of rfl rfl rfl rfl) (fun _ _ _ _ h => h)) (pa_cons pe_str pa_nil)))
      (pss_cons (ps_set (i := 4) sc_statement.nd rfl (Or.inl rfl) (pe_call GI hr7 (by rfl) gI kI bI .nil (passes_call (takes_of rfl rfl rfl rfl) (fun _ _ _ _ h => h)) (pa_cons (pv 0) pa_nil)))
      (pss_cons (ps_expr (pe_meth (pv 0) Z.kit.cl MO GO hr3 bO .nil (passes_call (takes_of rfl rfl rfl rfl) (fun _ _ _ _ h => h)) (pa_cons pe_str pa_nil)))
      (pss_one (ps_ret (pe_tup (pa_cons (pv 2) (pa_cons (pv 3) (pa_cons (pv 4) pa_nil)))))))))))), ?_⟩
    have sF : Str.ofString "flush" = ⟨tFLUSH.toArray⟩ := by decide +kernel
    have sR : Str.ofString "for" = ⟨tFOR.toArray⟩ := by decide +kernel
    have sO : Str.ofString "[" = ⟨#[91]⟩ := by decide +kernel
    have sC : Str.ofString "]" = ⟨#[93]⟩ := by decide +kernel
    have hsm : ∀ j, (tk ts j).length ≤ 100000 := fun j => by have := hS.sm j; omega
    have ne : tk ts k ≠ [] := fun e => by rw [e] at hst; exact absurd hst (by decide)
    have hk1 := hS.go k hk ne
    have strEq : ∀ {a b : List Nat}, decide (V.str ⟨a.toArray⟩ = V.str ⟨b.toArray⟩) = decide (a = b) := fun {a b} => decide_eq_decide.mpr ⟨fun z => by
      have z := V.str.inj z
      injection z with z
      simpa using z, fun z => by rw [z]⟩
    unfold stmM at q
    obtain ⟨dx, l, hR, ho, hL⟩ := id hRd
    refine ⟨_, rfl, R, dx, _, rfl, hR, rfl, R, ts, k, _, rfl, hRd, at_tk hk, fun H1 h1 b1 => ?_⟩
    have q := Ends'.but q b1
    refine ⟨_, rfl, rfl, _, rfl, ?_⟩
    rw [sF, strEq]
    by_cases e1 : tk ts k = tFLUSH
    · rw [if_pos e1] at q
      rw [decide_eq_true e1]
      refine iteT ⟨_, rfl, lenS (by simp), fun p hp => ?_⟩
      refine q (.ref p) _ (h1.same (Same.new hp)) hk1 (ButR.of (Same.new hp)) ?_
      simp only [StOk]
      exact ⟨p, rfl, by rw [upd_same, e1]⟩
    rw [if_neg e1] at q
    rw [decide_eq_false e1]
    refine iteF ⟨_, rfl, rfl, _, rfl, ?_⟩
    rw [sR, strEq]
    by_cases e2 : tk ts k = tFOR
    · rw [if_pos e2] at q
      rw [decide_eq_true e2]
      refine iteT ⟨_, rfl, _, rfl, R, ts, k + 1, f, rfl, h1, hk1, hS, hI, hf, q⟩
    rw [if_neg e2] at q
    rw [decide_eq_false e2]
    refine iteF ?_
    by_cases hN : isNmL (tk ts (k + 1)) = true
    · rw [if_pos hN] at q
      have ne1 : tk ts (k + 1) ≠ [] := fun e => by rw [e] at hN; exact absurd hN (by decide +kernel)
      have hk2 := hS.go (k + 1) hk1 ne1
      refine ⟨_, rfl, R, ts, k + 1, _, rfl, h1, at_tk hk1, hsm (k + 1), .inl ⟨hN, fun H2 h2 b2 => ?_⟩⟩
      have q := Ends'.but q b2
      obtain ⟨dx2, l2, hR2, _⟩ := id h2
      by_cases hO1 : tk ts (k + 2) = [91]
      · rw [if_pos hO1] at q
        have hk3 := hS.go (k + 2) hk2 (by rw [hO1]; simp)
        refine ⟨_, rfl, R, dx2, _, rfl, hR2, rfl, R, ts, k + 2, _, _, rfl, h2, at_tk hk2, .inl ⟨(tkEq sO).mpr hO1, fun H3 h3 b3 => ?_⟩⟩
        have q := Ends'.but q b3
        refine ⟨_, rfl, R, ts, k + 3, rfl, h3, hk3, hS, (fun cs k' => hI _ cs k'), ?_⟩
        cases hm : sumsM ts true (k + 3) with
        | syn p => rw [hm] at q; exact q
        | big w => rw [hm] at q; exact q
        | ok cs j =>
          rw [hm] at q
          have q : Ends' C CS CT R H3 ts (fun s H' x => StOk K H' s x) (if tk ts j = [93] then .ok (.acc (tk ts k) (tk ts (k + 1)) cs) (j + 1) else .syn (ps ts j)) Q E := q
          rintro x H4 h4 hkj b4 hix
          have q := Ends'.but q b4
          obtain ⟨dx4, l4, hR4, _⟩ := id h4
          obtain ⟨qi, ti, fi, ysi, vsi, rfl, hi1, hi2⟩ := id hix
          by_cases hC1 : tk ts j = [93]
          · rw [if_pos hC1] at q
            have hkj1 := hS.go j hkj (by rw [hC1]; simp)
            refine ⟨_, rfl, R, dx4, _, rfl, hR4, rfl, R, ts, j, _, _, rfl, h4, at_tk hkj, .inl ⟨(tkEq sC).mpr hC1, fun H5 h5 b5 => ?_⟩⟩
            refine ⟨_, rfl, _, rfl, _, rfl, lenS (by simp), fun p hp => ?_⟩
            refine q (.ref p) _ (h5.same (Same.new hp)) hkj1 (b5.trans (ButR.of (Same.new hp))) ?_
            simp only [StOk]
            exact ⟨p, qi, rfl, upd_same, (hix.kp (ButR.kp hR4 b5)).kp (Same.kp (Same.new hp))⟩
          · rw [if_neg hC1] at q
            exact ⟨_, rfl, R, dx4, _, rfl, hR4, rfl, R, ts, j, _, _, rfl, h4, at_tk hkj, .inr ⟨fun z => hC1 ((tkEq sC).mp z), q⟩⟩
      · rw [if_neg hO1] at q
        exact ⟨_, rfl, R, dx2, _, rfl, hR2, rfl, R, ts, k + 2, _, _, rfl, h2, at_tk hk2, .inr ⟨fun z => hO1 ((tkEq sO).mp z), q⟩⟩
    · rw [if_neg hN] at q
      exact ⟨_, rfl, R, ts, k + 1, _, rfl, h1, at_tk hk1, hsm (k + 1), .inr ⟨Bool.eq_false_iff.mpr hN, q⟩⟩
theorem st_mem (s : List Nat) : (["for", "read", "write", "flush"] : List Str).contains ⟨s.toArray⟩ = decide (s ∈ STs) := by
  have e1 : ("for" : Str) = ⟨tFOR.toArray⟩ := by decide +kernel
  have e2 : ("read" : Str) = ⟨tREAD.toArray⟩ := by decide +kernel
  have e3 : ("write" : Str) = ⟨tWRITE.toArray⟩ := by decide +kernel
  have e4 : ("flush" : Str) = ⟨tFLUSH.toArray⟩ := by decide +kernel
  have k : ∀ b : List Nat, ((⟨s.toArray⟩ : Str) == ⟨b.toArray⟩) = decide (s = b) := fun b => by
    rw [Bool.eq_iff_iff, beq_iff_eq, decide_eq_true_iff]
    exact ⟨fun z => by injection z with z; simpa using z, fun z => by rw [z]⟩
  rw [e1, e2, e3, e4]
  simp only [List.contains_cons, List.contains_nil, k, Bool.or_false]
  simp only [List.mem_cons, List.not_mem_nil, or_false, Bool.decide_or]
theorem ok_block {L ks : Nat} {f fS : Addr} {fd dS : FuncData} (F : Fun K "_block" "_block" S_block f fd) (V' : PsS P w K mg base C CS CT) (GS : FnOk P w K mg base (L2.CX P w) ks fS dS ["reader", "loops"] (spStm K C CS CT L)) (kS : PySem.W.keepIn K (.ref fS) = true) (bS : Binds K dS ["reader", "loops"] []) (gS : mg "_statement" = some (.ref fS))
    (hks : 9 ≤ ks) : FnOk P w K mg base (L2.CX P w) (ks + 1) f fd ["reader", "loops"] (spBlock K C CS CT L) := by
  have Y := V'.Y
  have Z := Y.Z
  obtain ⟨fT, dT, MT, bT, GTk⟩ := Y.tok
  obtain ⟨as, ma, ha⟩ := V'.st
  refine F.okX sc_block (fun vs H Q E h => ?_) (fun cdv A outer s H vs Q E hr h => ?_)
  · obtain ⟨R, ts, k, f, rfl, _⟩ := h; rfl
  · obtain ⟨R, ts, k, f, rfl, hRd, hkl, hS, hI, hf, q⟩ := h
    have hr1 : Room 1 _ := hr.mono (by omega)
    refine ⟨_, pss_cons (ps_set (i := 2) sc_block.nd rfl (Or.inl rfl) (pe_lst pa_nil))
      (pss_cons (ps_while (passes_of rfl) (pt_cmpR op_in_seq (pe_meth0 (pv 0) Z.kit.cl MT GTk hr1 bT .nil pass0) (pe_glob (by rfl) ma (v := .ref as) rfl) (by rfl))
        (pss_one (ps_expr (pe_bm PySem.F.plainAttrs_list PySem.F.slot_list_append PySem.F.type_list_append mt_append (pv 2) (pa_cons (pe_call GS hr (by rfl) gS kS bS .nil (passes_call (takes_of rfl rfl rfl rfl) (fun _ _ _ _ h => h)) (pa_cons (pv 0) (pa_cons (pv 1) pa_nil))) pa_nil)))))
      (pss_one (ps_ret (pe_callTy call_tuple_of (by rfl) V'.tup (by decide +kernel) (pa_cons (pv 2) pa_nil))))), ?_⟩
    refine ⟨Nat.zero_le _, fun bl hbl => ?_⟩
    refine ⟨fun m σ H' => ∃ (k1 f1 : Nat) (acc : Blk) (us : List V), m = f1 ∧ σ = [some (.ref R), some (.int (L : Int)), some (.ref bl)] ∧ RdAt C H' R ts k1 ∧ k1 < ts.length ∧ ButR R H H' ∧ H' bl = some (.lst us) ∧ us.length ≤ k1 ∧ BkOk K H' acc us ∧ ts.length ≤ k1 + f1 ∧ blockM ts f1 L k1 acc = blockM ts f L k .nil,
      ⟨f, k, f, .nil, [], rfl, rfl, hRd.same (Same.new hbl), hkl, ButR.of (Same.new hbl), upd_same, Nat.zero_le _, by simp only [BkOk], hf, rfl⟩, ?_⟩
    rintro m σ H1 ⟨k1, f1, acc, us, rfl, rfl, h1, hk1, b1, hl1, hu1, hb1, hf1, eM⟩
    obtain ⟨dx1, l1, hR1, ho1, hL1⟩ := id h1
    obtain ⟨f1, rfl⟩ : ∃ f', m = f' + 1 := ⟨m - 1, by omega⟩
    rw [← eM] at q
    unfold blockM at q
    have eI : inV (.str ⟨(tk ts k1).toArray⟩) ((["for", "read", "write", "flush"] : List Str).map V.str) = decide (tk ts k1 ∈ STs) := (inV_str _ _).trans (st_mem _)
    refine ⟨_, rfl, R, dx1, _, rfl, hR1, rfl, R, ts, k1, _, rfl, h1, at_tk hk1, as, (["for", "read", "write", "flush"] : List Str).map V.str, rfl, .inr (ha H1), rfl, flat_strs _, _, rfl, ?_⟩
    rw [eI]
    by_cases hst : tk ts k1 ∈ STs
    · rw [if_pos hst] at q
      rw [decide_eq_true hst]
      refine iteT ⟨fun σ' H2 => ∃ (k2 : Nat) (acc2 : Blk) (us2 : List V), σ' = [some (.ref R), some (.int (L : Int)), some (.ref bl)] ∧ RdAt C H2 R ts k2 ∧ k2 < ts.length ∧ ButR R H H2 ∧ H2 bl = some (.lst us2) ∧ us2.length ≤ k2 ∧ BkOk K H2 acc2 us2 ∧ ts.length ≤ k2 + f1 ∧ blockM ts f1 L k2 acc2 = blockM ts f L k .nil,
        fun σ' H2 ⟨k2, acc2, us2, a1, a2, a3, a4, a5, a6, a7, a8, a9⟩ => ⟨f1, Nat.lt_succ_self f1, k2, f1, acc2, us2, rfl, a1, a2, a3, a4, a5, a6, a7, a8, a9⟩, ?_⟩
      have eM' : (stmM ts (blkF ts f1) L k1).bind (fun s j => blockM ts f1 L j (.snoc acc s)) = blockM ts f L k .nil := by
        have e0 : blockM ts (f1 + 1) L k1 acc = if tk ts k1 ∈ STs then (stmM ts (blkF ts f1) L k1).bind (fun s j => blockM ts f1 L j (.snoc acc s)) else .ok acc k1 := rfl
        rw [← eM, e0, if_pos hst]
      have q : Ends' C CS CT R H ts (fun b H' x => ∃ (t : Addr) (us : List V), x = .ref t ∧ SqT K H' t us ∧ BkOk K H' b us) ((stmM ts (blkF ts f1) L k1).bind (fun s j => blockM ts f1 L j (.snoc acc s))) Q E := q
      refine ⟨_, rfl, .inl ⟨rfl, _, .of hl1⟩, _, rfl, _, rfl, R, ts, k1, f1, rfl, h1, hk1, hS, hI, by omega, hst, ?_⟩
      cases hm : stmM ts (blkF ts f1) L k1 with
      | syn p => rw [hm] at q; exact Out.but (show Out CS R H p E from q) b1
      | big w => rw [hm] at q; exact OutW.but (show OutW CT R H w E from q) b1
      | ok st j =>
        rw [hm] at eM'
        have gj := stmM_gt (fun L' k' b' j' e => blockM_ge ts f1 L' k' .nil b' j' e) hm
        intro x H2 h2 hkj b2 hx
        have hl2 := b2 _ _ hl1 (fun n => by rw [n, hR1] at hl1; cases hl1)
        have hb2 := BkOk.kp (ButR.kp hR1 b2) acc us hb1
        refine ⟨bl, us, x, rfl, rfl, hl2, Nat.lt_of_le_of_lt (show us.length ≤ 100000 by have := hS.ln; omega) (by decide), ?_⟩
        have far := BkOk.far acc us hb2
        have kU := updL.kp (o := .lst (us ++ [x])) hl2
        refine ⟨j, .snoc acc st, us ++ [x], rfl, h2.updL hkj hl2 far, hkj, ?_, upd_same, by rw [List.length_append, List.length_singleton]; omega, ?_, by omega, eM'⟩
        · intro b o e n
          have nb : b ≠ bl := ne_of_none e hbl
          rw [upd_ne nb]
          exact b2 _ _ (b1 _ _ e n) n
        · simp only [BkOk]
          exact ⟨us, x, rfl, StOk.kp kU st x hx, BkOk.kp kU acc us hb2⟩
    · rw [if_neg hst] at q
      rw [decide_eq_false hst]
      refine iteF ?_
      refine ⟨_, rfl, bl, us, rfl, .inl ⟨.of hl1, fun ft hft => ?_⟩⟩
      have sF := Same.new (o := .tup us) hft
      exact q (.ref ft) _ (h1.same sF) hk1 (b1.trans (ButR.of sF)) ⟨ft, us, rfl, .of upd_same, BkOk.kp (Same.kp sF) acc us hb1⟩
/-- every block at once -/
theorem ok_blocks {fB fS fL : Addr} {dB dS dL : FuncData} (FB : Fun K "_block" "_block" S_block fB dB) (bB : Binds K dB ["reader", "loops"] []) (gB : mg "_block" = some (.ref fB)) (FS : Fun K "_statement" "_statement" S_statement fS dS) (bS : Binds K dS ["reader", "loops"] []) (gS : mg "_statement" = some (.ref fS))
    (FL : Fun K "_loop" "_loop" S_loop fL dL) (bL : Binds K dL ["reader", "loops"] []) (gL : mg "_loop" = some (.ref fL)) (V' : PsS P w K mg base C CS CT) : ∀ d L : Nat, L + d = 5 → FnOk P w K mg base (L2.CX P w) (10 + 3 * d) fB dB ["reader", "loops"] (spBlock K C CS CT L)
  | 0, L, e => by
    have G0 : FnOk P w K mg base (L2.CX P w) 7 fB dB ["reader", "loops"] (fun _ _ _ _ => False) := FB.okX sc_block (fun _ _ _ _ h => h.elim) (fun _ _ _ _ _ _ _ _ _ h => h.elim)
    have GL := ok_loop (L := L) (kb := 7) FL V' G0 FB.kp bB gB (fun h => by omega) (Nat.le_refl _) (by omega)
    have GS := ok_statement (L := L) (kl := 8) FS V' GL FL.kp bL gL (Nat.le_refl _)
    exact ok_block (L := L) (ks := 9) FB V' GS FS.kp bS gS (Nat.le_refl _)
  | d + 1, L, e => by
    have GB := ok_blocks FB bB gB FS bS gS FL bL gL V' d (L + 1) (by omega)
    have GL := ok_loop (L := L) (kb := 10 + 3 * d) FL V' GB FB.kp bB gB (fun _ => rfl) (by omega) (by omega)
    have GS := ok_statement (L := L) (kl := 10 + 3 * d + 1) FS V' GL FL.kp bL gL (by omega)
    have GB' := ok_block (L := L) (ks := 10 + 3 * d + 1 + 1) FB V' GS FS.kp bS gS (by omega)
    have e2 : 10 + 3 * d + 1 + 1 + 1 = 10 + 3 * (d + 1) := by omega
    rw [e2] at GB'
    exact GB'
end

end K05

namespace K05
open PySem L2 SZ VR VX StX RT
/-! ### a whole text -/
theorem snt_toks {z : Str} (hz : z.length ≤ 50000) : Snt (toks z.cps.toList 0 ++ [([], z.length)]) := by
  have hl := toks_len z.cps.toList (z.cps.toList.length - 0) 0 rfl
  have hz' : z.cps.toList.length ≤ 50000 := hz
  have sub : ∀ (n a : Nat), z.cps.toList.length - a = n → ∀ t ∈ toks z.cps.toList a, t.1.length ≤ z.cps.toList.length := by
    intro n
    induction n using Nat.strongRecOn with
    | ind n ih =>
      intro a e t ht
      by_cases hl : a < z.cps.toList.length
      · have hc : z.cps.toList[a]? = some z.cps.toList[a] := List.getElem?_eq_getElem hl
        have h1 := nxt_gt z.cps.toList a
        cases g : gp z.cps.toList[a] with
        | true =>
          rw [toks_gap hc g] at ht
          exact ih _ (by omega) _ rfl t ht
        | false =>
          rw [toks_tok hc g] at ht
          rcases List.mem_cons.mp ht with ht | ht
          · rw [ht]
            show (List.take _ _).length ≤ _
            rw [List.length_take, List.length_drop]
            omega
          · exact ih _ (by omega) _ rfl t ht
      · rw [toks_end hl] at ht
        cases ht
  refine ⟨fun k hk hne => ?_, fun k => ?_, ?_⟩
  · rw [List.length_append, List.length_singleton] at hk ⊢
    by_cases e : k = (toks z.cps.toList 0).length
    · refine absurd ?_ hne
      unfold tk
      rw [List.getElem?_append_right (by omega), e, Nat.sub_self]
      rfl
    · omega
  · unfold tk
    cases h : (toks z.cps.toList 0 ++ [([], z.length)])[k]? with
    | none => exact Nat.zero_le _
    | some t =>
      have hm := List.mem_of_getElem? h
      show t.1.length ≤ 50000
      rcases List.mem_append.mp hm with hm | hm
      · have := sub _ 0 rfl t hm
        omega
      · rw [List.mem_singleton.mp hm]
        exact Nat.zero_le _
  · rw [List.length_append, List.length_singleton]
    omega
/-- the tokens of a text, the end among them -/
def tokz (z : Str) : List (List Nat × Nat) := toks z.cps.toList 0 ++ [([], z.length)]
/-- what leaves a def that makes its own reader -/
def OutV (CV : Addr) (H : Hp) (v : V) (E : XK) : Prop := ∀ (d : Addr) (H' : Hp), Same H H' → H' d = some (.xd [("value", v)]) → E (.ref CV) (some d) H'
def OutS (CS : Addr) (H : Hp) (p : Nat) (E : XK) : Prop := ∀ (d : Addr) (H' : Hp), Same H H' → H' d = some (.xd [("position", .int (p : Int))]) → E (.ref CS) (some d) H'
def OutT (CT : Addr) (H : Hp) (x : Str) (E : XK) : Prop := ∀ (d : Addr) (H' : Hp), Same H H' → H' d = some (.xd [("word", .str x)]) → E (.ref CT) (some d) H'
def spReader (K : PySem.W.Frag) (C CV : Addr) : Sp := fun vs H Q E => ∃ v, vs = [v] ∧ ((∃ z : Str, v = .str z ∧ z.length ≤ 50000 ∧ ∀ (R : Addr) (H' : Hp), H R = none → Same H H' → RdAt C H' R (tokz z) 0 → Q (.ref R) H') ∨
  ∃ t, TyX K H v t ∧ PySem.W.kitOne K t (.type "str") = some false ∧ OutV CV H v E)
/-- how a whole text is told -/
def EndsZ {α : Type} (CS CT : Addr) (H : Hp) (val : α → Hp → V → Prop) (r : Res α) (Q : VK) (E : XK) : Prop :=
  match r with
  | .ok v _ => ∀ (x : V) (H' : Hp), Same H H' → val v H' x → Q x H'
  | .syn p => OutS CS H p E
  | .big w => OutT CT H w E
theorem same_of_but {H H0 H1 : Hp} {R : Addr} (hR : H R = none) (s : Same H H0) (b : ButR R H0 H1) : Same H H1 := fun c o e => b c o (s c o e) (ne_of_none e hR)
theorem EndsZ.but {α : Type} {C CS CT R : Addr} {H H1 : Hp} {ts : List (List Nat × Nat)} {val : α → Hp → V → Prop} {r : Res α} {Q : VK} {E : XK} (h : EndsZ CS CT H val r Q E) (hR : H R = none) (s : Same H H1) : Ends' C CS CT R H1 ts val r Q E := by
  cases r with
  | ok v k => exact fun x H' _ _ b hv => h x H' (same_of_but hR s b) hv
  | syn p => exact fun d H' b e => h d H' (same_of_but hR s b) e
  | big w => exact fun d H' b e => h d H' (same_of_but hR s b) e
def arraysM (ts : List (List Nat × Nat)) : Nat → Nat → List (List Nat × List Int) → Res (List (List Nat × List Int))
  | 0, _, _ => .syn 0
  | f + 1, k, as => if tk ts k = tARRAY then (if isNmL (tk ts (k + 1)) = true then (sizeM ts (k + 2)).bind fun sz j => arraysM ts f j (as ++ [(tk ts (k + 1), sz)]) else .syn (ps ts (k + 1))) else .ok as k
def endM {α : Type} (ts : List (List Nat × Nat)) (v : α) (k : Nat) : Res α := if tk ts k = [] then .ok v k else .syn (ps ts k)
def parseM (ts : List (List Nat × Nat)) : Res (List (List Nat × List Int) × Blk) := (arraysM ts ts.length 0 []).bind fun as k => (blockM ts ts.length 0 k .nil).bind fun b j => endM ts (as, b) j
def parseSizeM (ts : List (List Nat × Nat)) : Res (List Int) := (sizeM ts 0).bind fun sz j => endM ts sz j
def parseBlockM (ts : List (List Nat × Nat)) : Res Blk := (blockM ts ts.length 0 0 .nil).bind fun b j => endM ts b j
def BlkV (K : PySem.W.Frag) (b : Blk) (H : Hp) (x : V) : Prop := ∃ (t : Addr) (us : List V), x = .ref t ∧ SqT K H t us ∧ BkOk K H b us
/-- a pair (name, parts) -/
def ArrAt (K : PySem.W.Frag) (H : Hp) (v : V) (p : List Nat × List Int) : Prop := FacAt K H v p
theorem FacAt.far {K : PySem.W.Frag} {H : Hp} {v : V} {p : List Nat × List Int} (h : FacAt K H v p) (t : List Nat × Nat) : ¬ TokAt H v t := by
  rintro ⟨b, eb, hb⟩
  obtain ⟨a, s, rfl, ha, _⟩ := h
  cases eb
  rw [ha] at hb
  have hb := Option.some.inj hb
  injection hb with hb
  injection hb with _ hb
  injection hb with hb _
  cases hb
theorem Paired.mem_left {α β : Type} {F : α → β → Prop} {xs : List α} {ys : List β} (h : Paired F xs ys) : ∀ x ∈ xs, ∃ y, F x y := by
  induction h with
  | nil => intro x hx; cases hx
  | cons f _ ih =>
    intro x hx
    rcases List.mem_cons.mp hx with rfl | hx
    · exact ⟨_, f⟩
    · exact ih x hx
def TreeOk (K : PySem.W.Frag) (t : List (List Nat × List Int) × Blk) (H : Hp) (x : V) : Prop := ∃ (q ta tb : Addr) (vs us : List V), x = .ref q ∧ H q = some (.tup [.ref ta, .ref tb]) ∧ SqT K H ta vs ∧ Paired (FacAt K H) vs t.1 ∧ SqT K H tb us ∧ BkOk K H t.2 us
def spParse (K : PySem.W.Frag) (CV CS CT : Addr) : Sp := fun vs H Q E => ∃ v, vs = [v] ∧ ((∃ z : Str, v = .str z ∧ z.length ≤ 50000 ∧ I64 (tokz z) ∧ EndsZ CS CT H (TreeOk K) (parseM (tokz z)) Q E) ∨
  ∃ t, TyX K H v t ∧ PySem.W.kitOne K t (.type "str") = some false ∧ OutV CV H v E)
/-- the way in, the way out -/
structure PzS (P : Program) (w : World) (K : PySem.W.Frag) (mg : Str → Option Value) (base : Heap) (C CV CS CT : Addr) : Prop where
  V' : PsS P w K mg base C CS CT
  rd : ∃ f fd, mg "_reader" = some (.ref f) ∧ PySem.W.keepIn K (.ref f) = true ∧ Binds K fd ["text"] [] ∧ FnOk P w K mg base (L2.CX P w) 5 f fd ["text"] (spReader K C CV)
  fin : ∃ f fd, Meth K C "pass_end" f ∧ Binds K fd ["self"] [] ∧ FnOk P w K mg base (L2.CX P w) 3 f fd ["self"] (spPassEnd C CS)
  blk : ∃ f fd, mg "_block" = some (.ref f) ∧ PySem.W.keepIn K (.ref f) = true ∧ Binds K fd ["reader", "loops"] [] ∧ FnOk P w K mg base (L2.CX P w) 25 f fd ["reader", "loops"] (spBlock K C CS CT 0)
section
variable {P : Program} {w : World} {K : PySem.W.Frag} {mg : Str → Option Value} {base : Heap} {C CV CS CT : Addr}
theorem ok_reader {f fI : Addr} {fd dI : FuncData} (F : Fun K "_reader" "_reader" S_reader f fd) (MI : Mk K C fI) (GI : FnOk P w K mg base CX0 3 fI dI ["self", "text"] (spRdInit C)) (bI : Binds K dI ["self", "text"] []) (mI : mg "Reader" = some (.ref C)) (his : mg "isinstance" = none) (hst : mg "str" = none) (GV : SxC P w K mg base "InvalidText" CV "value") :
    FnOk P w K mg base (L2.CX P w) 5 f fd ["text"] (spReader K C CV) := by
  refine F.okX sc_reader (fun vs H Q E h => ?_) (fun cdv A outer s H vs Q E hr h => ?_)
  · obtain ⟨v, rfl, _⟩ := h; rfl
  · obtain ⟨v, rfl, q⟩ := h
    have hr2 : Room 2 _ := hr.mono (by decide)
    refine ⟨_, pss_cons (ps_if (pt_not (pt_val (pe_callB call_isi (by rfl) his (by decide +kernel) (pa_cons (pv 0) (pa_cons (pe_bltn (by rfl) hst (u := .type "str") (v := .ty "str") (by decide +kernel) rfl) pa_nil)))))
        (pss_one (ps_raiseX GV rfl (takes_of rfl rfl rfl rfl) hr2 (pv 0))) pss_nil)
      (pss_one (ps_ret (pe_make MI GI hr (by rfl) mI bI .nil pass0 (pa_cons (pv 0) pa_nil)))), ?_⟩
    rcases q with ⟨z, rfl, hz, q⟩ | ⟨t, ty, kt, q⟩
    · refine ⟨_, rfl, .str z, .ty "str", .type "str", .type "str", true, rfl, .ty _, .base (.str z), if_pos (beq_self_eq_true _), true, rfl, ?_⟩
      refine iteF ?_
      refine ⟨_, rfl, fun x dx hx hdx hne => ?_⟩
      have sM := (Same.new (H := H) (o := .ins C dx []) hx)
      refine ⟨x, dx, z, rfl, upd_same, ?_, hz, fun H' b hR => ⟨rfl, ?_⟩⟩
      · rw [upd_ne hne, upd_same]
      · refine q x H' hx ?_ hR
        intro b' o e
        have n1 : b' ≠ x := ne_of_none e hx
        have n2 : b' ≠ dx := ne_of_none e hdx
        exact b b' o (by rw [upd_ne n1, upd_ne n2]; exact e) n1
    · refine ⟨_, rfl, v, .ty "str", t, .type "str", false, rfl, .ty _, ty, kt, false, rfl, iteT ?_⟩
      exact ⟨_, rfl, fun d H' hd s1 h1 => q d H' s1 h1⟩
theorem ok_parse {f : Addr} {fd : FuncData} (F : Fun K "parse" "parse" S_parse f fd) (W : PzS P w K mg base C CV CS CT) : FnOk P w K mg base (L2.CX P w) 26 f fd ["text"] (spParse K CV CS CT) := by
  have V' := W.V'
  have Y := V'.Y
  have Z := Y.Z
  obtain ⟨fP, dP, MP, bP, GP⟩ := Y.passes
  obtain ⟨fN, dN, gN, kN, bN, GN⟩ := Y.name
  obtain ⟨fS, dS, gS, kS, bS, GS⟩ := V'.size
  obtain ⟨fR, dR, gR, kR, bR, GR⟩ := W.rd
  obtain ⟨fE, dE, ME, bE, GE⟩ := W.fin
  obtain ⟨fB, dB, gB, kB, bB, GB⟩ := W.blk
  refine F.okX sc_parse (fun vs H Q E h => ?_) (fun cdv A outer s H vs Q E hr h => ?_)
  · obtain ⟨v, rfl, _⟩ := h; rfl
  · obtain ⟨v, rfl, q⟩ := h
    have hr2 : Room 2 _ := hr.mono (by decide)
    have hr3 : Room 3 _ := hr.mono (by decide)
    have hr4 : Room 4 _ := hr.mono (by decide)
    have hr5 : Room 5 _ := hr.mono (by decide)
    have hr7 : Room 7 _ := hr.mono (by decide)
    refine ⟨_, pss_cons (ps_set (i := 1) sc_parse.nd rfl (Or.inl rfl) (pe_call GR hr5 (by rfl) gR kR bR .nil (passes_call (takes_of rfl rfl rfl rfl) (fun _ _ _ _ h => h)) (pa_cons (pv 0) pa_nil)))
      (pss_cons (ps_set (i := 2) sc_parse.nd rfl (Or.inl rfl) (pe_lst pa_nil))
      (pss_cons (ps_while (passes_of rfl) (pt_val (pe_meth (pv 1) Z.kit.cl MP GP hr2 bP .nil pass0 (pa_cons pe_str pa_nil)))
        (pss_cons (ps_set (i := 3) sc_parse.nd rfl (Or.inl rfl) (pe_call GN hr4 (by rfl) gN kN bN .nil (passes_call (takes_of rfl rfl rfl rfl) (fun _ _ _ _ h => h)) (pa_cons (pv 1) pa_nil)))
        (pss_one (ps_expr (pe_bm PySem.F.plainAttrs_list PySem.F.slot_list_append PySem.F.type_list_append mt_append (pv 2) (pa_cons (pe_tup (pa_cons (pv 3) (pa_cons (pe_call GS hr7 (by rfl) gS kS bS .nil (passes_call (takes_of rfl rfl rfl rfl) (fun _ _ _ _ h => h)) (pa_cons (pv 1) pa_nil)) pa_nil))) pa_nil))))))
      (pss_cons (ps_set (i := 4) sc_parse.nd rfl (Or.inl rfl) (pe_call GB hr (by rfl) gB kB bB .nil (passes_call (takes_of rfl rfl rfl rfl) (fun _ _ _ _ h => h)) (pa_cons (pv 1) (pa_cons pe_int pa_nil))))
      (pss_cons (ps_expr (pe_meth0 (pv 1) Z.kit.cl ME GE hr3 bE .nil (passes_call (takes_of rfl rfl rfl rfl) (fun _ _ _ _ h => h))))
      (pss_one (ps_ret (pe_tup (pa_cons (pe_callTy call_tuple_of (by rfl) V'.tup (by decide +kernel) (pa_cons (pv 2) pa_nil)) (pa_cons (pv 4) pa_nil))))))))), ?_⟩
    rcases q with ⟨z, rfl, hz, hI, q⟩ | ⟨t, ty, kt, q⟩
    rotate_left
    · exact ⟨_, rfl, v, rfl, .inr ⟨t, ty, kt, q⟩⟩
    refine ⟨_, rfl, .str z, rfl, .inl ⟨z, rfl, hz, fun R H1 hR0 s1 h1 => ?_⟩⟩
    have hS : Snt (tokz z) := snt_toks hz
    have hk0 : 0 < (tokz z).length := by unfold tokz; rw [List.length_append, List.length_singleton]; omega
    generalize tokz z = ts at h1 hS hk0 hI q
    have sA : Str.ofString "array" = ⟨tARRAY.toArray⟩ := by decide +kernel
    have hsm : ∀ j, (tk ts j).length ≤ 100000 := fun j => by have := hS.sm j; omega
    refine ⟨Nat.zero_le _, fun al hal => ?_⟩
    have q0 := EndsZ.but (C := C) (ts := ts) q hR0 s1
    clear q
    have q := q0
    clear q0
    refine ⟨fun m σ H' => ∃ (k1 : Nat) (as : List (List Nat × List Int)) (us : List V) (v3 : Option V), σ = [some (.str z), some (.ref R), some (.ref al), v3, none] ∧ RdAt C H' R ts k1 ∧ k1 < ts.length ∧ ButR R H1 H' ∧ H' al = some (.lst us) ∧ us.length ≤ k1 ∧ Paired (FacAt K H') us as ∧ ts.length ≤ k1 + m ∧ arraysM ts m k1 as = arraysM ts ts.length 0 [],
      ⟨ts.length, 0, [], [], none, rfl, h1.same (Same.new hal), hk0, ButR.of (Same.new hal), upd_same, Nat.zero_le _, .nil, by omega, rfl⟩, ?_⟩
    rintro m σ H2 ⟨k1, as, us, v3, rfl, h2, hk1, b2, hl2, hu2, ha2, hf2, eM⟩
    obtain ⟨dx2, l2, hR2, ho2, hL2⟩ := id h2
    obtain ⟨f1, rfl⟩ : ∃ f', m = f' + 1 := ⟨m - 1, by omega⟩
    by_cases hA : tk ts k1 = tARRAY
    · have eA : arraysM ts (f1 + 1) k1 as = if isNmL (tk ts (k1 + 1)) = true then (sizeM ts (k1 + 2)).bind fun sz j => arraysM ts f1 j (as ++ [(tk ts (k1 + 1), sz)]) else .syn (ps ts (k1 + 1)) := by
        show (if tk ts k1 = tARRAY then _ else _) = _
        rw [if_pos hA]
      rw [eA] at eM
      have hk2 := hS.go k1 hk1 (by rw [hA]; simp)
      refine ⟨_, rfl, R, dx2, _, rfl, hR2, rfl, R, ts, k1, _, _, rfl, h2, at_tk hk1, .inr ⟨by rw [sA, hA], fun H3 h3 b3 => ⟨true, rfl, ?_⟩⟩⟩
      refine iteT ⟨fun σ' H' => ∃ (k1 : Nat) (as : List (List Nat × List Int)) (us : List V) (v3 : Option V), σ' = [some (.str z), some (.ref R), some (.ref al), v3, none] ∧ RdAt C H' R ts k1 ∧ k1 < ts.length ∧ ButR R H1 H' ∧ H' al = some (.lst us) ∧ us.length ≤ k1 ∧ Paired (FacAt K H') us as ∧ ts.length ≤ k1 + f1 ∧ arraysM ts f1 k1 as = arraysM ts ts.length 0 [],
        fun σ' H' h => ⟨f1, Nat.lt_succ_self f1, h⟩, ?_⟩
      obtain ⟨dx3, l3, hR3, _⟩ := id h3
      have nR2 : al ≠ R := fun n => by rw [n, hR2] at hl2; cases hl2
      have hl3 := b3 _ _ hl2 nR2
      have kp3 := ButR.kp hR2 b3
      by_cases hN : isNmL (tk ts (k1 + 1)) = true
      · rw [if_pos hN] at eM
        refine ⟨_, rfl, R, ts, k1 + 1, _, rfl, h3, at_tk hk2, hsm _, .inl ⟨hN, fun H4 h4 b4 => ?_⟩⟩
        obtain ⟨dx4, l4, hR4, _⟩ := id h4
        have hl4 := b4 _ _ hl3 nR2
        have kp4 := ButR.kp hR3 b4
        have ne1 : tk ts (k1 + 1) ≠ [] := fun e => by rw [e] at hN; exact absurd hN (by decide +kernel)
        have hk3 := hS.go (k1 + 1) hk2 ne1
        refine ⟨_, rfl, .inl ⟨rfl, _, .of hl4⟩, _, rfl, _, rfl, R, ts, k1 + 2, rfl, h4, hk3, hS, ?_⟩
        have bb4 := (b2.trans b3).trans b4
        cases hm : sizeM ts (k1 + 2) with
        | syn p =>
          rw [hm] at eM
          unfold parseM at q
          rw [← eM] at q
          exact Out.but (show Out CS R H1 p E from q) bb4
        | big w =>
          rw [hm] at eM
          unfold parseM at q
          rw [← eM] at q
          exact OutW.but (show OutW CT R H1 w E from q) bb4
        | ok sz j =>
          rw [hm] at eM
          have gj := sizeM_gt hm
          rintro x H5 h5 hkj b5 ⟨tz, rfl, hz5⟩
          have hl5 := b5 _ _ hl4 nR2
          have kp5 := ButR.kp hR4 b5
          have fa5 : Paired (FacAt K H5) us as := L2.Paired.mapP ha2 fun _ _ h => FacAt.kp kp5 (FacAt.kp kp4 (FacAt.kp kp3 h))
          refine ⟨lenS (by simp), fun p hp => ?_⟩
          have sP := Same.new (o := .tup [.str ⟨(tk ts (k1 + 1)).toArray⟩, .ref tz]) hp
          have hl6 := sP _ _ hl5
          have fa6 : Paired (FacAt K _) us as := L2.Paired.mapP fa5 fun _ _ h => h.same sP
          refine ⟨al, us, .ref p, rfl, rfl, hl6, Nat.lt_of_le_of_lt (show us.length ≤ 100000 by have := hS.ln; omega) (by decide), ?_⟩
          have far : ∀ x ∈ us, ∀ t : List Nat × Nat, ¬ TokAt _ x t := fun x hx t => by
            obtain ⟨y, hy⟩ := Paired.mem_left fa6 x hx
            exact hy.far t
          have kU := updL.kp (o := .lst (us ++ [.ref p])) hl6
          have npa : p ≠ al := (ne_of_none hl5 hp).symm
          refine ⟨j, as ++ [(tk ts (k1 + 1), sz)], us ++ [.ref p], _, rfl, (h5.same sP).updL hkj hl6 far, hkj, ?_, upd_same, by rw [List.length_append, List.length_singleton]; omega, ?_, by omega, eM⟩
          · intro b o e n
            rw [upd_ne (ne_of_none e hal)]
            exact sP _ _ (b5 _ _ (bb4 _ _ e n) n)
          · exact (L2.Paired.mapP fa6 fun _ _ h => h.kp kU).snoc ⟨p, tz, rfl, by rw [upd_ne npa, upd_same], SqT.kp kU (sP.tup hz5)⟩
      · rw [if_neg hN] at eM
        unfold parseM at q
        rw [← eM] at q
        refine ⟨_, rfl, R, ts, k1 + 1, _, rfl, h3, at_tk hk2, hsm _, .inr ⟨Bool.eq_false_iff.mpr hN, ?_⟩⟩
        exact Out.but (show Out CS R H1 (ps ts (k1 + 1)) E from q) (b2.trans b3)
    · have eA : arraysM ts (f1 + 1) k1 as = .ok as k1 := by
        show (if tk ts k1 = tARRAY then _ else _) = _
        rw [if_neg hA]
      rw [eA] at eM
      unfold parseM at q
      rw [← eM] at q
      have q : Ends' C CS CT R H1 ts (TreeOk K) ((blockM ts ts.length 0 k1 .nil).bind fun b j => endM ts (as, b) j) Q E := q
      have q := Ends'.but q b2
      refine ⟨_, rfl, R, dx2, _, rfl, hR2, rfl, R, ts, k1, _, _, rfl, h2, at_tk hk1, .inl ⟨fun z => hA (by rw [sA] at z; injection z with z; simpa using z), false, rfl, iteF ?_⟩⟩
      refine ⟨_, rfl, R, ts, k1, ts.length, rfl, h2, hk1, hS, hI, by omega, ?_⟩
      cases hm : blockM ts ts.length 0 k1 .nil with
      | syn p => rw [hm] at q; exact q
      | big w => rw [hm] at q; exact q
      | ok b j =>
        rw [hm] at q
        have q : Ends' C CS CT R H2 ts (TreeOk K) (if tk ts j = [] then .ok (as, b) j else .syn (ps ts j)) Q E := q
        rintro x H3 h3 hkj b3 ⟨tb, ub, rfl, htb, hbk⟩
        have q := Ends'.but q b3
        obtain ⟨dx3, l3, hR3, _⟩ := id h3
        have nR2 : al ≠ R := fun n => by rw [n, hR2] at hl2; cases hl2
        have hl3 := b3 _ _ hl2 nR2
        have kp3 := ButR.kp hR2 b3
        have fa3 : Paired (FacAt K H3) us as := L2.Paired.mapP ha2 fun _ _ h => FacAt.kp kp3 h
        by_cases hE : tk ts j = []
        · rw [if_pos hE] at q
          refine ⟨_, rfl, R, dx3, _, rfl, hR3, rfl, R, ts, j, _, rfl, h3, at_tk hkj, .inl ⟨hE, ?_⟩⟩
          refine ⟨_, rfl, al, us, rfl, .inl ⟨.of hl3, fun ta hta => ?_⟩⟩
          have sA1 := Same.new (o := .tup us) hta
          refine ⟨_, rfl, lenS (by simp), fun p hp => ?_⟩
          have sA2 := Same.new (o := .tup [.ref ta, .ref tb]) hp
          refine q (.ref p) _ (h3.same (sA1.trans sA2)) hkj (ButR.of (sA1.trans sA2)) ⟨p, ta, tb, us, ub, rfl, upd_same, sA2.tup (.of upd_same), L2.Paired.mapP fa3 fun _ _ h => h.same (sA1.trans sA2), (sA1.trans sA2).tup htb, BkOk.kp (Same.kp (sA1.trans sA2)) b ub hbk⟩
        · rw [if_neg hE] at q
          exact ⟨_, rfl, R, dx3, _, rfl, hR3, rfl, R, ts, j, _, rfl, h3, at_tk hkj, .inr ⟨hE, q⟩⟩
end

end K05

/-! A law whose def shows lists: its call where nothing is being shown yet. -/
namespace VX
open PySem PySem.Spec PyProof.Rows L2 VR
/-- the call keeps sp wherever nothing is being shown -/
def RunG (P : Program) (w : World) (K : PySem.W.Frag) (mg : Str → Option Value) (base : Heap) (CX : CXT) (k : Nat) (f : Addr) (fd : FuncData) (ps : List Str) (sp : Sp) : Prop :=
  ∀ (A : Around) (outer : List Env) (s : Shared) (H : Hp) (args : Args) (us : List Value) (vs : List V) (Q : VK) (E : XK), A.guards = some [] → Room k A → Env0 P w K mg base A outer s H → BindsTo s fd args (ps.zip us) → Vals vs us → sp vs H Q E →
    codeAny (model P w) A (.call (.ref f) args) (CR CX outer P w H s Q E) s
theorem runG_of {CX : CXT} {P : Program} {w : World} {K : PySem.W.Frag} {mg : Str → Option Value} {base : Heap} {k : Nat} {f : Addr} {name qual : Str} {params : Arguments} {body : List Stmt} {scope : Scope} {dV kV doc pm cdv ct oc : Value} {an od : Option Addr}
    {osl : Array (Option Value)} {N ps : List Str} {sp : Sp} (lk : K.lookup f = some ⟨oc, od, .func (PySem.W.fnOf name qual params body scope dV kV doc pm an cdv ct), osl⟩) (cdK : PySem.W.codeIn K cdv qual = true) (S : FnScope N ps scope)
    (len : ∀ vs H Q E, sp vs H Q E → vs.length = ps.length)
    (bd : ∀ (A : Around) (outer : List Env) (s : Shared) (H : Hp) (vs : List V) (Q : VK) (E : XK), A.guards = some [] → Room k (A.deeper (envOfC qual scope s.heap.objs.size f cdv)) → sp vs H Q E →
      ∃ t, PSs (cxOf CX P w K mg base N qual scope f cdv A outer s H E) body t ∧ t { nx := fun _ H' => Q .non H', rt := Q } (start N vs) H) :
    RunG P w K mg base CX (k + 1) f (PySem.W.fnOf name qual params body scope dV kV doc pm an cdv ct) ps sp := by
  intro A outer s H args us vs Q E hg room e0 hb r hsp
  have ln := len _ _ _ _ hsp
  have up : ∀ b o, base.get? b = some o → s.heap.get? b = some o := fun b o e => (e0.bs b o e).1
  have kinds : ∀ y ∈ ps.zip us, scope.names.lookup y.1 = some .local ∨ (scope.names.lookup y.1 = some .cell ∧ ((cellsFrom (s.heap.objs.size + 1) scope.names []).lookup y.1).isSome = true) := fun ⟨n, v⟩ hy =>
    (S.par n (List.of_mem_zip hy).1).imp id fun q => ⟨q, PySem.W.cellsFrom_some _ _ _ (.inl q)⟩
  have KX : K.In s.heap := e0.mod.kin.keeps up
  refine codeAny_call_function room.depth (KX _ _ lk) rfl S.co S.gen rfl (PySem.W.codeRec_of KX cdK) (hb _ _ _ _ (wpAny_newFunctionEnv_cells S.kind kinds fun env he s1 x => ?_))
  subst he
  refine ⟨(e0.mod.nolimit.keeps up).keeps x.toInCall.keep, codeAny_func ?_⟩
  obtain ⟨t, ht, hq⟩ := bd A outer s H vs Q E hg (room.deeper _) hsp
  refine wpAny_mono (ht.run [] s1 (start N vs) H _ (inv_start S room.hd e0 ln r x) hq) (fun fl s' hs => ?_) fun e s' hs => hs
  match fl, hs with
  | .ret u, ⟨v, σ', H', J, rv, q⟩ => exact ⟨v, H', J.os, J.bare, J.base, J.hok, rv, q⟩
  | .next, ⟨σ', H', J, q⟩ => exact ⟨V.non, H', J.os, J.bare, J.base, J.hok, rfl, q⟩
  | .brk, ⟨_, _, _, q⟩ => exact q.elim
  | .cont, ⟨_, _, _, q⟩ => exact q.elim
theorem okG {P : Program} {w : World} {K : PySem.W.Frag} {mg : Str → Option Value} {base : Heap} {x qual : Str} {st : Stmt} {f : Addr} {fd : FuncData} {N ps : List Str} {k : Nat} {sp : Sp} (F : Fun K x qual st f fd) (S : FnScope N ps (defScope st)) (len : ∀ vs H Q E, sp vs H Q E → vs.length = ps.length)
    (bd : ∀ (cdv : Value) (A : Around) (outer : List Env) (s : Shared) (H : Hp) (vs : List V) (Q : VK) (E : XK), A.guards = some [] → Room k (A.deeper (envOfC qual (defScope st) s.heap.objs.size f cdv)) → sp vs H Q E →
      ∃ t, PSs (cxOf CX0 P w K mg base N qual (defScope st) f cdv A outer s H E).nox (defBody st) t ∧ t { nx := fun _ H' => Q .non H', rt := Q } (start N vs) H) : RunG P w K mg base CX0 (k + 1) f fd ps sp := by
  obtain ⟨oc, od, kV, doc, pm, an, cdv, ct, osl, rfl, lk, hcd⟩ := F.ex
  refine runG_of lk hcd S len fun A outer s H vs Q E hg hr hsp => ?_
  obtain ⟨t, h, q⟩ := bd cdv A outer s H vs Q E hg hr hsp
  exact ⟨t, h.nox, q⟩
/-- the law's call -/
theorem callG {P : Program} {w : World} {K : PySem.W.Frag} {mg mb : Str → Option Value} {CX : CXT} {k : Nat} {fa a : Addr} {fd : FuncData} {x : Str} {sp : Sp} {s₁ : Shared} {vs : List Value} {ns : List Int}
    (KX : K.In s₁.heap) (hns : s₁.heap.Ns mainGlobals mg) (hb : s₁.heap.Ns builtinsNs mb) (hbb : ∀ x : Str, x ≠ "__name__" → mb x = bootBuiltins x) (lim : s₁.heap.NoLimit) (hg : s₁.gens = #[])
    (ha : s₁.heap.get? a = some { cls := .type "list", data := .seq vs.toArray }) (hi : IntsAre vs ns) (hl : ns.length ≤ sizeLine) (room : Room k callerA)
    (F : ∀ base : Heap, K.In base → base.Ns mainGlobals mg → RunG P w K mg base CX k fa fd [x] sp) (bind : ∀ (s : Shared) (u : Value), BindsTo s fd ⟨[u], []⟩ [(x, u)])
    (hsp : ∀ H : Hp, Only H → SqL K H a (ns.map V.int) → sp [.ref a] H (fun v _ => v = .bl true) fun _ _ _ => False)
    (hCX : ∀ H e s', CX [] H s₁ (fun _ _ _ => False) e s' → False) :
    codeAny (model P w) callerA (.call (.ref fa) ⟨[.ref a], []⟩) (fun r s' => r = .ok (.ret (.bool true)) ∧ OldK s₁.heap s'.heap ∧ s'.os = s₁.os ∧ AllBare s'.gens) s₁ := by
  have rv := vals_ints hi
  have lv := hi.length
  suffices main : ∀ H : Hp, Only H → SqL K H a (ns.map V.int) → HOk P w H s₁.heap → (∀ b, H b ≠ none → b = a ∧ K.lookup a = none) →
      codeAny (model P w) callerA (.call (.ref fa) ⟨[.ref a], []⟩) (fun r s' => r = .ok (.ret (.bool true)) ∧ OldK s₁.heap s'.heap ∧ s'.os = s₁.os ∧ AllBare s'.gens) s₁ by
    cases hk : K.lookup a with
    | some o =>
      have e := KX a o hk
      rw [ha] at e
      cases e
      exact main (fun _ => none) (fun _ => .inl rfl) (.inr ⟨_, vs.toArray, _, hk, rfl, rfl, rfl, by rw [List.size_toArray, lv]; exact hl, by simpa using rv⟩) (fun b u z => nomatch (show (none : Option HO) = some u from z)) fun b z => absurd rfl z
    | none =>
      refine main (fun b => if b = a then some (.frz { cls := .type "list", data := .seq vs.toArray } (.lst (ns.map V.int))) else none) (fun b => ?_) (.inl (.inr ⟨{ cls := .type "list", data := .seq vs.toArray }, if_pos rfl⟩)) (fun b u z => ?_) (fun b z => ?_)
      · by_cases hb : b = a
        · exact .inr ⟨_, _, if_pos hb⟩
        · exact .inl (if_neg hb)
      · by_cases hb : b = a
        · cases (if_pos hb).symm.trans z
          subst hb
          exact ⟨ha, by rw [List.length_map]; exact hl, vs, _, rv, ha⟩
        · cases (if_neg hb).symm.trans z
      · by_cases hb : b = a
        · exact ⟨hb, hk⟩
        · exact absurd (if_neg hb) z
  intro H only hS hok hA
  have free : ∀ {b : Addr} {o : Obj} {es : Array DictEntry} {ep : Nat}, s₁.heap.get? b = some o → o.data = .dict es ep → H b = none := fun {b o es ep} e d => by
    cases q : H b with
    | none => rfl
    | some u =>
      obtain ⟨rfl, _⟩ := hA b (by rw [q]; simp)
      rw [ha] at e
      cases e
      exact nomatch (show Data.seq vs.toArray _ = Data.dict es ep from d)
  have nsK : ∀ {b : Addr} {m : Str → Option Value}, s₁.heap.Ns b m → (hidT s₁.heap H).Ns b m := fun {b m} ⟨o, es, ep, e, d, r⟩ => ⟨o, es, ep, hidT_get e (free e d), d, r⟩
  have KB : K.In (hidT s₁.heap H) := fun b o e => hidT_get (KX b o e) (by
    cases q : H b with
    | none => rfl
    | some u =>
      obtain ⟨rfl, z⟩ := hA b (by rw [q]; simp)
      rw [z] at e
      cases e)
  obtain ⟨mc, m1, m2⟩ := lim
  have e0 : Env0 P w K mg (hidT s₁.heap H) callerA [] s₁ H :=
    ⟨rfl, ⟨KB, nsK hns, ⟨mb, nsK hb, hbb⟩, ⟨mc, nsK m1, m2⟩⟩, fun b o e => of_hidT e, Nat.le_of_eq (hidT_size _ _), trivial, fun b hb => absurd (show b ∈ ([] : List Addr) from hb) (by simp), hok, .of_eq hg⟩
  refine codeAny_mono (F _ KB (nsK hns) callerA [] s₁ H ⟨[.ref a], []⟩ [.ref a] [.ref a] _ _ rfl room e0 (bind s₁ (.ref a)) (.cons rfl .nil) (hsp H only hS)) fun r s' h => ?_
  match r, h with
  | .error e, h => exact (hCX H e s' h).elim
  | .ok .next, h => exact h.elim
  | .ok .brk, h => exact h.elim
  | .ok .cont, h => exact h.elim
  | .ok (.ret u), ⟨v, H', os, bare, un, hok', r', q⟩ =>
    obtain rfl : v = .bl true := q
    obtain rfl : u = Value.bool true := r'
    refine ⟨rfl, OldK.of_keep fun b o e => ?_, os, bare⟩
    rcases only b with z | ⟨ob, xs, z⟩
    · exact un.keep b o e z (fun z => nomatch (show b ∈ ([] : List Addr) from z)) (by simp)
    · obtain ⟨e1, _⟩ := hok b _ z
      obtain ⟨e2, _⟩ := hok' b _ (un.frzs b ob _ z)
      rw [e] at e1
      cases e1
      exact e2
theorem walk_G {l : PySem.W.OpenLaw} {n k : Nat} {q : Program} {loose : List Str} {XP : (Str → Option Value) → Heap → Prop} {YP : World → Heap → Prop} {d : DefRec} {K : Params → PySem.W.Frag} {CX : CXT} {sp : PySem.W.Frag → Sp} {x : Str}
    (hn : l.most = some n) (hn2 : n ≤ sizeLine) (hdf : d.params.defaults = []) (hr : Room k callerA)
    (hY : ∀ (w : World) (h : Heap), YP w h → (K w.params).In h)
    (F : ∀ (w : World) (mg : Str → Option Value) (fa : Addr) (h : Heap), (K w.params).In h → h.Ns mainGlobals mg → mg d.name = some (.ref fa) →
      ∃ fd : FuncData, (∀ (s : Shared) (u : Value), BindsTo s fd ⟨[u], []⟩ [(x, u)]) ∧
        ∀ base : Heap, (K w.params).In base → base.Ns mainGlobals mg → RunG l.prog w (K w.params) mg base CX k fa fd [x] (sp (K w.params)))
    (hsp : ∀ (K : PySem.W.Frag) (H : Hp) (a : Addr) (ns : List Int), ns.length ≤ n → Only H → SqL K H a (ns.map V.int) → sp K [.ref a] H (fun v _ => v = .bl true) fun _ _ _ => False)
    (hCX : ∀ (H : Hp) (s : Shared) (e : Value) (s' : Shared), CX [] H s (fun _ _ _ => False) e s' → False) :
    PySem.W.WalkO q loose XP YP l.row.toRowW d [] (fun f vs => PySem.call f vs) := by
  refine Att.attach_call hn hdf fun w s₀ s₁ mg mb fa o pm cd doc a vs ns G Y ho hd hcd hmg hobj hints hlen hg => ?_
  have KX := hY w _ Y
  obtain ⟨fd, bind, FF⟩ := F w mg fa _ KX G.T.g hmg
  exact callG KX G.T.g G.T.b G.T.builtins G.T.nolimit hg hobj hints (Nat.le_trans hlen hn2) hr FF bind (fun H only hS => hsp _ H a ns hlen only hS) fun H e s' => hCX H s₁ e s'
end VX

/-! repr of data that hold no dict. -/
namespace VX
open PySem PySem.Spec PyProof.Rows L2 VR
def rReprB : List V → Hp → VK → Prop := fun xs H Q => ∃ b : Bool, xs = [.bl b] ∧ Q (.str (if b then "True" else "False")) H
theorem call_reprB {X : Cx} : CallR X (.builtin "repr") rReprB := by
  intro pins s σ H xs us Q I r h
  obtain ⟨b, rfl, q⟩ := h
  obtain ⟨u, rfl, r1⟩ := vals1 r
  obtain rfl : u = Value.bool b := r1
  exact PySem.P.repr_of_bool ⟨.str _, H, I.tok _, ⟨_, rfl⟩, q⟩
/-- repr of any data without dicts -/
def rReprD (K : PySem.W.Frag) : List V → Hp → VK → Prop := fun xs H Q => ∃ (v : V) (d : PyData), xs = [v] ∧ Dp K H v d ∧ d.showable = true ∧ d.hasDict = false ∧ d.depth ≤ 8 ∧ d.shown.length ≤ sizeLine ∧ Q (.str d.shown) H
theorem call_reprD {X : Cx} (hg : X.A.guards = some []) (hu : X.A.units + 64 < cLine) : CallR X (.builtin "repr") (rReprD X.K) := by
  intro pins s σ H xs us Q I r h
  obtain ⟨v, d, rfl, hd, hs, hn, hp, hz, q⟩ := h
  obtain ⟨u, rfl, r1⟩ := vals1 r
  cases hd with
  | non =>
    obtain rfl : u = Value.none := r1
    exact PySem.P.repr_of_none ⟨.str _, H, I.tok _, ⟨_, rfl⟩, by simpa [PyData.shown] using q⟩
  | bl b =>
    obtain rfl : u = Value.bool b := r1
    exact PySem.P.repr_of_bool ⟨.str _, H, I.tok _, ⟨_, rfl⟩, by simpa [PyData.shown] using q⟩
  | int i =>
    obtain ⟨t, rfl⟩ := r1
    exact PySem.P.repr_of_int (by simpa [PyData.showable] using hs) ⟨.str _, H, I.tok _, ⟨_, rfl⟩, by simpa [PyData.shown] using q⟩
  | str x =>
    obtain ⟨t, rfl⟩ := r1
    exact PySem.P.repr_of_str ⟨.str _, H, I.tok _, ⟨_, rfl⟩, by simpa [PyData.shown] using q⟩ (by simpa [PyData.shown] using hz)
  | @lst a xs ds h1 h2 =>
    obtain rfl : u = Value.ref a := r1
    obtain ⟨as, ra⟩ := Dp.reads I _ _ _ (Dp.lst h1 h2) rfl
    exact repr_of_reads' ra hs (fun z => by rw [hn] at z; cases z) hg (by omega) (fun _ _ e => e) (fun h' u tk hk => ⟨.str _, H, I.kept hk, ⟨_, rfl⟩, q⟩) hz
  | @tup a xs ds h1 h2 =>
    obtain rfl : u = Value.ref a := r1
    obtain ⟨as, ra⟩ := Dp.reads I _ _ _ (Dp.tup h1 h2) rfl
    exact repr_of_reads' ra hs (fun z => by rw [hn] at z; cases z) hg (by omega) (fun _ _ e => e) (fun h' u tk hk => ⟨.str _, H, I.kept hk, ⟨_, rfl⟩, q⟩) hz
end VX

/-! Several except clauses with names; a def that shows lists, called; len by an own __len__; lcm. -/
namespace VX
open PySem PySem.Spec PyProof.Rows L2 VR
/-- the wishes of clauses that name the error, one behind the other -/
def wAsMany (K : PySem.W.Frag) (Wo : WX) (D : Ends) : List (Value × Nat × (Addr → Value → Option Addr → TS)) → WX
  | [] => Wo
  | (c, i, ts) :: r => wAs K c i ts (wAsMany K Wo D r) D
inductive HdAs (Y : Cx) : List ExceptHandler → List (Value × Nat × (Addr → Value → Option Addr → TS)) → Prop
  | nil : HdAs Y [] []
  | cons {x n : Str} {c : Value} {i : Nat} {ts : Addr → Value → Option Addr → TS} {b1 : Stmt} {bs : List Stmt} {p1 p2 : Pos} {hs : List ExceptHandler} {l : List (Value × Nat × (Addr → Value → Option Addr → TS))} (hn : Y.N[i]? = some n) (hk : Y.env.kindOf n = some .local) (hc : Names Y x c)
      (hq : ∀ (e : Addr) (o : Obj) (k : Value) (d : Option Addr) (w : List (Addr × Obj)), Zc k d o → (∃ vs, o.data = .fields vs) → PSs (Y.suite e ((e, o) :: w)) (b1 :: bs) (ts e k d)) (r : HdAs Y hs l) :
      HdAs Y (.ExceptHandler (some (.Name x p1)) (some n) (b1 :: bs) p2 :: hs) ((c, i, ts) :: l)
section
variable {Y : Cx} {body : List Stmt} {h1 : ExceptHandler} {hs : List ExceptHandler} {l : List (Value × Nat × (Addr → Value → Option Addr → TS))} {pos : Pos} {tb : WX → TS} {Wo : WX}
theorem ps_try_asMany (st : Y.stack = Y.env :: Y.outer) (fr : Y.env.frame = some Y.env.locals) (nd : Y.N.Nodup) (tk : Takes Y Wo)
    (hb : ∀ (W : WX) (w : List (Addr × Obj)) (xe : Value → Shared → Prop), Takes (Y.tr w xe) W → PassesOwn (model Y.prog Y.w) Y.A Y.env xe → PSs (Y.tr w xe) body (tb W)) (hh : HdAs Y (h1 :: hs) l) :
    PS Y (.Try body (h1 :: hs) [] [] pos) (fun D σ H => tb (wAsMany Y.K Wo D l) D σ H) := by
  refine ⟨fun pins s σ H D I0 rd => ?_⟩
  have okY := I0.ok
  have frm : Y.A.frames = some (Y.env :: Y.outer) := by rw [okY.frames, st]
  refine wpAny_Try_except (wpAny_mono ((hb (wAsMany Y.K Wo D l) (Y.pn ++ pins) (fun e t1 => wpAny (model Y.prog Y.w) Y.A (noteFrame e Y.env) (fun _ t2 => wpAny (model Y.prog Y.w) Y.A (setFlight e none) (fun _ t3 =>
    wpAny (model Y.prog Y.w) Y.A (handleBy e Y.env (h1 :: hs)) (SP Y pins D) Y.xe t3) Y.xe t2) Y.xe t1) (fun u t0 caught => ?_) PassesOwn.looking).run [] s σ H D (I0.toTry _) rd) (fun f t1 done => ?_) (fun _ _ z => z))
  · obtain ⟨e, B, sI, pins1, σ1, H1, cls, d, rfl, J1, nb, up1, sky, free, eqO, eqG, wish⟩ := caught
    have J2 : Inv Y pins σ1 H1 sI := J1.ofTry okY
    refine Sky.land Zc.steady frm fr (by rw [← st]; exact sky) fun g3 fl3 up3 => ?_
    have J3 : Inv Y pins σ1 H1 { t0 with heap := g3 } := J2.landed nb fl3.1 (up1.trans up3) eqO eqG
    obtain ⟨o3, w3, at3, zc3, dt3⟩ := fl3.there
    have off : e ∉ frs (Y.env :: Y.outer) := fun hm => by
      obtain ⟨_, o, eo, no⟩ := fl3.2.2.1.mem hm
      rw [at3] at eo
      cases eo
      exact no _ dt3
    have offL : e ≠ Y.env.locals := fun z => off (List.mem_filterMap.mpr ⟨Y.env, List.mem_cons_self, by rw [fr, z]⟩)
    have offF : e ∉ Y.fs := fun hm => by
      obtain ⟨v, hv, q⟩ := List.mem_filterMap.mp hm
      exact off (List.mem_filterMap.mpr ⟨v, List.mem_cons_of_mem _ hv, q⟩)
    have T3 := J3.suite at3 dt3 free offL offF
    have all : ∀ {hs' : List ExceptHandler} {l' : List (Value × Nat × (Addr → Value → Option Addr → TS))}, HdAs Y hs' l' → wAsMany Y.K Wo D l' cls d σ1 H1 → wpAny (model Y.prog Y.w) Y.A (handleBy (.ref e) Y.env hs') (SP Y pins D) Y.xe { t0 with heap := g3 } := by
      intro hs' l' hk
      induction hk with
      | nil =>
        intro wi
        obtain ⟨_, _, _, oe, vs, T, oT, tr, he, hz, hd, hf1, hr⟩ := id fl3
        refine wpAny_handleBy_nil ?_
        unfold PySem.passOn
        refine wpAny_bind (wpAny_field he hd hf1 ?_)
        rw [if_neg (show ¬ ((Value.ref T == Value.none) = true) by simp)]
        have out : wpAny (model Y.prog Y.w) Y.A (setFlight (.ref e) Y.env.frame) (fun _ t4 => wpAny (model Y.prog Y.w) Y.A (throw (.ref e) : Sem Flow) (SP Y pins D) Y.xe t4) Y.xe { t0 with heap := g3 } := by
          rw [fr]
          exact HandSPX.setFlight_upZ fl3 fun g4 hh4 up4 => wpAny_throw (tk _ _ ⟨e, B, sI, pins, σ1, H1, cls, d, rfl, J2, nb, (up1.trans up3).trans up4, .inr (.inr (by rw [st]; exact hh4)), free, eqO, eqG, wi⟩)
        first
          | exact wpAny_bind (wpAny_pure (wpAny_bind out))
          | exact wpAny_bind out
      | @cons x n c i ts b1 bs p1 p2 hs2 l2 hn hl hc hq r ih =>
        intro wi
        obtain ⟨b, eb, yes, no⟩ := wi
        refine wpAny_handleBy_cons (codeAny_handlers_test ?_) (by intro q; cases q)
        have tyE : PySem.W.Looks (model Y.prog Y.w) g3 (typeOf (.ref e)) cls := fun A Q E t k q => wpAny_typeOf_ref (k _ _ at3) (by rw [zc3.1]; exact q)
        have asks := PySem.W.exm_one (M := model Y.prog Y.w) (J3.kIn) tyE eb
        have named : ∀ {Q : Value → Shared → Prop} {E : Value → Shared → Prop}, Q c { t0 with heap := g3 } → wpAny (model Y.prog Y.w) (Y.A.mark (some (.ref e))) (eval (.Name x p1) Y.env) Q E { t0 with heap := g3 } := fun {Q E} q => by
          obtain ⟨hg, hb, hm | ⟨hm, hv, hx⟩⟩ := hc
          · exact ld_glob (X := Y.suite e ((e, o3) :: (Y.pn ++ pins))) T3 hg hm q hb
          · exact ld_blt (X := Y.suite e ((e, o3) :: (Y.pn ++ pins))) T3 hg hm hv q hx hb
        refine named (asks.here ?_)
        cases b with
        | false => exact ih (no rfl)
        | true =>
          refine codeAny_handlers_suite_as (HandSPX.lands_againZ fl3 fun g4 fl4 up4 => ?_)
          have J4 : Inv Y pins σ1 H1 { t0 with heap := g4 } := J2.landed nb fl4.1 ((up1.trans up3).trans up4) eqO eqG
          obtain ⟨o4, w4, at4, zc4, dt4⟩ := fl4.there
          have T4 := J4.suite at4 dt4 free offL offF
          refine store_ok (X := Y.suite e ((e, o4) :: (Y.pn ++ pins))) (v := .ref e) T4 nd hn (.inl hl) rfl (fun t5 T5 => ?_) (.inr hl)
          refine wpAny_mono ((hq e o4 cls d (Y.pn ++ pins) zc4 ⟨_, dt4⟩).run [] t5 _ H1 _ T5 (yes rfl e free)) (fun f t6 done => ?_) (fun _ _ z => z.elim)
          have close : ∀ {σ6 : L2.St} {H6 : Hp} {Q : Shared → Prop}, Inv (Y.suite e ((e, o4) :: (Y.pn ++ pins))) [] σ6 H6 t6 → (∀ t7, Inv Y pins (σ6.set i none) H6 t7 → Q t7) →
              wpAny (model Y.prog Y.w) Y.A (do bindName Y.env n .none; unbindBehindTheSuite Y.env n p2) (fun _ t7 => Q t7) Y.xe t6 := fun {σ6 H6 Q} T6 hq => gone_ok (T6.unsuite okY) nd hn hl hq
          match f, done with
          | .next, ⟨_, _, T6, q6⟩ => exact close T6 fun t7 J7 => ⟨_, _, J7, q6⟩
          | .brk, ⟨_, _, T6, q6⟩ => exact close T6 fun t7 J7 => ⟨_, _, J7, q6⟩
          | .cont, ⟨_, _, T6, q6⟩ => exact close T6 fun t7 J7 => ⟨_, _, J7, q6⟩
          | .ret u, ⟨_, _, _, T6, r6, q6⟩ => exact close T6 fun t7 J7 => ⟨_, _, _, J7, r6, q6⟩
    exact all hh wish
  · match f, done with
    | .next, ⟨_, _, J', q⟩ => exact wpAny_execs_nil ⟨_, _, J'.ofTry okY, q⟩
    | .brk, ⟨_, _, J', q⟩ => exact ⟨_, _, J'.ofTry okY, q⟩
    | .cont, ⟨_, _, J', q⟩ => exact ⟨_, _, J'.ofTry okY, q⟩
    | .ret u, ⟨_, _, _, J', r, q⟩ => exact ⟨_, _, _, J'.ofTry okY, r, q⟩
end
/-! ### a def that shows lists, called where nothing is being shown -/
section
variable {X : Cx} {CX : CXT} {k : Nat} {f : Addr} {fd : FuncData} {ps : List Str} {sp : Sp} {E : XK} {x : Str} {e : Expr} {es : List Expr} {t : TA} {p pos : Pos}
theorem pe_callSh (F : RunG X.prog X.w X.K X.mg X.base CX k f fd ps sp) (gd : X.A.guards = some []) (hr : Room k X.A) (ln : ∀ vs H Q E, sp vs H Q E → vs.length = ps.length) (hg : Gl X x) (hm : X.mg x = some (.ref f)) (hk : PySem.W.keepIn X.K (.ref f) = true) (hb : Binds X.K fd ps []) (hx : Passes CX X E)
    (ha : PA X (e :: es) t) (hdb : (x == ("__debug__" : Str)) = false := by decide) (he : starEach (e :: es) X.env = (false, eval e X.env) :: starEach es X.env := by rfl) (hpl : (backTo pos (starEach es X.env)).any (·.1) = false := by rfl) :
    PE X (.Call (.Name x p) (e :: es) [] pos) (tCall sp [] E t) := by
  refine ⟨fun pins s σ H Q I0 rd => wpAny_Call_Name_kw (ld_glob I0 hg hm ?_ hdb)⟩
  refine PySem.W.callWith_K (h₀ := X.base) I0.ok.mod.kin hk (thn (ha.run pos pins s σ H _ I0 rd) fun us t1 ⟨vs, H1, I1, rv, q⟩ => ⟨I1.kIn, ?_⟩) he hpl
  have q : sp vs H1 Q E := by
    have q' : sp (vs ++ []) H1 Q E := q
    rw [List.append_nil] at q'
    exact q'
  have hl : us.length = ps.length := by rw [← rv.length]; exact ln _ _ _ _ q
  have b := hb t1 us I1.kIn (by rw [List.append_nil]; exact hl)
  rw [List.append_nil] at b
  refine wpAny_call (codeAny_mono (F X.A X.stack t1 H1 ⟨us, []⟩ us vs Q E gd hr I1.env0 b rv q) fun r t2 hq => ?_)
  match r, hq with
  | .error e, hq => exact hx pins σ H1 t1 e t2 I1 hq
  | .ok (.ret u), hq => exact I1.after hq
  | .ok .next, hq => exact False.elim hq
  | .ok .brk, hq => exact False.elim hq
  | .ok .cont, hq => exact False.elim hq
end
def rLcm : List V → Hp → VK → Prop := fun vs H Q => ∃ a b : Int, vs = [.int a, .int b] ∧ a.natAbs < 2 ^ 64 ∧ b.natAbs < 2 ^ 64 ∧ Q (.int ((Nat.lcm a.natAbs b.natAbs : Nat) : Int)) H
theorem cr_lcm {X : Cx} : CallR X (.builtin "math.lcm") rLcm := by
  intro pins s σ H vs us Q I r h
  obtain ⟨a, b, rfl, ha, hb, q⟩ := h
  obtain ⟨t, u, rfl⟩ := Vals.int2 r
  exact PySem.W.mc_lcm ha hb fun _ => ⟨.int _, H, I.tok _, ⟨_, rfl⟩, q⟩
/-! ### len by an own __len__ -/
def rLenO (C : Addr) (sp : Sp) (E : XK) : List V → Hp → VK → Prop := fun xs H Q => ∃ a dx fs, xs = [.ref a] ∧ H a = some (.ins C dx fs) ∧ sp [.ref a] H (fun v H' => ∃ n : Nat, v = .int (n : Int) ∧ n < 2 ^ 62 ∧ Q v H') E
theorem call_lenO {X : Cx} {CX : CXT} {k : Nat} {C f : Addr} {fd : FuncData} {ps : List Str} {sp : Sp} {E : XK} (hl : PySem.W.findIn X.K (.ref C) "__len__" = some (some (.ref f))) (hf : PySem.W.isFn X.K (.ref f) = true) (F : FnOk X.prog X.w X.K X.mg X.base CX k f fd ps sp) (hr : Room (k + 1) X.A) (hb : Binds X.K fd ps []) (hx : Passes CX X E) :
    CallR X (.builtin "len") (rLenO C sp E) := by
  intro pins s σ H xs us Q I r h
  obtain ⟨a, dx, fs, rfl, ha, q⟩ := h
  obtain ⟨u, rfl, r1⟩ := vals1 r
  cases r1
  obtain ⟨mA, O, _⟩ := ins_get I.hok ha
  obtain ⟨od, J, _⟩ := O.look
  obtain ⟨m, hF⟩ := I.fr
  refine PySem.W.len_K hF I.ok.mod.kin J hl hf ?_
  have ln : ([Value.ref a] : List Value).length = ps.length := F.len _ _ _ _ q
  refine wpAny_call (codeAny_mono (F.run X.A.in1 X.stack s H ⟨[.ref a], []⟩ [.ref a] [.ref a] _ E hr.in1 I.env0.in1 (by simpa using hb s [.ref a] I.kIn (by simpa using ln)) (.cons rfl .nil) q) fun r s' hq => ?_)
  match r, hq with
  | .error e, hq => exact hx pins σ H s e s' I hq
  | .ok .next, hq => exact False.elim hq
  | .ok .brk, hq => exact False.elim hq
  | .ok .cont, hq => exact False.elim hq
  | .ok (.ret w), hq =>
    obtain ⟨z, H', I', rz, n, ez, hn, hz⟩ := I.after hq
    subst ez
    obtain ⟨t, rfl⟩ := rz
    exact ⟨⟨by omega, by omega⟩, .int n, H', I'.tok _, ⟨_, rfl⟩, hz⟩
end VX

/-! A class held by a local name, called (cls(..) in a classmethod). -/
namespace VX
open PySem PySem.Spec PyProof.Rows L2 VR
/-- the i-th slot holds the class at C, which is called -/
def tMakeL (i : Nat) (C : Addr) (sp : Sp) (dvs : List V) (E : XK) (t : TA) : TE := fun σ H Q => σ[i]? = some (some (.ref C)) ∧ tMake C sp dvs E t σ H Q
theorem pe_makeL {X : Cx} {CX : CXT} {k i : Nat} {f C : Addr} {fd : FuncData} {ps : List Str} {sp : Sp} {dvs : List V} {ds : List Value} {E : XK} {x : Str} {p pos : Pos} {e : Expr} {es : List Expr} {t : TA} (M : Mk X.K C f) (F : FnOk X.prog X.w X.K X.mg X.base CX k f fd ps sp) (hr : Room (k + 1) X.A) (hN : X.N[i]? = some x) (hv : Vis X.env.scope x)
    (hb : Binds X.K fd ps ds) (hd : Vals dvs ds) (hx : Passes CX X E) (ha : PA X (e :: es) t) (hdb : (x == ("__debug__" : Str)) = false := by decide) (hcd : (x == ("__classdict__" : Str)) = false := by decide)
    (he : starEach (e :: es) X.env = (false, eval e X.env) :: starEach es X.env := by rfl) (hpl : (backTo pos (starEach es X.env)).any (·.1) = false := by rfl) : PE X (.Call (.Name x p) (e :: es) [] pos) (tMakeL i C sp dvs E t) := by
  refine ⟨fun pins s σ H Q I h => ?_⟩
  obtain ⟨hs, ht⟩ := h
  refine wpAny_Call_Name_kw (thn ((pe_var (pos := p) hN hv hdb hcd).run pins s σ H (fun v H1 => v = .ref C ∧ H1 = H) I ⟨.ref C, hs, rfl, rfl⟩) fun u s1 ⟨v, H1, I1, r1, q1⟩ => ?_)
  obtain ⟨rfl, rfl⟩ := q1
  cases r1
  refine PySem.W.callWith_K (h₀ := X.base) I.ok.mod.kin M.kp (thn (ha.run pos pins s1 σ _ _ I1 ht) fun us s2 ⟨vs, H2, I2, r, q⟩ => ⟨I2.kIn, ?_⟩) he hpl
  exact run_make M F hr hb hd hx I2 r q
end VX

namespace VX
open PySem PySem.Spec PyProof.Rows L2 VR
/-- the call of a law that makes lambdas (its table of code objects at T) where nothing is being shown -/
theorem callT {P : Program} {w : World} {K : PySem.W.Frag} {mg mb : Str → Option Value} {CX : CXT} {k : Nat} {fa a c T : Addr} {fd : FuncData} {x : Str} {sp : Sp} {s₁ : Shared} {vs : List Value} {ns : List Int}
    (KX : K.In s₁.heap) (hns : s₁.heap.Ns mainGlobals mg) (hb : s₁.heap.Ns builtinsNs mb) (hbb : ∀ x : Str, x ≠ "__name__" → mb x = bootBuiltins x) (lim : s₁.heap.NoLimit) (hg : s₁.gens = #[])
    (hT : s₁.heap.get? T = some { cls := .none, data := .fields #[] }) (nT : K.lookup T = none) (C : PySem.W.CodeHd s₁.heap c T)
    (bmod : ∃ (bm : Addr) (ob : Obj), mg "__builtins__" = some (.ref bm) ∧ bm ≠ builtinsNs ∧ s₁.heap.get? bm = some ob ∧ ob.cls = .type "module" ∧ ob.dict = some builtinsNs ∧ ob.data = .plain)
    (ha : s₁.heap.get? a = some { cls := .type "list", data := .seq vs.toArray }) (hi : IntsAre vs ns) (hl : ns.length ≤ sizeLine) (room : Room k callerA)
    (F : ∀ base : Heap, K.In base → base.Ns mainGlobals mg → LamX.TabB base mg c T → RunG P w K mg base CX k fa fd [x] sp) (bind : ∀ (s : Shared) (u : Value), BindsTo s fd ⟨[u], []⟩ [(x, u)])
    (hsp : ∀ H : Hp, H T = some (.tbl #[]) → (∀ b, H b = none ∨ b = T ∨ ∃ o xs, H b = some (.frz o (.lst xs))) → SqL K H a (ns.map V.int) → sp [.ref a] H (fun v _ => v = .bl true) fun _ _ _ => False)
    (hCX : ∀ H e s', CX [] H s₁ (fun _ _ _ => False) e s' → False) :
    codeAny (model P w) callerA (.call (.ref fa) ⟨[.ref a], []⟩) (fun r s' => r = .ok (.ret (.bool true)) ∧ OldK s₁.heap s'.heap ∧ s'.os = s₁.os ∧ AllBare s'.gens) s₁ := by
  have rv := vals_ints hi
  have lv := hi.length
  have aT : a ≠ T := fun z => by
    rw [z, hT] at ha
    exact nomatch (show Data.fields #[] = Data.seq vs.toArray _ from congrArg Obj.data (Option.some.inj ha))
  suffices main : ∀ H : Hp, H T = some (.tbl #[]) → (∀ b, H b = none ∨ b = T ∨ ∃ o xs, H b = some (.frz o (.lst xs))) → SqL K H a (ns.map V.int) → HOk P w H s₁.heap → (∀ b, H b ≠ none → b = T ∨ (b = a ∧ K.lookup a = none)) →
      codeAny (model P w) callerA (.call (.ref fa) ⟨[.ref a], []⟩) (fun r s' => r = .ok (.ret (.bool true)) ∧ OldK s₁.heap s'.heap ∧ s'.os = s₁.os ∧ AllBare s'.gens) s₁ by
    cases hk : K.lookup a with
    | some o =>
      have e := KX a o hk
      rw [ha] at e
      cases e
      refine main (fun b => if b = T then some (.tbl #[]) else none) (if_pos rfl) (fun b => ?_) (.inr ⟨_, vs.toArray, _, hk, rfl, rfl, rfl, by rw [List.size_toArray, lv]; exact hl, by simpa using rv⟩) (fun b u z => ?_) (fun b z => ?_)
      · by_cases h : b = T
        · exact .inr (.inl h)
        · exact .inl (if_neg h)
      · by_cases h : b = T
        · cases (if_pos h).symm.trans z
          rw [h]
          exact hT
        · cases (if_neg h).symm.trans z
      · by_cases h : b = T
        · exact .inl h
        · exact absurd (if_neg h) z
    | none =>
      refine main (fun b => if b = T then some (.tbl #[]) else if b = a then some (.frz { cls := .type "list", data := .seq vs.toArray } (.lst (ns.map V.int))) else none) (if_pos rfl) (fun b => ?_) (.inl (.inr ⟨{ cls := .type "list", data := .seq vs.toArray }, (if_neg aT).trans (if_pos rfl)⟩)) (fun b u z => ?_) (fun b z => ?_)
      · by_cases h : b = T
        · exact .inr (.inl h)
        · by_cases h2 : b = a
          · exact .inr (.inr ⟨_, _, (if_neg h).trans (if_pos h2)⟩)
          · exact .inl ((if_neg h).trans (if_neg h2))
      · by_cases h : b = T
        · cases (if_pos h).symm.trans z
          rw [h]
          exact hT
        · have z := (if_neg h).symm.trans z
          by_cases h2 : b = a
          · cases (if_pos h2).symm.trans z
            subst h2
            exact ⟨ha, by rw [List.length_map]; exact hl, vs, _, rv, ha⟩
          · cases (if_neg h2).symm.trans z
      · by_cases h : b = T
        · exact .inl h
        · by_cases h2 : b = a
          · exact .inr ⟨h2, hk⟩
          · exact absurd ((if_neg h).trans (if_neg h2)) z
  intro H tT only hS hok hA
  have free : ∀ {b : Addr} {o : Obj}, s₁.heap.get? b = some o → (∀ us n, o.data ≠ .seq us n) → o.data ≠ .fields #[] → H b = none := fun {b o} e d1 d2 => by
    cases q : H b with
    | none => rfl
    | some u =>
      rcases hA b (by rw [q]; simp) with rfl | ⟨rfl, _⟩
      · rw [hT] at e
        cases e
        exact absurd rfl d2
      · rw [ha] at e
        cases e
        exact absurd rfl (d1 _ _)
  have nsK : ∀ {b : Addr} {m : Str → Option Value}, s₁.heap.Ns b m → (hidT s₁.heap H).Ns b m := fun {b m} ⟨o, es, ep, e, d, r⟩ => ⟨o, es, ep, hidT_get e (free e (fun us n z => by rw [d] at z; cases z) fun z => by rw [d] at z; cases z), d, r⟩
  have KB : K.In (hidT s₁.heap H) := fun b o e => hidT_get (KX b o e) (by
    cases q : H b with
    | none => rfl
    | some u =>
      rcases hA b (by rw [q]; simp) with rfl | ⟨rfl, z⟩
      · rw [nT] at e
        cases e
      · rw [z] at e
        cases e)
  have TB : LamX.TabB (hidT s₁.heap H) mg c T := by
    refine ⟨?_, ?_, fun z => ?_⟩
    · obtain ⟨o, us, file, tf, flags, tg, inF, text, tt, e1, r1, r2, r3, r4⟩ := C
      refine ⟨o, us, file, tf, flags, tg, inF, text, tt, hidT_get e1 (free e1 (fun ws n z => ?_) fun z => ?_), r1, r2, r3, r4⟩
      · rw [r2] at z
        cases z
      · rw [r2] at z
        cases z
        simp at r3
    · obtain ⟨bm, ob, b1, b2, b3, b4, b5, b6⟩ := bmod
      refine ⟨bm, ob, b1, b2, fun q => ?_, fun q => ?_, hidT_get b3 (free b3 (fun ws n z => ?_) fun z => ?_), b4, b5, b6⟩
      · obtain ⟨o, es, ep, e, hd, _⟩ := hns
        rw [q, e] at b3
        cases b3
        rw [hd] at b6
        cases b6
      · rw [q, hT] at b3
        cases b3
        cases b6
      · rw [b6] at z
        cases z
      · rw [b6] at z
        cases z
    · obtain ⟨o, es, ep, e, hd, _⟩ := hns
      rw [z, hT] at e
      cases e
      cases hd
  obtain ⟨mc, m1, m2⟩ := lim
  have e0 : Env0 P w K mg (hidT s₁.heap H) callerA [] s₁ H :=
    ⟨rfl, ⟨KB, nsK hns, ⟨mb, nsK hb, hbb⟩, ⟨mc, nsK m1, m2⟩⟩, fun b o e => of_hidT e, Nat.le_of_eq (hidT_size _ _), trivial, fun b hb => absurd (show b ∈ ([] : List Addr) from hb) (by simp), hok, .of_eq hg⟩
  refine codeAny_mono (F _ KB (nsK hns) TB callerA [] s₁ H ⟨[.ref a], []⟩ [.ref a] [.ref a] _ _ rfl room e0 (bind s₁ (.ref a)) (.cons rfl .nil) (hsp H tT only hS)) fun r s' h => ?_
  match r, h with
  | .error e, h => exact (hCX H e s' h).elim
  | .ok .next, h => exact h.elim
  | .ok .brk, h => exact h.elim
  | .ok .cont, h => exact h.elim
  | .ok (.ret u), ⟨v, H', os, bare, un, hok', r', q⟩ =>
    obtain rfl : v = .bl true := q
    obtain rfl : u = Value.bool true := r'
    obtain ⟨more, z⟩ := un.tbls T #[] tT
    have grown : s'.heap.get? T = some { cls := .none, data := .fields more } := by
      have g : s'.heap.get? T = some { cls := .none, data := .fields (#[] ++ more) } := hok' T _ z
      rw [Array.empty_append] at g
      exact g
    have kept : ∀ b o, b ≠ T → s₁.heap.get? b = some o → s'.heap.get? b = some o := fun b o n e => by
      rcases only b with z | z | ⟨ob, xs, z⟩
      · exact un.keep b o e z (fun z => nomatch (show b ∈ ([] : List Addr) from z)) (by simp)
      · exact absurd z n
      · obtain ⟨e1, _⟩ := hok b _ z
        obtain ⟨e2, _⟩ := hok' b _ (un.frzs b ob _ z)
        rw [e] at e1
        cases e1
        exact e2
    refine ⟨rfl, ⟨fun b o e => ?_, fun b o e => ?_⟩, os, bare⟩
    · by_cases n : b = T
      · subst n
        rw [hT] at e
        cases e
        exact .inr (.inl ⟨(C.tab hT).isCodeTable, rfl, #[], more, rfl, by rw [Array.empty_append]; exact grown⟩)
      · exact .inl (kept b o n e)
    · by_cases n : b = T
      · subst n
        exact ⟨_, grown⟩
      · exact ⟨o, kept b o n e⟩
theorem walk_T {l : PySem.W.OpenLaw} {n k : Nat} {q : Program} {loose : List Str} {XP : (Str → Option Value) → Heap → Prop} {YP : World → Heap → Prop} {d : DefRec} {K : Params → PySem.W.Frag} {CX : CXT} {sp : PySem.W.Frag → Addr → Sp} {x : Str}
    (hn : l.most = some n) (hn2 : n ≤ sizeLine) (hdf : d.params.defaults = []) (hr : Room k callerA)
    (hY : ∀ (w : World) (h : Heap), YP w h → (K w.params).In h)
    (F : ∀ (w : World) (lo : List Str) (mean : ExcName → Option Value) (mg mb : Str → Option Value) (fa : Addr) (h : Heap), PyProof.Rows.Top q lo mean mg mb h → YP w h → (K w.params).In h → h.Ns mainGlobals mg → mg d.name = some (.ref fa) →
      ∃ (fd : FuncData) (c T : Addr), h.get? T = some { cls := .none, data := .fields #[] } ∧ (K w.params).lookup T = none ∧ PySem.W.CodeHd h c T ∧ (∀ (s : Shared) (u : Value), BindsTo s fd ⟨[u], []⟩ [(x, u)]) ∧
        (∀ base : Heap, (K w.params).In base → base.Ns mainGlobals mg → LamX.TabB base mg c T → RunG l.prog w (K w.params) mg base CX k fa fd [x] (sp (K w.params) T)))
    (hsp : ∀ (K : PySem.W.Frag) (T : Addr) (H : Hp) (a : Addr) (ns : List Int), ns.length ≤ n → H T = some (.tbl #[]) → (∀ b, H b = none ∨ b = T ∨ ∃ o xs, H b = some (.frz o (.lst xs))) → SqL K H a (ns.map V.int) → sp K T [.ref a] H (fun v _ => v = .bl true) fun _ _ _ => False)
    (hCX : ∀ (H : Hp) (s : Shared) (e : Value) (s' : Shared), CX [] H s (fun _ _ _ => False) e s' → False) :
    PySem.W.WalkO q loose XP YP l.row.toRowW d [] (fun f vs => PySem.call f vs) := by
  refine Att.attach_callB hn hdf fun w s₀ s₁ mg mb fa o pm cd doc a vs ns G Y ho hd hcd hmg hobj hints hlen hbits hg => ?_
  have KX := hY w _ Y
  obtain ⟨fd, c, T, hT, nT, C, bind, FF⟩ := F w _ _ mg mb fa _ G.T Y KX G.T.g hmg
  exact callT KX G.T.g G.T.b G.T.builtins G.T.nolimit hg hT nT C G.T.bmain hobj hints (Nat.le_trans hlen hn2) hr FF bind (fun H tT only hS => hsp _ T H a ns hlen tT only hS) fun H e s' => hCX H s₁ e s'

end VX

namespace DE
open PySem PySem.Spec PyProof.Rows L2 SZ VR VX StX RT
def tyD : PyData → String
  | .none => "NoneType"
  | .bool _ => "bool"
  | .int _ => "int"
  | .str _ => "str"
  | .list _ => "list"
  | .tuple _ => "tuple"
  | .dict _ => "dict"
theorem TyX.lstT {K : PySem.W.Frag} {H : Hp} {a : Addr} {xs : List V} (h : SqL K H a xs) : TyX K H (.ref a) (.type "list") := by
  rcases h with (h | ⟨o, h⟩) | h
  · exact .base (.lst h)
  · exact .base (.frz h)
  · obtain ⟨o, its, n, h1, h2, _⟩ := h
    exact .kList h1 h2
theorem dp_ty {K : PySem.W.Frag} {H : Hp} {v : V} {d : PyData} (h : Dp K H v d) : TyX K H v (.type (tyD d)) := by
  cases h with
  | non => exact .base .non
  | bl b => exact .base (.bl b)
  | int i => exact .base (.int i)
  | str x => exact .base (.str x)
  | lst h1 h2 => exact TyX.lstT h1
  | tup h1 h2 => exact TyX.tupT h1
mutual
theorem Dp.keep {K : PySem.W.Frag} {H H' : Hp} (s : Same H H') : ∀ {v : V} {d : PyData}, Dp K H v d → Dp K H' v d
  | _, _, .non => .non
  | _, _, .bl b => .bl b
  | _, _, .int i => .int i
  | _, _, .str x => .str x
  | _, _, .lst h1 h2 => .lst (s.seq h1) (DpAll.keep s h2)
  | _, _, .tup h1 h2 => .tup (s.tup h1) (DpAll.keep s h2)
theorem DpAll.keep {K : PySem.W.Frag} {H H' : Hp} (s : Same H H') : ∀ {vs : List V} {ds : List PyData}, DpAll K H vs ds → DpAll K H' vs ds
  | _, _, .nil => .nil
  | _, _, .cons h1 h2 => .cons (Dp.keep s h1) (DpAll.keep s h2)
end
theorem DpAll.len {K : PySem.W.Frag} {H : Hp} : ∀ {vs : List V} {ds : List PyData}, DpAll K H vs ds → vs.length = ds.length
  | _, _, .nil => rfl
  | _, _, .cons _ h2 => by rw [List.length_cons, List.length_cons, DpAll.len h2]
theorem DpAll.at {K : PySem.W.Frag} {H : Hp} : ∀ {vs : List V} {ds : List PyData} {i : Nat} {v : V}, DpAll K H vs ds → vs[i]? = some v → ∃ d, ds[i]? = some d ∧ Dp K H v d
  | _, _, _, _, .nil, h => by simp at h
  | _, _, 0, _, .cons h1 _, h => by
    simp at h
    subst h
    exact ⟨_, rfl, h1⟩
  | _, _, i + 1, _, .cons _ h2, h => by
    obtain ⟨d, e, g⟩ := DpAll.at h2 (by simpa using h)
    exact ⟨d, by simpa using e, g⟩
def isI : PyData → Bool
  | .int _ => true
  | _ => false
theorem strIn (z : Str) : ∀ l : List Str, inV (.str z) (l.map V.str) = l.contains z
  | [] => rfl
  | x :: l => by
    have ih := strIn z l
    unfold inV at ih ⊢
    rw [List.map_cons, List.any_cons, ih, List.contains_cons]
    congr 1
    simp only [eqV]
    first | rfl | exact Bool.beq_comm .. | (rw [Bool.eq_iff_iff]; simp [eq_comm])
theorem strFlat (l : List Str) : (l.map V.str).all flatV = true := by
  rw [List.all_map]
  exact List.all_eq_true.mpr fun _ _ => rfl
def isS : PyData → Bool
  | .str _ => true
  | _ => false
theorem kitS {K : PySem.W.Frag} : ∀ {d : PyData}, PySem.W.kitOne K (.type (tyD d)) (.type "str") = some (isS d)
  | .none => kit_ty (a := "NoneType") (r := false) (by decide +kernel)
  | .bool _ => kit_ty (a := "bool") (r := false) (by decide +kernel)
  | .int _ => kit_ty (a := "int") (r := false) (by decide +kernel)
  | .str _ => kit_ty (a := "str") (r := true) (by decide +kernel)
  | .list _ => kit_ty (a := "list") (r := false) (by decide +kernel)
  | .tuple _ => kit_ty (a := "tuple") (r := false) (by decide +kernel)
  | .dict _ => kit_ty (a := "dict") (r := false) (by decide +kernel)
def isT : PyData → Bool
  | .tuple _ => true
  | _ => false
theorem kitT {K : PySem.W.Frag} : ∀ {d : PyData}, PySem.W.kitOne K (.type (tyD d)) (.type "tuple") = some (isT d)
  | .none => kit_ty (a := "NoneType") (r := false) (by decide +kernel)
  | .bool _ => kit_ty (a := "bool") (r := false) (by decide +kernel)
  | .int _ => kit_ty (a := "int") (r := false) (by decide +kernel)
  | .str _ => kit_ty (a := "str") (r := false) (by decide +kernel)
  | .list _ => kit_ty (a := "list") (r := false) (by decide +kernel)
  | .tuple _ => kit_ty (a := "tuple") (r := true) (by decide +kernel)
  | .dict _ => kit_ty (a := "dict") (r := false) (by decide +kernel)
theorem small_line {n : Nat} (h : n ≤ 100) : n ≤ sizeLine := by rw [sizeLine_eq]; omega
theorem DpAll.app {K : PySem.W.Frag} {H : Hp} : ∀ {xs ys : List V} {ds es : List PyData}, DpAll K H xs ds → DpAll K H ys es → DpAll K H (xs ++ ys) (ds ++ es)
  | _, _, _, _, .nil, h => h
  | _, _, _, _, .cons h1 h2, h => .cons h1 (DpAll.app h2 h)

theorem atN {α : Type} {xs : List α} {j : Nat} {x : α} (h : xs[j]? = some x) : atI xs (j : Int) = some x := by
  have hl : j < xs.length := (List.getElem?_eq_some_iff.mp h).1
  unfold atI
  rw [ixN_nat hl]
  exact h

/-! ### what is held: data that stays, lists held alone -/
inductive Sl where
  | un
  | d (x : PyData)
  | own (xs : List PyData)
  | bor (xs : List PyData)
  | fact (φ : V → Hp → Prop) (st : ∀ v G G', Same G G' → φ v G → φ v G')
  | dct (o : Bool) (kvs : List (Str × PyData))
structure Bs where
  G : Hp
  H : Hp
  B : List Addr
abbrev Cl := Option V × Sl
/-- a dict of texts holds this data -/
def DpK (K : PySem.W.Frag) (G : Hp) : List (Key × V) → List (Str × PyData) → Prop
  | [], [] => True
  | u :: us, p :: ps => u.1 = .inr p.1 ∧ Dp K G u.2 p.2 ∧ DpK K G us ps
  | _, _ => False
theorem DpK.keep {K : PySem.W.Frag} {G G' : Hp} (s : Same G G') : ∀ {us : List (Key × V)} {ps : List (Str × PyData)}, DpK K G us ps → DpK K G' us ps
  | [], [], _ => trivial
  | _ :: _, _ :: _, ⟨h1, h2, h3⟩ => ⟨h1, Dp.keep s h2, DpK.keep s h3⟩
  | [], _ :: _, h => h
  | _ :: _, [], h => h
def SlOk (K : PySem.W.Frag) (b : Bs) (G H : Hp) : Cl → Prop
  | (_, .un) => True
  | (x, .d y) => ∃ v, x = some v ∧ Dp K G v y
  | (x, .own ys) => ∃ p vs, x = some (.ref p) ∧ b.H p = none ∧ G p = none ∧ H p = some (.lst vs) ∧ DpAll K G vs ys
  | (x, .bor ys) => ∃ p vs, x = some (.ref p) ∧ p ∈ b.B ∧ G p = none ∧ H p = some (.lst vs) ∧ DpAll K G vs ys
  | (x, .fact φ _) => ∃ v, x = some v ∧ φ v G
  | (x, .dct o kvs) => ∃ p us, x = some (.ref p) ∧ ((o = true ∧ b.H p = none) ∨ (o = false ∧ p ∈ b.B ∧ ∃ u0, b.H p = some (.dK u0))) ∧ G p = none ∧ H p = some (.dK us) ∧ DpK K G us kvs
/-- the lists that are held alone -/
def ads : List Cl → List Addr
  | [] => []
  | (some (.ref p), .own _) :: L => p :: ads L
  | (some (.ref p), .bor _) :: L => p :: ads L
  | (some (.ref p), .dct _ _) :: L => p :: ads L
  | _ :: L => ads L
/-- what leans on nothing but itself -/
def flatO : HO → Bool
  | .ins _ _ _ => false
  | .own _ => false
  | .dT _ => false
  | .frz _ u => flatO u
  | .tbl _ => false
  | _ => true
def FlO (G : Hp) : Prop := ∀ a o, G a = some o → (∃ C dx fs, o = .ins C dx fs ∧ G dx = some (.own a)) ∨ (∃ x, o = .own x ∧ (G x).isSome = true) ∨ flatO o = true
theorem FlO.upd {G : Hp} {p : Addr} {o : HO} (h : FlO G) (hp : G p = none) (ho : flatO o = true) : FlO (upd G p o) := fun a u e => by
  by_cases ha : a = p
  · subst ha; rw [upd_same] at e; cases e; exact .inr (.inr ho)
  · rw [upd_ne ha] at e
    rcases h a u e with ⟨C, dx, fs, e1, e2⟩ | ⟨x, e1, e2⟩ | h
    · exact .inl ⟨C, dx, fs, e1, by rw [upd_ne (ne_of_none e2 hp)]; exact e2⟩
    · refine .inr (.inl ⟨x, e1, ?_⟩)
      by_cases hx : x = p
      · subst hx; rw [upd_same]; rfl
      · rw [upd_ne hx]; exact e2
    · exact .inr (.inr h)
/-- the table of the law's own code objects -/
def lamQ : Str := "law.<locals>.<lambda>"
/-- a table of code objects stays one -/
def TbOk (H H' : Hp) (a : Addr) : Prop := LamX.TabS H a lamQ → LamX.TabS H' a lamQ
theorem TbOk.refl (H : Hp) (a : Addr) : TbOk H H a := fun h => h
theorem TbOk.of {H H' H2 : Hp} {a : Addr} (h : TbOk H H' a) (k : ∀ b o, H' b = some o → (∀ xs, o ≠ .lst xs) → (∀ us, o ≠ .dK us) → H2 b = some o) : TbOk H H2 a := fun t => by
  obtain ⟨ps, h1, h2, h3⟩ := h t
  refine ⟨ps, k _ _ h1 nofun nofun, h2, fun pos cv hc => ?_⟩
  obtain ⟨c, e1, e2⟩ := h3 pos cv hc
  exact ⟨c, e1, k _ _ e2 (fun xs z => by unfold LamX.CodeO at z; cases z) (fun xs z => by unfold LamX.CodeO at z; cases z)⟩
structure HoldG (K : PySem.W.Frag) (b : Bs) (G H : Hp) (L : List Cl) : Prop where
  old : Same b.G G
  up : Same G H
  new : ∀ a o, G a = some o → b.G a = some o ∨ b.H a = none
  rest : ∀ a o, b.H a = some o → a ∉ b.B → H a = some o
  bs : ∀ a ∈ b.B, (H a).isSome = true ∧ TbOk b.H H a
  ok : ∀ c ∈ L, SlOk K b G H c
  nd : (ads L).Nodup
  fl : FlO G
def Hold (K : PySem.W.Frag) (b : Bs) (H : Hp) (L : List Cl) : Prop := ∃ G, HoldG K b G H L
theorem ads_append : ∀ L L' : List Cl, ads (L ++ L') = ads L ++ ads L'
  | [], _ => rfl
  | c :: L, L' => by
    have ih := ads_append L L'
    rcases c with ⟨_ | v, s⟩
    · cases s <;> simpa [ads] using ih
    · cases v <;> cases s <;> simp [ads, ih]
theorem ads_cons (c : Cl) (L : List Cl) : ads (c :: L) = ads [c] ++ ads L := ads_append [c] L
theorem ads_mem {q : Addr} {s : Sl} (h : (∃ ys, s = .own ys) ∨ ∃ ys, s = .bor ys) {L : List Cl} (hc : (some (V.ref q), s) ∈ L) : q ∈ ads L := by
  obtain ⟨l1, l2, e⟩ := List.append_of_mem hc
  rw [e, ads_append]
  rcases h with ⟨ys, rfl⟩ | ⟨ys, rfl⟩ <;> exact List.mem_append_right _ List.mem_cons_self
theorem ads_memD {q : Addr} {o : Bool} {kvs : List (Str × PyData)} {L : List Cl} (hc : (some (V.ref q), Sl.dct o kvs) ∈ L) : q ∈ ads L := by
  obtain ⟨l1, l2, e⟩ := List.append_of_mem hc
  rw [e, ads_append]
  exact List.mem_append_right _ List.mem_cons_self
theorem ads_perm {L L' : List Cl} (h : L.Perm L') : (ads L).Perm (ads L') := by
  induction h with
  | nil => exact .refl _
  | cons c _ ih => 
    rename_i l1 l2 _
    rw [ads_cons c l1, ads_cons c l2]; exact ih.append_left _
  | swap c d L => 
    rw [ads_cons d (c :: L), ads_cons c L, ads_cons c (d :: L), ads_cons d L, ← List.append_assoc, ← List.append_assoc]
    exact List.Perm.append_right _ List.perm_append_comm
  | trans _ _ i1 i2 => exact i1.trans i2
section
variable {K : PySem.W.Frag} {b : Bs} {G H : Hp} {L L' : List Cl} {c : Cl}
theorem HoldG.perm (h : HoldG K b G H L) (p : L'.Perm L) : HoldG K b G H L' := ⟨h.old, h.up, h.new, h.rest, h.bs, fun c hc => h.ok c (p.mem_iff.mp hc), (ads_perm p).nodup_iff.mpr h.nd, h.fl⟩
theorem Hold.perm (h : Hold K b H L) (p : L'.Perm L) : Hold K b H L' := let ⟨G, h⟩ := h; ⟨G, h.perm p⟩
theorem HoldG.drop (h : HoldG K b G H (c :: L)) : HoldG K b G H L := ⟨h.old, h.up, h.new, h.rest, h.bs, fun c hc => h.ok c (List.mem_cons_of_mem _ hc), by have := h.nd; rw [ads_cons] at this; exact (List.nodup_append.mp this).2.1, h.fl⟩
theorem Hold.drop (h : Hold K b H (c :: L)) : Hold K b H L := let ⟨G, h⟩ := h; ⟨G, h.drop⟩
theorem Hold.dropL : ∀ {M : List Cl}, Hold K b H (M ++ L) → Hold K b H L
  | [], h => h
  | _ :: _, h => Hold.dropL h.drop
/-- a cell is known no more -/
theorem HoldG.un (h : HoldG K b G H L) {x : Option V} : HoldG K b G H ((x, .un) :: L) := ⟨h.old, h.up, h.new, h.rest, h.bs, fun c hc => by
  rcases List.mem_cons.mp hc with rfl | hc
  · trivial
  · exact h.ok c hc, by cases x with | none => simpa [ads] using h.nd | some v => cases v <;> simpa [ads] using h.nd, h.fl⟩
/-- one more cell of data -/
theorem HoldG.add (h : HoldG K b G H L) {v : V} {y : PyData} (hv : Dp K G v y) : HoldG K b G H ((some v, .d y) :: L) := ⟨h.old, h.up, h.new, h.rest, h.bs, fun c hc => by
  rcases List.mem_cons.mp hc with rfl | hc
  · exact ⟨v, rfl, hv⟩
  · exact h.ok c hc, by cases v <;> simpa [ads] using h.nd, h.fl⟩
theorem HoldG.addF (h : HoldG K b G H L) {v : V} {φ : V → Hp → Prop} {st} (hv : φ v G) : HoldG K b G H ((some v, .fact φ st) :: L) := ⟨h.old, h.up, h.new, h.rest, h.bs, fun c hc => by
  rcases List.mem_cons.mp hc with rfl | hc
  · exact ⟨v, rfl, hv⟩
  · exact h.ok c hc, by cases v <;> simpa [ads] using h.nd, h.fl⟩
theorem Hold.un (h : Hold K b H L) {x : Option V} : Hold K b H ((x, .un) :: L) := let ⟨G, h⟩ := h; ⟨G, h.un⟩
theorem Hold.int (h : Hold K b H L) (i : Int) : Hold K b H ((some (.int i), .d (.int i)) :: L) := let ⟨G, h⟩ := h; ⟨G, h.add (.int i)⟩
theorem Hold.bl (h : Hold K b H L) (i : Bool) : Hold K b H ((some (.bl i), .d (.bool i)) :: L) := let ⟨G, h⟩ := h; ⟨G, h.add (.bl i)⟩
theorem Hold.str (h : Hold K b H L) (i : Str) : Hold K b H ((some (.str i), .d (.str i)) :: L) := let ⟨G, h⟩ := h; ⟨G, h.add (.str i)⟩
theorem Hold.non (h : Hold K b H L) : Hold K b H ((some .non, .d .none) :: L) := let ⟨G, h⟩ := h; ⟨G, h.add .non⟩
/-- the head says what the value is -/
theorem HoldG.data {x : Option V} {y : PyData} (h : HoldG K b G H ((x, .d y) :: L)) : ∃ v, x = some v ∧ Dp K G v y := h.ok _ List.mem_cons_self
theorem HoldG.inH {v : V} {y : PyData} (h : HoldG K b G H L) (d : Dp K G v y) : Dp K H v y := Dp.keep h.up d
/-- the frozen part and the heap grow -/
theorem HoldG.grow (h : HoldG K b G H L) {p : Addr} {o : HO} (hp : H p = none) (ho : flatO o = true) : HoldG K b (upd G p o) (upd H p o) L := by
  have gp : G p = none := h.up.free hp
  have bp : b.H p = none := by
    cases e : b.H p with
    | none => rfl
    | some u =>
      by_cases hb : p ∈ b.B
      · have := (h.bs p hb).1; rw [hp] at this; cases this
      · have := h.rest p u e hb; rw [hp] at this; cases this
  have sG : Same G (upd G p o) := Same.new gp
  refine ⟨h.old.trans sG, fun a u e => ?_, fun a u e => ?_, fun a u e n => ?_, fun a ha => ?_, fun c hc => ?_, h.nd, h.fl.upd gp ho⟩
  · by_cases ha : a = p
    · subst ha; rw [upd_same] at e ⊢; exact e
    · rw [upd_ne ha] at e ⊢; exact h.up a u e
  · by_cases ha : a = p
    · subst ha; exact .inr bp
    · rw [upd_ne ha] at e; exact h.new a u e
  · have := h.rest a u e n
    rw [upd_ne (ne_of_none this hp)]; exact this
  · refine ⟨?_, (h.bs a ha).2.of fun c u e _ _ => by rw [upd_ne (ne_of_none e hp)]; exact e⟩
    by_cases e : a = p
    · subst e; rw [upd_same]; rfl
    · rw [upd_ne e]; exact (h.bs a ha).1
  · have ok := h.ok c hc
    rcases c with ⟨x, s⟩
    cases s with
    | un => trivial
    | d y => obtain ⟨v, e, k⟩ := ok; exact ⟨v, e, Dp.keep sG k⟩
    | fact φ st => obtain ⟨v, e, k⟩ := ok; exact ⟨v, e, st _ _ _ sG k⟩
    | dct o kvs =>
      obtain ⟨q, vs, e, h1, h2, h3, h4⟩ := ok
      have n : q ≠ p := ne_of_none h3 hp
      exact ⟨q, vs, e, h1, by rw [upd_ne n]; exact h2, by rw [upd_ne n]; exact h3, DpK.keep sG h4⟩
    | own ys =>
      obtain ⟨q, vs, e, h1, h2, h3, h4⟩ := ok
      have n : q ≠ p := ne_of_none h3 hp
      exact ⟨q, vs, e, h1, by rw [upd_ne n]; exact h2, by rw [upd_ne n]; exact h3, DpAll.keep sG h4⟩
    | bor ys =>
      obtain ⟨q, vs, e, h1, h2, h3, h4⟩ := ok
      have n : q ≠ p := ne_of_none h3 hp
      exact ⟨q, vs, e, h1, by rw [upd_ne n]; exact h2, by rw [upd_ne n]; exact h3, DpAll.keep sG h4⟩
/-- the heap alone grows -/
theorem HoldG.growH (h : HoldG K b G H L) {p : Addr} {o : HO} (hp : H p = none) : HoldG K b G (upd H p o) L := by
  refine ⟨h.old, h.up.trans (Same.new hp), h.new, fun a u e n => ?_, fun a ha => ?_, fun c hc => ?_, h.nd, h.fl⟩
  · have := h.rest a u e n
    rw [upd_ne (ne_of_none this hp)]; exact this
  · refine ⟨?_, (h.bs a ha).2.of fun c u e _ _ => by rw [upd_ne (ne_of_none e hp)]; exact e⟩
    by_cases e : a = p
    · subst e; rw [upd_same]; rfl
    · rw [upd_ne e]; exact (h.bs a ha).1
  · have ok := h.ok c hc
    rcases c with ⟨x, s⟩
    cases s with
    | un => trivial
    | d y => exact ok
    | fact φ st => exact ok
    | dct o kvs =>
      obtain ⟨q, vs, e, h1, h2, h3, h4⟩ := ok
      exact ⟨q, vs, e, h1, h2, by rw [upd_ne (ne_of_none h3 hp)]; exact h3, h4⟩
    | own ys =>
      obtain ⟨q, vs, e, h1, h2, h3, h4⟩ := ok
      exact ⟨q, vs, e, h1, h2, by rw [upd_ne (ne_of_none h3 hp)]; exact h3, h4⟩
    | bor ys =>
      obtain ⟨q, vs, e, h1, h2, h3, h4⟩ := ok
      exact ⟨q, vs, e, h1, h2, by rw [upd_ne (ne_of_none h3 hp)]; exact h3, h4⟩
theorem HoldG.fresh (h : HoldG K b G H L) {p : Addr} (hp : H p = none) : b.H p = none := by
  cases e : b.H p with
  | none => rfl
  | some u =>
    by_cases hb : p ∈ b.B
    · have := (h.bs p hb).1; rw [hp] at this; cases this
    · have := h.rest p u e hb; rw [hp] at this; cases this
theorem ads_in {p : Addr} : ∀ {L : List Cl}, p ∈ ads L → ∃ s, (some (.ref p), s) ∈ L ∧ ((∃ ys, s = .own ys) ∨ (∃ ys, s = .bor ys) ∨ ∃ o kvs, s = .dct o kvs)
  | [], h => by cases h
  | c :: L, h => by
    rw [ads_cons] at h
    rcases List.mem_append.mp h with h | h
    · rcases c with ⟨_ | v, s⟩
      · cases s <;> simp [ads] at h
      · cases v <;> cases s <;> simp [ads] at h
        · subst h; exact ⟨_, List.mem_cons_self, .inl ⟨_, rfl⟩⟩
        · subst h; exact ⟨_, List.mem_cons_self, .inr (.inl ⟨_, rfl⟩)⟩
        · subst h; exact ⟨_, List.mem_cons_self, .inr (.inr ⟨_, _, rfl⟩)⟩
    · obtain ⟨s, h1, h2⟩ := ads_in h
      exact ⟨s, List.mem_cons_of_mem _ h1, h2⟩
theorem HoldG.adsH (h : HoldG K b G H L) {p : Addr} (hp : p ∈ ads L) : G p = none ∧ ∃ o, H p = some o := by
  obtain ⟨s, hm, hs⟩ := ads_in hp
  have ok := h.ok _ hm
  rcases hs with ⟨ys, rfl⟩ | ⟨ys, rfl⟩ | ⟨o, ys, rfl⟩
  · obtain ⟨q, vs, e, _, h2, h3, _⟩ := ok; cases e; exact ⟨h2, _, h3⟩
  · obtain ⟨q, vs, e, _, h2, h3, _⟩ := ok; cases e; exact ⟨h2, _, h3⟩
  · obtain ⟨q, vs, e, _, h2, h3, _⟩ := ok; cases e; exact ⟨h2, _, h3⟩
/-- a new list, held alone -/
theorem HoldG.newL (h : HoldG K b G H L) {p : Addr} {vs : List V} {ys : List PyData} (hp : H p = none) (hv : DpAll K G vs ys) : HoldG K b G (upd H p (.lst vs)) ((some (.ref p), .own ys) :: L) := by
  have g := h.growH (o := .lst vs) hp
  refine ⟨g.old, g.up, g.new, g.rest, g.bs, fun c hc => ?_, ?_, g.fl⟩
  · rcases List.mem_cons.mp hc with rfl | hc
    · exact ⟨p, vs, rfl, h.fresh hp, h.up.free hp, upd_same, hv⟩
    · exact g.ok c hc
  · show (p :: ads L).Nodup
    refine List.nodup_cons.mpr ⟨fun hm => ?_, h.nd⟩
    obtain ⟨_, vs', e⟩ := h.adsH hm
    rw [hp] at e; cases e
/-- a new tuple -/
theorem HoldG.newT (h : HoldG K b G H L) {p : Addr} {vs : List V} {ys : List PyData} (hp : H p = none) (hv : DpAll K G vs ys) : HoldG K b (upd G p (.tup vs)) (upd H p (.tup vs)) ((some (.ref p), .d (.tuple ys)) :: L) :=
  (h.grow (o := .tup vs) hp rfl).add (.tup (.of upd_same) (DpAll.keep (Same.new (h.up.free hp)) hv))
/-- a list that was held alone is changed no more -/
theorem HoldG.freeze {x : Option V} {ys : List PyData} (h : HoldG K b G H ((x, .own ys) :: L)) : Hold K b H ((x, .d (.list ys)) :: L) := by
  obtain ⟨p, vs, rfl, h1, h2, h3, h4⟩ := h.ok _ List.mem_cons_self
  have nd := h.nd
  have nd' : p ∉ ads L := (List.nodup_cons.mp (show (p :: ads L).Nodup from nd)).1
  have sG : Same G (upd G p (.lst vs)) := Same.new h2
  refine ⟨upd G p (.lst vs), h.old.trans sG, fun a u e => ?_, fun a u e => ?_, h.rest, h.bs, fun c hc => ?_, ?_, h.fl.upd h2 rfl⟩
  · by_cases ha : a = p
    · subst ha; rw [upd_same] at e; rw [h3]; exact e
    · rw [upd_ne ha] at e; exact h.up a u e
  · by_cases ha : a = p
    · subst ha; exact .inr h1
    · rw [upd_ne ha] at e; exact h.new a u e
  · rcases List.mem_cons.mp hc with rfl | hm
    · exact ⟨_, rfl, .lst (.of upd_same) (DpAll.keep sG h4)⟩
    · have ok := h.ok c (List.mem_cons_of_mem _ hm)
      rcases c with ⟨x, s⟩
      cases s with
      | un => trivial
      | d y => obtain ⟨v, e, k⟩ := ok; exact ⟨v, e, Dp.keep sG k⟩
      | fact φ st => obtain ⟨v, e, k⟩ := ok; exact ⟨v, e, st _ _ _ sG k⟩
      | dct o kvs =>
        obtain ⟨q, vs', e, k1, k2, k3, k4⟩ := ok
        have n : q ≠ p := fun n => by
          subst n; subst e
          exact nd' (ads_memD hm)
        exact ⟨q, vs', e, k1, by rw [upd_ne n]; exact k2, k3, DpK.keep sG k4⟩
      | own ys' =>
        obtain ⟨q, vs', e, k1, k2, k3, k4⟩ := ok
        have n : q ≠ p := fun n => by
          subst n; subst e
          exact nd' (ads_mem (.inl ⟨_, rfl⟩) hm)
        exact ⟨q, vs', e, k1, by rw [upd_ne n]; exact k2, k3, DpAll.keep sG k4⟩
      | bor ys' =>
        obtain ⟨q, vs', e, k1, k2, k3, k4⟩ := ok
        have n : q ≠ p := fun n => by
          subst n; subst e
          exact nd' (ads_mem (.inr ⟨_, rfl⟩) hm)
        exact ⟨q, vs', e, k1, by rw [upd_ne n]; exact k2, k3, DpAll.keep sG k4⟩
  · exact (List.nodup_cons.mp (show (p :: ads L).Nodup from nd)).2
theorem Hold.freeze {x : Option V} {ys : List PyData} (h : Hold K b H ((x, .own ys) :: L)) : Hold K b H ((x, .d (.list ys)) :: L) := let ⟨_, h⟩ := h; h.freeze
/-- a list held alone is written anew -/
theorem HoldG.put {p : Addr} {s s' : Sl} {ys ys' : List PyData} {vs : List V} (h : HoldG K b G H ((some (.ref p), s) :: L)) (hs : (s = .own ys ∧ s' = .own ys') ∨ (s = .bor ys ∧ s' = .bor ys')) (hv : DpAll K G vs ys') : HoldG K b G (upd H p (.lst vs)) ((some (.ref p), s') :: L) := by
  have hG : G p = none := by
    have ok := h.ok _ List.mem_cons_self
    rcases hs with ⟨rfl, _⟩ | ⟨rfl, _⟩
    · obtain ⟨q, _, e, _, h2, _⟩ := ok; cases e; exact h2
    · obtain ⟨q, _, e, _, h2, _⟩ := ok; cases e; exact h2
  have nd : (p :: ads L).Nodup := by rcases hs with ⟨rfl, _⟩ | ⟨rfl, _⟩ <;> exact h.nd
  have nd' := (List.nodup_cons.mp nd).1
  refine ⟨h.old, fun a u e => ?_, h.new, fun a u e n => ?_, fun a ha => ?_, fun c hc => ?_, ?_, h.fl⟩
  · have := h.up a u e
    rw [upd_ne (ne_of_none e hG)]; exact this
  · by_cases ha : a = p
    · subst ha
      have ok := h.ok _ List.mem_cons_self
      rcases hs with ⟨rfl, _⟩ | ⟨rfl, _⟩
      · obtain ⟨q, _, e2, h1, _⟩ := ok; cases e2; rw [h1] at e; cases e
      · obtain ⟨q, _, e2, h1, _⟩ := ok; cases e2; exact absurd h1 n
    · rw [upd_ne ha]; exact h.rest a u e n
  · refine ⟨?_, (h.bs a ha).2.of fun c u e n1 _ => ?_⟩
    · by_cases e : a = p
      · subst e; rw [upd_same]; rfl
      · rw [upd_ne e]; exact (h.bs a ha).1
    · have n : c ≠ p := fun z => by
        subst z
        have ok := h.ok _ List.mem_cons_self
        rcases hs with ⟨rfl, _⟩ | ⟨rfl, _⟩
        · obtain ⟨q, us, e2, _, _, h3, _⟩ := ok; cases e2; rw [h3] at e; cases e; exact n1 _ rfl
        · obtain ⟨q, us, e2, _, _, h3, _⟩ := ok; cases e2; rw [h3] at e; cases e; exact n1 _ rfl
      rw [upd_ne n]
      exact e
  · rcases List.mem_cons.mp hc with rfl | hm
    · have ok := h.ok _ List.mem_cons_self
      rcases hs with ⟨rfl, rfl⟩ | ⟨rfl, rfl⟩
      · obtain ⟨q, _, e2, h1, _⟩ := ok; cases e2; exact ⟨p, vs, rfl, h1, hG, upd_same, hv⟩
      · obtain ⟨q, _, e2, h1, _⟩ := ok; cases e2; exact ⟨p, vs, rfl, h1, hG, upd_same, hv⟩
    · have ok := h.ok c (List.mem_cons_of_mem _ hm)
      rcases c with ⟨x, t⟩
      cases t with
      | un => trivial
      | d y => exact ok
      | fact φ st => exact ok
      | dct o kvs =>
        obtain ⟨q, vs', e, k1, k2, k3, k4⟩ := ok
        have n : q ≠ p := fun n => by
          subst n; subst e
          exact nd' (ads_memD hm)
        exact ⟨q, vs', e, k1, k2, by rw [upd_ne n]; exact k3, k4⟩
      | own ys2 =>
        obtain ⟨q, vs', e, k1, k2, k3, k4⟩ := ok
        have n : q ≠ p := fun n => by
          subst n; subst e
          exact nd' (ads_mem (.inl ⟨_, rfl⟩) hm)
        exact ⟨q, vs', e, k1, k2, by rw [upd_ne n]; exact k3, k4⟩
      | bor ys2 =>
        obtain ⟨q, vs', e, k1, k2, k3, k4⟩ := ok
        have n : q ≠ p := fun n => by
          subst n; subst e
          exact nd' (ads_mem (.inr ⟨_, rfl⟩) hm)
        exact ⟨q, vs', e, k1, k2, by rw [upd_ne n]; exact k3, k4⟩
  · rcases hs with ⟨rfl, rfl⟩ | ⟨rfl, rfl⟩ <;> exact nd
end

end DE

namespace DE
open PySem PySem.Spec PyProof.Rows L2 SZ VR VX StX RT
/-! ### what holds in a frame: expressions -/
def WE (X : Cx) (e : Expr) (σ : L2.St) (H : Hp) (Q : VK) : Prop := ∃ t, PE X e t ∧ t σ H Q
def WT (X : Cx) (e : Expr) (σ : L2.St) (H : Hp) (Q : Bool → Hp → Prop) : Prop := ∃ t, PT X e t ∧ t σ H Q
def WW (X : Cx) (e : Expr) (σ : L2.St) (H : Hp) (Q : Bool → Hp → Prop) : Prop := ∃ t, PW X e t ∧ t σ H Q
def WA (X : Cx) (es : List Expr) (σ : L2.St) (H : Hp) (Q : List V → Hp → Prop) : Prop := ∃ t, PA X es t ∧ t σ H Q
def WG (X : Cx) (tg : Expr) (v : V) (σ : L2.St) (H : Hp) (Q : L2.St → Hp → Prop) : Prop := ∃ t, PG X tg t ∧ t v σ H Q
def WGs (X : Cx) (tg : List Expr) (v : List V) (σ : L2.St) (H : Hp) (Q : L2.St → Hp → Prop) : Prop := ∃ t, PGs X tg t ∧ t v σ H Q
def WS (X : Cx) (s : Stmt) (D : Ends) (σ : L2.St) (H : Hp) : Prop := ∃ t, PS X s t ∧ t D σ H
def WSs (X : Cx) (s : List Stmt) (D : Ends) (σ : L2.St) (H : Hp) : Prop := ∃ t, PSs X s t ∧ t D σ H
section
variable {X : Cx}
theorem we_pe (e : Expr) : PE X e (WE X e) := ⟨fun pins s σ H Q I ⟨_, h, q⟩ => h.run pins s σ H Q I q⟩
theorem wt_pt (e : Expr) : PT X e (WT X e) := ⟨fun pins s σ H Q I ⟨_, h, q⟩ => h.run pins s σ H Q I q⟩
theorem ww_pw (e : Expr) : PW X e (WW X e) := ⟨fun w pins s σ H Q I ⟨_, h, q⟩ => h.run w pins s σ H Q I q⟩
theorem wa_pa (e : List Expr) : PA X e (WA X e) := ⟨fun pos pins s σ H Q I ⟨_, h, q⟩ => h.run pos pins s σ H Q I q⟩
theorem wg_pg (e : Expr) : PG X e (WG X e) := ⟨fun pins s σ H v u Q I r ⟨_, h, q⟩ => h.run pins s σ H v u Q I r q⟩
theorem wgs_pgs (e : List Expr) : PGs X e (WGs X e) := ⟨fun pins s σ H v u Q I r ⟨_, h, q⟩ => h.run pins s σ H v u Q I r q⟩
theorem ws_ps (s : Stmt) : PS X s (WS X s) := ⟨fun pins t σ H D I ⟨_, h, q⟩ => h.run pins t σ H D I q⟩
theorem wss_pss (s : List Stmt) : PSs X s (WSs X s) := ⟨fun pins t σ H D I ⟨_, h, q⟩ => h.run pins t σ H D I q⟩
end
/-- an expression in a frame that holds ρ gives what p wants -/
def EV (X : Cx) (b : Bs) (ρ : List Sl) (e : Expr) (p : Sl → List Sl → Prop) : Prop := ∀ σ H L Q, σ.length = ρ.length → Hold X.K b H (σ.zip ρ ++ L) →
  (∀ r ρ' v H', p r ρ' → σ.length = ρ'.length → Hold X.K b H' ((some v, r) :: (σ.zip ρ' ++ L)) → Q v H') → WE X e σ H Q
def ET (X : Cx) (b : Bs) (ρ : List Sl) (e : Expr) (p : Bool → List Sl → Prop) : Prop := ∀ σ H L Q, σ.length = ρ.length → Hold X.K b H (σ.zip ρ ++ L) →
  (∀ c ρ' H', p c ρ' → σ.length = ρ'.length → Hold X.K b H' (σ.zip ρ' ++ L) → Q c H') → WT X e σ H Q
def EW (X : Cx) (b : Bs) (ρ : List Sl) (e : Expr) (p : Bool → List Sl → Prop) : Prop := ∀ σ H L Q, σ.length = ρ.length → Hold X.K b H (σ.zip ρ ++ L) →
  (∀ c ρ' H', p c ρ' → σ.length = ρ'.length → Hold X.K b H' (σ.zip ρ' ++ L) → Q c H') → WW X e σ H Q
def EA (X : Cx) (b : Bs) (ρ : List Sl) (es : List Expr) (p : List Sl → List Sl → Prop) : Prop := ∀ σ H L Q, σ.length = ρ.length → Hold X.K b H (σ.zip ρ ++ L) →
  (∀ rs ρ' vs H', p rs ρ' → σ.length = ρ'.length → vs.length = rs.length → Hold X.K b H' ((vs.map some).zip rs ++ (σ.zip ρ' ++ L)) → Q vs H') → WA X es σ H Q
/-- an operation on two values -/
def OV (X : Cx) (b : Bs) (f : Value → Value → Sem Value) (r1 r2 : Sl) (p : Sl → Prop) : Prop := ∃ rr : R2, OpR X f rr ∧ ∀ v1 v2 H L Q, Hold X.K b H ((some v1, r1) :: (some v2, r2) :: L) →
  (∀ r v H', p r → Hold X.K b H' ((some v, r) :: L) → Q v H') → rr v1 v2 H Q
def IV (X : Cx) (b : Bs) (r1 r2 : Sl) (p : Sl → Prop) : Prop := ∃ rr : R2, IxR X rr ∧ ∀ v1 v2 H L Q, Hold X.K b H ((some v1, r1) :: (some v2, r2) :: L) →
  (∀ r v H', p r → Hold X.K b H' ((some v, r) :: L) → Q v H') → rr v1 v2 H Q
/-- an operation on one value -/
def UV (X : Cx) (b : Bs) (f : Value → Sem Value) (r1 : Sl) (p : Sl → Prop) : Prop := ∃ rr : V → Hp → VK → Prop, UnR X f rr ∧ ∀ v1 H L Q, Hold X.K b H ((some v1, r1) :: L) →
  (∀ r v H', p r → Hold X.K b H' ((some v, r) :: L) → Q v H') → rr v1 H Q
/-- a built-in's call -/
def CV (X : Cx) (b : Bs) (f : Value) (rs : List Sl) (p : Sl → Prop) : Prop := ∃ rr : List V → Hp → VK → Prop, CallR X f rr ∧ ∀ vs H L Q, vs.length = rs.length → Hold X.K b H ((vs.map some).zip rs ++ L) →
  (∀ r v H', p r → Hold X.K b H' ((some v, r) :: L) → Q v H') → rr vs H Q
section
variable {X : Cx} {b : Bs} {ρ : List Sl} {p : Sl → List Sl → Prop} {e e1 e2 : Expr}
theorem perm_in {A M : List Cl} {c : Cl} : (c :: (A ++ M)).Perm (A ++ c :: M) := List.perm_middle.symm
theorem EV.imp {p' : Sl → List Sl → Prop} (h : EV X b ρ e p) (k : ∀ r ρ', p r ρ' → p' r ρ') : EV X b ρ e p' := fun σ H L Q l hh q => h σ H L Q l hh fun r ρ' v H' z => q r ρ' v H' (k r ρ' z)
theorem ET.imp {p p' : Bool → List Sl → Prop} (h : ET X b ρ e p) (k : ∀ r ρ', p r ρ' → p' r ρ') : ET X b ρ e p' := fun σ H L Q l hh q => h σ H L Q l hh fun r ρ' H' z => q r ρ' H' (k r ρ' z)
theorem zip_mem {σ : L2.St} {ρ : List Sl} {i : Nat} {s : Sl} (l : σ.length = ρ.length) (h : ρ[i]? = some s) : ∃ x, σ[i]? = some x ∧ (x, s) ∈ σ.zip ρ := by
  have hi : i < ρ.length := (List.getElem?_eq_some_iff.mp h).1
  have hs : σ[i]? = some σ[i] := List.getElem?_eq_getElem (by omega)
  refine ⟨_, hs, List.mem_of_getElem? (i := i) ?_⟩
  rw [List.getElem?_zip_eq_some]
  exact ⟨hs, h⟩
theorem ev_int {i : Int} {j pos} (h : p (.d (.int i)) ρ) : EV X b ρ (.Constant (.int i) j pos) p := fun σ H L Q l hh q => ⟨_, pe_int, q _ _ _ H h l (hh.int i)⟩
theorem ev_bl {i : Bool} {j pos} (h : p (.d (.bool i)) ρ) : EV X b ρ (.Constant (.bool i) j pos) p := fun σ H L Q l hh q => ⟨_, pe_bl, q _ _ _ H h l (hh.bl i)⟩
theorem ev_str {i : Str} {j pos} (h : p (.d (.str i)) ρ) : EV X b ρ (.Constant (.str i) j pos) p := fun σ H L Q l hh q => ⟨_, pe_str, q _ _ _ H h l (hh.str i)⟩
theorem ev_non {j pos} (h : p (.d .none) ρ) : EV X b ρ (.Constant .none j pos) p := fun σ H L Q l hh q => ⟨_, pe_non, q _ _ _ H h l hh.non⟩
/-- a local name that holds data -/
theorem ev_var (i : Nat) {y : PyData} {x : Str} {pos : Pos} (hN : X.N[i]? = some x) (hv : Vis X.env.scope x) (hr : ρ[i]? = some (.d y)) (h : p (.d y) ρ) (hd : (x == ("__debug__" : Str)) = false := by decide) (hcd : (x == ("__classdict__" : Str)) = false := by decide) : EV X b ρ (.Name x pos) p := fun σ H L Q l hh q => by
  obtain ⟨x', hx, hm⟩ := zip_mem l hr
  obtain ⟨G, hg⟩ := hh
  obtain ⟨v, e, hv'⟩ := hg.ok _ (List.mem_append_left _ hm)
  subst e
  exact ⟨_, pe_var hN hv hd hcd, v, hx, q _ _ _ H h l ⟨G, hg.add hv'⟩⟩
/-- .. or something that stays -/
theorem ev_varF (i : Nat) {φ : V → Hp → Prop} {st} {x : Str} {pos : Pos} (hN : X.N[i]? = some x) (hv : Vis X.env.scope x) (hr : ρ[i]? = some (.fact φ st)) (h : p (.fact φ st) ρ) (hd : (x == ("__debug__" : Str)) = false := by decide) (hcd : (x == ("__classdict__" : Str)) = false := by decide) : EV X b ρ (.Name x pos) p := fun σ H L Q l hh q => by
  obtain ⟨x', hx, hm⟩ := zip_mem l hr
  obtain ⟨G, hg⟩ := hh
  obtain ⟨v, e, hv'⟩ := hg.ok _ (List.mem_append_left _ hm)
  subst e
  exact ⟨_, pe_var hN hv hd hcd, v, hx, q _ _ _ H h l ⟨G, hg.addF hv'⟩⟩
theorem set_perm {σ : L2.St} : ∀ {ρ : List Sl} {i : Nat} {s s' : Sl} {x : Option V}, ρ[i]? = some s → σ[i]? = some x → ∃ M, (σ.zip ρ).Perm ((x, s) :: M) ∧ (σ.zip (ρ.set i s')).Perm ((x, s') :: M) := by
  intro ρ
  induction ρ generalizing σ with
  | nil => intro i s s' x h; simp at h
  | cons r ρ ih =>
    intro i s s' x h hx
    cases σ with
    | nil => simp at hx
    | cons y σ =>
      cases i with
      | zero =>
        simp at h hx
        subst h hx
        exact ⟨σ.zip ρ, .refl _, .refl _⟩
      | succ i =>
        simp at h hx
        obtain ⟨M, h1, h2⟩ := ih (s' := s') h hx
        refine ⟨(y, r) :: M, ?_, ?_⟩
        · exact (h1.cons _).trans (.swap ..)
        · exact (h2.cons _).trans (.swap ..)
/-- a list held alone is read for good: the name keeps it -/
theorem ev_frz (i : Nat) {ys : List PyData} (hr : ρ[i]? = some (.own ys)) (h : EV X b (ρ.set i (.d (.list ys))) e p) : EV X b ρ e p := fun σ H L Q l hh q => by
  obtain ⟨x, hx, _⟩ := zip_mem l hr
  obtain ⟨M, p1, p2⟩ := set_perm (s' := .d (.list ys)) hr hx
  exact h σ H L Q (by rw [List.length_set]; exact l) (((hh.perm ((p1.append_right L).symm)).freeze).perm (p2.append_right L)) q
/-- any rule for an operation -/
def sOp (X : Cx) (f : Value → Value → Sem Value) : R2 := fun x y H Q => ∃ rr : R2, OpR X f rr ∧ rr x y H Q
theorem sop_ok (f : Value → Value → Sem Value) : OpR X f (sOp X f) := fun pins s σ H x y v u Q I rx ry ⟨_, h, q⟩ => h pins s σ H x y v u Q I rx ry q
def sIx (X : Cx) : R2 := fun x y H Q => ∃ rr : R2, IxR X rr ∧ rr x y H Q
theorem six_ok : IxR X (sIx X) := fun a b pins s σ H x y v u Q I rx ry ⟨_, h, q⟩ hs => h a b pins s σ H x y v u Q I rx ry q hs
def sUn (X : Cx) (f : Value → Sem Value) : V → Hp → VK → Prop := fun x H Q => ∃ rr : V → Hp → VK → Prop, UnR X f rr ∧ rr x H Q
theorem sun_ok (f : Value → Sem Value) : UnR X f (sUn X f) := fun pins s σ H x v Q I rx ⟨_, h, q⟩ => h pins s σ H x v Q I rx q
def sCl (X : Cx) (f : Value) : List V → Hp → VK → Prop := fun x H Q => ∃ rr : List V → Hp → VK → Prop, CallR X f rr ∧ rr x H Q
theorem scl_ok (f : Value) : CallR X f (sCl X f) := fun pins s σ H x v Q I rx ⟨_, h, q⟩ => h pins s σ H x v Q I rx q
theorem OV.go {f : Value → Value → Sem Value} {σ : L2.St} {ρ2 : List Sl} {L : List Cl} {r1 r2 : Sl} {v1 v2 : V} {H2 : Hp} {Q : VK} {p : Sl → Prop} (h2 : OV X b f r1 r2 p) (hh2 : Hold X.K b H2 ((some v2, r2) :: (σ.zip ρ2 ++ (some v1, r1) :: L))) (k : ∀ r v H', p r → Hold X.K b H' ((some v, r) :: (σ.zip ρ2 ++ L)) → Q v H') : sOp X f v1 v2 H2 Q := by
  obtain ⟨rr, ho, hk⟩ := h2
  exact ⟨rr, ho, hk v1 v2 H2 (σ.zip ρ2 ++ L) Q (hh2.perm ((List.Perm.swap ..).trans (perm_in.cons _))) fun r v H' hp hh' => k r v H' hp hh'⟩
theorem IV.go {σ : L2.St} {ρ2 : List Sl} {L : List Cl} {r1 r2 : Sl} {v1 v2 : V} {H2 : Hp} {Q : VK} {p : Sl → Prop} (h2 : IV X b r1 r2 p) (hh2 : Hold X.K b H2 ((some v2, r2) :: (σ.zip ρ2 ++ (some v1, r1) :: L))) (k : ∀ r v H', p r → Hold X.K b H' ((some v, r) :: (σ.zip ρ2 ++ L)) → Q v H') : sIx X v1 v2 H2 Q := by
  obtain ⟨rr, ho, hk⟩ := h2
  exact ⟨rr, ho, hk v1 v2 H2 (σ.zip ρ2 ++ L) Q (hh2.perm ((List.Perm.swap ..).trans (perm_in.cons _))) fun r v H' hp hh' => k r v H' hp hh'⟩
theorem ev_bin {op : Operator} {pos} (h : EV X b ρ e1 fun r1 ρ1 => EV X b ρ1 e2 fun r2 ρ2 => OV X b (binaryOp op) r1 r2 fun r => p r ρ2) : EV X b ρ (.BinOp e1 op e2 pos) p := fun σ H L Q l hh q =>
  ⟨_, pe_op (sop_ok _) (we_pe e1) (we_pe e2), h σ H L _ l hh fun r1 ρ1 v1 H1 h1 l1 hh1 => h1 σ H1 ((some v1, r1) :: L) _ l1 (hh1.perm perm_in.symm) fun r2 ρ2 v2 H2 h2 l2 hh2 => h2.go hh2 fun r v H' hp hh' => q r ρ2 v H' hp l2 hh'⟩
theorem ev_cmp {op : CmpOp} {pos} (hm : behindInMarks op e2 = false) (h : EV X b ρ e1 fun r1 ρ1 => EV X b ρ1 e2 fun r2 ρ2 => OV X b (compareOp op) r1 r2 fun r => p r ρ2) : EV X b ρ (.Compare e1 [op] [e2] pos) p := fun σ H L Q l hh q =>
  ⟨_, pe_cmpR (sop_ok _) (we_pe e1) (we_pe e2) hm, h σ H L _ l hh fun r1 ρ1 v1 H1 h1 l1 hh1 => h1 σ H1 ((some v1, r1) :: L) _ l1 (hh1.perm perm_in.symm) fun r2 ρ2 v2 H2 h2 l2 hh2 => h2.go hh2 fun r v H' hp hh' => q r ρ2 v H' hp l2 hh'⟩
theorem Hold.isB {K : PySem.W.Frag} {H : Hp} {v : V} {c : Bool} {L : List Cl} (h : Hold K b H ((some v, .d (.bool c)) :: L)) : v = .bl c := by
  obtain ⟨G, h⟩ := h
  obtain ⟨v', e, hd⟩ := h.data
  cases e
  cases hd
  rfl
theorem Hold.isI {K : PySem.W.Frag} {H : Hp} {v : V} {c : Int} {L : List Cl} (h : Hold K b H ((some v, .d (.int c)) :: L)) : v = .int c := by
  obtain ⟨G, h⟩ := h
  obtain ⟨v', e, hd⟩ := h.data
  cases e
  cases hd
  rfl
theorem Hold.isS {K : PySem.W.Frag} {H : Hp} {v : V} {c : Str} {L : List Cl} (h : Hold K b H ((some v, .d (.str c)) :: L)) : v = .str c := by
  obtain ⟨G, h⟩ := h
  obtain ⟨v', e, hd⟩ := h.data
  cases e
  cases hd
  rfl
theorem Hold.isN {K : PySem.W.Frag} {H : Hp} {v : V} {L : List Cl} (h : Hold K b H ((some v, .d .none) :: L)) : v = .non := by
  obtain ⟨G, h⟩ := h
  obtain ⟨v', e, hd⟩ := h.data
  cases e
  cases hd
  rfl
/-- the head's datum, in the heap -/
theorem Hold.dp {K : PySem.W.Frag} {H : Hp} {v : V} {y : PyData} {L : List Cl} (h : Hold K b H ((some v, .d y) :: L)) : Dp K H v y := by
  obtain ⟨G, h⟩ := h
  obtain ⟨v', e, hd⟩ := h.data
  cases e
  exact h.inH hd
theorem Hold.dp2 {K : PySem.W.Frag} {H : Hp} {v : V} {y : PyData} {c : Cl} {L : List Cl} (h : Hold K b H (c :: (some v, .d y) :: L)) : Dp K H v y := h.drop.dp
/-- two expressions in a row, whatever joins them -/
theorem ev_chain {o1 o2 : CmpOp} {e3 : Expr} {pos} (hm : lastMarks [o1, o2] [e2, e3] = false) (h : EV X b ρ e1 fun r1 ρ1 => EV X b ρ1 e2 fun r2 ρ2 => ∃ y2, r2 = .d y2 ∧ OV X b (compareOp o1) r1 r2 fun r => ∃ c, r = .d (.bool c) ∧ (c = false → p (.d (.bool false)) ρ2) ∧ (c = true → EV X b ρ2 e3 fun r3 ρ3 => OV X b (compareOp o2) r2 r3 fun r => p r ρ3)) :
    EV X b ρ (.Compare e1 [o1, o2] [e2, e3] pos) p := fun σ H L Q l hh q =>
  ⟨_, pe_chain (sop_ok _) (sop_ok _) (we_pe e1) (we_pe e2) (we_pe e3) hm, h σ H L _ l hh fun r1 ρ1 v1 H1 h1 l1 hh1 => h1 σ H1 ((some v1, r1) :: L) _ l1 (hh1.perm perm_in.symm) fun r2 ρ2 v2 H2 ⟨y2, e2, h2⟩ l2 hh2 => by
    subst e2
    have hh3 : Hold X.K b H2 ((some v2, .d y2) :: (σ.zip ρ2 ++ (some v1, r1) :: (some v2, .d y2) :: L)) := by
      obtain ⟨G, hg⟩ := hh2
      obtain ⟨v', ev, hd⟩ := hg.data
      cases ev
      exact ⟨G, (hg.add hd).perm (List.Perm.cons _ (perm_in.trans (List.Perm.append_left _ (List.Perm.swap ..))).symm)⟩
    refine h2.go (L := (some v2, .d y2) :: L) hh3 fun r v H' ⟨c, er, c0, c1⟩ hh' => ?_
    subst er
    have hv := hh'.isB
    subst hv
    refine ⟨c, rfl, ?_⟩
    cases c with
    | false => exact q _ ρ2 _ H' (c0 rfl) l2 ((hh'.drop.perm perm_in.symm.symm).drop.bl false)
    | true =>
      refine c1 rfl σ H' ((some v2, .d y2) :: L) _ l2 hh'.drop fun r3 ρ3 v3 H3 h3 l3 hh4 => h3.go hh4 fun r v H' hp hh' => q r ρ3 v H' hp l3 hh'⟩
end

end DE

namespace DE
open PySem PySem.Spec PyProof.Rows L2 SZ VR VX StX RT
section
variable {X : Cx} {b : Bs} {ρ : List Sl} {p : Sl → List Sl → Prop} {q : Bool → List Sl → Prop} {e e1 e2 : Expr} {es rest : List Expr} {pos : Pos}
/-! ### truth -/
theorem et_val (he : ∀ whole, isTrue e X.env whole = (do let v ← whole; standAt e.pos; holding [v] (truthy v)) := by intro _; rfl) (h : EV X b ρ e fun r ρ' => ∃ c, r = .d (.bool c) ∧ q c ρ') : ET X b ρ e q := fun σ H L Q l hh k =>
  ⟨_, pt_val (we_pe e) he, h σ H L _ l hh fun r ρ' v H' ⟨c, er, hq⟩ l' hh' => by
    subst er
    have := hh'.isB
    subst this
    exact ⟨c, rfl, k c ρ' H' hq l' hh'.drop⟩⟩
theorem et_cmp {op : CmpOp} (hm : behindInMarks op e2 = false) (h : EV X b ρ e1 fun r1 ρ1 => EV X b ρ1 e2 fun r2 ρ2 => OV X b (compareOp op) r1 r2 fun r => ∃ c, r = .d (.bool c) ∧ q c ρ2) : ET X b ρ (.Compare e1 [op] [e2] pos) q := fun σ H L Q l hh k =>
  ⟨_, pt_cmpR (sop_ok _) (we_pe e1) (we_pe e2) hm, h σ H L _ l hh fun r1 ρ1 v1 H1 h1 l1 hh1 => h1 σ H1 ((some v1, r1) :: L) _ l1 (hh1.perm perm_in.symm) fun r2 ρ2 v2 H2 h2 l2 hh2 => h2.go hh2 fun r v H' ⟨c, er, hq⟩ hh' => by
    subst er
    have := hh'.isB
    subst this
    exact ⟨c, rfl, k c ρ2 H' hq l2 hh'.drop⟩⟩
theorem et_chain {o1 o2 : CmpOp} {e3 : Expr} (hm : lastMarks [o1, o2] [e2, e3] = false) (h : EV X b ρ e1 fun r1 ρ1 => EV X b ρ1 e2 fun r2 ρ2 => ∃ y2, r2 = .d y2 ∧ OV X b (compareOp o1) r1 r2 fun r => ∃ c, r = .d (.bool c) ∧ (c = false → q false ρ2) ∧ (c = true → EV X b ρ2 e3 fun r3 ρ3 => OV X b (compareOp o2) r2 r3 fun r => ∃ c', r = .d (.bool c') ∧ q c' ρ3)) :
    ET X b ρ (.Compare e1 [o1, o2] [e2, e3] pos) q := fun σ H L Q l hh k =>
  ⟨_, pt_chain (sop_ok _) (sop_ok _) (we_pe e1) (we_pe e2) (we_pe e3) hm, h σ H L _ l hh fun r1 ρ1 v1 H1 h1 l1 hh1 => h1 σ H1 ((some v1, r1) :: L) _ l1 (hh1.perm perm_in.symm) fun r2 ρ2 v2 H2 ⟨y2, e2, h2⟩ l2 hh2 => by
    subst e2
    have hh3 : Hold X.K b H2 ((some v2, .d y2) :: (σ.zip ρ2 ++ (some v1, r1) :: (some v2, .d y2) :: L)) := by
      obtain ⟨G, hg⟩ := hh2
      obtain ⟨v', ev, hd⟩ := hg.data
      cases ev
      exact ⟨G, (hg.add hd).perm (List.Perm.cons _ (perm_in.trans (List.Perm.append_left _ (List.Perm.swap ..))).symm)⟩
    refine h2.go (L := (some v2, .d y2) :: L) hh3 fun r v H' ⟨c, er, c0, c1⟩ hh' => ?_
    subst er
    have hv := hh'.isB
    subst hv
    refine ⟨c, rfl, ?_⟩
    cases c with
    | false => exact ⟨false, rfl, k _ ρ2 H' (c0 rfl) l2 (hh'.drop.perm perm_in.symm.symm).drop⟩
    | true =>
      refine c1 rfl σ H' ((some v2, .d y2) :: L) _ l2 hh'.drop fun r3 ρ3 v3 H3 h3 l3 hh4 => h3.go hh4 fun r v H' ⟨c', er, hq⟩ hh' => ?_
      subst er
      have := hh'.isB
      subst this
      exact ⟨c', rfl, k c' ρ3 H' hq l3 hh'.drop⟩⟩
theorem et_not (h : ET X b ρ e fun c ρ' => q (!c) ρ') : ET X b ρ (.UnaryOp .Not e pos) q := fun σ H L Q l hh k => ⟨_, pt_not (wt_pt e), h σ H L _ l hh fun c ρ' H' hq l' hh' => k _ ρ' H' hq l' hh'⟩
theorem et_w (h : EW X b ρ e q) : ET X b ρ e q := fun σ H L Q l hh k => by
  obtain ⟨t, ht, hq⟩ := h σ H L Q l hh k
  exact ⟨t, ht.pt, hq⟩
theorem ew_and1 (h : ET X b ρ e q) : EW X b ρ (.BoolOp .And [e] pos) q := fun σ H L Q l hh k => ⟨_, pw_and1 (wt_pt e), h σ H L _ l hh k⟩
theorem ew_or1 (h : ET X b ρ e q) : EW X b ρ (.BoolOp .Or [e] pos) q := fun σ H L Q l hh k => ⟨_, pw_or1 (wt_pt e), h σ H L _ l hh k⟩
theorem ew_and (h : ET X b ρ e1 fun c ρ' => (c = false → q false ρ') ∧ (c = true → EW X b ρ' (.BoolOp .And (e2 :: rest) pos) q)) : EW X b ρ (.BoolOp .And (e1 :: e2 :: rest) pos) q := fun σ H L Q l hh k =>
  ⟨_, pw_and (wt_pt e1) (ww_pw _), h σ H L _ l hh fun c ρ' H' ⟨h0, h1⟩ l' hh' => by
    cases c with
    | false => exact k _ ρ' H' (h0 rfl) l' hh'
    | true => exact h1 rfl σ H' L _ l' hh' k⟩
theorem ew_or (h : ET X b ρ e1 fun c ρ' => (c = true → q true ρ') ∧ (c = false → EW X b ρ' (.BoolOp .Or (e2 :: rest) pos) q)) : EW X b ρ (.BoolOp .Or (e1 :: e2 :: rest) pos) q := fun σ H L Q l hh k =>
  ⟨_, pw_or (wt_pt e1) (ww_pw _), h σ H L _ l hh fun c ρ' H' ⟨h0, h1⟩ l' hh' => by
    cases c with
    | true => exact k _ ρ' H' (h0 rfl) l' hh'
    | false => exact h1 rfl σ H' L _ l' hh' k⟩
theorem ev_one {op : BoolOp} (h : EV X b ρ e p) : EV X b ρ (.BoolOp op [e] pos) p := fun σ H L Q l hh k => ⟨_, pe_one (we_pe e), h σ H L _ l hh k⟩
theorem ev_and (h : EV X b ρ e1 fun r ρ' => ∃ c, r = .d (.bool c) ∧ (c = false → p (.d (.bool false)) ρ') ∧ (c = true → EV X b ρ' (.BoolOp .And (e2 :: rest) pos) p)) : EV X b ρ (.BoolOp .And (e1 :: e2 :: rest) pos) p := fun σ H L Q l hh k =>
  ⟨_, pe_and (we_pe e1) (we_pe _), h σ H L _ l hh fun r ρ' v H' ⟨c, er, h0, h1⟩ l' hh' => by
    subst er
    have := hh'.isB
    subst this
    refine ⟨c, rfl, ?_⟩
    cases c with
    | false => exact k _ ρ' _ H' (h0 rfl) l' hh'
    | true => exact h1 rfl σ H' L _ l' hh'.drop k⟩
theorem ev_or (h : EV X b ρ e1 fun r ρ' => ∃ c, r = .d (.bool c) ∧ (c = true → p (.d (.bool true)) ρ') ∧ (c = false → EV X b ρ' (.BoolOp .Or (e2 :: rest) pos) p)) : EV X b ρ (.BoolOp .Or (e1 :: e2 :: rest) pos) p := fun σ H L Q l hh k =>
  ⟨_, pe_or (we_pe e1) (we_pe _), h σ H L _ l hh fun r ρ' v H' ⟨c, er, h0, h1⟩ l' hh' => by
    subst er
    have := hh'.isB
    subst this
    refine ⟨c, rfl, ?_⟩
    cases c with
    | true => exact k _ ρ' _ H' (h0 rfl) l' hh'
    | false => exact h1 rfl σ H' L _ l' hh'.drop k⟩
theorem ev_not (h : EV X b ρ e fun r ρ' => ∃ c, r = .d (.bool c) ∧ p (.d (.bool (!c))) ρ') : EV X b ρ (.UnaryOp .Not e pos) p := fun σ H L Q l hh k =>
  ⟨_, pe_not (we_pe e), h σ H L _ l hh fun r ρ' v H' ⟨c, er, h0⟩ l' hh' => by
    subst er
    have := hh'.isB
    subst this
    exact ⟨c, rfl, k _ ρ' _ H' h0 l' (hh'.drop.bl _)⟩⟩
theorem ev_if {c : Expr} (h : ET X b ρ c fun t ρ' => (t = true → EV X b ρ' e1 p) ∧ (t = false → EV X b ρ' e2 p)) : EV X b ρ (.IfExp c e1 e2 pos) p := fun σ H L Q l hh k =>
  ⟨_, pe_ifExp (wt_pt c) (we_pe e1) (we_pe e2), h σ H L _ l hh fun t ρ' H' ⟨h1, h2⟩ l' hh' => by
    cases t with
    | true => exact h1 rfl σ H' L _ l' hh' k
    | false => exact h2 rfl σ H' L _ l' hh' k⟩
theorem ev_un {op : UnaryOp} (h : EV X b ρ e fun r ρ' => UV X b (unaryOp op) r fun r' => p r' ρ') : EV X b ρ (.UnaryOp op e pos) p := fun σ H L Q l hh k =>
  ⟨_, pe_un (sun_ok _) (we_pe e), h σ H L _ l hh fun r ρ' v H' ⟨rr, ho, hk⟩ l' hh' => ⟨rr, ho, hk v H' _ _ hh' fun r' v' H2 hp hh2 => k r' ρ' v' H2 hp l' hh2⟩⟩
/-! ### displays, calls -/
theorem ea_nil {p : List Sl → List Sl → Prop} (h : p [] ρ) : EA X b ρ [] p := fun σ H L Q l hh k => ⟨_, pa_nil, k [] ρ [] H h l rfl hh⟩
theorem ea_cons {p : List Sl → List Sl → Prop} (hs : starEach (e :: es) X.env = (false, eval e X.env) :: starEach es X.env := by rfl) (h : EV X b ρ e fun r ρ' => EA X b ρ' es fun rs ρ2 => p (r :: rs) ρ2) : EA X b ρ (e :: es) p := fun σ H L Q l hh k =>
  ⟨_, pa_cons (we_pe e) (wa_pa es) hs, h σ H L _ l hh fun r ρ' v H' h2 l' hh' => h2 σ H' ((some v, r) :: L) _ l' (hh'.perm perm_in.symm) fun rs ρ2 vs H2 hp l2 lv hh2 =>
    k (r :: rs) ρ2 (v :: vs) H2 hp l2 (by simp [lv]) (by
      rw [List.map_cons, List.zip_cons_cons, List.cons_append]
      refine hh2.perm ?_
      rw [← List.append_assoc, ← List.append_assoc]
      exact perm_in)⟩
/-- cells of data are data of the frozen part -/
theorem HoldG.all {K : PySem.W.Frag} {G H : Hp} {L : List Cl} : ∀ {vs : List V} {ys : List PyData}, vs.length = ys.length → HoldG K b G H ((vs.map some).zip (ys.map .d) ++ L) → DpAll K G vs ys
  | [], [], _, _ => .nil
  | v :: vs, y :: ys, l, h => by
    obtain ⟨v', e, hd⟩ := HoldG.data (show HoldG K b G H ((some v, .d y) :: ((vs.map some).zip (ys.map .d) ++ L)) from h)
    cases e
    exact .cons hd (HoldG.all (by simpa using l) (HoldG.drop (show HoldG K b G H ((some v, .d y) :: ((vs.map some).zip (ys.map .d) ++ L)) from h)))
theorem HoldG.dropM {K : PySem.W.Frag} {G H : Hp} {L : List Cl} : ∀ {M : List Cl}, HoldG K b G H (M ++ L) → HoldG K b G H L
  | [], h => h
  | _ :: _, h => HoldG.dropM (HoldG.drop h)
theorem ev_tup {k : Nat} (h : EA X b ρ es fun rs ρ' => ∃ ys : List PyData, rs = ys.map .d ∧ ys.length ≤ sizeLine ∧ p (.d (.tuple ys)) ρ') : EV X b ρ (.Tuple es k pos) p := fun σ H L Q l hh k =>
  ⟨_, pe_tup (wa_pa es), h σ H L _ l hh fun rs ρ' vs H' ⟨ys, e, n, hp⟩ l' lv hh' => by
    subst e
    rw [List.length_map] at lv
    refine ⟨by rw [lv]; exact n, fun a ha => ?_⟩
    obtain ⟨G, hg⟩ := hh'
    exact k _ ρ' _ _ hp l' ⟨_, hg.dropM.newT ha (HoldG.all lv hg)⟩⟩
theorem ev_lst (h : EA X b ρ es fun rs ρ' => ∃ ys : List PyData, rs = ys.map .d ∧ ys.length ≤ sizeLine ∧ p (.own ys) ρ') : EV X b ρ (.List es pos) p := fun σ H L Q l hh k =>
  ⟨_, pe_lst (wa_pa es), h σ H L _ l hh fun rs ρ' vs H' ⟨ys, e, n, hp⟩ l' lv hh' => by
    subst e
    rw [List.length_map] at lv
    refine ⟨by rw [lv]; exact n, fun a ha => ?_⟩
    obtain ⟨G, hg⟩ := hh'
    exact k _ ρ' _ _ hp l' ⟨_, hg.dropM.newL ha (HoldG.all lv hg)⟩⟩
theorem ev_callB {id : String} {x : Str} {ps cp : Pos} (hg : Gl X x) (hm : X.mg x = none) (hv : bootBuiltins x = some (.builtin id)) (h : EA X b ρ (e :: es) fun rs ρ' => CV X b (.builtin id) rs fun r => p r ρ') (hn : x ≠ "__name__" := by decide) (hdb : (x == ("__debug__" : Str)) = false := by decide)
    (he : starEach (e :: es) X.env = (false, eval e X.env) :: starEach es X.env := by rfl) (hpl : (backTo cp (starEach es X.env)).any (·.1) = false := by rfl) : EV X b ρ (.Call (.Name x ps) (e :: es) [] cp) p := fun σ H L Q l hh k =>
  ⟨_, pe_callB (scl_ok _) hg hm hv (wa_pa _) hn hdb he hpl, h σ H L _ l hh fun rs ρ' vs H' ⟨rr, ho, hk⟩ l' lv hh' => ⟨rr, ho, hk vs H' _ _ lv hh' fun r v H2 hp hh2 => k r ρ' v H2 hp l' hh2⟩⟩
theorem ev_callTy {T : String} {x : Str} {ps cp : Pos} (hg : Gl X x) (hm : X.mg x = none) (hv : bootBuiltins x = some (.type T)) (h : EA X b ρ (e :: es) fun rs ρ' => CV X b (.type T) rs fun r => p r ρ') (hn : x ≠ "__name__" := by decide) (hdb : (x == ("__debug__" : Str)) = false := by decide)
    (he : starEach (e :: es) X.env = (false, eval e X.env) :: starEach es X.env := by rfl) (hpl : (backTo cp (starEach es X.env)).any (·.1) = false := by rfl) : EV X b ρ (.Call (.Name x ps) (e :: es) [] cp) p := fun σ H L Q l hh k =>
  ⟨_, pe_callTy (scl_ok _) hg hm hv (wa_pa _) hn hdb he hpl, h σ H L _ l hh fun rs ρ' vs H' ⟨rr, ho, hk⟩ l' lv hh' => ⟨rr, ho, hk vs H' _ _ lv hh' fun r v H2 hp hh2 => k r ρ' v H2 hp l' hh2⟩⟩
theorem ev_ix (hs : PlainIx e2) (h : EV X b ρ e1 fun r1 ρ1 => EV X b ρ1 e2 fun r2 ρ2 => IV X b r1 r2 fun r => p r ρ2) : EV X b ρ (.Subscript e1 e2 pos) p := fun σ H L Q l hh q =>
  ⟨_, pe_ix six_ok (we_pe e1) (we_pe e2) hs, h σ H L _ l hh fun r1 ρ1 v1 H1 h1 l1 hh1 => h1 σ H1 ((some v1, r1) :: L) _ l1 (hh1.perm perm_in.symm) fun r2 ρ2 v2 H2 h2 l2 hh2 => h2.go hh2 fun r v H' hp hh' => q r ρ2 v H' hp l2 hh'⟩
end

end DE

namespace DE
open PySem PySem.Spec PyProof.Rows L2 SZ VR VX StX RT
section
variable {X : Cx} {b : Bs} {ρ : List Sl} {p : Sl → Prop}
/-! ### operations on data -/
theorem ov_int {f : Value → Value → Sem Value} {g : Int → Int → Int} {i j : Int} (ho : OpR X f (rI0 fun i j => .int (g i j))) (h : p (.d (.int (g i j)))) : OV X b f (.d (.int i)) (.d (.int j)) p := ⟨_, ho, fun v1 v2 H L Q hh k => by
  have e1 := hh.isI
  have e2 := hh.drop.isI
  subst e1 e2
  exact ⟨i, j, rfl, rfl, k _ _ H h (hh.drop.drop.int _)⟩⟩
theorem ov_intC {f : Value → Value → Sem Value} {C : Int → Int → Prop} {g : Int → Int → Int} {i j : Int} (ho : OpR X f (rI C fun i j => .int (g i j))) (hc : C i j) (h : p (.d (.int (g i j)))) : OV X b f (.d (.int i)) (.d (.int j)) p := ⟨_, ho, fun v1 v2 H L Q hh k => by
  have e1 := hh.isI
  have e2 := hh.drop.isI
  subst e1 e2
  exact ⟨i, j, rfl, rfl, hc, k _ _ H h (hh.drop.drop.int _)⟩⟩
theorem ov_intB {f : Value → Value → Sem Value} {g : Int → Int → Bool} {i j : Int} (ho : OpR X f (rI0 fun i j => .bl (g i j))) (h : p (.d (.bool (g i j)))) : OV X b f (.d (.int i)) (.d (.int j)) p := ⟨_, ho, fun v1 v2 H L Q hh k => by
  have e1 := hh.isI
  have e2 := hh.drop.isI
  subst e1 e2
  exact ⟨i, j, rfl, rfl, k _ _ H h (hh.drop.drop.bl _)⟩⟩
theorem ov_add {i j : Int} (h : p (.d (.int (i + j)))) : OV X b (binaryOp .Add) (.d (.int i)) (.d (.int j)) p := ov_int (g := fun i j => i + j) op_add h
theorem ov_sub {i j : Int} (h : p (.d (.int (i - j)))) : OV X b (binaryOp .Sub) (.d (.int i)) (.d (.int j)) p := ov_int (g := fun i j => i - j) op_sub h
theorem ov_mul {i j : Int} (hc : CMul i j) (h : p (.d (.int (i * j)))) : OV X b (binaryOp .Mult) (.d (.int i)) (.d (.int j)) p := ov_intC (g := fun i j => i * j) op_mul hc h
theorem ov_mod {i j : Int} (hc : 0 < j) (h : p (.d (.int (i % j)))) : OV X b (binaryOp .Mod) (.d (.int i)) (.d (.int j)) p := ov_intC (g := fun i j => i % j) op_mod hc h
theorem ov_fdiv {i j : Int} (hc : CDiv i j) (h : p (.d (.int (i / j)))) : OV X b (binaryOp .FloorDiv) (.d (.int i)) (.d (.int j)) p := ov_intC (g := fun i j => i / j) op_fdiv hc h
theorem ov_lt {i j : Int} (h : p (.d (.bool (decide (i < j))))) : OV X b (compareOp .Lt) (.d (.int i)) (.d (.int j)) p := ov_intB (g := fun i j => decide (i < j)) op_lt h
theorem ov_le {i j : Int} (h : p (.d (.bool (decide (i ≤ j))))) : OV X b (compareOp .LtE) (.d (.int i)) (.d (.int j)) p := ov_intB (g := fun i j => decide (i ≤ j)) op_le h
theorem ov_gt {i j : Int} (h : p (.d (.bool (decide (j < i))))) : OV X b (compareOp .Gt) (.d (.int i)) (.d (.int j)) p := ov_intB (g := fun i j => decide (j < i)) op_gt h
theorem ov_ge {i j : Int} (h : p (.d (.bool (decide (j ≤ i))))) : OV X b (compareOp .GtE) (.d (.int i)) (.d (.int j)) p := ov_intB (g := fun i j => decide (j ≤ i)) op_ge h
def sdat : PyData → Option V
  | .none => some .non
  | .bool c => some (.bl c)
  | .int i => some (.int i)
  | .str x => some (.str x)
  | _ => none
theorem dp_sdat {K : PySem.W.Frag} {H : Hp} {v u : V} {y : PyData} (h : Dp K H v y) (e : sdat y = some u) : v = u := by
  cases h <;> simp [sdat] at e <;> exact e
theorem ov_eqS {y z : PyData} {u w : V} (hy : sdat y = some u) (hz : sdat z = some w) (hs : scal u w = true) (h : p (.d (.bool (decide (u = w))))) : OV X b (compareOp .Eq) (.d y) (.d z) p := ⟨_, op_eq, fun v1 v2 H L Q hh k => by
  have e1 := dp_sdat hh.dp hy
  have e2 := dp_sdat hh.drop.dp hz
  subst e1 e2
  exact ⟨hs, k _ _ H h (hh.drop.drop.bl _)⟩⟩
theorem ov_neS {y z : PyData} {u w : V} (hy : sdat y = some u) (hz : sdat z = some w) (hs : scal u w = true) (h : p (.d (.bool (!decide (u = w))))) : OV X b (compareOp .NotEq) (.d y) (.d z) p := ⟨_, op_ne, fun v1 v2 H L Q hh k => by
  have e1 := dp_sdat hh.dp hy
  have e2 := dp_sdat hh.drop.dp hz
  subst e1 e2
  exact ⟨hs, k _ _ H h (hh.drop.drop.bl _)⟩⟩
theorem dec_vstr {x y : Str} : decide (V.str x = V.str y) = decide (x = y) := by
  by_cases h : x = y
  · subst h; simp
  · rw [decide_eq_false h]; exact decide_eq_false fun e => h (V.str.inj e)
theorem dec_vint {x y : Int} : decide (V.int x = V.int y) = decide (x = y) := by
  by_cases h : x = y
  · subst h; simp
  · rw [decide_eq_false h]; exact decide_eq_false fun e => h (V.int.inj e)
theorem ov_eqStr {x y : Str} (h : p (.d (.bool (decide (x = y))))) : OV X b (compareOp .Eq) (.d (.str x)) (.d (.str y)) p := ov_eqS rfl rfl rfl (by rw [dec_vstr]; exact h)
theorem ov_neStr {x y : Str} (h : p (.d (.bool (!decide (x = y))))) : OV X b (compareOp .NotEq) (.d (.str x)) (.d (.str y)) p := ov_neS rfl rfl rfl (by rw [dec_vstr]; exact h)
theorem ov_eqInt {x y : Int} (h : p (.d (.bool (decide (x = y))))) : OV X b (compareOp .Eq) (.d (.int x)) (.d (.int y)) p := ov_eqS rfl rfl rfl (by rw [dec_vint]; exact h)
theorem ov_neInt {x y : Int} (h : p (.d (.bool (!decide (x = y))))) : OV X b (compareOp .NotEq) (.d (.int x)) (.d (.int y)) p := ov_neS rfl rfl rfl (by rw [dec_vint]; exact h)
/-- == of data at any depth -/
theorem ov_eqD {y z : PyData} (hu : X.A.units + 64 < cLine) (hy : SeqAt.shaped y = true) (hz : SeqAt.shaped z = true) (h : p (.d (.bool (PyData.eqv y z)))) : OV X b (compareOp .Eq) (.d y) (.d z) p := ⟨_, op_eqD hu, fun v1 v2 H L Q hh k => ⟨y, z, hh.dp, hh.drop.dp, hy, hz, k _ _ H h (hh.drop.drop.bl _)⟩⟩
theorem ov_neD {y z : PyData} (hu : X.A.units + 64 < cLine) (hy : SeqAt.shaped y = true) (hz : SeqAt.shaped z = true) (h : p (.d (.bool (!PyData.eqv y z)))) : OV X b (compareOp .NotEq) (.d y) (.d z) p := ⟨_, op_neD hu, fun v1 v2 H L Q hh k => ⟨y, z, hh.dp, hh.drop.dp, hy, hz, k _ _ H h (hh.drop.drop.bl _)⟩⟩
def isNon : PyData → Bool
  | .none => true
  | _ => false
theorem dp_non {K : PySem.W.Frag} {H : Hp} {v : V} {y : PyData} (h : Dp K H v y) : decide (v = .non) = isNon y := by
  cases h <;> simp [isNon]
theorem ov_isN {y : PyData} (h : p (.d (.bool (isNon y)))) : OV X b (compareOp .Is) (.d y) (.d .none) p := ⟨_, op_isN, fun v1 v2 H L Q hh k => by
  refine ⟨hh.drop.isN, ?_⟩
  rw [dp_non hh.dp]
  exact k _ _ H h (hh.drop.drop.bl _)⟩
theorem ov_notN {y : PyData} (h : p (.d (.bool (!isNon y)))) : OV X b (compareOp .IsNot) (.d y) (.d .none) p := ⟨_, op_notN, fun v1 v2 H L Q hh k => by
  refine ⟨hh.drop.isN, ?_⟩
  rw [dp_non hh.dp]
  exact k _ _ H h (hh.drop.drop.bl _)⟩
theorem ov_addS {x y : Str} (hz : x.length + y.length ≤ sizeLine) (h : p (.d (.str (x ++ y)))) : OV X b (binaryOp .Add) (.d (.str x)) (.d (.str y)) p := ⟨_, op_add_str, fun v1 v2 H L Q hh k => by
  have e1 := hh.isS
  have e2 := hh.drop.isS
  subst e1 e2
  exact ⟨x, y, rfl, rfl, hz, k _ _ H h (hh.drop.drop.str _)⟩⟩
/-- texts among texts -/
theorem dp_strs {K : PySem.W.Frag} {G : Hp} : ∀ {xs : List V} {ys : List Str}, DpAll K G xs (ys.map .str) → xs = ys.map .str
  | [], [], _ => rfl
  | [], _ :: _, h => by cases h
  | _ :: _, [], h => by cases h
  | x :: xs, y :: ys, h => by
    cases h with
    | cons h1 h2 =>
      cases h1
      rw [dp_strs h2, List.map_cons]
theorem HoldG.seq {K : PySem.W.Frag} {G H : Hp} {v : V} {y : PyData} {L : List Cl} (h : HoldG K b G H ((some v, .d y) :: L)) : Dp K G v y := by
  obtain ⟨v', e, hd⟩ := h.data
  cases e
  exact hd
theorem ov_inS {x : Str} {ys : List Str} {y : PyData} (hy : y = .tuple (ys.map .str) ∨ y = .list (ys.map .str)) (h : p (.d (.bool (ys.contains x)))) : OV X b (compareOp .In) (.d (.str x)) (.d y) p := ⟨_, op_in_seq, fun v1 v2 H L Q hh k => by
  have e1 := hh.isS
  subst e1
  have hd := hh.drop.dp
  rcases hy with rfl | rfl
  · cases hd with
    | tup h1 h2 =>
      have e := dp_strs h2
      subst e
      refine ⟨_, _, rfl, .inr h1, rfl, strFlat _, ?_⟩
      rw [strIn]
      exact k _ _ H h (hh.drop.drop.bl _)
  · cases hd with
    | lst h1 h2 =>
      have e := dp_strs h2
      subst e
      refine ⟨_, _, rfl, .inl h1, rfl, strFlat _, ?_⟩
      rw [strIn]
      exact k _ _ H h (hh.drop.drop.bl _)⟩
theorem ov_notInS {x : Str} {ys : List Str} {y : PyData} (hy : y = .tuple (ys.map .str) ∨ y = .list (ys.map .str)) (h : p (.d (.bool (!ys.contains x)))) : OV X b (compareOp .NotIn) (.d (.str x)) (.d y) p := ⟨_, op_notIn_seq, fun v1 v2 H L Q hh k => by
  have e1 := hh.isS
  subst e1
  have hd := hh.drop.dp
  rcases hy with rfl | rfl
  · cases hd with
    | tup h1 h2 =>
      have e := dp_strs h2
      subst e
      refine ⟨_, _, rfl, .inr h1, rfl, strFlat _, ?_⟩
      rw [strIn]
      exact k _ _ H h (hh.drop.drop.bl _)
  · cases hd with
    | lst h1 h2 =>
      have e := dp_strs h2
      subst e
      refine ⟨_, _, rfl, .inl h1, rfl, strFlat _, ?_⟩
      rw [strIn]
      exact k _ _ H h (hh.drop.drop.bl _)⟩
/-! ### lists: + of two, * n -/
theorem Hold.ref {H : Hp} {v : V} {ys : List PyData} {L : List Cl} {K : PySem.W.Frag} (h : Hold K b H ((some v, .own ys) :: L)) : ∃ p vs, v = .ref p ∧ H p = some (.lst vs) ∧ vs.length = ys.length := by
  obtain ⟨G, hg⟩ := h
  obtain ⟨p, vs, e, _, _, h3, h4⟩ := hg.ok _ List.mem_cons_self
  cases e
  exact ⟨p, vs, rfl, h3, DpAll.len h4⟩
theorem ov_cat {xs ys : List PyData} (hz : xs.length + ys.length ≤ sizeLine) (h : p (.own (xs ++ ys))) : OV X b (binaryOp .Add) (.own xs) (.own ys) p := ⟨_, op_cat, fun v1 v2 H L Q hh k => by
  obtain ⟨G, hg⟩ := hh
  obtain ⟨l1, us, e1, _, _, h1, d1⟩ := hg.ok _ List.mem_cons_self
  obtain ⟨l2, vs, e2, _, _, h2, d2⟩ := hg.drop.ok _ List.mem_cons_self
  cases e1
  cases e2
  exact ⟨l1, l2, us, vs, rfl, rfl, h1, h2, by rw [DpAll.len d1, DpAll.len d2]; exact hz, fun q hq => k _ _ _ h ⟨G, hg.drop.drop.newL hq (DpAll.app d1 d2)⟩⟩⟩
/-! ### items -/
theorem dp_at {K : PySem.W.Frag} {G : Hp} {xs : List V} {ys : List PyData} {i : Int} {y : PyData} (h : DpAll K G xs ys) (e : atI ys i = some y) : ∃ x, atI xs i = some x ∧ Dp K G x y := by
  unfold atI at e ⊢
  rw [DpAll.len h]
  cases hk : ixN ys.length i with
  | none => rw [hk] at e; cases e
  | some k =>
    rw [hk] at e
    have hl : k < xs.length := by rw [DpAll.len h]; exact (List.getElem?_eq_some_iff.mp e).1
    obtain ⟨d, e1, hd⟩ := DpAll.at h (List.getElem?_eq_getElem hl)
    have e : ys[k]? = some y := e
    rw [e1] at e
    cases e
    exact ⟨_, List.getElem?_eq_getElem hl, hd⟩
theorem iv_tup {ys : List PyData} {i : Int} {y : PyData} (hi : atI ys i = some y) (h : p (.d y)) : IV X b (.d (.tuple ys)) (.d (.int i)) p := ⟨_, ix_tup, fun v1 v2 H L Q hh k => by
  have e2 := hh.drop.isI
  subst e2
  obtain ⟨G, hg⟩ := hh
  cases hg.seq with
  | tup h1 h2 =>
    obtain ⟨x, ex, hx⟩ := dp_at h2 hi
    exact ⟨_, _, _, _, rfl, rfl, hg.up.tup h1, ex, k _ _ H h ⟨G, hg.drop.drop.add hx⟩⟩⟩
theorem iv_lst {ys : List PyData} {i : Int} {y : PyData} (hi : atI ys i = some y) (h : p (.d y)) : IV X b (.d (.list ys)) (.d (.int i)) p := ⟨_, ix_list, fun v1 v2 H L Q hh k => by
  have e2 := hh.drop.isI
  subst e2
  obtain ⟨G, hg⟩ := hh
  cases hg.seq with
  | lst h1 h2 =>
    obtain ⟨x, ex, hx⟩ := dp_at h2 hi
    exact ⟨_, _, _, _, rfl, rfl, hg.up.seq h1, ex, k _ _ H h ⟨G, hg.drop.drop.add hx⟩⟩⟩
theorem iv_own {ys : List PyData} {i : Int} {y : PyData} (hi : atI ys i = some y) (h : p (.d y)) : IV X b (.own ys) (.d (.int i)) p := ⟨_, ix_list, fun v1 v2 H L Q hh k => by
  have e2 := hh.drop.isI
  subst e2
  obtain ⟨G, hg⟩ := hh
  obtain ⟨l1, us, e1, _, _, h1, d1⟩ := hg.ok _ List.mem_cons_self
  cases e1
  obtain ⟨x, ex, hx⟩ := dp_at d1 hi
  exact ⟨_, _, _, _, rfl, rfl, .of h1, ex, k _ _ H h ⟨G, hg.drop.drop.add hx⟩⟩⟩
theorem iv_str {x : Str} {i : Int} {c : Nat} (hz : x.length ≤ sizeLine) (hi : atI x.cps.toList i = some c) (h : p (.d (.str ⟨#[c]⟩))) : IV X b (.d (.str x)) (.d (.int i)) p := ⟨_, ix_str, fun v1 v2 H L Q hh k => by
  have e1 := hh.isS
  have e2 := hh.drop.isI
  subst e1 e2
  exact ⟨x, i, c, rfl, rfl, hz, hi, k _ _ H h (hh.drop.drop.str _)⟩⟩
/-! ### built-ins -/
theorem one_in {rs : List Sl} {vs : List V} {r : Sl} (lv : vs.length = [r].length) : ∃ v, vs = [v] := List.length_eq_one_iff.mp (by simpa using lv)
theorem cv_lenT {ys : List PyData} (h : p (.d (.int ys.length))) : CV X b (.builtin "len") [.d (.tuple ys)] p := ⟨_, call_len_seq, fun vs H L Q lv hh k => by
  obtain ⟨v, rfl⟩ := one_in (rs := []) lv
  cases Hold.dp (show Hold X.K b H ((some v, .d (.tuple ys)) :: L) from hh) with
  | tup h1 h2 =>
    refine ⟨_, _, rfl, .inr h1, ?_⟩
    rw [DpAll.len h2]
    exact k _ _ H h (Hold.int (Hold.drop (show Hold X.K b H ((some (.ref _), .d (.tuple ys)) :: L) from hh)) _)⟩
theorem cv_lenL {ys : List PyData} (h : p (.d (.int ys.length))) : CV X b (.builtin "len") [.d (.list ys)] p := ⟨_, call_len_seq, fun vs H L Q lv hh k => by
  obtain ⟨v, rfl⟩ := one_in (rs := []) lv
  cases Hold.dp (show Hold X.K b H ((some v, .d (.list ys)) :: L) from hh) with
  | lst h1 h2 =>
    refine ⟨_, _, rfl, .inl h1, ?_⟩
    rw [DpAll.len h2]
    exact k _ _ H h (Hold.int (Hold.drop (show Hold X.K b H ((some (.ref _), .d (.list ys)) :: L) from hh)) _)⟩
theorem cv_lenO {ys : List PyData} (h : p (.d (.int ys.length))) : CV X b (.builtin "len") [.own ys] p := ⟨_, call_len_seq, fun vs H L Q lv hh k => by
  obtain ⟨v, rfl⟩ := one_in (rs := []) lv
  have hh : Hold X.K b H ((some v, .own ys) :: L) := hh
  obtain ⟨q, us, rfl, h1, h2⟩ := hh.ref
  refine ⟨_, _, rfl, .inl (.of h1), ?_⟩
  rw [h2]
  exact k _ _ H h (hh.drop.int _)⟩
theorem cv_lenS {x : Str} (hz : x.length ≤ sizeLine) (h : p (.d (.int x.length))) : CV X b (.builtin "len") [.d (.str x)] p := ⟨_, call_len_str, fun vs H L Q lv hh k => by
  obtain ⟨v, rfl⟩ := one_in (rs := []) lv
  have hh : Hold X.K b H ((some v, .d (.str x)) :: L) := hh
  have e := hh.isS
  subst e
  exact ⟨x, rfl, hz, k _ _ H h (hh.drop.int _)⟩⟩
theorem cv_int {i : Int} (h : p (.d (.int i))) : CV X b (.type "int") [.d (.int i)] p := ⟨_, call_int1, fun vs H L Q lv hh k => by
  obtain ⟨v, rfl⟩ := one_in (rs := []) lv
  have hh : Hold X.K b H ((some v, .d (.int i)) :: L) := hh
  have e := hh.isI
  subst e
  exact .inl ⟨i, rfl, k _ _ H h (hh.drop.int _)⟩⟩
theorem cv_intB {i : Bool} (h : p (.d (.int (if i then 1 else 0)))) : CV X b (.type "int") [.d (.bool i)] p := ⟨_, call_int1, fun vs H L Q lv hh k => by
  obtain ⟨v, rfl⟩ := one_in (rs := []) lv
  have hh : Hold X.K b H ((some v, .d (.bool i)) :: L) := hh
  have e := hh.isB
  subst e
  exact .inr ⟨i, rfl, k _ _ H h (hh.drop.int _)⟩⟩
theorem cv_strI {i : Int} (hz : i.natAbs.log2 < 1920) (h : p (.d (.str (toString i)))) : CV X b (.type "str") [.d (.int i)] p := ⟨_, call_str_int, fun vs H L Q lv hh k => by
  obtain ⟨v, rfl⟩ := one_in (rs := []) lv
  have hh : Hold X.K b H ((some v, .d (.int i)) :: L) := hh
  have e := hh.isI
  subst e
  exact ⟨i, rfl, hz, k _ _ H h (hh.drop.str _)⟩⟩
theorem cv_tupL {ys : List PyData} (h : p (.d (.tuple ys))) : CV X b (.type "tuple") [.d (.list ys)] p := ⟨_, call_tuple_of, fun vs H L Q lv hh k => by
  obtain ⟨v, rfl⟩ := one_in (rs := []) lv
  have hh : Hold X.K b H ((some v, .d (.list ys)) :: L) := hh
  obtain ⟨G, hg⟩ := hh
  cases hg.seq with
  | lst h1 h2 => exact ⟨_, _, rfl, .inl ⟨hg.up.seq h1, fun q hq => k _ _ _ h ⟨_, hg.drop.newT hq h2⟩⟩⟩⟩
theorem cv_tupO {ys : List PyData} (h : p (.d (.tuple ys))) : CV X b (.type "tuple") [.own ys] p := ⟨_, call_tuple_of, fun vs H L Q lv hh k => by
  obtain ⟨v, rfl⟩ := one_in (rs := []) lv
  have hh : Hold X.K b H ((some v, .own ys) :: L) := hh
  obtain ⟨G, hg⟩ := hh
  obtain ⟨l1, us, e1, _, _, h1, d1⟩ := hg.ok _ List.mem_cons_self
  cases e1
  exact ⟨_, _, rfl, .inl ⟨.of h1, fun q hq => k _ _ _ h ⟨_, hg.drop.newT hq d1⟩⟩⟩⟩
theorem cv_lstL {ys : List PyData} (h : p (.own ys)) : CV X b (.type "list") [.d (.list ys)] p := ⟨_, call_list_of, fun vs H L Q lv hh k => by
  obtain ⟨v, rfl⟩ := one_in (rs := []) lv
  have hh : Hold X.K b H ((some v, .d (.list ys)) :: L) := hh
  obtain ⟨G, hg⟩ := hh
  cases hg.seq with
  | lst h1 h2 => exact ⟨_, _, rfl, .inl (hg.up.seq h1), fun q hq => k _ _ _ h ⟨_, hg.drop.newL hq h2⟩⟩⟩
theorem dp_bools {K : PySem.W.Frag} {G : Hp} : ∀ {xs : List V} {ys : List Bool}, DpAll K G xs (ys.map .bool) → xs = ys.map .bl
  | [], [], _ => rfl
  | [], _ :: _, h => by cases h
  | _ :: _, [], h => by cases h
  | x :: xs, y :: ys, h => by
    cases h with
    | cons h1 h2 =>
      cases h1
      rw [dp_bools h2, List.map_cons]
theorem cv_all (hc : X.calm = true) {bs : List Bool} (h : p (.d (.bool (bs.all id)))) : CV X b (.builtin "all") [.own (bs.map .bool)] p := ⟨_, cr_all hc, fun vs H L Q lv hh k => by
  obtain ⟨v, rfl⟩ := one_in (rs := []) lv
  have hh : Hold X.K b H ((some v, .own (bs.map .bool)) :: L) := hh
  obtain ⟨G, hg⟩ := hh
  obtain ⟨l1, us, e1, _, _, h1, d1⟩ := hg.ok _ List.mem_cons_self
  cases e1
  have e := dp_bools d1
  subst e
  exact ⟨_, bs, rfl, .of h1, k _ _ _ h ⟨G, hg.drop.add (.bl _)⟩⟩⟩
theorem cv_any (hc : X.calm = true) {bs : List Bool} (h : p (.d (.bool (bs.any id)))) : CV X b (.builtin "any") [.own (bs.map .bool)] p := ⟨_, cr_any hc, fun vs H L Q lv hh k => by
  obtain ⟨v, rfl⟩ := one_in (rs := []) lv
  have hh : Hold X.K b H ((some v, .own (bs.map .bool)) :: L) := hh
  obtain ⟨G, hg⟩ := hh
  obtain ⟨l1, us, e1, _, _, h1, d1⟩ := hg.ok _ List.mem_cons_self
  cases e1
  have e := dp_bools d1
  subst e
  exact ⟨_, bs, rfl, .of h1, k _ _ _ h ⟨G, hg.drop.add (.bl _)⟩⟩⟩
/-- x[k:l] of a text -/
def subTy (a t : String) : Bool := a == t || (a == "bool" && t == "int")
theorem kit_d {K : PySem.W.Frag} {t : String} (ht : t = "int" ∨ t = "bool" ∨ t = "str" ∨ t = "tuple" ∨ t = "list" ∨ t = "dict") (y : PyData) : PySem.W.kitOne K (.type (tyD y)) (.type t) = some (subTy (tyD y) t) := by
  rcases ht with rfl | rfl | rfl | rfl | rfl | rfl <;> cases y <;> dsimp only [tyD] <;> exact kit_ty (by decide +kernel)
theorem ev_isi {e : Expr} {t : String} {x : Str} {p : Sl → List Sl → Prop} {ps cp pn : Pos} (hg : Gl X "isinstance") (hm : X.mg "isinstance" = none) (hgt : Gl X x) (hmt : X.mg x = none) (hv : bootBuiltins x = some (.type t)) (ht : t = "int" ∨ t = "bool" ∨ t = "str" ∨ t = "tuple" ∨ t = "list" ∨ t = "dict")
    (h : EV X b ρ e fun r ρ' => ∃ y, r = .d y ∧ p (.d (.bool (subTy (tyD y) t))) ρ') (hn : x ≠ "__name__" := by decide) (hd : (x == ("__debug__" : Str)) = false := by decide) (he : starEach [e, .Name x pn] X.env = (false, eval e X.env) :: starEach [.Name x pn] X.env := by rfl) (hpl : (backTo cp (starEach [.Name x pn] X.env)).any (·.1) = false := by rfl) :
    EV X b ρ (.Call (.Name "isinstance" ps) [e, .Name x pn] [] cp) p := fun σ H L Q l hh k =>
  ⟨_, pe_callB call_isi hg hm (by decide +kernel) (pa_cons (we_pe e) (pa_cons (pe_bltn hgt hmt (u := .type t) (v := .ty t) hv rfl hn hd) pa_nil) he) (by decide) (by decide) he hpl, h σ H L _ l hh fun r ρ' v H' ⟨y, er, hp⟩ l' hh' => by
    subst er
    exact ⟨v, .ty t, .type (tyD y), .type t, subTy (tyD y) t, rfl, .ty _, dp_ty hh'.dp, kit_d ht y, k _ ρ' _ H' hp l' (hh'.drop.bl _)⟩⟩
end

end DE

namespace DE
open PySem PySem.Spec PyProof.Rows L2 SZ VR VX StX RT
/-! ### statements -/
structure Po where
  nx : List Sl → Prop
  rt : Sl → List Sl → Prop
  bk : List Sl → Prop
  ct : List Sl → Prop
structure PoOk (X : Cx) (b : Bs) (L : List Cl) (p : Po) (D : Ends) (n : Nat) : Prop where
  nx : ∀ ρ' σ' H', p.nx ρ' → σ'.length = ρ'.length → ρ'.length = n → Hold X.K b H' (σ'.zip ρ' ++ L) → D.nx σ' H'
  rt : ∀ r ρ' v (σ' : L2.St) H', p.rt r ρ' → σ'.length = ρ'.length → ρ'.length = n → Hold X.K b H' ((some v, r) :: (σ'.zip ρ' ++ L)) → D.rt v H'
  bk : ∀ ρ' σ' H', p.bk ρ' → σ'.length = ρ'.length → ρ'.length = n → Hold X.K b H' (σ'.zip ρ' ++ L) → D.bk σ' H'
  ct : ∀ ρ' σ' H', p.ct ρ' → σ'.length = ρ'.length → ρ'.length = n → Hold X.K b H' (σ'.zip ρ' ++ L) → D.ct σ' H'
def XS (X : Cx) (b : Bs) (ρ : List Sl) (st : Stmt) (p : Po) : Prop := ∀ σ H L D, σ.length = ρ.length → Hold X.K b H (σ.zip ρ ++ L) → PoOk X b L p D ρ.length → WS X st D σ H
def XB (X : Cx) (b : Bs) (ρ : List Sl) (st : List Stmt) (p : Po) : Prop := ∀ σ H L D, σ.length = ρ.length → Hold X.K b H (σ.zip ρ ++ L) → PoOk X b L p D ρ.length → WSs X st D σ H
/-- a store: ts the slots that may change -/
def EG (X : Cx) (b : Bs) (ts : List Nat) (ρ : List Sl) (tg : Expr) (r : Sl) (p : List Sl → Prop) : Prop := ∀ σ H L v Q, σ.length = ρ.length → Hold X.K b H ((some v, r) :: (σ.zip ρ ++ L)) →
  (∀ ρ' σ' H', p ρ' → σ'.length = ρ'.length → ρ'.length = ρ.length → L2.wipe σ' ts = L2.wipe σ ts → Hold X.K b H' (σ'.zip ρ' ++ L) → Q σ' H') → WG X tg v σ H Q
def EGs (X : Cx) (b : Bs) (ts : List Nat) (ρ : List Sl) (tg : List Expr) (rs : List Sl) (p : List Sl → Prop) : Prop := ∀ σ H L vs Q, σ.length = ρ.length → vs.length = rs.length → Hold X.K b H ((vs.map some).zip rs ++ (σ.zip ρ ++ L)) →
  (∀ ρ' σ' H', p ρ' → σ'.length = ρ'.length → ρ'.length = ρ.length → L2.wipe σ' ts = L2.wipe σ ts → Hold X.K b H' (σ'.zip ρ' ++ L) → Q σ' H') → WGs X tg vs σ H Q
section
variable {X : Cx} {b : Bs} {ρ : List Sl} {p : Po} {e e1 e2 : Expr} {rest : List Stmt} {st : Stmt} {pos : Pos}
theorem xb_nil (h : p.nx ρ) : XB X b ρ [] p := fun σ H L D l hh k => ⟨_, pss_nil, k.nx ρ σ H h l rfl hh⟩
theorem xb_cons (h : XS X b ρ st { p with nx := fun ρ' => ρ'.length = ρ.length → XB X b ρ' rest p }) : XB X b ρ (st :: rest) p := fun σ H L D l hh k =>
  ⟨_, pss_cons (ws_ps st) (wss_pss rest), h σ H L { D with nx := WSs X rest D } l hh ⟨fun ρ' σ' H' h1 l' n' hh' => h1 n' σ' H' L D l' hh' (by rw [n']; exact k), k.rt, k.bk, k.ct⟩⟩
theorem xb_one (h : XS X b ρ st p) : XB X b ρ [st] p := fun σ H L D l hh k => ⟨_, pss_one (ws_ps st), h σ H L D l hh k⟩
theorem xs_ret (h : EV X b ρ e fun r ρ' => ρ'.length = ρ.length → p.rt r ρ') : XS X b ρ (.Return (some e) pos) p := fun σ H L D l hh k => ⟨_, ps_ret (we_pe e), h σ H L _ l hh fun r ρ' v H' hp l' hh' => k.rt r ρ' v σ H' (hp (l'.symm.trans l)) l' (l'.symm.trans l) hh'⟩
theorem xs_retN (h : p.rt (.d .none) ρ) : XS X b ρ (.Return none pos) p := fun σ H L D l hh k => ⟨_, ps_retN, k.rt _ ρ .non σ H h l rfl hh.non⟩
theorem xs_pass (h : p.nx ρ) : XS X b ρ (.Pass pos) p := fun σ H L D l hh k => ⟨_, ps_pass, k.nx ρ σ H h l rfl hh⟩
theorem xs_break (h : p.bk ρ) : XS X b ρ (.Break pos) p := fun σ H L D l hh k => ⟨_, ps_break, k.bk ρ σ H h l rfl hh⟩
theorem xs_cont (h : p.ct ρ) : XS X b ρ (.Continue pos) p := fun σ H L D l hh k => ⟨_, ps_continue, k.ct ρ σ H h l rfl hh⟩
theorem xs_drop (hs : swapsWith e none pos.line X.env = pure false := by rfl) (h : EV X b ρ e fun _ ρ' => ρ'.length = ρ.length → p.nx ρ') : XS X b ρ (.Expr e pos) p := fun σ H L D l hh k => ⟨_, ps_expr (we_pe e) hs, h σ H L _ l hh fun r ρ' v H' hp l' hh' => k.nx ρ' σ H' (hp (l'.symm.trans l)) l' (l'.symm.trans l) hh'.drop⟩
theorem xs_if {c : Expr} {s1 s2 : List Stmt} (h : ET X b ρ c fun t ρ' => ρ'.length = ρ.length → (t = true → XB X b ρ' s1 p) ∧ (t = false → XB X b ρ' s2 p)) : XS X b ρ (.If c s1 s2 pos) p := fun σ H L D l hh k =>
  ⟨_, ps_if (wt_pt c) (wss_pss s1) (wss_pss s2), h σ H L _ l hh fun t ρ' H' hp l' hh' => by
    have n' := l'.symm.trans l
    obtain ⟨h1, h2⟩ := hp n'
    cases t with
    | true => exact h1 rfl σ H' L D l' hh' (by rw [n']; exact k)
    | false => exact h2 rfl σ H' L D l' hh' (by rw [n']; exact k)⟩
/-! ### stores -/
theorem wipe_set {σ : L2.St} {i : Nat} {x : Option V} : ∀ {ts : List Nat}, i ∈ ts → L2.wipe (σ.set i x) ts = L2.wipe σ ts
  | t :: ts, h => by
    unfold L2.wipe
    by_cases hi : i ∈ ts
    · rw [wipe_set hi]
    · have ht : i = t := by
        rcases List.mem_cons.mp h with h | h
        · exact h
        · exact absurd h hi
      subst ht
      have : L2.wipe (σ.set i x) ts = (L2.wipe σ ts).set i x := by
        clear h
        induction ts with
        | nil => rfl
        | cons u ts ih =>
          have hu : i ≠ u := fun e => hi (by rw [e]; exact List.mem_cons_self)
          unfold L2.wipe
          rw [ih (fun z => hi (List.mem_cons_of_mem _ z)), List.set_comm _ _ hu]
      rw [this, List.set_set]
theorem zip_set {σ : L2.St} : ∀ {ρ : List Sl} {i : Nat} {r : Sl} {x : Option V}, i < ρ.length → σ.length = ρ.length → ∃ c M, (σ.zip ρ).Perm (c :: M) ∧ ((σ.set i x).zip (ρ.set i r)).Perm ((x, r) :: M) := by
  intro ρ i r x hi l
  have h1 : ρ[i]? = some ρ[i] := List.getElem?_eq_getElem hi
  have h2 : σ[i]? = some σ[i] := List.getElem?_eq_getElem (by omega)
  obtain ⟨M, p1, _⟩ := set_perm (s' := r) h1 h2
  refine ⟨_, M, p1, ?_⟩
  clear h1 h2
  have : ∀ (σ : L2.St) (ρ : List Sl) (i : Nat) (hi : i < ρ.length) (hs : i < σ.length) (M : List Cl), (σ.zip ρ).Perm ((σ[i], ρ[i]) :: M) → ((σ.set i x).zip (ρ.set i r)).Perm ((x, r) :: M) := by
    intro σ
    induction σ with
    | nil => intro ρ i _ hs; simp at hs
    | cons y σ ih =>
      intro ρ i hi hs M hM
      cases ρ with
      | nil => simp at hi
      | cons z ρ =>
        cases i with
        | zero =>
          simp at hM ⊢
          exact hM
        | succ i =>
          simp only [List.getElem_cons_succ, List.zip_cons_cons, List.set_cons_succ] at hM ⊢
          have hm : (y, z) ∈ (σ[i]'(by simpa using hs), ρ[i]'(by simpa using hi)) :: M := hM.mem_iff.mp List.mem_cons_self
          obtain ⟨M1, q1, _⟩ := set_perm (σ := σ) (ρ := ρ) (s' := r) (List.getElem?_eq_getElem (by simpa using hi)) (List.getElem?_eq_getElem (by simpa using hs))
          have h3 := ih ρ i (by simpa using hi) (by simpa using hs) M1 q1
          have e1 : ((y, z) :: (σ[i]'(by simpa using hs), ρ[i]'(by simpa using hi)) :: M1).Perm ((σ[i]'(by simpa using hs), ρ[i]'(by simpa using hi)) :: M) := (List.Perm.cons _ q1.symm).trans hM
          have e2 : ((y, z) :: M1).Perm M := by
            exact ((List.Perm.swap (y, z) (σ[i]'(by simpa using hs), ρ[i]'(by simpa using hi)) M1).trans e1).cons_inv
          exact ((List.Perm.cons _ h3).trans (.swap ..)).trans (List.Perm.cons _ e2)
  exact this σ ρ i hi (by omega) M p1
theorem eg_name (i : Nat) {ts : List Nat} {r : Sl} {p : List Sl → Prop} {x : Str} (hN : X.N.Nodup) (hi : X.N[i]? = some x) (hx : Loc X.env.scope x) (hl : i < ρ.length) (ht : i ∈ ts) (h : p (ρ.set i r)) (hf : X.fn x = true ∨ X.env.scope.names.lookup x = some .local := by first | exact .inl rfl | exact .inr rfl | assumption) : EG X b ts ρ (.Name x pos) r p := fun σ H L v Q l hh k => by
  refine ⟨_, pg_name hN hi hx hf, ?_⟩
  obtain ⟨c, M, p1, p2⟩ := zip_set (r := r) (x := some v) hl l
  refine k _ _ H h (by simp [l]) (by simp) (wipe_set ht) ?_
  have h1 : Hold X.K b H (c :: ((some v, r) :: (M ++ L))) := hh.perm ((List.Perm.swap ..).trans (List.Perm.cons _ (p1.symm.append_right L)))
  exact h1.drop.perm (p2.append_right L)
theorem egs_nil {ts : List Nat} {p : List Sl → Prop} (h : p ρ) : EGs X b ts ρ [] [] p := fun σ H L vs Q l lv hh k => by
  have : vs = [] := List.length_eq_zero_iff.mp (by simpa using lv)
  subst this
  exact ⟨_, pgs_nil, rfl, k ρ σ H h l rfl rfl hh⟩
theorem egs_cons {ts : List Nat} {tg : Expr} {tgs : List Expr} {r : Sl} {rs : List Sl} {p : List Sl → Prop} (hs : (assignEach (tg :: tgs) X.env).map (·.2) = assign tg X.env :: (assignEach tgs X.env).map (·.2) := by rfl) (h : EG X b ts ρ tg r fun ρ' => ρ'.length = ρ.length → EGs X b ts ρ' tgs rs p) : EGs X b ts ρ (tg :: tgs) (r :: rs) p := fun σ H L vs Q l lv hh k => by
  cases vs with
  | nil => simp at lv
  | cons v vs =>
    refine ⟨_, pgs_cons (wg_pg tg) (wgs_pgs tgs) hs, v, vs, rfl, ?_⟩
    have hh : Hold X.K b H ((some v, r) :: (((vs.map some).zip rs) ++ (σ.zip ρ ++ L))) := hh
    refine h σ H ((vs.map some).zip rs ++ L) v _ l (hh.perm (List.Perm.cons _ ?_)) fun ρ' σ' H' h1 l' n' w' hh' => ?_
    · rw [← List.append_assoc, ← List.append_assoc]
      exact List.Perm.append_right _ List.perm_append_comm
    · refine h1 n' σ' H' L vs Q l' (by simpa using lv) (hh'.perm ?_) fun ρ2 σ2 H2 hp l2 n2 w2 hh2 => k ρ2 σ2 H2 hp l2 (n2.trans n') (w2.trans w') hh2
      rw [← List.append_assoc, ← List.append_assoc]
      exact List.Perm.append_right _ List.perm_append_comm
/-- a, b = a tuple of data -/
theorem eg_tup {ts : List Nat} {tgs : List Expr} {k0 : Nat} {ys : List PyData} {p : List Sl → Prop} (hc : X.calm = true) (hn : ys.length = tgs.length) (hna : (assignEach tgs X.env).length = tgs.length := by rfl) (hst : (assignEach tgs X.env).findIdx? (·.1) = none := by rfl) (h : EGs X b ts ρ tgs (ys.map .d) p) : EG X b ts ρ (.Tuple tgs k0 pos) (.d (.tuple ys)) p := fun σ H L v Q l hh k => by
  obtain ⟨G, hg⟩ := hh
  cases hg.seq with
  | @tup a xs _ h1 h2 =>
    refine ⟨_, pg_tup hc (wgs_pgs tgs) hna hst, a, xs, rfl, hg.up.tup h1, (DpAll.len h2).trans hn, ?_⟩
    refine h σ H L xs Q l (by rw [List.length_map]; exact DpAll.len h2) ⟨G, ?_⟩ k
    have hd := hg.drop
    clear hg h1
    have : ∀ {xs : List V} {ys : List PyData}, DpAll X.K G xs ys → HoldG X.K b G H (((xs.map some).zip (ys.map .d)) ++ (σ.zip ρ ++ L)) := by
      intro xs ys hx
      induction xs generalizing ys with
      | nil => cases hx; exact hd
      | cons x xs ih => cases hx with | cons g1 g2 => exact (ih g2).add g1
    exact this h2
theorem xs_asg {tg : Expr} {ts : List Nat} (hs : swapsWithSole [tg] e pos.line X.env = pure false := by rfl) (hw : swappedStores [tg] e X.env = pure none := by rfl) (ha : (assignEach [tg] X.env).map (·.2) = [assign tg X.env] := by rfl) (h : EV X b ρ e fun r ρ' => ρ'.length = ρ.length → EG X b ts ρ' tg r fun ρ2 => ρ2.length = ρ.length → p.nx ρ2) : XS X b ρ (.Assign [tg] e pos) p := fun σ H L D l hh k =>
  ⟨_, ps_asg (we_pe e) (wg_pg tg) hs hw ha, h σ H L _ l hh fun r ρ' v H' h1 l' hh' => h1 (l'.symm.trans l) σ H' L v _ l' hh' fun ρ2 σ2 H2 hp l2 n2 _ hh2 => k.nx ρ2 σ2 H2 (hp (n2.trans (l'.symm.trans l))) l2 (n2.trans (l'.symm.trans l)) hh2⟩
/-- name = e -/
theorem xs_set (i : Nat) {x : Str} {pos' : Pos} (hN : X.N.Nodup) (hi : X.N[i]? = some x) (hx : Loc X.env.scope x) (hl : i < ρ.length) (hs : swapsWith e (some (.Name x pos')) pos.line X.env = pure false := by rfl) (hf : X.fn x = true ∨ X.env.scope.names.lookup x = some .local := by first | exact .inl rfl | exact .inr rfl | assumption)
    (h : EV X b ρ e fun r ρ' => ρ'.length = ρ.length → p.nx (ρ'.set i r)) : XS X b ρ (.Assign [.Name x pos'] e pos) p := fun σ H L D l hh k =>
  ⟨_, ps_set hN hi hx (we_pe e) hs hf, h σ H L _ l hh fun r ρ' v H' h1 l' hh' => by
    have n' := l'.symm.trans l
    obtain ⟨c, M, p1, p2⟩ := zip_set (r := r) (x := some v) (by rw [n']; exact hl) l'
    refine k.nx _ _ H' (h1 n') (by simp [l']) (by simp [n']) ?_
    have h2 : Hold X.K b H' (c :: ((some v, r) :: (M ++ L))) := hh'.perm ((List.Perm.swap ..).trans (List.Perm.cons _ (p1.symm.append_right L)))
    exact h2.drop.perm (p2.append_right L)⟩
end

end DE

namespace DE
open PySem PySem.Spec PyProof.Rows L2 SZ VR VX StX RT
/-! ### calls of defs -/
def cool : Sl → Sl
  | .own ys => .d (.list ys)
  | s => s
def setS : Sl → List PyData → Sl
  | .own _, ys => .own ys
  | _, ys => .bor ys
section
variable {K : PySem.W.Frag} {b : Bs} {G H H' : Hp} {L : List Cl}
theorem Hold.cool {x : Option V} {s : Sl} (h : Hold K b H ((x, s) :: L)) : Hold K b H ((x, DE.cool s) :: L) := by
  cases s with
  | own ys => exact h.freeze
  | _ => exact h
theorem Hold.coolAll : ∀ {vs : List V} {rs : List Sl} {L : List Cl}, Hold K b H ((vs.map some).zip rs ++ L) → Hold K b H ((vs.map some).zip (rs.map DE.cool) ++ L)
  | [], _, _, h => by simpa using h
  | _ :: _, [], _, h => h
  | v :: vs, r :: rs, L, h => by
    have h1 : Hold K b H ((some v, r) :: ((vs.map some).zip rs ++ L)) := h
    have h2 := h1.cool.perm (L' := (vs.map some).zip rs ++ ((some v, DE.cool r) :: L)) perm_in.symm
    exact (Hold.coolAll h2).perm perm_in
/-- no list held alone -/
def flatS : Sl → Bool
  | .d _ => true
  | .fact _ _ => true
  | .un => true
  | _ => false
theorem flat_ads : ∀ {L : List Cl}, (∀ c ∈ L, flatS c.2 = true) → ads L = []
  | [], _ => rfl
  | c :: L, h => by
    rw [ads_cons, flat_ads fun d hd => h d (List.mem_cons_of_mem _ hd)]
    have := h c List.mem_cons_self
    rcases c with ⟨_ | v, s⟩
    · cases s <;> simp [ads]
    · cases s <;> first | (simp [flatS] at this; done) | (cases v <;> simp [ads])
theorem HoldG.sub0 {M : List Cl} (h : HoldG K b G H (M ++ L)) (hf : ∀ c ∈ M, flatS c.2 = true) : HoldG K ⟨G, H, []⟩ G H M :=
  ⟨Same.refl _, h.up, fun a o e => .inl e, fun a o e _ => e, fun a ha => (nomatch ha), fun c hc => by
    have ok := h.ok c (List.mem_append_left _ hc)
    have := hf c hc
    rcases c with ⟨x, s⟩
    cases s with
    | un => trivial
    | d y => exact ok
    | fact φ st => exact ok
    | own ys => exact absurd this Bool.false_ne_true
    | bor ys => exact absurd this Bool.false_ne_true
    | dct o kvs => exact absurd this Bool.false_ne_true, by rw [flat_ads hf]; exact List.nodup_nil, h.fl⟩
theorem HoldG.subB {M : List Cl} {a : Addr} {s : Sl} {ys : List PyData} (h : HoldG K b G H ((some (.ref a), s) :: (M ++ L))) (hs : s = .own ys ∨ s = .bor ys) (hf : ∀ c ∈ M, flatS c.2 = true) : HoldG K ⟨G, H, [a]⟩ G H ((some (.ref a), .bor ys) :: M) := by
  have h0 : G a = none ∧ ∃ vs, H a = some (.lst vs) ∧ DpAll K G vs ys := by
    have ok := h.ok _ List.mem_cons_self
    rcases hs with rfl | rfl
    · obtain ⟨q, vs, e, _, h2, h3, h4⟩ := ok; cases e; exact ⟨h2, vs, h3, h4⟩
    · obtain ⟨q, vs, e, _, h2, h3, h4⟩ := ok; cases e; exact ⟨h2, vs, h3, h4⟩
  obtain ⟨g, vs, h3, h4⟩ := h0
  have f := (HoldG.sub0 h.drop hf)
  refine ⟨Same.refl _, h.up, fun a o e => .inl e, fun a o e _ => e, fun c hc => ?_, fun c hc => ?_, ?_, h.fl⟩
  · rw [List.mem_singleton.mp hc, h3]; exact ⟨rfl, TbOk.refl _ _⟩
  · rcases List.mem_cons.mp hc with rfl | hc
    · exact ⟨a, vs, rfl, List.mem_singleton_self _, g, h3, h4⟩
    · have ok := f.ok c hc
      have := hf c hc
      rcases c with ⟨x, s⟩
      cases s with
      | un => trivial
      | d y => exact ok
      | fact φ st => exact ok
      | own ys => exact absurd this Bool.false_ne_true
      | bor ys => exact absurd this Bool.false_ne_true
      | dct o kvs => exact absurd this Bool.false_ne_true
  · show (a :: ads M).Nodup
    rw [flat_ads hf]
    exact List.nodup_cons.mpr ⟨by simp, List.nodup_nil⟩
/-- behind a call: what the caller holds -/
theorem HoldG.after (h : HoldG K b G H L) {r : Sl} {v : V} (k : Hold K ⟨G, H, []⟩ H' [(some v, r)]) (hr : ∀ ys, r ≠ .bor ys) : Hold K b H' ((some v, r) :: L) := by
  obtain ⟨G', k⟩ := k
  have keep : ∀ a o, H a = some o → H' a = some o := fun a o e => k.rest a o e (by simp)
  have gn : ∀ a, G a = none → (H a).isSome = true → G' a = none := fun a e hs => by
    cases q : G' a with
    | none => rfl
    | some o =>
      rcases k.new a o q with z | z
      · have z : G a = some o := z; rw [e] at z; cases z
      · have z : H a = none := z; rw [z] at hs; cases hs
  refine ⟨G', h.old.trans k.old, k.up, fun a o e => ?_, fun a o e n => keep a o (h.rest a o e n), fun a ha => ?_, fun c hc => ?_, ?_, k.fl⟩
  · rcases k.new a o e with z | z
    · exact h.new a o z
    · exact .inr (h.fresh z)
  · refine ⟨?_, (h.bs a ha).2.of fun c u e _ _ => keep c u e⟩
    have := (h.bs a ha).1
    cases q : H a with
    | none => rw [q] at this; cases this
    | some o => rw [keep a o q]; rfl
  · rcases List.mem_cons.mp hc with rfl | hc
    · have ok := k.ok _ List.mem_cons_self
      cases r with
      | un => trivial
      | d y => exact ok
      | fact φ st => exact ok
      | bor ys => exact absurd rfl (hr ys)
      | dct o kvs => obtain ⟨q, vs, e, h1, h2, h3, h4⟩ := ok; exact ⟨q, vs, e, h1.imp (fun z => ⟨z.1, h.fresh z.2⟩) (fun z => absurd z.2.1 (by simp)), h2, h3, h4⟩
      | own ys => obtain ⟨q, vs, e, h1, h2, h3, h4⟩ := ok; exact ⟨q, vs, e, h.fresh h1, h2, h3, h4⟩
    · have ok := h.ok c hc
      rcases c with ⟨x, s⟩
      cases s with
      | un => trivial
      | d y => obtain ⟨v, e, z⟩ := ok; exact ⟨v, e, Dp.keep k.old z⟩
      | fact φ st => obtain ⟨v, e, z⟩ := ok; exact ⟨v, e, st _ _ _ k.old z⟩
      | own ys => obtain ⟨q, vs, e, h1, h2, h3, h4⟩ := ok; exact ⟨q, vs, e, h1, gn q h2 (by rw [h3]; rfl), keep _ _ h3, DpAll.keep k.old h4⟩
      | bor ys => obtain ⟨q, vs, e, h1, h2, h3, h4⟩ := ok; exact ⟨q, vs, e, h1, gn q h2 (by rw [h3]; rfl), keep _ _ h3, DpAll.keep k.old h4⟩
      | dct o kvs => obtain ⟨q, vs, e, h1, h2, h3, h4⟩ := ok; exact ⟨q, vs, e, h1, gn q h2 (by rw [h3]; rfl), keep _ _ h3, DpK.keep k.old h4⟩
  · rw [ads_cons]
    have ok := k.ok _ List.mem_cons_self
    cases r with
    | dct o kvs =>
      obtain ⟨q, vs, e, h1, h2, h3, h4⟩ := ok
      cases e
      refine List.nodup_cons.mpr ⟨fun hm => ?_, h.nd⟩
      obtain ⟨_, vs', e⟩ := h.adsH hm
      have h1 : H q = none := (h1.resolve_right (fun z => absurd z.2.1 (by simp))).2
      rw [h1] at e; cases e
    | own ys =>
      obtain ⟨q, vs, e, h1, h2, h3, h4⟩ := ok
      cases e
      refine List.nodup_cons.mpr ⟨fun hm => ?_, h.nd⟩
      obtain ⟨_, vs', e⟩ := h.adsH hm
      have h1 : H q = none := h1
      rw [h1] at e; cases e
    | bor ys => exact absurd rfl (hr ys)
    | un => cases v <;> simpa [ads] using h.nd
    | d y => cases v <;> simpa [ads] using h.nd
    | fact φ st => cases v <;> simpa [ads] using h.nd
theorem HoldG.afterB {a : Addr} {s s' : Sl} {ys ys' : List PyData} (h : HoldG K b G H ((some (.ref a), s) :: L)) {r : Sl} {v : V} (k : Hold K ⟨G, H, [a]⟩ H' [(some v, r), (some (.ref a), .bor ys')]) (hr : ∀ ys, r ≠ .bor ys) (hs : (s = .own ys ∧ s' = .own ys') ∨ (s = .bor ys ∧ s' = .bor ys')) : Hold K b H' ((some v, r) :: (some (.ref a), s') :: L) := by
  obtain ⟨G', k⟩ := k
  have keep : ∀ c o, H c = some o → c ≠ a → H' c = some o := fun c o e n => k.rest c o e (by simpa using n)
  have gn : ∀ c, G c = none → (H c).isSome = true → G' c = none := fun c e hs => by
    cases q : G' c with
    | none => rfl
    | some o =>
      rcases k.new c o q with z | z
      · have z : G c = some o := z; rw [e] at z; cases z
      · have z : H c = none := z; rw [z] at hs; cases hs
  obtain ⟨q0, us, e0, _, g0, h0, d0⟩ := k.ok _ (List.mem_cons_of_mem _ List.mem_cons_self)
  cases e0
  have nd : (a :: ads L).Nodup := by rcases hs with ⟨rfl, _⟩ | ⟨rfl, _⟩ <;> exact h.nd
  have na := (List.nodup_cons.mp nd).1
  have as : ads ((some (V.ref a), s') :: L) = a :: ads L := by rcases hs with ⟨_, rfl⟩ | ⟨_, rfl⟩ <;> rfl
  have base : b.H a = none ∨ a ∈ b.B := by
    have ok := h.ok _ List.mem_cons_self
    rcases hs with ⟨rfl, _⟩ | ⟨rfl, _⟩
    · obtain ⟨q, _, e, z, _⟩ := ok; cases e; exact .inl z
    · obtain ⟨q, _, e, z, _⟩ := ok; cases e; exact .inr z
  refine ⟨G', h.old.trans k.old, k.up, fun c o e => ?_, fun c o e n => ?_, fun c hc => ?_, fun c hc => ?_, ?_, k.fl⟩
  · rcases k.new c o e with z | z
    · exact h.new c o z
    · exact .inr (h.fresh z)
  · refine keep c o (h.rest c o e n) fun z => ?_
    subst z
    rcases base with z | z
    · rw [z] at e; cases e
    · exact n z
  · refine ⟨?_, (h.bs c hc).2.of fun c2 u e n1 _ => keep c2 u e fun z => ?_⟩
    · by_cases z : c = a
      · subst z; rw [h0]; rfl
      · have := (h.bs c hc).1
        cases q : H c with
        | none => rw [q] at this; cases this
        | some o => rw [keep c o q z]; rfl
    · subst z
      have ok := h.ok _ List.mem_cons_self
      rcases hs with ⟨rfl, _⟩ | ⟨rfl, _⟩
      · obtain ⟨q, us, e2, _, _, h3, _⟩ := ok; cases e2; rw [h3] at e; cases e; exact n1 _ rfl
      · obtain ⟨q, us, e2, _, _, h3, _⟩ := ok; cases e2; rw [h3] at e; cases e; exact n1 _ rfl
  · rcases List.mem_cons.mp hc with rfl | hc
    · have ok := k.ok _ List.mem_cons_self
      cases r with
      | un => trivial
      | d y => exact ok
      | fact φ st => exact ok
      | bor ys => exact absurd rfl (hr ys)
      | dct o kvs =>
        obtain ⟨q, vs, e, h1, h2, h3, h4⟩ := ok
        refine ⟨q, vs, e, h1.imp (fun z => ⟨z.1, h.fresh z.2⟩) (fun hm => ?_), h2, h3, h4⟩
        rw [List.mem_singleton.mp hm.2.1, h0] at h3
        cases h3
      | own ys => obtain ⟨q, vs, e, h1, h2, h3, h4⟩ := ok; exact ⟨q, vs, e, h.fresh h1, h2, h3, h4⟩
    · rcases List.mem_cons.mp hc with rfl | hm
      · have ok := h.ok _ List.mem_cons_self
        rcases hs with ⟨rfl, rfl⟩ | ⟨rfl, rfl⟩
        · obtain ⟨q, _, e, z, _⟩ := ok; cases e; exact ⟨a, us, rfl, z, g0, h0, d0⟩
        · obtain ⟨q, _, e, z, _⟩ := ok; cases e; exact ⟨a, us, rfl, z, g0, h0, d0⟩
      · have ok := h.ok c (List.mem_cons_of_mem _ hm)
        rcases c with ⟨x, t⟩
        cases t with
        | un => trivial
        | d y => obtain ⟨v, e, z⟩ := ok; exact ⟨v, e, Dp.keep k.old z⟩
        | fact φ st => obtain ⟨v, e, z⟩ := ok; exact ⟨v, e, st _ _ _ k.old z⟩
        | own zs =>
          obtain ⟨q, vs, e, h1, h2, h3, h4⟩ := ok
          have n : q ≠ a := fun n => na (by subst n; subst e; exact ads_mem (.inl ⟨_, rfl⟩) hm)
          exact ⟨q, vs, e, h1, gn q h2 (by rw [h3]; rfl), keep _ _ h3 n, DpAll.keep k.old h4⟩
        | bor zs =>
          obtain ⟨q, vs, e, h1, h2, h3, h4⟩ := ok
          have n : q ≠ a := fun n => na (by subst n; subst e; exact ads_mem (.inr ⟨_, rfl⟩) hm)
          exact ⟨q, vs, e, h1, gn q h2 (by rw [h3]; rfl), keep _ _ h3 n, DpAll.keep k.old h4⟩
        | dct o kvs =>
          obtain ⟨q, vs, e, h1, h2, h3, h4⟩ := ok
          have n : q ≠ a := fun n => na (by subst n; subst e; exact ads_memD hm)
          exact ⟨q, vs, e, h1, gn q h2 (by rw [h3]; rfl), keep _ _ h3 n, DpK.keep k.old h4⟩
  · rw [ads_cons, as]
    have ok := k.ok _ List.mem_cons_self
    cases r with
    | dct o kvs =>
      obtain ⟨q, vs, e, h1, h2, h3, h4⟩ := ok
      cases e
      have h1 : H q = none := (h1.resolve_right fun hm => by
        rw [List.mem_singleton.mp hm.2.1, h0] at h3
        cases h3).2
      refine List.nodup_cons.mpr ⟨fun hm => ?_, nd⟩
      have hm' : q ∈ ads ((some (V.ref a), s) :: L) := by rcases hs with ⟨rfl, _⟩ | ⟨rfl, _⟩ <;> exact hm
      obtain ⟨_, vs', e⟩ := h.adsH hm'
      rw [h1] at e; cases e
    | own zs =>
      obtain ⟨q, vs, e, h1, h2, h3, h4⟩ := ok
      cases e
      have h1 : H q = none := h1
      refine List.nodup_cons.mpr ⟨fun hm => ?_, nd⟩
      have hm' : q ∈ ads ((some (V.ref a), s) :: L) := by rcases hs with ⟨rfl, _⟩ | ⟨rfl, _⟩ <;> exact hm
      obtain ⟨_, vs', e⟩ := h.adsH hm'
      rw [h1] at e; cases e
    | bor ys => exact absurd rfl (hr ys)
    | un => cases v <;> simpa [ads] using nd
    | d y => cases v <;> simpa [ads] using nd
    | fact φ st => cases v <;> simpa [ads] using nd
end
/-- a def that changes nothing it is handed -/
def spP (K : PySem.W.Frag) (Pre : List Sl → Prop) (Res : List Sl → Sl → Prop) : Sp := fun vs H Q _ => ∃ (G : Hp) (as : List Sl), vs.length = as.length ∧ HoldG K ⟨G, H, []⟩ G H ((vs.map some).zip as) ∧ Pre as ∧ ∀ r, Res as r → (∀ ys, r ≠ .bor ys) → ∀ v H', Hold K ⟨G, H, []⟩ H' [(some v, r)] → Q v H'
/-- a def that changes the list in its first place -/
def spB (K : PySem.W.Frag) (Pre : List PyData → List Sl → Prop) (Res : List PyData → List Sl → Sl → List PyData → Prop) : Sp := fun vs H Q _ => ∃ (G : Hp) (a : Addr) (us : List V) (ys : List PyData) (as : List Sl), vs = .ref a :: us ∧ us.length = as.length ∧ HoldG K ⟨G, H, [a]⟩ G H ((some (.ref a), .bor ys) :: (us.map some).zip as) ∧
  Pre ys as ∧ ∀ r ys', Res ys as r ys' → (∀ zs, r ≠ .bor zs) → ∀ v H', Hold K ⟨G, H, [a]⟩ H' [(some v, r), (some (.ref a), .bor ys')] → Q v H'
section
variable {X : Cx} {b : Bs} {ρ : List Sl} {p : Sl → List Sl → Prop} {e : Expr} {es : List Expr}
theorem flat_zip {vs : List V} : ∀ {rs : List Sl}, (∀ r ∈ rs, flatS r = true) → ∀ c ∈ (vs.map some).zip rs, flatS c.2 = true := fun h c hc => h _ (List.of_mem_zip hc).2
theorem ev_call {CX : CXT} {k : Nat} {f : Addr} {fd : FuncData} {ps : List Str} {Pre : List Sl → Prop} {Res : List Sl → Sl → Prop} {x : Str} {p1 cp : Pos} (F : FnOk X.prog X.w X.K X.mg X.base CX k f fd ps (spP X.K Pre Res)) (hr : Room k X.A) (hg : Gl X x) (hm : X.mg x = some (.ref f)) (hk : PySem.W.keepIn X.K (.ref f) = true) (hb : Binds X.K fd ps []) {E : XK} (hx : Passes CX X E)
    (h : EA X b ρ (e :: es) fun rs ρ' => (∀ r ∈ rs.map cool, flatS r = true) ∧ Pre (rs.map cool) ∧ ∀ r, Res (rs.map cool) r → (∀ ys, r ≠ .bor ys) ∧ p r ρ')
    (hdb : (x == ("__debug__" : Str)) = false := by decide) (he : starEach (e :: es) X.env = (false, eval e X.env) :: starEach es X.env := by rfl) (hpl : (backTo cp (starEach es X.env)).any (·.1) = false := by rfl) : EV X b ρ (.Call (.Name x p1) (e :: es) [] cp) p := fun σ H L Q l hh q =>
  ⟨_, pe_call F hr hg hm hk hb .nil hx (wa_pa _) hdb he hpl, h σ H L _ l hh fun rs ρ' vs H' ⟨hf, hp, h2⟩ l' lv hh' => by
    obtain ⟨G, hG⟩ := hh'.coolAll
    refine ⟨G, rs.map cool, by simp [lv], by rw [List.append_nil]; exact HoldG.sub0 hG (flat_zip hf), hp, fun r hr n v H2 hh2 => ?_⟩
    exact q r ρ' v H2 (h2 r hr).2 l' (hG.dropM.after hh2 n)⟩
theorem ev_call0 {CX : CXT} {k : Nat} {f : Addr} {fd : FuncData} {Pre : List Sl → Prop} {Res : List Sl → Sl → Prop} {x : Str} {p1 cp : Pos} (F : FnOk X.prog X.w X.K X.mg X.base CX k f fd [] (spP X.K Pre Res)) (hr : Room k X.A) (hg : Gl X x) (hm : X.mg x = some (.ref f)) (hk : PySem.W.keepIn X.K (.ref f) = true) (hb : Binds X.K fd [] []) {E : XK} (hx : Passes CX X E)
    (h : Pre [] ∧ ∀ r, Res [] r → (∀ ys, r ≠ .bor ys) ∧ p r ρ) (hdb : (x == ("__debug__" : Str)) = false := by decide) : EV X b ρ (.Call (.Name x p1) [] [] cp) p := fun σ H L Q l hh q =>
  ⟨_, pe_call0 F hr hg hm hk hb .nil hx hdb, by
    obtain ⟨G, hG⟩ := hh
    refine ⟨G, [], rfl, HoldG.sub0 (M := []) (L := σ.zip ρ ++ L) hG (by simp), h.1, fun r hr n v H2 hh2 => ?_⟩
    exact q r ρ v H2 (h.2 r hr).2 l (hG.after hh2 n)⟩
/-- f(x, e, ..): the list that the name at slot i holds alone is changed -/
theorem ev_callL (i : Nat) {CX : CXT} {k : Nat} {f : Addr} {fd : FuncData} {ps : List Str} {Pre : List PyData → List Sl → Prop} {Res : List PyData → List Sl → Sl → List PyData → Prop} {x y : Str} {p1 p2 cp : Pos} (F : FnOk X.prog X.w X.K X.mg X.base CX k f fd ps (spB X.K Pre Res)) (hr : Room k X.A) (hg : Gl X x) (hm : X.mg x = some (.ref f)) (hk : PySem.W.keepIn X.K (.ref f) = true) (hb : Binds X.K fd ps []) {E : XK} (hx : Passes CX X E)
    (hN : X.N[i]? = some y) (hv : Vis X.env.scope y)
    (h : EA X b ρ es fun rs ρ' => (∀ r ∈ rs.map cool, flatS r = true) ∧ ∃ s ys, ρ'[i]? = some s ∧ (s = .own ys ∨ s = .bor ys) ∧ Pre ys (rs.map cool) ∧ ∀ r ys', Res ys (rs.map cool) r ys' → (∀ ys, r ≠ .bor ys) ∧ p r (ρ'.set i (setS s ys')))
    (hs0 : ∃ s ys, ρ[i]? = some s ∧ (s = .own ys ∨ s = .bor ys))
    (hdy : (y == ("__debug__" : Str)) = false := by decide) (hcy : (y == ("__classdict__" : Str)) = false := by decide) (hdb : (x == ("__debug__" : Str)) = false := by decide) (he : starEach (.Name y p2 :: es) X.env = (false, eval (.Name y p2) X.env) :: starEach es X.env := by rfl) (hpl : (backTo cp (starEach es X.env)).any (·.1) = false := by rfl) : EV X b ρ (.Call (.Name x p1) (.Name y p2 :: es) [] cp) p := fun σ H L Q l hh q => by
  obtain ⟨s0, ys0, h0, k0⟩ := hs0
  obtain ⟨x0, hx0, hm0⟩ := zip_mem l h0
  have hv0 : ∃ a, x0 = some (.ref a) := by
    obtain ⟨G, hG⟩ := hh
    have ok := hG.ok _ (List.mem_append_left _ hm0)
    rcases k0 with rfl | rfl
    · obtain ⟨q, _, e, _⟩ := ok; exact ⟨q, e⟩
    · obtain ⟨q, _, e, _⟩ := ok; exact ⟨q, e⟩
  obtain ⟨a, rfl⟩ := hv0
  refine ⟨_, pe_call F hr hg hm hk hb .nil hx (pa_cons (pe_var hN hv hdy hcy) (wa_pa es) he) hdb he hpl, .ref a, hx0, ?_⟩
  refine h σ H L _ l hh fun rs ρ' vs H' ⟨hf, s, ys, hs, ks, hp, h2⟩ l' lv hh' => ?_
  obtain ⟨G, hG⟩ := hh'.coolAll
  obtain ⟨M, q1, q2⟩ := set_perm (s' := setS s ys) hs hx0
  have hG2 : HoldG X.K b G H' ((some (.ref a), s) :: (((vs.map some).zip (rs.map cool)) ++ (M ++ L))) := hG.perm (by
    refine ((perm_in (A := (vs.map some).zip (rs.map cool)) (M := M ++ L)).trans ?_)
    exact List.Perm.append_left _ (q1.symm.append_right L))
  refine ⟨G, a, vs, ys, rs.map cool, by simp, by simp [lv], HoldG.subB hG2 ks (flat_zip hf), hp, fun r ys' hr n v H2 hh2 => ?_⟩
  have hG3 : HoldG X.K b G H' ((some (.ref a), s) :: (M ++ L)) := (hG.dropM (M := (vs.map some).zip (rs.map cool))).perm (q1.symm.append_right L)
  obtain ⟨M', r1, r2⟩ := set_perm (s' := setS s ys') hs hx0
  have hMM : M.Perm M' := (q1.symm.trans r1).cons_inv
  refine q r _ v H2 (h2 r ys' hr).2 (by rw [List.length_set]; exact l') ?_
  have hA := hG3.afterB (ys := ys) (s' := setS s ys') hh2 n (by rcases ks with rfl | rfl <;> simp [setS])
  refine hA.perm (List.Perm.cons _ ?_)
  exact (r2.append_right L).trans (List.Perm.cons _ (hMM.symm.append_right L))
end

end DE

namespace DE
open PySem PySem.Spec PyProof.Rows L2 SZ VR VX StX RT
/-! ### the body of a def -/
section
variable {P : Program} {w : World} {K : PySem.W.Frag} {mg : Str → Option Value} {base : Heap}
theorem zip_start {N : List Str} {vs : List V} {as : List Sl} (l : vs.length = as.length) : (L2.start N vs).zip (as ++ List.replicate (N.length - as.length) .un) = (vs.map some).zip as ++ (List.replicate (N.length - as.length) (none : Option V)).zip (List.replicate (N.length - as.length) .un) := by
  unfold L2.start
  rw [List.zip_append (by simp [l]), l]
theorem hold_start {b : Bs} {H : Hp} {L : List Cl} : ∀ n : Nat, Hold K b H L → Hold K b H (L ++ (List.replicate n (none : Option V)).zip (List.replicate n Sl.un))
  | 0, h => by simpa using h
  | n + 1, h => by
    have h1 := hold_start n h
    rw [List.replicate_succ, List.replicate_succ, List.zip_cons_cons]
    exact h1.un.perm perm_in.symm
/-- where a def's body stands -/
theorem fn_P {x qual : Str} {st : Stmt} {f : Addr} {fd : FuncData} {N ps : List Str} {k : Nat} {Pre : List Sl → Prop} {Res : List Sl → Sl → Prop} (F : Fun K x qual st f fd) (S : FnScope N ps (defScope st)) (len : ∀ as, Pre as → as.length = ps.length) (hN : ps.length ≤ N.length)
    (h : ∀ (cdv : Value) (A : Around) (outer : List Env) (s : Shared) (H : Hp) (E : XK), Room k (A.deeper (envOfC qual (defScope st) s.heap.objs.size f cdv)) → ∀ (b : Bs) (as : List Sl), Pre as → XB (cxOf CX0 P w K mg base N qual (defScope st) f cdv A outer s H E).nox b (as ++ List.replicate (N.length - as.length) .un) (defBody st)
      ⟨fun _ => Res as (.d .none), fun r _ => Res as r ∧ ∀ ys, r ≠ .bor ys, fun _ => False, fun _ => False⟩) : FnOk P w K mg base CX0 (k + 1) f fd ps (spP K Pre Res) := by
  refine F.ok S (fun vs H Q E z => ?_) (fun cdv A outer s H vs Q E hr z => ?_)
  · obtain ⟨G, as, l, _, hp, _⟩ := z
    exact l.trans (len as hp)
  · obtain ⟨G, as, l, hG, hp, q⟩ := z
    obtain ⟨t, ht, hq⟩ := h cdv A outer s H E hr ⟨G, H, []⟩ as hp (L2.start N vs) H [] { nx := fun _ H' => Q .non H', rt := Q } (by unfold L2.start; have := len as hp; simp [l])
      (by rw [List.append_nil, zip_start l]; exact hold_start _ ⟨G, hG⟩)
      ⟨fun ρ' σ' H' hn l' n' hh => q (.d .none) hn (by simp) .non H' (hh.dropL (M := σ'.zip ρ') (L := []) |>.non), fun r ρ' v σ' H' hn l' n' hh => q r hn.1 hn.2 v H' ((hh.perm (L' := σ'.zip ρ' ++ [(some v, r)]) (by rw [List.append_nil]; exact List.perm_append_singleton _ _)).dropL), fun _ _ _ z => z.elim, fun _ _ _ z => z.elim⟩
    exact ⟨t, ht, hq⟩
/-- .. that changes the list in its first place -/
theorem fn_B {x qual : Str} {st : Stmt} {f : Addr} {fd : FuncData} {N ps : List Str} {k : Nat} {Pre : List PyData → List Sl → Prop} {Res : List PyData → List Sl → Sl → List PyData → Prop} (F : Fun K x qual st f fd) (S : FnScope N ps (defScope st)) (len : ∀ ys as, Pre ys as → as.length + 1 = ps.length)
    (h : ∀ (cdv : Value) (A : Around) (outer : List Env) (s : Shared) (H : Hp) (E : XK), Room k (A.deeper (envOfC qual (defScope st) s.heap.objs.size f cdv)) → ∀ (b : Bs) (ys : List PyData) (as : List Sl), Pre ys as → XB (cxOf CX0 P w K mg base N qual (defScope st) f cdv A outer s H E).nox b (.bor ys :: (as ++ List.replicate (N.length - (as.length + 1)) .un)) (defBody st)
      ⟨fun ρ' => ∃ ys', ρ'[0]? = some (.bor ys') ∧ Res ys as (.d .none) ys', fun r ρ' => ∃ ys', ρ'[0]? = some (.bor ys') ∧ Res ys as r ys' ∧ ∀ zs, r ≠ .bor zs, fun _ => False, fun _ => False⟩) : FnOk P w K mg base CX0 (k + 1) f fd ps (spB K Pre Res) := by
  refine F.ok S (fun vs H Q E z => ?_) (fun cdv A outer s H vs Q E hr z => ?_)
  · obtain ⟨G, a, us, ys, as, rfl, l, _, hp, _⟩ := z
    rw [List.length_cons, l]
    exact len ys as hp
  · obtain ⟨G, a, us, ys, as, rfl, l, hG, hp, q⟩ := z
    have one : ∀ {b : Bs} {H' : Hp} {L : List Cl} {x : Option V} {zs : List PyData}, b.B = [a] → Hold K b H' ((x, .bor zs) :: L) → x = some (.ref a) := fun {b H' L x zs} eb hh => by
      obtain ⟨G', hg⟩ := hh
      obtain ⟨q, _, e, hm, _⟩ := hg.ok _ List.mem_cons_self
      rw [eb] at hm
      rw [e, List.mem_singleton.mp hm]
    have get : ∀ {ρ' : List Sl} {σ' : L2.St} {H' : Hp} {zs : List PyData} {M : List Cl}, ρ'[0]? = some (.bor zs) → σ'.length = ρ'.length → Hold K ⟨G, H, [a]⟩ H' (M ++ σ'.zip ρ') → Hold K ⟨G, H, [a]⟩ H' (M ++ [(some (.ref a), .bor zs)]) := fun {ρ' σ' H' zs M} h0 l' hh => by
      cases ρ' with
      | nil => simp at h0
      | cons r ρ' =>
        cases σ' with
        | nil => simp at l'
        | cons y σ' =>
          have h0 : r = .bor zs := by simpa using h0
          subst h0
          have h1 : Hold K ⟨G, H, [a]⟩ H' ((y, .bor zs) :: (M ++ σ'.zip ρ')) := hh.perm perm_in
          have ey := one rfl h1
          subst ey
          refine (h1.perm (L' := σ'.zip ρ' ++ (M ++ [(some (.ref a), .bor zs)])) ?_).dropL
          rw [← List.append_assoc]
          exact (List.perm_append_singleton _ _).trans (List.Perm.cons _ List.perm_append_comm)
    obtain ⟨t, ht, hq⟩ := h cdv A outer s H E hr ⟨G, H, [a]⟩ ys as hp (L2.start N (.ref a :: us)) H [] { nx := fun _ H' => Q .non H', rt := Q } (by unfold L2.start; simp [l])
      (by
        rw [List.append_nil]
        have := zip_start (N := N) (vs := .ref a :: us) (as := .bor ys :: as) (by simp [l])
        rw [List.cons_append] at this
        rw [show (List.length as + 1) = (Sl.bor ys :: as).length from rfl, this]
        exact hold_start _ ⟨G, hG⟩)
      ⟨fun ρ' σ' H' ⟨ys', e0, hn⟩ l' n' hh => q (.d .none) ys' hn (by simp) .non H' (get (M := [(some .non, .d .none)]) e0 l' (by rw [List.append_nil] at hh; exact hh.non)), fun r ρ' v σ' H' ⟨ys', e0, hn, nb⟩ l' n' hh => q r ys' hn nb v H' (get (M := [(some v, r)]) e0 l' (by rw [List.append_nil] at hh; exact hh)), fun _ _ _ z => z.elim, fun _ _ _ z => z.elim⟩
    exact ⟨t, ht, hq⟩
end
/-! ### loops -/
section
variable {X : Cx} {b : Bs} {ρ : List Sl} {p : Po} {e tg : Expr} {body : List Stmt} {pos : Pos}
/-- these are the items at v -/
def itemsL (K : PySem.W.Frag) (xs : List V) (ys : List PyData) : Sl := .fact (fun v G => ∃ a, v = .ref a ∧ SqL K G a xs ∧ DpAll K G xs ys) (fun _ _ _ s ⟨a, e, h1, h2⟩ => ⟨a, e, s.seq h1, DpAll.keep s h2⟩)
def itemsT (K : PySem.W.Frag) (xs : List V) (ys : List PyData) : Sl := .fact (fun v G => ∃ a, v = .ref a ∧ SqT K G a xs ∧ DpAll K G xs ys) (fun _ _ _ s ⟨a, e, h1, h2⟩ => ⟨a, e, s.tup h1, DpAll.keep s h2⟩)
def loopI (p : Po) (I : Nat → List Sl → Prop) (i : Nat) : Po := ⟨I (i + 1), p.rt, p.nx, I (i + 1)⟩
theorem vals1_of {vs : List V} {i : Int} {K : PySem.W.Frag} {H : Hp} {L : List Cl} (lv : vs.length = 1) (h : Hold K b H ((vs.map some).zip [.d (.int i)] ++ L)) : vs = [.int i] ∧ Hold K b H L := by
  obtain ⟨v, rfl⟩ := List.length_eq_one_iff.mp lv
  have h : Hold K b H ((some v, .d (.int i)) :: L) := h
  exact ⟨by rw [h.isI], h.drop⟩
theorem xs_while {c : Expr} (hp : PassesOwn (model X.prog X.w) X.A X.env X.xe) (I : Nat → List Sl → Prop) (m0 : Nat) (h0 : I m0 ρ)
    (h : ∀ m ρ', ρ'.length = ρ.length → I m ρ' → ET X b ρ' c fun t ρ2 => ρ2.length = ρ.length → (t = true → XB X b ρ2 body ⟨fun ρ3 => ∃ m', m' < m ∧ I m' ρ3, p.rt, p.nx, fun ρ3 => ∃ m', m' < m ∧ I m' ρ3⟩) ∧ (t = false → p.nx ρ2)) : XS X b ρ (.While c body [] pos) p := fun σ H L D l hh k =>
  ⟨_, ps_while hp (wt_pt c) (wss_pss body), fun m σ' H' => ∃ ρ', I m ρ' ∧ σ'.length = ρ'.length ∧ ρ'.length = ρ.length ∧ Hold X.K b H' (σ'.zip ρ' ++ L), ⟨m0, ρ, h0, l, rfl, hh⟩, fun m σ' H' ⟨ρ', hi, l', n', hh'⟩ => h m ρ' n' hi σ' H' L _ l' hh' fun t ρ2 H2 h2 l2 hh2 => by
    have n2 := (l2.symm.trans l').trans n'
    obtain ⟨h3, h4⟩ := h2 n2
    cases t with
    | true => exact ⟨fun σ3 H3 => ∃ m', m' < m ∧ ∃ ρ', I m' ρ' ∧ σ3.length = ρ'.length ∧ ρ'.length = ρ.length ∧ Hold X.K b H3 (σ3.zip ρ' ++ L), fun _ _ z => z, h3 rfl σ' H2 L { D with nx := _, ct := _, bk := D.nx } l2 hh2 ⟨fun ρ3 σ3 H3 ⟨m', hm, z⟩ l3 n3 hh3 => ⟨m', hm, ρ3, z, l3, n3.trans n2, hh3⟩, fun r ρ3 v σ3 H3 z l3 n3 hh3 => k.rt r ρ3 v σ3 H3 z l3 (n3.trans n2) hh3, fun ρ3 σ3 H3 z l3 n3 hh3 => k.nx ρ3 σ3 H3 z l3 (n3.trans n2) hh3, fun ρ3 σ3 H3 ⟨m', hm, z⟩ l3 n3 hh3 => ⟨m', hm, ρ3, z, l3, n3.trans n2, hh3⟩⟩⟩
    | false => exact k.nx ρ2 σ' H2 (h4 rfl) l2 n2 hh2⟩
end

end DE

namespace DE
open PySem PySem.Spec PyProof.Rows L2 SZ VR VX StX RT
/-! ### comprehensions -/
def wipeR (ρ : List Sl) : List Nat → List Sl
  | [] => ρ
  | v :: vs => (wipeR ρ vs).set v .un
theorem wipeR_len (ρ : List Sl) : ∀ vs : List Nat, (wipeR ρ vs).length = ρ.length
  | [] => rfl
  | v :: vs => by unfold wipeR; rw [List.length_set, wipeR_len ρ vs]
def AllB (X : Cx) (scope : Scope) (φ : Cx → Prop) : Prop := ∀ (s : Shared) (H : Hp) (C : Addr) (cl : List (Str × Addr)) (fp : List Addr), φ (X.blk s H scope (compEnvC scope cl C X.env) fp)
def WTs (X : Cx) (es : List Expr) (σ : L2.St) (H : Hp) (Q : Bool → Hp → Prop) : Prop := ∃ t, PTs X es t ∧ t σ H Q
theorem wts_pts {X : Cx} (es : List Expr) : PTs X es (WTs X es) := ⟨fun pins s σ H Q I ⟨_, h, q⟩ => h.run pins s σ H Q I q⟩
def ETs (X : Cx) (b : Bs) (ρ : List Sl) (es : List Expr) (p : Bool → List Sl → Prop) : Prop := ∀ σ H L Q, σ.length = ρ.length → Hold X.K b H (σ.zip ρ ++ L) →
  (∀ c ρ' H', p c ρ' → σ.length = ρ'.length → Hold X.K b H' (σ.zip ρ' ++ L) → Q c H') → WTs X es σ H Q
section
variable {X : Cx} {b : Bs} {ρ : List Sl} {e : Expr} {q : Bool → List Sl → Prop}
theorem ets_nil (h : q true ρ) : ETs X b ρ [] q := fun σ H L Q l hh k => ⟨_, pts_nil, k true ρ H h l hh⟩
theorem ets_one (h : ET X b ρ e q) : ETs X b ρ [e] q := fun σ H L Q l hh k => ⟨_, pts_one (wt_pt e), h σ H L _ l hh k⟩
end
section
variable {K : PySem.W.Frag} {b : Bs} {H : Hp} {L : List Cl} {σ : L2.St} {ρ : List Sl}
theorem hold_setun {i : Nat} {x : Option V} (l : σ.length = ρ.length) (h : Hold K b H (σ.zip ρ ++ L)) : Hold K b H ((σ.set i x).zip (ρ.set i .un) ++ L) := by
  by_cases hi : i < ρ.length
  · obtain ⟨c, M, p1, p2⟩ := zip_set (r := .un) (x := x) hi l
    exact ((h.perm (p1.symm.append_right L)).drop.un (x := x)).perm (p2.append_right L)
  · rw [List.set_eq_of_length_le (by omega), List.set_eq_of_length_le (by omega)]
    exact h
theorem hold_wipe (l : σ.length = ρ.length) (h : Hold K b H (σ.zip ρ ++ L)) : ∀ vs : List Nat, Hold K b H ((L2.wipe σ vs).zip (wipeR ρ vs) ++ L)
  | [] => h
  | v :: vs => by
    unfold L2.wipe wipeR
    exact hold_setun (by rw [wipe_length, wipeR_len]; exact l) (hold_wipe l h vs)
theorem hold_unwipe {ρ : List Sl} (l : σ.length = ρ.length) : ∀ (vs : List Nat), (∀ v ∈ vs, ρ[v]? = some .un) → Hold K b H ((L2.wipe σ vs).zip ρ ++ L) → Hold K b H (σ.zip ρ ++ L)
  | [], _, h => h
  | v :: vs, hu, h => by
    unfold L2.wipe at h
    refine hold_unwipe l vs (fun u hu' => hu u (List.mem_cons_of_mem _ hu')) ?_
    have hv := hu v List.mem_cons_self
    have hi : v < ρ.length := (List.getElem?_eq_some_iff.mp hv).1
    have hs : (L2.wipe σ vs)[v]? = some ((L2.wipe σ vs)[v]'(by rw [wipe_length, l]; exact hi)) := List.getElem?_eq_getElem _
    have h2 := hold_setun (i := v) (x := (L2.wipe σ vs)[v]'(by rw [wipe_length, l]; exact hi)) (by rw [List.length_set, wipe_length]; exact l) h
    rw [List.set_set, List.set_getElem_self] at h2
    have e2 : ρ.set v .un = ρ := by
      refine List.ext_getElem? fun j => ?_
      by_cases e : v = j
      · subst e; rw [List.getElem?_set_self hi]; exact hv.symm
      · rw [List.getElem?_set_ne e]
    rw [e2] at h2
    exact h2
theorem wipeR_un {ρ : List Sl} : ∀ {vs : List Nat}, (∀ v ∈ vs, ρ[v]? = some .un) → wipeR ρ vs = ρ
  | [], _ => rfl
  | v :: vs, h => by
    unfold wipeR
    rw [wipeR_un fun u hu => h u (List.mem_cons_of_mem _ hu)]
    have hv := h v List.mem_cons_self
    have hi : v < ρ.length := (List.getElem?_eq_some_iff.mp hv).1
    refine List.ext_getElem? fun j => ?_
    by_cases e : v = j
    · subst e; rw [List.getElem?_set_self hi]; exact hv.symm
    · rw [List.getElem?_set_ne e]
theorem wipe_at {σ : L2.St} {u : Nat} : ∀ ws : List Nat, u ∈ ws → u < σ.length → (L2.wipe σ ws)[u]? = some none
  | t :: ws, h, hl => by
    show ((L2.wipe σ ws).set t none)[u]? = some none
    by_cases e : t = u
    · subst e; rw [List.getElem?_set_self (by rw [wipe_length]; exact hl)]
    · rw [List.getElem?_set_ne e]
      exact wipe_at ws (by rcases List.mem_cons.mp h with h | h; exact absurd h.symm e; exact h) hl
theorem wipe_sub {σ : L2.St} : ∀ us ws : List Nat, (∀ u ∈ us, u ∈ ws) → L2.wipe (L2.wipe σ ws) us = L2.wipe σ ws
  | [], _, _ => rfl
  | u :: us, ws, hs => by
    show (L2.wipe (L2.wipe σ ws) us).set u none = L2.wipe σ ws
    rw [wipe_sub us ws fun v hv => hs v (List.mem_cons_of_mem _ hv)]
    by_cases hl : u < (L2.wipe σ ws).length
    · refine List.ext_getElem? fun j => ?_
      by_cases e : u = j
      · subst e
        rw [List.getElem?_set_self hl]
        exact (wipe_at ws (hs u List.mem_cons_self) (by rw [wipe_length] at hl; exact hl)).symm
      · rw [List.getElem?_set_ne e]
    · rw [List.set_eq_of_length_le (by omega)]
theorem HoldG.app {G : Hp} {D : Addr} {acc : List PyData} {v : V} {z : PyData} (h : HoldG K b G H ((some v, .d z) :: (some (.ref D), .own acc) :: L)) : ∃ us, H D = some (.lst us) ∧ us.length = acc.length ∧ HoldG K b G (upd H D (.lst (us ++ [v]))) ((some (.ref D), .own (acc ++ [z])) :: L) := by
  obtain ⟨q, us, e, _, _, h3, h4⟩ := h.ok _ (List.mem_cons_of_mem _ List.mem_cons_self)
  cases e
  exact ⟨us, h3, DpAll.len h4, h.drop.put (.inl ⟨rfl, rfl⟩) (DpAll.app h4 (.cons h.seq .nil))⟩
end
section
variable {X : Cx} {b : Bs} {ρ : List Sl} {iter tg elt : Expr} {ifs : List Expr} {p : Sl → List Sl → Prop}
/-- one turn of a comprehension -/
def LcTurn (X : Cx) (b : Bs) (scope : Scope) (tg elt : Expr) (ifs : List Expr) (vs : List Nat) (y : PyData) (ρ' : List Sl) (acc : List PyData) (J : List PyData → List Sl → Prop) : Prop :=
  ∃ p1 : List Sl → Prop, AllB X scope (fun Y => EG Y b vs ρ' tg (.d y) p1) ∧ ∀ ρ2, p1 ρ2 → ∃ p2 : Bool → List Sl → Prop, AllB X scope (fun Y => ETs Y b ρ2 ifs p2) ∧ ∀ c ρ3, p2 c ρ3 →
    (c = false → J acc (wipeR ρ3 vs)) ∧ (c = true → acc.length < sizeLine ∧ AllB X scope fun Y => EV Y b ρ3 elt fun r ρ4 => ∃ z, cool r = .d z ∧ J (acc ++ [z]) (wipeR ρ4 vs))
theorem lc_go {scope : Scope} {vs : List Nat} {y : PyData} {x : V} {ρ' : List Sl} {acc : List PyData} {J : List PyData → List Sl → Prop} {σ : L2.St} {H : Hp} {D : Addr} {M : List Cl} {Nx : Hp → Prop} (ht : LcTurn X b scope tg elt ifs vs y ρ' acc J) (l : σ.length = ρ'.length)
    (hh : Hold X.K b H ((some x, .d y) :: ((L2.wipe σ vs).zip ρ' ++ (some (.ref D), .own acc) :: M)))
    (k : ∀ acc' ρ4 H', J acc' ρ4 → ρ4.length = ρ'.length → Hold X.K b H' ((L2.wipe σ vs).zip ρ4 ++ (some (.ref D), .own acc') :: M) → Nx H') :
    (fun v σ H Q => ∀ (s : Shared) (H0 : Hp) (C : Addr) (cl : List (Str × Addr)) (fp : List Addr), WG (X.blk s H0 scope (compEnvC scope cl C X.env) fp) tg v σ H Q) x (L2.wipe σ vs) H fun σ2 H2 => L2.wipe σ2 vs = L2.wipe σ vs ∧
      (fun σ H Q => ∀ (s : Shared) (H0 : Hp) (C : Addr) (cl : List (Str × Addr)) (fp : List Addr), WTs (X.blk s H0 scope (compEnvC scope cl C X.env) fp) ifs σ H Q) σ2 H2 fun c H3 =>
        if c = true then (fun σ H Q => ∀ (s : Shared) (H0 : Hp) (C : Addr) (cl : List (Str × Addr)) (fp : List Addr), WE (X.blk s H0 scope (compEnvC scope cl C X.env) fp) elt σ H Q) σ2 H3 fun y H4 => ∃ acc, H4 D = some (.lst acc) ∧ acc.length < sizeLine ∧ Nx (upd H4 D (.lst (acc ++ [y]))) else Nx H3 := by
  obtain ⟨p1, g1, t1⟩ := ht
  have lw : (L2.wipe σ vs).length = ρ'.length := by rw [wipe_length]; exact l
  intro s H0 C cl fp
  refine g1 s H0 C cl fp (L2.wipe σ vs) H _ x _ lw hh fun ρ2 σ2 H2 h2 l2 n2 w2 hh2 => ⟨?_, ?_⟩
  · rw [w2]
    exact wipe_sub vs vs fun _ h => h
  · have w2' : L2.wipe σ2 vs = L2.wipe σ vs := by
      rw [w2]
      exact wipe_sub vs vs fun _ h => h
    obtain ⟨p2, q2, t2⟩ := t1 ρ2 h2
    intro s H0 C cl fp
    refine q2 s H0 C cl fp σ2 H2 _ _ l2 hh2 fun c ρ3 H3 h3 l3 hh3 => ?_
    obtain ⟨tf, tt⟩ := t2 c ρ3 h3
    have n3 : ρ3.length = ρ'.length := l3.symm.trans (l2.trans n2)
    cases c with
    | false =>
      rw [if_neg Bool.false_ne_true]
      refine k acc _ H3 (tf rfl) (by rw [wipeR_len]; exact n3) ?_
      have := hold_wipe l3 hh3 vs
      rw [w2'] at this
      exact this
    | true =>
      rw [if_pos rfl]
      obtain ⟨hz, t3⟩ := tt rfl
      intro s H0 C cl fp
      refine t3 s H0 C cl fp σ2 H3 _ _ l3 hh3 fun r ρ4 v H4 ⟨z, er, hJ⟩ l4 hh4 => ?_
      have h5 := hh4.cool
      rw [er] at h5
      have n4 : ρ4.length = ρ'.length := l4.symm.trans (l3.trans n3)
      obtain ⟨G, hG⟩ := h5
      obtain ⟨us, e1, e2, hA⟩ := HoldG.app (hG.perm (L' := (some v, .d z) :: (some (.ref D), .own acc) :: (σ2.zip ρ4 ++ M)) (List.Perm.cons _ perm_in))
      refine ⟨us, e1, by rw [e2]; exact hz, k _ _ _ hJ (by rw [wipeR_len]; exact n4) ?_⟩
      have h6 : Hold X.K b (upd H4 D (.lst (us ++ [v]))) (σ2.zip ρ4 ++ (some (.ref D), .own (acc ++ [z])) :: M) := ⟨G, hA.perm perm_in.symm⟩
      have := hold_wipe l4 h6 vs
      rw [w2'] at this
      exact this
def lcG (X : Cx) (scope : Scope) (tg : Expr) : TG := fun v σ H Q => ∀ (s : Shared) (H0 : Hp) (C : Addr) (cl : List (Str × Addr)) (fp : List Addr), WG (X.blk s H0 scope (compEnvC scope cl C X.env) fp) tg v σ H Q
def lcT (X : Cx) (scope : Scope) (ifs : List Expr) : TT := fun σ H Q => ∀ (s : Shared) (H0 : Hp) (C : Addr) (cl : List (Str × Addr)) (fp : List Addr), WTs (X.blk s H0 scope (compEnvC scope cl C X.env) fp) ifs σ H Q
def lcE (X : Cx) (scope : Scope) (elt : Expr) : TE := fun σ H Q => ∀ (s : Shared) (H0 : Hp) (C : Addr) (cl : List (Str × Addr)) (fp : List Addr), WE (X.blk s H0 scope (compEnvC scope cl C X.env) fp) elt σ H Q
end

end DE

namespace DE
open PySem PySem.Spec PyProof.Rows L2 SZ VR VX StX RT
/-! ### what a for and a comprehension walk over -/
def EI (X : Cx) (b : Bs) (ρ : List Sl) (tg iter : Expr) (p : List PyData → List Sl → Prop) : Prop := ∃ wi, PI X tg iter wi ∧ ∀ σ H L R, σ.length = ρ.length → Hold X.K b H (σ.zip ρ ++ L) →
  (∀ (ys : List PyData) (ρ' : List Sl) (H' : Hp) (J : It) (G : Hp → Prop) (Y : Nat → Hp → V → Hp → Prop) (c : Cl), p ys ρ' → σ.length = ρ'.length → Walk J ys.length G Y → Hold X.K b H' (σ.zip ρ' ++ c :: L) → (∀ H2 L2, Hold X.K b H2 (c :: L2) → G H2) →
    (∀ i x H1 H2 L2, i < ys.length → Y i H1 x H2 → Hold X.K b H1 (c :: L2) → ∃ y, ys[i]? = some y ∧ Hold X.K b H2 ((some x, .d y) :: c :: L2)) → R J H') → wi σ H R
section
variable {X : Cx} {b : Bs} {ρ : List Sl} {tg e : Expr} {es : List Expr} {p : List PyData → List Sl → Prop}
theorem wlen {J : It} {n m : Nat} {G : Hp → Prop} {Y : Nat → Hp → V → Hp → Prop} (h : m = n) (w : Walk J n G Y) : Walk J m G Y := h ▸ w
theorem Hold.itemsL {H : Hp} {a : Addr} {xs : List V} {ys : List PyData} {L : List Cl} {K : PySem.W.Frag} (h : Hold K b H ((some (.ref a), DE.itemsL K xs ys) :: L)) : SqL K H a xs := by
  obtain ⟨G, hG⟩ := h
  obtain ⟨v, e, a', e', h1, _⟩ := hG.ok _ List.mem_cons_self
  cases e
  cases e'
  exact hG.up.seq h1
theorem Hold.itemsL_at {H : Hp} {a : Addr} {xs : List V} {ys : List PyData} {L : List Cl} {K : PySem.W.Frag} {i : Nat} {x : V} (h : Hold K b H ((some (.ref a), DE.itemsL K xs ys) :: L)) (hx : xs[i]? = some x) : ∃ y, ys[i]? = some y ∧ Hold K b H ((some x, .d y) :: (some (.ref a), DE.itemsL K xs ys) :: L) := by
  obtain ⟨G, hG⟩ := h
  obtain ⟨v, e, a', e', _, h2⟩ := hG.ok _ List.mem_cons_self
  cases e
  cases e'
  obtain ⟨y, hy, hd⟩ := DpAll.at h2 hx
  exact ⟨y, hy, G, hG.add hd⟩
theorem Hold.itemsT {H : Hp} {a : Addr} {xs : List V} {ys : List PyData} {L : List Cl} {K : PySem.W.Frag} (h : Hold K b H ((some (.ref a), DE.itemsT K xs ys) :: L)) : SqT K H a xs := by
  obtain ⟨G, hG⟩ := h
  obtain ⟨v, e, a', e', h1, _⟩ := hG.ok _ List.mem_cons_self
  cases e
  cases e'
  exact hG.up.tup h1
theorem Hold.itemsT_at {H : Hp} {a : Addr} {xs : List V} {ys : List PyData} {L : List Cl} {K : PySem.W.Frag} {i : Nat} {x : V} (h : Hold K b H ((some (.ref a), DE.itemsT K xs ys) :: L)) (hx : xs[i]? = some x) : ∃ y, ys[i]? = some y ∧ Hold K b H ((some x, .d y) :: (some (.ref a), DE.itemsT K xs ys) :: L) := by
  obtain ⟨G, hG⟩ := h
  obtain ⟨v, e, a', e', _, h2⟩ := hG.ok _ List.mem_cons_self
  cases e
  cases e'
  obtain ⟨y, hy, hd⟩ := DpAll.at h2 hx
  exact ⟨y, hy, G, hG.add hd⟩
theorem len_items {K : PySem.W.Frag} {H : Hp} {a : Addr} {xs : List V} {ys : List PyData} {L : List Cl} (h : Hold K b H ((some (.ref a), DE.itemsL K xs ys) :: L)) : xs.length = ys.length := by
  obtain ⟨G, hG⟩ := h
  obtain ⟨v, e, a', e', _, h2⟩ := hG.ok _ List.mem_cons_self
  cases e
  cases e'
  exact DpAll.len h2
theorem Hold.toL {K : PySem.W.Frag} {H : Hp} {v : V} {r : Sl} {ys : List PyData} {L : List Cl} (h : Hold K b H ((some v, r) :: L)) (er : DE.cool r = .d (.list ys)) : ∃ a xs, v = .ref a ∧ xs.length = ys.length ∧ Hold K b H ((some (.ref a), DE.itemsL K xs ys) :: L) := by
  have h2 := h.cool
  rw [er] at h2
  obtain ⟨G, hG⟩ := h2
  cases hG.seq with
  | @lst a xs _ s1 s2 => exact ⟨a, xs, rfl, DpAll.len s2, G, hG.drop.addF ⟨a, rfl, s1, s2⟩⟩
theorem Hold.toT {K : PySem.W.Frag} {H : Hp} {v : V} {ys : List PyData} {L : List Cl} (h : Hold K b H ((some v, .d (.tuple ys)) :: L)) : ∃ a xs, v = .ref a ∧ xs.length = ys.length ∧ Hold K b H ((some (.ref a), DE.itemsT K xs ys) :: L) := by
  obtain ⟨G, hG⟩ := h
  cases hG.seq with
  | @tup a xs _ s1 s2 => exact ⟨a, xs, rfl, DpAll.len s2, G, hG.drop.addF ⟨a, rfl, s1, s2⟩⟩
theorem ei_list (h : EV X b ρ e fun r ρ' => ∃ ys, cool r = .d (.list ys) ∧ p ys ρ') : EI X b ρ tg e p := ⟨_, pi_list (we_pe e), fun σ H L R l hh k => h σ H L _ l hh fun r ρ' v H' ⟨ys, er, hp⟩ l' hh' => by
  obtain ⟨a, xs, rfl, lx, h2⟩ := hh'.toL er
  refine ⟨a, rfl, ⟨xs, h2.itemsL⟩, k ys ρ' H' _ _ _ (some (.ref a), itemsL X.K xs ys) hp l' (wlen lx.symm walk_list) (h2.perm perm_in.symm) (fun H2 L2 z => z.itemsL) fun i x H1 H2 L2 hi ⟨e1, e2⟩ z => ?_⟩
  subst e1
  exact z.itemsL_at e2⟩
theorem ei_tup (h : EV X b ρ e fun r ρ' => ∃ ys, r = .d (.tuple ys) ∧ p ys ρ') : EI X b ρ tg e p := ⟨_, pi_tup (we_pe e), fun σ H L R l hh k => h σ H L _ l hh fun r ρ' v H' ⟨ys, er, hp⟩ l' hh' => by
  subst er
  obtain ⟨a, xs, rfl, lx, h2⟩ := hh'.toT
  refine ⟨a, rfl, ⟨xs, h2.itemsT⟩, k ys ρ' H' _ _ _ (some (.ref a), itemsT X.K xs ys) hp l' (wlen lx.symm walk_tup) (h2.perm perm_in.symm) (fun H2 L2 z => z.itemsT) fun i x H1 H2 L2 hi ⟨e1, e2⟩ z => ?_⟩
  subst e1
  exact z.itemsT_at e2⟩
def strD (z : Str) : List PyData := z.cps.toList.map fun c => .str ⟨#[c]⟩
theorem ei_str (h : EV X b ρ e fun r ρ' => ∃ z, r = .d (.str z) ∧ p (strD z) ρ') : EI X b ρ tg e p := ⟨_, pi_str (we_pe e), fun σ H L R l hh k => h σ H L _ l hh fun r ρ' v H' ⟨z, er, hp⟩ l' hh' => by
  subst er
  have ev := hh'.isS
  subst ev
  have lz : (strD z).length = z.cps.size := by unfold strD; simp
  refine ⟨z, rfl, k (strD z) ρ' H' _ _ _ (none, .un) hp l' (wlen lz walk_str) (hh'.drop.un.perm perm_in.symm) (fun H2 L2 z => trivial) fun i x H1 H2 L2 hi ⟨e1, c, e2, e3⟩ hz => ?_⟩
  subst e1 e3
  refine ⟨.str ⟨#[c]⟩, ?_, hz.str _⟩
  unfold strD
  rw [List.getElem?_map, Array.getElem?_toList, e2]
  rfl⟩
def rngD (lo : Int) (n : Nat) : List PyData := (List.range n).map fun i : Nat => .int (lo + (i : Int))
theorem rngD_len (lo : Int) (n : Nat) : (rngD lo n).length = n := by unfold rngD; simp
theorem rngD_at {lo : Int} {n i : Nat} (h : i < n) : (rngD lo n)[i]? = some (.int (lo + (i : Int))) := by unfold rngD; simp [h]
theorem ei_range {a : Expr} {p1 p2 : Pos} (hg : Gl X "range") (hm : X.mg "range" = none) (h : EV X b ρ a fun r ρ' => ∃ n : Int, r = .d (.int n) ∧ -(2 ^ 62) ≤ n ∧ n < 2 ^ 62 ∧ p (rngD 0 n.toNat) ρ') (hs : starEach [a] X.env = [(false, eval a X.env)] := by rfl) : EI X b ρ tg (.Call (.Name "range" p1) [a] [] p2) p :=
  ⟨_, pi_range1 hg hm (pa_cons (we_pe a) pa_nil hs) hs, fun σ H L R l hh k => h σ H L _ l hh fun r ρ' v H' ⟨n, er, b1, b2, hp⟩ l' hh' => by
    subst er
    have ev := hh'.isI
    subst ev
    refine ⟨n, rfl, b1, b2, k _ ρ' H' _ _ _ (none, .un) hp l' (wlen (rngD_len 0 n.toNat) (walk_range (lo := 0))) (hh'.drop.un.perm perm_in.symm) (fun _ _ _ => trivial) fun i x H1 H2 L2 hi ⟨e1, e2⟩ hz => ?_⟩
    subst e1 e2
    rw [rngD_len] at hi
    exact ⟨_, rngD_at hi, hz.int _⟩⟩
theorem ei_range2 {a1 a2 : Expr} {p1 p2 : Pos} (hg : Gl X "range") (hm : X.mg "range" = none) (h : EV X b ρ a1 fun r ρ1 => ∃ m : Int, r = .d (.int m) ∧ EV X b ρ1 a2 fun r ρ' => ∃ n : Int, r = .d (.int n) ∧ (-(2 ^ 62) ≤ m ∧ m < 2 ^ 62 ∧ -(2 ^ 62) ≤ n ∧ n < 2 ^ 62) ∧ p (rngD m (n - m).toNat) ρ')
    (hs : starEach [a1, a2] X.env = [(false, eval a1 X.env), (false, eval a2 X.env)] := by rfl) (hs2 : starEach [a2] X.env = [(false, eval a2 X.env)] := by rfl) (hs3 : starEach [a1, a2] X.env = (false, eval a1 X.env) :: starEach [a2] X.env := by rfl) : EI X b ρ tg (.Call (.Name "range" p1) [a1, a2] [] p2) p :=
  ⟨_, pi_range2 hg hm (pa_cons (we_pe a1) (pa_cons (we_pe a2) pa_nil hs2) hs3) hs hs2, fun σ H L R l hh k => h σ H L _ l hh fun r1 ρ1 v1 H1 ⟨m, er1, h1⟩ l1 hh1 => by
    subst er1
    have ev := hh1.isI
    subst ev
    refine h1 σ H1 L _ l1 hh1.drop fun r ρ' v H' ⟨n, er, bb, hp⟩ l' hh' => ?_
    subst er
    have ev := hh'.isI
    subst ev
    refine ⟨m, n, rfl, bb, k _ ρ' H' _ _ _ (none, .un) hp l' (wlen (rngD_len m (n - m).toNat) (walk_range (lo := m))) (hh'.drop.un.perm perm_in.symm) (fun _ _ _ => trivial) fun i x H1 H2 L2 hi ⟨e1, e2⟩ hz => ?_⟩
    subst e1 e2
    rw [rngD_len] at hi
    exact ⟨_, rngD_at hi, hz.int _⟩⟩
def enD (ys : List PyData) : List PyData := (List.range ys.length).map fun i => .tuple [.int (i : Nat), ys.getD i .none]
theorem enD_len (ys : List PyData) : (enD ys).length = ys.length := by unfold enD; simp
theorem enD_at {ys : List PyData} {i : Nat} {y : PyData} (h : ys[i]? = some y) : (enD ys)[i]? = some (.tuple [.int (i : Nat), y]) := by
  have hi := (List.getElem?_eq_some_iff.mp h).1
  unfold enD
  simp [hi]
  rw [List.getElem?_eq_getElem hi] at h
  exact Option.some.inj h
theorem ei_enum {p1 p2 tpos : Pos} {elts : List Expr} {kk : Nat} (hg : Gl X "enumerate") (hm : X.mg "enumerate" = none) (h : EV X b ρ e fun r ρ' => ∃ ys, cool r = .d (.list ys) ∧ p (enD ys) ρ') (hs : starEach [e] X.env = [(false, eval e X.env)] := by rfl) : EI X b ρ (.Tuple elts kk tpos) (.Call (.Name "enumerate" p1) [e] [] p2) p :=
  ⟨_, pi_enum hg hm (pa_cons (we_pe e) pa_nil hs) hs, fun σ H L R l hh k => h σ H L _ l hh fun r ρ' v H' ⟨ys, er, hp⟩ l' hh' => by
    obtain ⟨a, xs, rfl, lx, h2⟩ := hh'.toL er
    refine ⟨a, xs, rfl, h2.itemsL, k _ ρ' H' _ _ _ (some (.ref a), itemsL X.K xs ys) hp l' (wlen ((enD_len ys).trans lx.symm) walk_enum) (h2.perm perm_in.symm) (fun H2 L2 z => z.itemsL) fun i x H1 H2 L2 hi ⟨T, u, y, e1, e2, e3, e4, e5⟩ z => ?_⟩
    subst e1 e3
    cases e4
    obtain ⟨d, hd, hz⟩ := z.itemsL_at e5
    obtain ⟨G, hG⟩ := hz
    refine ⟨_, enD_at hd, _, hG.drop.newT e2 (.cons (.int _) (.cons hG.seq .nil))⟩⟩
/-! ### for and comprehensions -/
theorem xs_for {p : Po} {iter : Expr} {body : List Stmt} {pos : Pos} {ts : List Nat} (hp : PassesOwn (model X.prog X.w) X.A X.env X.xe) (hc : X.calm = true) (hst : ∀ x, foldedSetIterable iter X.env x = pure x := by intro _; rfl)
    (h : EI X b ρ tg iter fun ys ρ1 => ρ1.length = ρ.length → ∃ I : Nat → List Sl → Prop, I 0 ρ1 ∧ (∀ i y ρ', ys[i]? = some y → ρ'.length = ρ.length → I i ρ' → EG X b ts ρ' tg (.d y) fun ρ2 => ρ2.length = ρ.length → XB X b ρ2 body (loopI p I i)) ∧ ∀ ρ', I ys.length ρ' → p.nx ρ') : XS X b ρ (.For tg iter body [] pos) p := fun σ H L D l hh k => by
  obtain ⟨wi, hi, h⟩ := h
  refine ⟨_, ps_for hp hc hi (wg_pg tg) (wss_pss body) hst, h σ H L _ l hh fun ys ρ1 H1 J G Y c h1 l1 W hh1 hG hY => ?_⟩
  have n1 := l1.symm.trans l
  obtain ⟨I, i0, hs, hd⟩ := h1 n1
  refine for_it W (fun i σ' H' => ∃ ρ', I i ρ' ∧ σ'.length = ρ'.length ∧ ρ'.length = ρ.length ∧ Hold X.K b H' (σ'.zip ρ' ++ c :: L)) ⟨ρ1, i0, l1, n1, hh1⟩ (fun i σ' H' _ ⟨ρ', _, _, _, hh'⟩ => hG H' _ (hh'.perm perm_in)) (fun i x σ' H1' H2' hi ⟨ρ', hI, l', n', hh'⟩ hy => ?_) (fun σ' H' ⟨ρ', hI, l', n', hh'⟩ => k.nx ρ' σ' H' (hd ρ' hI) l' n' ((hh'.perm perm_in).drop))
  obtain ⟨y, ey, hz⟩ := hY i x H1' H2' _ hi hy (hh'.perm perm_in)
  refine hs i y ρ' ey n' hI σ' H2' (c :: L) x _ l' (hz.perm (List.Perm.cons _ perm_in.symm)) fun ρ2 σ2 H2 h3 l2 n2 _ hh2 => ?_
  exact h3 (n2.trans n') σ2 H2 _ { D with nx := _, ct := _, bk := D.nx } l2 hh2 ⟨fun ρ3 σ3 H3 z l3 n3 hh3 => ⟨ρ3, z, l3, n3.trans (n2.trans n'), hh3⟩, fun r ρ3 v σ3 H3 z l3 n3 hh3 => k.rt r ρ3 v σ3 H3 z l3 (n3.trans (n2.trans n')) ((hh3.perm (L' := c :: ((some v, r) :: (σ3.zip ρ3 ++ L))) ((List.Perm.swap ..).trans (List.Perm.cons _ perm_in))).drop),
          fun ρ3 σ3 H3 z l3 n3 hh3 => k.nx ρ3 σ3 H3 z l3 (n3.trans (n2.trans n')) ((hh3.perm perm_in).drop), fun ρ3 σ3 H3 z l3 n3 hh3 => ⟨ρ3, z, l3, n3.trans (n2.trans n'), hh3⟩⟩
theorem lc_all {p : Sl → List Sl → Prop} {iter elt : Expr} {ifs : List Expr} {scope : Scope} {own : List (Str × Nat)} 
    (h : EI X b ρ tg iter fun ys ρ1 => ρ1.length = ρ.length → ∃ I : Nat → List PyData → List Sl → Prop, I 0 [] ρ1 ∧ (∀ i acc ρ', I i acc ρ' → ∀ v ∈ own.map (·.2), ρ'[v]? = some .un) ∧
      (∀ i y acc ρ', ys[i]? = some y → ρ'.length = ρ.length → I i acc ρ' → LcTurn X b scope tg elt ifs (own.map (·.2)) y ρ' acc (I (i + 1))) ∧ ∀ acc ρ', I ys.length acc ρ' → p (.own acc) ρ') :
    ∃ wi, PI X tg iter wi ∧ ∀ σ H L Q, σ.length = ρ.length → Hold X.K b H (σ.zip ρ ++ L) → (∀ r ρ' v H', p r ρ' → σ.length = ρ'.length → Hold X.K b H' ((some v, r) :: (σ.zip ρ' ++ L)) → Q v H') → tLc wi (lcG X scope tg) (lcT X scope ifs) (lcE X scope elt) (own.map (·.2)) σ H Q := by
  obtain ⟨wi, hi, h⟩ := h
  refine ⟨wi, hi, fun σ H L Q l hh k => h σ H L _ l hh fun ys ρ1 H1 J G Y c h1 l1 W hh1 hG hY D hD => ?_⟩
  have n1 := l1.symm.trans l
  obtain ⟨I, i0, hun, hst, hd⟩ := h1 n1
  refine lc_it W (fun i H' => ∃ acc ρ', I i acc ρ' ∧ ρ'.length = ρ.length ∧ Hold X.K b H' ((L2.wipe σ (own.map (·.2))).zip ρ' ++ (some (.ref D), .own acc) :: c :: L))
    ⟨[], ρ1, i0, n1, ?_⟩ (fun i H' _ ⟨acc, ρ', _, _, hh'⟩ => hG H' ((L2.wipe σ (own.map (·.2))).zip ρ' ++ (some (.ref D), .own acc) :: L) (hh'.perm ?_)) (fun i x H1' H2' hi ⟨acc, ρ', hI, n', hh'⟩ hy => ?_) (fun H' ⟨acc, ρ', hI, n', hh'⟩ => ?_)
  · obtain ⟨G', h3⟩ := hh1
    have h4 : Hold X.K b (upd H1 D (.lst [])) (σ.zip ρ1 ++ (some (.ref D), .own []) :: c :: L) := ⟨G', (h3.newL hD .nil).perm perm_in.symm⟩
    have h5 := hold_wipe l1 h4 (own.map (·.2))
    rw [wipeR_un (hun 0 [] ρ1 i0)] at h5
    exact h5
  · exact perm_in.trans (List.Perm.append_left _ (List.Perm.swap ..))
  · obtain ⟨y, ey, hz⟩ := hY i x H1' H2' ((L2.wipe σ (own.map (·.2))).zip ρ' ++ (some (.ref D), .own acc) :: L) hi hy (hh'.perm (perm_in.trans (List.Perm.append_left _ (List.Perm.swap ..))))
    exact lc_go (M := c :: L) (hst i y acc ρ' ey n' hI) (l1.trans (n1.trans n'.symm)) (hz.perm (List.Perm.cons _ (perm_in.trans (List.Perm.append_left _ (List.Perm.swap ..))).symm)) fun acc' ρ4 H4 hJ n4 hh4 => ⟨acc', ρ4, hJ, n4.trans n', hh4⟩
  · have h2 := hold_unwipe (l1.trans (n1.trans n'.symm)) _ (hun _ _ _ hI) hh'
    exact k _ ρ' _ H' (hd acc ρ' hI) (l1.trans (n1.trans n'.symm)) ((h2.perm (L' := c :: (some (.ref D), .own acc) :: (σ.zip ρ' ++ L)) ((List.Perm.swap ..).trans ((List.Perm.cons _ perm_in).trans perm_in))).drop)
theorem ev_lc {p : Sl → List Sl → Prop} {iter elt : Expr} {ifs : List Expr} {scope : Scope} (own : List (Str × Nat)) {pos : Pos} (hc : X.calm = true) (hN : X.N.Nodup) (ok : BlkOk X.N X.env.scope scope own)
    (h : EI X b ρ tg iter fun ys ρ1 => ρ1.length = ρ.length → ∃ I : Nat → List PyData → List Sl → Prop, I 0 [] ρ1 ∧ (∀ i acc ρ', I i acc ρ' → ∀ v ∈ own.map (·.2), ρ'[v]? = some .un) ∧
      (∀ i y acc ρ', ys[i]? = some y → ρ'.length = ρ.length → I i acc ρ' → LcTurn X b scope tg elt ifs (own.map (·.2)) y ρ' acc (I (i + 1))) ∧ ∀ acc ρ', I ys.length acc ρ' → p (.own acc) ρ')
    (hs : ∀ x, foldedSetIterable iter X.env x = pure x := by intro _; rfl) : EV X b ρ (.ListComp elt [⟨tg, iter, ifs, 0⟩] scope pos) p := fun σ H L Q l hh k => by
  obtain ⟨wi, hi, g⟩ := lc_all h
  exact ⟨_, pe_lc (g := lcG X scope tg) (tt := lcT X scope ifs) (te := lcE X scope elt) hc hN hi ok (fun s H C cl fp => ⟨fun pins s' σ H' v u Q I r q => (wg_pg tg).run pins s' σ H' v u Q I r (q s H C cl fp)⟩) (fun s H C cl fp => ⟨fun pins s' σ H' Q I q => (wts_pts ifs).run pins s' σ H' Q I (q s H C cl fp)⟩) (fun s H C cl fp => ⟨fun pins s' σ H' Q I q => (we_pe elt).run pins s' σ H' Q I (q s H C cl fp)⟩) hs, g σ H L Q l hh k⟩
/-- name = [..] in one row -/
theorem xs_setLc {p : Po} (i : Nat) {y : Str} {py spos : Pos} {iter elt : Expr} {ifs : List Expr} {scope : Scope} (own : List (Str × Nat)) {pos : Pos} (hc : X.calm = true) (hN : X.N.Nodup) (hy : X.N[i]? = some y) (hl : i < ρ.length) (hyl : X.env.scope.names.lookup y = some .local)
    (hsw : swapsWith (.ListComp elt [⟨tg, iter, ifs, 0⟩] scope pos) (some (.Name y py)) spos.line X.env = pure true) (ok : BlkOk X.N X.env.scope scope own)
    (h : EI X b ρ tg iter fun ys ρ1 => ρ1.length = ρ.length → ∃ I : Nat → List PyData → List Sl → Prop, I 0 [] ρ1 ∧ (∀ i acc ρ', I i acc ρ' → ∀ v ∈ own.map (·.2), ρ'[v]? = some .un) ∧
      (∀ i y acc ρ', ys[i]? = some y → ρ'.length = ρ.length → I i acc ρ' → LcTurn X b scope tg elt ifs (own.map (·.2)) y ρ' acc (I (i + 1))) ∧ ∀ acc ρ', I ys.length acc ρ' → ρ'.length = ρ.length → p.nx (ρ'.set i (.own acc)))
    (hs : ∀ x, foldedSetIterable iter X.env x = pure x := by intro _; rfl) : XS X b ρ (.Assign [.Name y py] (.ListComp elt [⟨tg, iter, ifs, 0⟩] scope pos) spos) p := fun σ H L D l hh k => by
  obtain ⟨wi, hi, g⟩ := lc_all (p := fun r ρ' => ρ'.length = ρ.length → p.nx (ρ'.set i r)) h
  refine ⟨_, ps_setLc (g := lcG X scope tg) (tt := lcT X scope ifs) (te := lcE X scope elt) hc hN hy hyl hsw hi ok (fun s H C cl fp => ⟨fun pins s' σ H' v u Q I r q => (wg_pg tg).run pins s' σ H' v u Q I r (q s H C cl fp)⟩) (fun s H C cl fp => ⟨fun pins s' σ H' Q I q => (wts_pts ifs).run pins s' σ H' Q I (q s H C cl fp)⟩) (fun s H C cl fp => ⟨fun pins s' σ H' Q I q => (we_pe elt).run pins s' σ H' Q I (q s H C cl fp)⟩) hs, ?_⟩
  refine g σ H L _ l hh fun r ρ' v H' h1 l' hh' => ?_
  have n' := l'.symm.trans l
  obtain ⟨c, M, p1, p2⟩ := zip_set (r := r) (x := some v) (by rw [n']; exact hl) l'
  refine k.nx _ _ H' (h1 n') (by simp [l']) (by simp [n']) ?_
  have h2 : Hold X.K b H' (c :: ((some v, r) :: (M ++ L))) := hh'.perm ((List.Perm.swap ..).trans (List.Perm.cons _ (p1.symm.append_right L)))
  exact h2.drop.perm (p2.append_right L)
end

end DE

namespace DE
open PySem PySem.Spec PyProof.Rows L2 SZ VR VX StX RT
section
variable {X : Cx} {b : Bs} {ρ : List Sl} {p : Sl → List Sl → Prop} {e e1 e2 : Expr} {pos : Pos}
/-! ### x.append(e), x.extend(e): the list that the name at slot i holds alone -/
theorem slot_ref {i : Nat} {s : Sl} {ys : List PyData} {σ : L2.St} {H : Hp} {L : List Cl} (l : σ.length = ρ.length) (hr : ρ[i]? = some s) (hs : s = .own ys ∨ s = .bor ys) (hh : Hold X.K b H (σ.zip ρ ++ L)) : ∃ a, σ[i]? = some (some (.ref a)) := by
  obtain ⟨x, hx, hm⟩ := zip_mem l hr
  obtain ⟨G, hG⟩ := hh
  have ok := hG.ok _ (List.mem_append_left _ hm)
  rcases hs with rfl | rfl
  · obtain ⟨q, _, e, _⟩ := ok; subst e; exact ⟨q, hx⟩
  · obtain ⟨q, _, e, _⟩ := ok; subst e; exact ⟨q, hx⟩
theorem cell_lst {K : PySem.W.Frag} {G H : Hp} {a : Addr} {s : Sl} {ys : List PyData} {L : List Cl} (h : HoldG K b G H ((some (.ref a), s) :: L)) (hs : s = .own ys ∨ s = .bor ys) : ∃ us, H a = some (.lst us) ∧ us.length = ys.length ∧ DpAll K G us ys := by
  have ok := h.ok _ List.mem_cons_self
  rcases hs with rfl | rfl
  · obtain ⟨q, us, e, _, _, h3, h4⟩ := ok; cases e; exact ⟨us, h3, DpAll.len h4, h4⟩
  · obtain ⟨q, us, e, _, _, h3, h4⟩ := ok; cases e; exact ⟨us, h3, DpAll.len h4, h4⟩
theorem xs_append (i : Nat) {p : Po} {x : Str} {p1 p2 p3 p4 : Pos} (hN : X.N[i]? = some x) (hv : Vis X.env.scope x)
    (h : EV X b ρ e fun r ρ' => ρ'.length = ρ.length → ∃ s ys z, cool r = .d z ∧ ρ'[i]? = some s ∧ (s = .own ys ∨ s = .bor ys) ∧ ys.length < sizeLine ∧ p.nx (ρ'.set i (setS s (ys ++ [z])))) (h0 : ∃ s ys, ρ[i]? = some s ∧ (s = .own ys ∨ s = .bor ys))
    (hd : (x == ("__debug__" : Str)) = false := by decide) (hcd : (x == ("__classdict__" : Str)) = false := by decide)
    (hbase : attributeBase (.Name x p1) "append" X.env (eval (.Name x p1) X.env) = eval (.Name x p1) X.env := by rfl)
    (hfew : ((backTo p3 (starEach [e] X.env)).all (fun x => !x.1) && (backToKw p3 (keywordEach [] X.env)).all (fun x => x.1.isSome) && decide (([e] : List Expr).length + ([] : List Keyword).length + (if ([] : List Keyword).isEmpty then 0 else 1) < 30)) = true := by rfl)
    (hline : (p2.endLine == p3.line) = true := by rfl) (hse : starEach [e] X.env = (false, eval e X.env) :: starEach [] X.env := by rfl) (hpl : (backTo p3 (starEach [] X.env)).any (·.1) = false := by rfl)
    (hsw : swapsWith (.Call (.Attribute (.Name x p1) "append" p2) [e] [] p3) none p4.line X.env = pure false := by rfl) : XS X b ρ (.Expr (.Call (.Attribute (.Name x p1) "append" p2) [e] [] p3) p4) p := fun σ H L D l hh k => by
  obtain ⟨s0, ys0, h0r, h0s⟩ := h0
  obtain ⟨a, ha⟩ := slot_ref l h0r h0s hh
  refine ⟨_, ps_expr (pe_bm PySem.F.plainAttrs_list PySem.F.slot_list_append PySem.F.type_list_append mt_append (pe_var hN hv hd hcd) (pa_cons (we_pe e) pa_nil hse) hbase hfew hline hse hpl) hsw, .ref a, ha, ?_, ?_⟩
  · obtain ⟨x0, hx0, hm⟩ := zip_mem l h0r
    rw [ha] at hx0
    cases hx0
    obtain ⟨G, hG⟩ := hh
    have ok := hG.ok _ (List.mem_append_left _ hm)
    rcases h0s with rfl | rfl
    · obtain ⟨q, us, e, _, _, h3, _⟩ := ok; cases e; exact .inl ⟨rfl, us, .of h3⟩
    · obtain ⟨q, us, e, _, _, h3, _⟩ := ok; cases e; exact .inl ⟨rfl, us, .of h3⟩
  · refine h σ H L _ l hh fun r ρ' v H' h1 l' hh' => ?_
    have n' := l'.symm.trans l
    obtain ⟨s, ys, z, er, hr, hs, hz, hp⟩ := h1 n'
    have hh2 := hh'.cool
    rw [er] at hh2
    obtain ⟨M, q1, q2⟩ := set_perm (s' := setS s (ys ++ [z])) hr ha
    obtain ⟨G, hG⟩ := hh2
    have hG2 : HoldG X.K b G H' ((some (.ref a), s) :: (some v, .d z) :: (M ++ L)) := hG.perm ((List.Perm.swap ..).trans (List.Perm.cons _ (q1.symm.append_right L)))
    obtain ⟨us, e1, e2, e3⟩ := cell_lst hG2 hs
    refine ⟨a, us, v, rfl, rfl, e1, by rw [e2]; exact hz, k.nx _ _ _ hp (by simp [l']) (by simp [n']) ?_⟩
    have hv : Dp X.K G v z := hG.seq
    have hput := hG2.put (s' := setS s (ys ++ [z])) (ys := ys) (ys' := ys ++ [z]) (vs := us ++ [v]) (by rcases hs with rfl | rfl <;> simp [setS]) (DpAll.app e3 (.cons hv .nil))
    exact ⟨G, ((hput.perm ((List.Perm.swap ..))).drop).perm (q2.append_right L)⟩
theorem xs_extend (i : Nat) {p : Po} {x : Str} {p1 p2 p3 p4 : Pos} (hN : X.N[i]? = some x) (hv : Vis X.env.scope x)
    (h : EV X b ρ e fun r ρ' => ρ'.length = ρ.length → ∃ s ys zs, r = .own zs ∧ ρ'[i]? = some s ∧ (s = .own ys ∨ s = .bor ys) ∧ ys.length + zs.length ≤ sizeLine ∧ p.nx (ρ'.set i (setS s (ys ++ zs)))) (h0 : ∃ s ys, ρ[i]? = some s ∧ (s = .own ys ∨ s = .bor ys))
    (hd : (x == ("__debug__" : Str)) = false := by decide) (hcd : (x == ("__classdict__" : Str)) = false := by decide)
    (hbase : attributeBase (.Name x p1) "extend" X.env (eval (.Name x p1) X.env) = eval (.Name x p1) X.env := by rfl)
    (hfew : ((backTo p3 (starEach [e] X.env)).all (fun x => !x.1) && (backToKw p3 (keywordEach [] X.env)).all (fun x => x.1.isSome) && decide (([e] : List Expr).length + ([] : List Keyword).length + (if ([] : List Keyword).isEmpty then 0 else 1) < 30)) = true := by rfl)
    (hline : (p2.endLine == p3.line) = true := by rfl) (hse : starEach [e] X.env = (false, eval e X.env) :: starEach [] X.env := by rfl) (hpl : (backTo p3 (starEach [] X.env)).any (·.1) = false := by rfl)
    (hsw : swapsWith (.Call (.Attribute (.Name x p1) "extend" p2) [e] [] p3) none p4.line X.env = pure false := by rfl) : XS X b ρ (.Expr (.Call (.Attribute (.Name x p1) "extend" p2) [e] [] p3) p4) p := fun σ H L D l hh k => by
  obtain ⟨s0, ys0, h0r, h0s⟩ := h0
  obtain ⟨a, ha⟩ := slot_ref l h0r h0s hh
  refine ⟨_, ps_expr (pe_bm PySem.F.plainAttrs_list PySem.F.slot_list_extend PySem.F.type_list_extend mt_extend (pe_var hN hv hd hcd) (pa_cons (we_pe e) pa_nil hse) hbase hfew hline hse hpl) hsw, .ref a, ha, ?_, ?_⟩
  · obtain ⟨x0, hx0, hm⟩ := zip_mem l h0r
    rw [ha] at hx0
    cases hx0
    obtain ⟨G, hG⟩ := hh
    have ok := hG.ok _ (List.mem_append_left _ hm)
    rcases h0s with rfl | rfl
    · obtain ⟨q, us, e, _, _, h3, _⟩ := ok; cases e; exact .inl ⟨rfl, us, .of h3⟩
    · obtain ⟨q, us, e, _, _, h3, _⟩ := ok; cases e; exact .inl ⟨rfl, us, .of h3⟩
  · refine h σ H L _ l hh fun r ρ' v H' h1 l' hh' => ?_
    have n' := l'.symm.trans l
    obtain ⟨s, ys, zs, er, hr, hs, hz, hp⟩ := h1 n'
    subst er
    obtain ⟨M, q1, q2⟩ := set_perm (s' := setS s (ys ++ zs)) hr ha
    obtain ⟨G, hG⟩ := hh'
    have hG2 : HoldG X.K b G H' ((some (.ref a), s) :: (some v, .own zs) :: (M ++ L)) := hG.perm ((List.Perm.swap ..).trans (List.Perm.cons _ (q1.symm.append_right L)))
    obtain ⟨us, e1, e2, e3⟩ := cell_lst hG2 hs
    obtain ⟨q, ws, ev, _, _, w3, w4⟩ := hG2.ok _ (List.mem_cons_of_mem _ List.mem_cons_self)
    cases ev
    refine ⟨a, q, us, ws, rfl, rfl, e1, w3, by rw [e2, DpAll.len w4]; exact hz, k.nx _ _ _ hp (by simp [l']) (by simp [n']) ?_⟩
    have hput := hG2.put (s' := setS s (ys ++ zs)) (ys := ys) (ys' := ys ++ zs) (vs := us ++ ws) (by rcases hs with rfl | rfl <;> simp [setS]) (DpAll.app e3 w4)
    exact ⟨G, ((hput.perm ((List.Perm.swap ..))).drop).perm (q2.append_right L)⟩
/-- sep.join(texts) -/
theorem ev_join {p1 p2 : Pos} (h : EV X b ρ e1 fun r1 ρ1 => ∃ a, r1 = .d (.str a) ∧ EV X b ρ1 e2 fun r2 ρ2 => ∃ ys : List Str, (cool r2 = .d (.list (ys.map .str)) ∨ r2 = .d (.tuple (ys.map .str))) ∧ (ys.map (·.length)).sum + ys.length * a.length ≤ 16777216 ∧ p (.d (.str (Txt.join a ys))) ρ2)
    (hs : starEach [e2] X.env = [(false, eval e2 X.env)] := by rfl) (hbase : attributeBase e1 "join" X.env (eval e1 X.env) = eval e1 X.env := by rfl) (hline : (p1.endLine == p2.line) = true := by rfl) : EV X b ρ (.Call (.Attribute e1 "join" p1) [e2] [] p2) p := fun σ H L Q l hh k =>
  ⟨_, pe_join (we_pe e1) (we_pe e2) hs hbase hline, h σ H L _ l hh fun r1 ρ1 v1 H1 ⟨a, er, h1⟩ l1 hh1 => by
    subst er
    have ev := hh1.isS
    subst ev
    refine ⟨⟨_, rfl⟩, h1 σ H1 L _ l1 hh1.drop fun r2 ρ2 v2 H2 ⟨ys, h2, hz, hp⟩ l2 hh2 => ?_⟩
    rcases h2 with h2 | h2
    · obtain ⟨q, xs, rfl, lx, h3⟩ := hh2.toL h2
      obtain ⟨G, hG⟩ := id h3
      obtain ⟨v, ev, a', ea, s1, s2⟩ := hG.ok _ List.mem_cons_self
      cases ev
      cases ea
      have := dp_strs s2
      subst this
      exact ⟨a, q, ys, rfl, rfl, .inl h3.itemsL, hz, k _ ρ2 _ H2 hp l2 (h3.drop.str _)⟩
    · subst h2
      obtain ⟨q, xs, rfl, lx, h3⟩ := hh2.toT
      obtain ⟨G, hG⟩ := id h3
      obtain ⟨v, ev, a', ea, s1, s2⟩ := hG.ok _ List.mem_cons_self
      cases ev
      cases ea
      have := dp_strs s2
      subst this
      exact ⟨a, q, ys, rfl, rfl, .inr h3.itemsT, hz, k _ ρ2 _ H2 hp l2 (h3.drop.str _)⟩⟩
/-! ### slices -/
def WO (X : Cx) (o : Option Expr) (σ : L2.St) (H : Hp) (Q : Option Int → Hp → Prop) : Prop := ∃ t, PO X o t ∧ t σ H Q
theorem wo_po (o : Option Expr) : PO X o (WO X o) := ⟨fun pins s σ H Q I ⟨_, h, q⟩ => h.run pins s σ H Q I q⟩
def EO (X : Cx) (b : Bs) (ρ : List Sl) (o : Option Expr) (p : Option Int → List Sl → Prop) : Prop := match o with
  | none => p none ρ
  | some e => EV X b ρ e fun r ρ' => ∃ i, r = .d (.int i) ∧ p (some i) ρ'
theorem eo_go {o : Option Expr} {p : Option Int → List Sl → Prop} (h : EO X b ρ o p) : ∀ σ H L Q, σ.length = ρ.length → Hold X.K b H (σ.zip ρ ++ L) → (∀ c ρ' H', p c ρ' → σ.length = ρ'.length → Hold X.K b H' (σ.zip ρ' ++ L) → Q c H') → WO X o σ H Q := fun σ H L Q l hh k => by
  cases o with
  | none => exact ⟨_, po_none, k none ρ H h l hh⟩
  | some e => exact ⟨_, po_some (we_pe e), h σ H L _ l hh fun r ρ' v H' ⟨i, er, hp⟩ l' hh' => by
      subst er
      have ev := hh'.isI
      subst ev
      exact ⟨i, rfl, k (some i) ρ' H' hp l' hh'.drop⟩⟩
def sSl (X : Cx) : V → Option Int → Option Int → Hp → VK → Prop := fun x lo hi H Q => ∃ rr : V → Option Int → Option Int → Hp → VK → Prop, SlR X rr ∧ rr x lo hi H Q
theorem ssl_ok : SlR X (sSl X) := fun pins s σ H x v vl vu lo hi sl Q I rx hs pl pu ⟨_, h, q⟩ => h pins s σ H x v vl vu lo hi sl Q I rx hs pl pu q
/-- the cut of a value -/
inductive Cut : Sl → Option Int → Option Int → (Sl → Prop) → Prop
  | str {z : Str} {lo hi : Option Int} {p : Sl → Prop} : z.length ≤ sizeLine → p (.d (.str (cutS z lo hi))) → Cut (.d (.str z)) lo hi p
  | lst {r : Sl} {ys : List PyData} {lo hi : Option Int} {p : Sl → Prop} : cool r = .d (.list ys) → p (.own (((ys.drop (HT.sIx ys.length 0 lo)).take (HT.sIx ys.length ys.length hi - HT.sIx ys.length 0 lo)))) → Cut r lo hi p
  | tup {ys : List PyData} {lo hi : Option Int} {p : Sl → Prop} : p (.d (.tuple (((ys.drop (HT.sIx ys.length 0 lo)).take (HT.sIx ys.length ys.length hi - HT.sIx ys.length 0 lo))))) → Cut (.d (.tuple ys)) lo hi p
theorem DpAll.drop2 {K : PySem.W.Frag} {G : Hp} : ∀ {xs : List V} {ys : List PyData} (n : Nat), DpAll K G xs ys → DpAll K G (xs.drop n) (ys.drop n)
  | _, _, 0, h => by simpa using h
  | _, _, _ + 1, .nil => by simpa using DpAll.nil
  | _, _, n + 1, .cons _ h => by simpa using DpAll.drop2 n h
theorem DpAll.take2 {K : PySem.W.Frag} {G : Hp} : ∀ {xs : List V} {ys : List PyData} (n : Nat), DpAll K G xs ys → DpAll K G (xs.take n) (ys.take n)
  | _, _, 0, h => by simpa using DpAll.nil
  | _, _, _ + 1, .nil => by simpa using DpAll.nil
  | _, _, n + 1, .cons g h => by simpa using DpAll.cons g (DpAll.take2 n h)
theorem ev_slice {lo hi : Option Expr} {p1 p2 : Pos} (h : EV X b ρ e fun r ρ1 => (∀ ys, r ≠ .bor ys) ∧ EO X b ρ1 lo fun l ρ2 => EO X b ρ2 hi fun u ρ3 => Cut r l u fun r' => p r' ρ3) : EV X b ρ (.Subscript e (.Slice lo hi none p1) p2) p := fun σ H L Q l hh k =>
  ⟨_, pe_slice ssl_ok (we_pe e) (wo_po lo) (wo_po hi), h σ H L _ l hh fun r ρ1 v H1 ⟨nb, h1⟩ l1 hh1 => eo_go h1 σ H1 ((some v, r) :: L) _ l1 (hh1.perm perm_in.symm) fun lv ρ2 H2 h2 l2 hh2 => eo_go h2 σ H2 ((some v, r) :: L) _ l2 hh2 fun uv ρ3 H3 h3 l3 hh3 => by
    have hh4 := hh3.perm (perm_in (A := σ.zip ρ3))
    cases h3 with
    | str hz hp =>
      have ev := hh4.isS
      subst ev
      exact ⟨_, sl_str, _, rfl, hz, k _ ρ3 _ H3 hp l3 (hh4.drop.str _)⟩
    | lst er hp =>
      obtain ⟨a, xs, rfl, lx, h5⟩ := hh4.toL er
      refine ⟨_, sl_list, a, xs, rfl, h5.itemsL, fun q hq => k _ ρ3 _ _ hp l3 ?_⟩
      obtain ⟨G, hG⟩ := h5
      obtain ⟨v', ev, a', ea, s1, s2⟩ := hG.ok _ List.mem_cons_self
      cases ev
      cases ea
      refine ⟨G, hG.drop.newL hq ?_⟩
      unfold cutV
      rw [lx]
      exact DpAll.take2 _ (DpAll.drop2 _ s2)
    | tup hp =>
      obtain ⟨a, xs, rfl, lx, h5⟩ := hh4.toT
      obtain ⟨G, hG⟩ := id h5
      obtain ⟨v', ev, a', ea, s1, s2⟩ := hG.ok _ List.mem_cons_self
      cases ev
      cases ea
      refine ⟨_, sl_tupA, a, xs, rfl, h5.itemsT, fun w => ?_, fun _ q hq => ?_⟩
      · refine k _ ρ3 _ H3 hp l3 ⟨G, hG.drop.add ?_⟩
        have w1 := w.1
        have w2 := w.2
        rw [lx] at w1 w2
        rw [w1, w2, List.drop_zero, Nat.sub_zero, List.take_of_length_le (Nat.le_refl _)]
        exact .tup s1 s2
      · refine k _ ρ3 _ _ hp l3 ⟨_, hG.drop.newT hq ?_⟩
        unfold cutV
        rw [lx]
        exact DpAll.take2 _ (DpAll.drop2 _ s2)⟩
/-- the operands are changed no more -/
theorem OV.cool {f : Value → Value → Sem Value} {r1 r2 : Sl} {p : Sl → Prop} (h : OV X b f (DE.cool r1) (DE.cool r2) p) : OV X b f r1 r2 p := by
  obtain ⟨rr, ho, k⟩ := h
  refine ⟨rr, ho, fun v1 v2 H L Q hh q => k v1 v2 H L Q ?_ q⟩
  have h1 := hh.cool
  exact ((h1.perm (List.Perm.swap ..)).cool).perm (List.Perm.swap ..)
theorem IV.cool {r1 r2 : Sl} {p : Sl → Prop} (h : IV X b (DE.cool r1) (DE.cool r2) p) : IV X b r1 r2 p := by
  obtain ⟨rr, ho, k⟩ := h
  refine ⟨rr, ho, fun v1 v2 H L Q hh q => k v1 v2 H L Q ?_ q⟩
  have h1 := hh.cool
  exact ((h1.perm (List.Perm.swap ..)).cool).perm (List.Perm.swap ..)
theorem dp_ints {K : PySem.W.Frag} {G : Hp} : ∀ {xs : List V} {ys : List Int}, DpAll K G xs (ys.map .int) → xs = ys.map .int
  | [], [], _ => rfl
  | [], _ :: _, h => by cases h
  | _ :: _, [], h => by cases h
  | x :: xs, y :: ys, h => by
    cases h with
    | cons h1 h2 =>
      cases h1
      rw [dp_ints h2, List.map_cons]
theorem intIn (z : Int) : ∀ l : List Int, inV (.int z) (l.map V.int) = l.contains z
  | [] => rfl
  | x :: l => by
    have ih := intIn z l
    unfold inV at ih ⊢
    rw [List.map_cons, List.any_cons, ih, List.contains_cons]
    congr 1
    simp only [eqV]
    first | rfl | exact Bool.beq_comm .. | (rw [Bool.eq_iff_iff]; simp [eq_comm])
theorem intFlat (l : List Int) : (l.map V.int).all flatV = true := by
  rw [List.all_map]
  exact List.all_eq_true.mpr fun _ _ => rfl
theorem ov_inI {x : Int} {ys : List Int} {y : PyData} {p : Sl → Prop} (hy : y = .tuple (ys.map .int) ∨ y = .list (ys.map .int)) (h : p (.d (.bool (ys.contains x)))) : OV X b (compareOp .In) (.d (.int x)) (.d y) p := ⟨_, op_in_seq, fun v1 v2 H L Q hh k => by
  have e1 := hh.isI
  subst e1
  have hd := hh.drop.dp
  rcases hy with rfl | rfl
  · cases hd with
    | tup h1 h2 =>
      have e := dp_ints h2
      subst e
      refine ⟨_, _, rfl, .inr h1, rfl, intFlat _, ?_⟩
      rw [intIn]
      exact k _ _ H h (hh.drop.drop.bl _)
  · cases hd with
    | lst h1 h2 =>
      have e := dp_ints h2
      subst e
      refine ⟨_, _, rfl, .inl h1, rfl, intFlat _, ?_⟩
      rw [intIn]
      exact k _ _ H h (hh.drop.drop.bl _)⟩
/-- one sign in a text -/
theorem ov_inC {c : Nat} {z : Str} {p : Sl → Prop} (h : p (.d (.bool (decide (c ∈ z.cps.toList))))) : OV X b (compareOp .In) (.d (.str ⟨#[c]⟩)) (.d (.str z)) p := ⟨_, op_inS, fun v1 v2 H L Q hh k => by
  have e1 := hh.isS
  have e2 := hh.drop.isS
  subst e1 e2
  exact ⟨c, z, rfl, rfl, k _ _ H h (hh.drop.drop.bl _)⟩⟩
theorem ov_notInC {c : Nat} {z : Str} {p : Sl → Prop} (h : p (.d (.bool (!decide (c ∈ z.cps.toList))))) : OV X b (compareOp .NotIn) (.d (.str ⟨#[c]⟩)) (.d (.str z)) p := ⟨_, op_notInS, fun v1 v2 H L Q hh k => by
  have e1 := hh.isS
  have e2 := hh.drop.isS
  subst e1 e2
  exact ⟨c, z, rfl, rfl, k _ _ H h (hh.drop.drop.bl _)⟩⟩
/-- x, y = e1, e2 -/
theorem xs_par (i j : Nat) {p : Po} {x y : Str} {px py pt pos : Pos} {kt k2 : Nat} {pt2 : Pos} (hc : X.calm = true) (hN : X.N.Nodup) (hi : X.N[i]? = some x) (hj : X.N[j]? = some y) (hij : i ≠ j) (li : i < ρ.length) (lj : j < ρ.length)
    (hx : X.env.scope.names.lookup x = some .local) (hy : X.env.scope.names.lookup y = some .local) (h : EA X b ρ [e1, e2] fun rs ρ' => ρ'.length = ρ.length → ∃ r1 r2, rs = [r1, r2] ∧ p.nx ((ρ'.set i r1).set j r2))
    (hw : swappedStores [.Tuple [.Name x px, .Name y py] kt pt] (.Tuple [e1, e2] k2 pt2) X.env = pure (some [x, y]))
    (hs : swapsWithSole [.Tuple [.Name x px, .Name y py] kt pt] (.Tuple [e1, e2] k2 pt2) pos.line X.env = pure false := by rfl) :
    XS X b ρ (.Assign [.Tuple [.Name x px, .Name y py] kt pt] (.Tuple [e1, e2] k2 pt2) pos) p := fun σ H L D l hh k =>
  ⟨_, ps_par hc hN hi hj hij hx hy (wa_pa _) hw hs, h σ H L _ l hh fun rs ρ' vs H' h1 l' lv hh' => by
    have n' := l'.symm.trans l
    obtain ⟨r1, r2, er, hp⟩ := h1 n'
    subst er
    match vs, lv with
    | [v1, v2], _ =>
      refine ⟨v1, v2, rfl, k.nx _ _ H' hp (by simp [l']) (by simp [n']) ?_⟩
      have hh2 : Hold X.K b H' ((some v1, r1) :: (some v2, r2) :: (σ.zip ρ' ++ L)) := hh'
      obtain ⟨c, M, p1, p2⟩ := zip_set (r := r1) (x := some v1) (by rw [n']; exact li) l'
      have h3 : Hold X.K b H' ((some v2, r2) :: ((σ.set i (some v1)).zip (ρ'.set i r1) ++ L)) := by
        have h2 : Hold X.K b H' (c :: ((some v2, r2) :: (some v1, r1) :: (M ++ L))) := hh2.perm (by
          refine ((List.Perm.cons _ (List.Perm.swap ..)).trans ((List.Perm.swap ..).trans (List.Perm.cons _ (List.Perm.swap ..)))).trans ?_
          exact List.Perm.cons _ (List.Perm.cons _ (p1.symm.append_right L)))
        exact h2.drop.perm (List.Perm.cons _ (p2.append_right L))
      obtain ⟨c2, M2, q1, q2⟩ := zip_set (σ := σ.set i (some v1)) (ρ := ρ'.set i r1) (r := r2) (x := some v2) (i := j) (by rw [List.length_set, n']; exact lj) (by simp [l'])
      have h4 : Hold X.K b H' (c2 :: ((some v2, r2) :: (M2 ++ L))) := h3.perm ((List.Perm.swap ..).trans (List.Perm.cons _ (q1.symm.append_right L)))
      exact h4.drop.perm (q2.append_right L)⟩
end

end DE

namespace DE
open PySem PySem.Spec PyProof.Rows L2 SZ VR VX StX RT
/-- the data of cells, lists held alone read for good -/
def datas : List Sl → Option (List PyData)
  | [] => some []
  | .d y :: rs => match datas rs with
    | some ys => some (y :: ys)
    | none => none
  | .own zs :: rs => match datas rs with
    | some ys => some (.list zs :: ys)
    | none => none
  | _ => none
theorem datas_cool : ∀ {rs : List Sl} {ys : List PyData}, datas rs = some ys → rs.map cool = ys.map .d
  | [], ys, h => by
    unfold datas at h
    cases h
    rfl
  | .d y :: rs, ys, h => by
    unfold datas at h
    cases e : datas rs with
    | none => rw [e] at h; cases h
    | some zs =>
      rw [e] at h
      cases h
      rw [List.map_cons, List.map_cons, datas_cool e]
      rfl
  | .own y :: rs, ys, h => by
    unfold datas at h
    cases e : datas rs with
    | none => rw [e] at h; cases h
    | some zs =>
      rw [e] at h
      cases h
      rw [List.map_cons, List.map_cons, datas_cool e]
      rfl
  | .un :: rs, ys, h => by simp [datas] at h
  | .bor _ :: rs, ys, h => by simp [datas] at h
  | .fact _ _ :: rs, ys, h => by simp [datas] at h
  | .dct _ _ :: rs, ys, h => by simp [datas] at h
section
variable {X : Cx} {b : Bs} {ρ : List Sl} {p : Sl → List Sl → Prop} {e : Expr} {es : List Expr} {pos : Pos}
theorem ev_tupD {k : Nat} (h : EA X b ρ es fun rs ρ' => ∃ ys : List PyData, datas rs = some ys ∧ ys.length ≤ 100000 ∧ p (.d (.tuple ys)) ρ') : EV X b ρ (.Tuple es k pos) p := fun σ H L Q l hh k =>
  ⟨_, pe_tup (wa_pa es), h σ H L _ l hh fun rs ρ' vs H' ⟨ys, e, n, hp⟩ l' lv hh' => by
    have h2 := hh'.coolAll
    have e2 := datas_cool e
    rw [e2] at h2
    have lr : rs.length = ys.length := by have := congrArg List.length e2; simpa using this
    refine ⟨by rw [lv, lr, sizeLine_eq]; omega, fun a ha => ?_⟩
    obtain ⟨G, hg⟩ := h2
    exact k _ ρ' _ _ hp l' ⟨_, hg.dropM.newT ha (HoldG.all (lv.trans lr) hg)⟩⟩
theorem ev_lstD (h : EA X b ρ es fun rs ρ' => ∃ ys : List PyData, datas rs = some ys ∧ ys.length ≤ 100000 ∧ p (.own ys) ρ') : EV X b ρ (.List es pos) p := fun σ H L Q l hh k =>
  ⟨_, pe_lst (wa_pa es), h σ H L _ l hh fun rs ρ' vs H' ⟨ys, e, n, hp⟩ l' lv hh' => by
    have h2 := hh'.coolAll
    have e2 := datas_cool e
    rw [e2] at h2
    have lr : rs.length = ys.length := by have := congrArg List.length e2; simpa using this
    refine ⟨by rw [lv, lr, sizeLine_eq]; omega, fun a ha => ?_⟩
    obtain ⟨G, hg⟩ := h2
    exact k _ ρ' _ _ hp l' ⟨_, hg.dropM.newL ha (HoldG.all (lv.trans lr) hg)⟩⟩
/-- a name of the module that holds data -/
def GlD (X : Cx) (x : Str) (y : PyData) : Prop := ∃ v u, X.mg x = some u ∧ RelV v u ∧ ∀ G, Dp X.K G v y
theorem ev_glob {x : Str} {y : PyData} (g : GlD X x y) (hg : Gl X x) (h : p (.d y) ρ) (hd : (x == ("__debug__" : Str)) = false := by decide) : EV X b ρ (.Name x pos) p := fun σ H L Q l hh k => by
  obtain ⟨v, u, hm, r, hv⟩ := g
  obtain ⟨G, hG⟩ := hh
  exact ⟨_, pe_glob hg hm r hd, k _ ρ v H h l ⟨G, hG.add (hv G)⟩⟩
/-- a def that is called: all that a call asks -/
structure CalP (P : Program) (w : World) (K : PySem.W.Frag) (mg : Str → Option Value) (base : Heap) (CX : CXT) (x : Str) (k : Nat) (Pre : List Sl → Prop) (Res : List Sl → Sl → Prop) : Prop where
  ex : ∃ f fd ps, FnOk P w K mg base CX k f fd ps (spP K Pre Res) ∧ mg x = some (.ref f) ∧ PySem.W.keepIn K (.ref f) = true ∧ Binds K fd ps []
structure CalB (P : Program) (w : World) (K : PySem.W.Frag) (mg : Str → Option Value) (base : Heap) (CX : CXT) (x : Str) (k : Nat) (Pre : List PyData → List Sl → Prop) (Res : List PyData → List Sl → Sl → List PyData → Prop) : Prop where
  ex : ∃ f fd ps, FnOk P w K mg base CX k f fd ps (spB K Pre Res) ∧ mg x = some (.ref f) ∧ PySem.W.keepIn K (.ref f) = true ∧ Binds K fd ps []
theorem ev_cal {CX : CXT} {k : Nat} {Pre : List Sl → Prop} {Res : List Sl → Sl → Prop} {x : Str} {p1 cp : Pos} (C : CalP X.prog X.w X.K X.mg X.base CX x k Pre Res) (hr : Room k X.A) (hg : Gl X x) {E : XK} (hx : Passes CX X E)
    (h : EA X b ρ (e :: es) fun rs ρ' => ∃ ys, datas rs = some ys ∧ Pre (ys.map .d) ∧ ∀ r, Res (ys.map .d) r → (∀ ys, r ≠ .bor ys) ∧ p r ρ')
    (hdb : (x == ("__debug__" : Str)) = false := by decide) (he : starEach (e :: es) X.env = (false, eval e X.env) :: starEach es X.env := by rfl) (hpl : (backTo cp (starEach es X.env)).any (·.1) = false := by rfl) : EV X b ρ (.Call (.Name x p1) (e :: es) [] cp) p := by
  obtain ⟨f, fd, ps, F, hm, hk, hb⟩ := C.ex
  refine ev_call F hr hg hm hk hb hx (fun σ H L Q l hh k => h σ H L Q l hh fun rs ρ' vs H' ⟨ys, ed, h1, h2⟩ => k rs ρ' vs H' ?_) hdb he hpl
  dsimp only
  rw [datas_cool ed]
  refine ⟨fun r hr => ?_, h1, h2⟩
  obtain ⟨y, _, rfl⟩ := List.mem_map.mp hr
  rfl
theorem ev_calL (i : Nat) {CX : CXT} {k : Nat} {Pre : List PyData → List Sl → Prop} {Res : List PyData → List Sl → Sl → List PyData → Prop} {x y : Str} {p1 p2 cp : Pos} (C : CalB X.prog X.w X.K X.mg X.base CX x k Pre Res) (hr : Room k X.A) (hg : Gl X x) {E : XK} (hx : Passes CX X E)
    (hN : X.N[i]? = some y) (hv : Vis X.env.scope y)
    (h : EA X b ρ es fun rs ρ' => ∃ zs, datas rs = some zs ∧ ∃ s ys, ρ'[i]? = some s ∧ (s = .own ys ∨ s = .bor ys) ∧ Pre ys (zs.map .d) ∧ ∀ r ys', Res ys (zs.map .d) r ys' → (∀ ys, r ≠ .bor ys) ∧ p r (ρ'.set i (setS s ys')))
    (hs0 : ∃ s ys, ρ[i]? = some s ∧ (s = .own ys ∨ s = .bor ys))
    (hdy : (y == ("__debug__" : Str)) = false := by decide) (hcy : (y == ("__classdict__" : Str)) = false := by decide) (hdb : (x == ("__debug__" : Str)) = false := by decide) (he : starEach (.Name y p2 :: es) X.env = (false, eval (.Name y p2) X.env) :: starEach es X.env := by rfl) (hpl : (backTo cp (starEach es X.env)).any (·.1) = false := by rfl) : EV X b ρ (.Call (.Name x p1) (.Name y p2 :: es) [] cp) p := by
  obtain ⟨f, fd, ps, F, hm, hk, hb⟩ := C.ex
  refine ev_callL i F hr hg hm hk hb hx hN hv (fun σ H L Q l hh k => h σ H L Q l hh fun rs ρ' vs H' ⟨zs, ed, h1⟩ => k rs ρ' vs H' ?_) hs0 hdy hcy hdb he hpl
  dsimp only
  rw [datas_cool ed]
  refine ⟨fun r hr => ?_, h1⟩
  obtain ⟨y, _, rfl⟩ := List.mem_map.mp hr
  rfl
end

end DE

namespace DE
open PySem PySem.Spec PyProof.Rows L2 SZ VR VX StX RT
/-! ### expressions that change nothing: what they come to -/
def EVr (X : Cx) (b : Bs) (ρ : List Sl) (e : Expr) (r : Sl) : Prop := ∀ p : Sl → List Sl → Prop, p r ρ → EV X b ρ e p
def ETr (X : Cx) (b : Bs) (ρ : List Sl) (e : Expr) (c : Bool) : Prop := ∀ p : Bool → List Sl → Prop, p c ρ → ET X b ρ e p
def EWr (X : Cx) (b : Bs) (ρ : List Sl) (e : Expr) (c : Bool) : Prop := ∀ p : Bool → List Sl → Prop, p c ρ → EW X b ρ e p
def EAr (X : Cx) (b : Bs) (ρ : List Sl) (es : List Expr) (rs : List Sl) : Prop := ∀ p : List Sl → List Sl → Prop, p rs ρ → EA X b ρ es p
def OVr (X : Cx) (b : Bs) (f : Value → Value → Sem Value) (r1 r2 r : Sl) : Prop := ∀ p : Sl → Prop, p r → OV X b f r1 r2 p
def IVr (X : Cx) (b : Bs) (r1 r2 r : Sl) : Prop := ∀ p : Sl → Prop, p r → IV X b r1 r2 p
def UVr (X : Cx) (b : Bs) (f : Value → Sem Value) (r1 r : Sl) : Prop := ∀ p : Sl → Prop, p r → UV X b f r1 p
def CVr (X : Cx) (b : Bs) (f : Value) (rs : List Sl) (r : Sl) : Prop := ∀ p : Sl → Prop, p r → CV X b f rs p
section
variable {X : Cx} {b : Bs} {ρ : List Sl} {e e1 e2 e3 : Expr} {es rest : List Expr} {pos : Pos} {r r1 r2 r3 : Sl} {x y z : PyData} {c c1 c2 : Bool}
theorem r_int {i : Int} {j} : EVr X b ρ (.Constant (.int i) j pos) (.d (.int i)) := fun _ h => ev_int h
theorem r_bl {i : Bool} {j} : EVr X b ρ (.Constant (.bool i) j pos) (.d (.bool i)) := fun _ h => ev_bl h
theorem r_str {i : Str} {j} : EVr X b ρ (.Constant (.str i) j pos) (.d (.str i)) := fun _ h => ev_str h
theorem r_non {j} : EVr X b ρ (.Constant .none j pos) (.d .none) := fun _ h => ev_non h
theorem r_var (i : Nat) {y : PyData} {x : Str} (hN : X.N[i]? = some x) (hv : Vis X.env.scope x) (hr : ρ[i]? = some (.d y)) (hd : (x == ("__debug__" : Str)) = false := by decide) (hcd : (x == ("__classdict__" : Str)) = false := by decide) : EVr X b ρ (.Name x pos) (.d y) := fun _ h => ev_var i hN hv hr h hd hcd
theorem r_glob {x : Str} {y : PyData} (g : GlD X x y) (hg : Gl X x) (hd : (x == ("__debug__" : Str)) = false := by decide) : EVr X b ρ (.Name x pos) (.d y) := fun _ h => ev_glob g hg h hd
theorem r_bin {op : Operator} (h1 : EVr X b ρ e1 r1) (h2 : EVr X b ρ e2 r2) (h3 : OVr X b (binaryOp op) r1 r2 r) : EVr X b ρ (.BinOp e1 op e2 pos) r := fun _ h => ev_bin (h1 _ (h2 _ (h3 _ h)))
theorem r_cmp {op : CmpOp} (h1 : EVr X b ρ e1 r1) (h2 : EVr X b ρ e2 r2) (h3 : OVr X b (compareOp op) r1 r2 r) (hm : behindInMarks op e2 = false := by first | exact nomark _ | rfl | with_unfolding_all rfl) : EVr X b ρ (.Compare e1 [op] [e2] pos) r := fun _ h => ev_cmp hm (h1 _ (h2 _ (h3 _ h)))
theorem t_cmp {op : CmpOp} (h1 : EVr X b ρ e1 r1) (h2 : EVr X b ρ e2 r2) (h3 : OVr X b (compareOp op) r1 r2 (.d (.bool c))) (hm : behindInMarks op e2 = false := by first | exact nomark _ | rfl | with_unfolding_all rfl) : ETr X b ρ (.Compare e1 [op] [e2] pos) c := fun _ h => et_cmp hm (h1 _ (h2 _ (h3 _ ⟨_, rfl, h⟩)))
theorem r_chain {o1 o2 : CmpOp} (h1 : EVr X b ρ e1 r1) (h2 : EVr X b ρ e2 (.d y)) (h3 : EVr X b ρ e3 r3) (h4 : OVr X b (compareOp o1) r1 (.d y) (.d (.bool c1))) (h5 : OVr X b (compareOp o2) (.d y) r3 (.d (.bool c2))) (hm : lastMarks [o1, o2] [e2, e3] = false := by with_unfolding_all rfl) : EVr X b ρ (.Compare e1 [o1, o2] [e2, e3] pos) (.d (.bool (c1 && c2))) := fun _ h =>
  ev_chain hm (h1 _ (h2 _ ⟨y, rfl, h4 _ ⟨c1, rfl, fun e => by subst e; exact h, fun e => h3 _ (h5 _ (by subst e; exact h))⟩⟩))
theorem t_chain {o1 o2 : CmpOp} (h1 : EVr X b ρ e1 r1) (h2 : EVr X b ρ e2 (.d y)) (h3 : EVr X b ρ e3 r3) (h4 : OVr X b (compareOp o1) r1 (.d y) (.d (.bool c1))) (h5 : OVr X b (compareOp o2) (.d y) r3 (.d (.bool c2))) (hm : lastMarks [o1, o2] [e2, e3] = false := by with_unfolding_all rfl) : ETr X b ρ (.Compare e1 [o1, o2] [e2, e3] pos) (c1 && c2) := fun _ h =>
  et_chain hm (h1 _ (h2 _ ⟨y, rfl, h4 _ ⟨c1, rfl, fun e => by subst e; exact h, fun e => h3 _ (h5 _ ⟨c2, rfl, by subst e; exact h⟩)⟩⟩))
theorem r_one {op : BoolOp} (h : EVr X b ρ e r) : EVr X b ρ (.BoolOp op [e] pos) r := fun _ k => ev_one (h _ k)
theorem r_and (h1 : EVr X b ρ e1 (.d (.bool c1))) (h2 : c1 = true → EVr X b ρ (.BoolOp .And (e2 :: rest) pos) (.d (.bool c2))) : EVr X b ρ (.BoolOp .And (e1 :: e2 :: rest) pos) (.d (.bool (c1 && c2))) := fun _ h =>
  ev_and (h1 _ ⟨c1, rfl, fun e => by subst e; exact h, fun e => h2 e _ (by subst e; exact h)⟩)
theorem r_or (h1 : EVr X b ρ e1 (.d (.bool c1))) (h2 : c1 = false → EVr X b ρ (.BoolOp .Or (e2 :: rest) pos) (.d (.bool c2))) : EVr X b ρ (.BoolOp .Or (e1 :: e2 :: rest) pos) (.d (.bool (c1 || c2))) := fun _ h =>
  ev_or (h1 _ ⟨c1, rfl, fun e => by subst e; exact h, fun e => h2 e _ (by subst e; exact h)⟩)
theorem r_not (h1 : EVr X b ρ e (.d (.bool c))) : EVr X b ρ (.UnaryOp .Not e pos) (.d (.bool (!c))) := fun _ h => ev_not (h1 _ ⟨c, rfl, h⟩)
theorem t_val (h1 : EVr X b ρ e (.d (.bool c))) (he : ∀ whole, isTrue e X.env whole = (do let v ← whole; standAt e.pos; holding [v] (truthy v)) := by intro _; rfl) : ETr X b ρ e c := fun _ h => et_val he (h1 _ ⟨c, rfl, h⟩)
theorem t_not (h1 : ETr X b ρ e c) : ETr X b ρ (.UnaryOp .Not e pos) (!c) := fun _ h => et_not (h1 _ h)
theorem t_w (h1 : EWr X b ρ e c) : ETr X b ρ e c := fun _ h => et_w (h1 _ h)
theorem w_and1 (h1 : ETr X b ρ e c) : EWr X b ρ (.BoolOp .And [e] pos) c := fun _ h => ew_and1 (h1 _ h)
theorem w_or1 (h1 : ETr X b ρ e c) : EWr X b ρ (.BoolOp .Or [e] pos) c := fun _ h => ew_or1 (h1 _ h)
theorem w_and (h1 : ETr X b ρ e1 c1) (h2 : c1 = true → EWr X b ρ (.BoolOp .And (e2 :: rest) pos) c2) : EWr X b ρ (.BoolOp .And (e1 :: e2 :: rest) pos) (c1 && c2) := fun _ h =>
  ew_and (h1 _ ⟨fun e => by subst e; exact h, fun e => h2 e _ (by subst e; exact h)⟩)
theorem w_or (h1 : ETr X b ρ e1 c1) (h2 : c1 = false → EWr X b ρ (.BoolOp .Or (e2 :: rest) pos) c2) : EWr X b ρ (.BoolOp .Or (e1 :: e2 :: rest) pos) (c1 || c2) := fun _ h =>
  ew_or (h1 _ ⟨fun e => by subst e; exact h, fun e => h2 e _ (by subst e; exact h)⟩)
theorem r_if {t : Expr} (h : ETr X b ρ t c) (h1 : c = true → EVr X b ρ e1 (.d x)) (h2 : c = false → EVr X b ρ e2 (.d y)) : EVr X b ρ (.IfExp t e1 e2 pos) (.d (if c = true then x else y)) := fun _ k =>
  ev_if (h _ ⟨fun e => h1 e _ (by subst e; exact k), fun e => h2 e _ (by subst e; exact k)⟩)
/-- .. of one kind -/
theorem r_ifI {t : Expr} {x y : Int} (h : ETr X b ρ t c) (h1 : c = true → EVr X b ρ e1 (.d (.int x))) (h2 : c = false → EVr X b ρ e2 (.d (.int y))) : EVr X b ρ (.IfExp t e1 e2 pos) (.d (.int (if c = true then x else y))) := fun _ k =>
  ev_if (h _ ⟨fun e => h1 e _ (by subst e; exact k), fun e => h2 e _ (by subst e; exact k)⟩)
theorem r_ifS {t : Expr} {x y : Str} (h : ETr X b ρ t c) (h1 : c = true → EVr X b ρ e1 (.d (.str x))) (h2 : c = false → EVr X b ρ e2 (.d (.str y))) : EVr X b ρ (.IfExp t e1 e2 pos) (.d (.str (if c = true then x else y))) := fun _ k =>
  ev_if (h _ ⟨fun e => h1 e _ (by subst e; exact k), fun e => h2 e _ (by subst e; exact k)⟩)
theorem r_un {op : UnaryOp} (h1 : EVr X b ρ e r1) (h2 : UVr X b (unaryOp op) r1 r) : EVr X b ρ (.UnaryOp op e pos) r := fun _ h => ev_un (h1 _ (h2 _ h))
theorem a_nil : EAr X b ρ [] [] := fun _ h => ea_nil h
theorem a_cons {rs : List Sl} (h1 : EVr X b ρ e r) (h2 : EAr X b ρ es rs) (hs : starEach (e :: es) X.env = (false, eval e X.env) :: starEach es X.env := by rfl) : EAr X b ρ (e :: es) (r :: rs) := fun _ h => ea_cons hs (h1 _ (h2 _ h))
theorem r_tup {k : Nat} {rs : List Sl} {ys : List PyData} (h : EAr X b ρ es rs) (e : datas rs = some ys) (n : ys.length ≤ 100000 := by simp) : EVr X b ρ (.Tuple es k pos) (.d (.tuple ys)) := fun _ k => ev_tupD (h _ ⟨ys, e, n, k⟩)
theorem r_lst {rs : List Sl} {ys : List PyData} (h : EAr X b ρ es rs) (e : datas rs = some ys) (n : ys.length ≤ 100000 := by simp) : EVr X b ρ (.List es pos) (.own ys) := fun _ k => ev_lstD (h _ ⟨ys, e, n, k⟩)
theorem r_ix (h1 : EVr X b ρ e1 r1) (h2 : EVr X b ρ e2 r2) (h3 : IVr X b r1 r2 r) (hs : PlainIx e2 := by intro _ _; rfl) : EVr X b ρ (.Subscript e1 e2 pos) r := fun _ h => ev_ix hs (h1 _ (h2 _ (h3 _ h)))
theorem r_callB {id : String} {x : Str} {ps cp : Pos} {rs : List Sl} (hm : X.mg x = none) (h : EAr X b ρ (e :: es) rs) (h3 : CVr X b (.builtin id) rs r) (hg : Gl X x := by rfl) (hv : bootBuiltins x = some (.builtin id) := by decide +kernel) (hn : x ≠ "__name__" := by decide) (hdb : (x == ("__debug__" : Str)) = false := by decide)
    (he : starEach (e :: es) X.env = (false, eval e X.env) :: starEach es X.env := by rfl) (hpl : (backTo cp (starEach es X.env)).any (·.1) = false := by rfl) : EVr X b ρ (.Call (.Name x ps) (e :: es) [] cp) r := fun _ k => ev_callB hg hm hv (h _ (h3 _ k)) hn hdb he hpl
theorem r_callTy {T : String} {x : Str} {ps cp : Pos} {rs : List Sl} (hm : X.mg x = none) (h : EAr X b ρ (e :: es) rs) (h3 : CVr X b (.type T) rs r) (hg : Gl X x := by rfl) (hv : bootBuiltins x = some (.type T) := by decide +kernel) (hn : x ≠ "__name__" := by decide) (hdb : (x == ("__debug__" : Str)) = false := by decide)
    (he : starEach (e :: es) X.env = (false, eval e X.env) :: starEach es X.env := by rfl) (hpl : (backTo cp (starEach es X.env)).any (·.1) = false := by rfl) : EVr X b ρ (.Call (.Name x ps) (e :: es) [] cp) r := fun _ k => ev_callTy hg hm hv (h _ (h3 _ k)) hn hdb he hpl
theorem r_isi {t : String} {x : Str} {ps cp pn : Pos} (hm : X.mg "isinstance" = none) (hmt : X.mg x = none) (h : EVr X b ρ e (.d y)) (hg : Gl X "isinstance" := by rfl) (hgt : Gl X x := by rfl) (hv : bootBuiltins x = some (.type t) := by decide +kernel) (ht : t = "int" ∨ t = "bool" ∨ t = "str" ∨ t = "tuple" ∨ t = "list" ∨ t = "dict" := by decide)
    (hn : x ≠ "__name__" := by decide) (hd : (x == ("__debug__" : Str)) = false := by decide) (he : starEach [e, .Name x pn] X.env = (false, eval e X.env) :: starEach [.Name x pn] X.env := by rfl) (hpl : (backTo cp (starEach [.Name x pn] X.env)).any (·.1) = false := by rfl) :
    EVr X b ρ (.Call (.Name "isinstance" ps) [e, .Name x pn] [] cp) (.d (.bool (subTy (tyD y) t))) := fun _ k => ev_isi hg hm hgt hmt hv ht (h _ ⟨y, rfl, k⟩) hn hd he hpl
theorem r_cal {CX : CXT} {k : Nat} {Pre : List Sl → Prop} {Res : List Sl → Sl → Prop} {x : Str} {p1 cp : Pos} {rs : List Sl} {ys : List PyData} (C : CalP X.prog X.w X.K X.mg X.base CX x k Pre Res) (hr : Room k X.A) {E : XK} (hx : Passes CX X E)
    (h : EAr X b ρ (e :: es) rs) (ed : datas rs = some ys) (h1 : Pre (ys.map .d)) (h2 : ∀ r', Res (ys.map .d) r' → r' = r) (nb : ∀ ys, r ≠ .bor ys := by intro _; nofun) (hg : Gl X x := by rfl)
    (hdb : (x == ("__debug__" : Str)) = false := by decide) (he : starEach (e :: es) X.env = (false, eval e X.env) :: starEach es X.env := by rfl) (hpl : (backTo cp (starEach es X.env)).any (·.1) = false := by rfl) : EVr X b ρ (.Call (.Name x p1) (e :: es) [] cp) r := fun _ q =>
  ev_cal C hr hg hx (h _ ⟨ys, ed, h1, fun r' hr' => by rw [h2 r' hr']; exact ⟨nb, q⟩⟩) hdb he hpl
theorem r_join {p1 p2 : Pos} {a : Str} {ys : List Str} (h1 : EVr X b ρ e1 (.d (.str a))) (h2 : EVr X b ρ e2 r2) (h3 : cool r2 = .d (.list (ys.map .str)) ∨ r2 = .d (.tuple (ys.map .str))) (hz : (ys.map (·.length)).sum + ys.length * a.length ≤ 16777216)
    (hs : starEach [e2] X.env = [(false, eval e2 X.env)] := by rfl) (hbase : attributeBase e1 "join" X.env (eval e1 X.env) = eval e1 X.env := by rfl) (hline : (p1.endLine == p2.line) = true := by rfl) : EVr X b ρ (.Call (.Attribute e1 "join" p1) [e2] [] p2) (.d (.str (Txt.join a ys))) := fun _ k =>
  ev_join (h1 _ ⟨a, rfl, h2 _ ⟨ys, h3, hz, k⟩⟩) hs hbase hline
theorem r_slice {lo hi : Option Expr} {l u : Option Int} {p1 p2 : Pos} (h : EVr X b ρ e r) (hl : ∀ p, p l ρ → EO X b ρ lo p) (hu : ∀ p, p u ρ → EO X b ρ hi p) (h3 : ∀ p : Sl → Prop, p r2 → Cut r l u p) (nb : ∀ ys, r ≠ .bor ys := by intro _; nofun) : EVr X b ρ (.Subscript e (.Slice lo hi none p1) p2) r2 := fun _ k => ev_slice (h _ ⟨nb, hl _ (hu _ (h3 _ k))⟩)
theorem o_none {p : Option Int → List Sl → Prop} (h : p none ρ) : EO X b ρ none p := h
theorem o_some {i : Int} {p : Option Int → List Sl → Prop} (h1 : EVr X b ρ e (.d (.int i))) (h : p (some i) ρ) : EO X b ρ (some e) p := h1 _ ⟨i, rfl, h⟩
variable {p : Po} {st : List Stmt} {s1 s2 : List Stmt}
theorem x_ret (h : EVr X b ρ e r) (k : p.rt r ρ) : XS X b ρ (.Return (some e) pos) p := xs_ret (h _ fun _ => k)
theorem x_if {t : Expr} (h : ETr X b ρ t c) (h1 : c = true → XB X b ρ s1 p) (h2 : c = false → XB X b ρ s2 p) : XS X b ρ (.If t s1 s2 pos) p := xs_if (h _ fun _ => ⟨h1, h2⟩)
theorem x_set (i : Nat) {x : Str} {pos' : Pos} {ρ2 : List Sl} (h : EVr X b ρ e r) (hi : X.N[i]? = some x) (hx : Loc X.env.scope x) (hN : X.N.Nodup) (h2 : ρ.set i r = ρ2) (k : p.nx ρ2) (hl : i < ρ.length := by first | decide | simp) (hs : swapsWith e (some (.Name x pos')) pos.line X.env = pure false := by rfl) (hf : X.fn x = true ∨ X.env.scope.names.lookup x = some .local := by first | exact .inl rfl | exact .inr rfl | assumption) : XS X b ρ (.Assign [.Name x pos'] e pos) p :=
  xs_set i hN hi hx hl hs hf (h _ fun _ => by rw [h2]; exact k)
theorem x_cons {stm : Stmt} {rest : List Stmt} (h : XS X b ρ stm { p with nx := fun ρ' => ρ'.length = ρ.length → XB X b ρ' rest p }) : XB X b ρ (stm :: rest) p := xb_cons h
end

end DE

namespace DE
open PySem PySem.Spec PyProof.Rows L2 SZ VR VX StX RT
def strsOf : List PyData → Option (List Str)
  | [] => some []
  | .str x :: r => match strsOf r with
    | some l => some (x :: l)
    | none => none
  | _ => none
theorem strsOf_map : ∀ {ys : List PyData} {l : List Str}, strsOf ys = some l → ys = l.map .str
  | [], l, h => by
    unfold strsOf at h
    cases h
    rfl
  | .str x :: r, l, h => by
    unfold strsOf at h
    cases e : strsOf r with
    | none => rw [e] at h; cases h
    | some l' =>
      rw [e] at h
      cases h
      rw [strsOf_map e, List.map_cons]
  | .none :: _, l, h => by simp [strsOf] at h
  | .bool _ :: _, l, h => by simp [strsOf] at h
  | .int _ :: _, l, h => by simp [strsOf] at h
  | .list _ :: _, l, h => by simp [strsOf] at h
  | .tuple _ :: _, l, h => by simp [strsOf] at h
  | .dict _ :: _, l, h => by simp [strsOf] at h
def intsOf : List PyData → Option (List Int)
  | [] => some []
  | .int x :: r => match intsOf r with
    | some l => some (x :: l)
    | none => none
  | _ => none
theorem intsOf_map : ∀ {ys : List PyData} {l : List Int}, intsOf ys = some l → ys = l.map .int
  | [], l, h => by
    unfold intsOf at h
    cases h
    rfl
  | .int x :: r, l, h => by
    unfold intsOf at h
    cases e : intsOf r with
    | none => rw [e] at h; cases h
    | some l' =>
      rw [e] at h
      cases h
      rw [intsOf_map e, List.map_cons]
  | .none :: _, l, h => by simp [intsOf] at h
  | .bool _ :: _, l, h => by simp [intsOf] at h
  | .str _ :: _, l, h => by simp [intsOf] at h
  | .list _ :: _, l, h => by simp [intsOf] at h
  | .tuple _ :: _, l, h => by simp [intsOf] at h
  | .dict _ :: _, l, h => by simp [intsOf] at h
section
variable {X : Cx} {b : Bs} {ρ : List Sl} {e e1 e2 tg elt iter : Expr} {es rest ifs : List Expr} {pos : Pos} {r r1 r2 : Sl} {x y z : PyData} {c : Bool}
theorem or_inS {z : Str} {ds : List PyData} {l : List Str} (er : cool r2 = .d (.list ds) ∨ cool r2 = .d (.tuple ds)) (e : strsOf ds = some l) : OVr X b (compareOp .In) (.d (.str z)) r2 (.d (.bool (l.contains z))) := fun _ h => OV.cool (by
  rcases er with er | er
  · rw [er]; exact ov_inS (.inr (by rw [strsOf_map e])) h
  · rw [er]; exact ov_inS (.inl (by rw [strsOf_map e])) h)
theorem or_notInS {z : Str} {ds : List PyData} {l : List Str} (er : cool r2 = .d (.list ds) ∨ cool r2 = .d (.tuple ds)) (e : strsOf ds = some l) : OVr X b (compareOp .NotIn) (.d (.str z)) r2 (.d (.bool (!l.contains z))) := fun _ h => OV.cool (by
  rcases er with er | er
  · rw [er]; exact ov_notInS (.inr (by rw [strsOf_map e])) h
  · rw [er]; exact ov_notInS (.inl (by rw [strsOf_map e])) h)
theorem or_inI {z : Int} {ds : List PyData} {l : List Int} (er : cool r2 = .d (.list ds) ∨ cool r2 = .d (.tuple ds)) (e : intsOf ds = some l) : OVr X b (compareOp .In) (.d (.int z)) r2 (.d (.bool (l.contains z))) := fun _ h => OV.cool (by
  rcases er with er | er
  · rw [er]; exact ov_inI (.inr (by rw [intsOf_map e])) h
  · rw [er]; exact ov_inI (.inl (by rw [intsOf_map e])) h)
theorem or_inC {a : Nat} {z : Str} : OVr X b (compareOp .In) (.d (.str ⟨#[a]⟩)) (.d (.str z)) (.d (.bool (decide (a ∈ z.cps.toList)))) := fun _ h => ov_inC h
theorem or_notInC {a : Nat} {z : Str} : OVr X b (compareOp .NotIn) (.d (.str ⟨#[a]⟩)) (.d (.str z)) (.d (.bool (!decide (a ∈ z.cps.toList)))) := fun _ h => ov_notInC h
theorem or_addS {x y : Str} (hz : x.length + y.length ≤ sizeLine) : OVr X b (binaryOp .Add) (.d (.str x)) (.d (.str y)) (.d (.str (x ++ y))) := fun _ h => ov_addS hz h
theorem or_cat {xs ys : List PyData} (hz : xs.length + ys.length ≤ sizeLine) : OVr X b (binaryOp .Add) (.own xs) (.own ys) (.own (xs ++ ys)) := fun _ h => ov_cat hz h
theorem or_eqD {d1 d2 : PyData} (hu : X.A.units + 64 < cLine) (e1 : cool r1 = .d d1) (e2 : cool r2 = .d d2) (h1 : SeqAt.shaped d1 = true) (h2 : SeqAt.shaped d2 = true) : OVr X b (compareOp .Eq) r1 r2 (.d (.bool (PyData.eqv d1 d2))) := fun _ h => OV.cool (by rw [e1, e2]; exact ov_eqD hu h1 h2 h)
theorem or_neD {d1 d2 : PyData} (hu : X.A.units + 64 < cLine) (e1 : cool r1 = .d d1) (e2 : cool r2 = .d d2) (h1 : SeqAt.shaped d1 = true) (h2 : SeqAt.shaped d2 = true) : OVr X b (compareOp .NotEq) r1 r2 (.d (.bool (!PyData.eqv d1 d2))) := fun _ h => OV.cool (by rw [e1, e2]; exact ov_neD hu h1 h2 h)
theorem ir_at {ys : List PyData} {i : Int} (er : cool r1 = .d (.list ys) ∨ cool r1 = .d (.tuple ys)) (hi : atI ys i = some y) : IVr X b r1 (.d (.int i)) (.d y) := fun _ h => IV.cool (by
  rcases er with er | er
  · rw [er]; exact iv_lst hi h
  · rw [er]; exact iv_tup hi h)
theorem ir_str {z : Str} {i : Int} {a : Nat} (hz : z.length ≤ sizeLine) (hi : atI z.cps.toList i = some a) : IVr X b (.d (.str z)) (.d (.int i)) (.d (.str ⟨#[a]⟩)) := fun _ h => iv_str hz hi h
theorem cr_lenS {z : Str} (hz : z.length ≤ sizeLine) : CVr X b (.builtin "len") [.d (.str z)] (.d (.int z.length)) := fun _ h => cv_lenS hz h
theorem cr_strI {i : Int} (hz : i.natAbs.log2 < 1920) : CVr X b (.type "str") [.d (.int i)] (.d (.str (toString i))) := fun _ h => cv_strI hz h
/-! ### comprehensions that change nothing -/
def EIr (X : Cx) (b : Bs) (ρ : List Sl) (tg iter : Expr) (ys : List PyData) : Prop := ∀ p : List PyData → List Sl → Prop, p ys ρ → EI X b ρ tg iter p
def ETsr (X : Cx) (b : Bs) (ρ : List Sl) (es : List Expr) (c : Bool) : Prop := ∀ p : Bool → List Sl → Prop, p c ρ → ETs X b ρ es p
theorem ts_nil : ETsr X b ρ [] true := fun _ h => ets_nil h
theorem ts_one (h : ETr X b ρ e c) : ETsr X b ρ [e] c := fun _ k => ets_one (h _ k)
theorem i_list {ys : List PyData} (h : EVr X b ρ e r) (er : cool r = .d (.list ys)) : EIr X b ρ tg e ys := fun _ k => ei_list (h _ ⟨ys, er, k⟩)
theorem i_tup {ys : List PyData} (h : EVr X b ρ e (.d (.tuple ys))) : EIr X b ρ tg e ys := fun _ k => ei_tup (h _ ⟨ys, rfl, k⟩)
theorem i_str {z : Str} (h : EVr X b ρ e (.d (.str z))) : EIr X b ρ tg e (strD z) := fun _ k => ei_str (h _ ⟨z, rfl, k⟩)
theorem i_range {n : Int} {p1 p2 : Pos} (hm : X.mg "range" = none) (h : EVr X b ρ e (.d (.int n))) (b1 : -(2 ^ 62) ≤ n) (b2 : n < 2 ^ 62) (hg : Gl X "range" := by rfl) (hs : starEach [e] X.env = [(false, eval e X.env)] := by rfl) : EIr X b ρ tg (.Call (.Name "range" p1) [e] [] p2) (rngD 0 n.toNat) := fun _ k => ei_range hg hm (h _ ⟨n, rfl, b1, b2, k⟩) hs
theorem i_enum {p1 p2 tpos : Pos} {elts : List Expr} {kk : Nat} {ys : List PyData} (hm : X.mg "enumerate" = none) (h : EVr X b ρ e r) (er : cool r = .d (.list ys)) (hg : Gl X "enumerate" := by rfl) (hs : starEach [e] X.env = [(false, eval e X.env)] := by rfl) : EIr X b ρ (.Tuple elts kk tpos) (.Call (.Name "enumerate" p1) [e] [] p2) (enD ys) := fun _ k => ei_enum hg hm (h _ ⟨ys, er, k⟩) hs
/-- stores that are told -/
def EGr (X : Cx) (b : Bs) (ts : List Nat) (ρ : List Sl) (tg : Expr) (r : Sl) (ρ2 : List Sl) : Prop := ∀ p : List Sl → Prop, p ρ2 → EG X b ts ρ tg r p
theorem g_name (i : Nat) {ts : List Nat} {x : Str} {ρ2 : List Sl} (hi : X.N[i]? = some x) (hx : Loc X.env.scope x) (hN : X.N.Nodup) (e : ρ.set i r = ρ2) (hl : i < ρ.length := by first | decide | simp) (ht : i ∈ ts := by first | decide | simp) (hf : X.fn x = true ∨ X.env.scope.names.lookup x = some .local := by first | exact .inl rfl | exact .inr rfl | assumption) : EGr X b ts ρ (.Name x pos) r ρ2 := fun _ k => eg_name i hN hi hx hl ht (by rw [e]; exact k) hf
def EGsr (X : Cx) (b : Bs) (ts : List Nat) (ρ : List Sl) (tgs : List Expr) (rs : List Sl) (ρ2 : List Sl) : Prop := ∀ p : List Sl → Prop, p ρ2 → EGs X b ts ρ tgs rs p
theorem gs_nil {ts : List Nat} : EGsr X b ts ρ [] [] ρ := fun _ k => egs_nil k
theorem gs_cons {ts : List Nat} {tgs : List Expr} {rs : List Sl} {ρ1 ρ2 : List Sl} (h1 : EGr X b ts ρ tg r ρ1) (h2 : EGsr X b ts ρ1 tgs rs ρ2) (hs : (assignEach (tg :: tgs) X.env).map (·.2) = assign tg X.env :: (assignEach tgs X.env).map (·.2) := by rfl) : EGsr X b ts ρ (tg :: tgs) (r :: rs) ρ2 := fun _ k => egs_cons hs (h1 _ fun _ => h2 _ k)
theorem g_tup {ts : List Nat} {tgs : List Expr} {k0 : Nat} {ys : List PyData} {ρ2 : List Sl} (hc : X.calm = true) (h : EGsr X b ts ρ tgs (ys.map .d) ρ2) (hn : ys.length = tgs.length := by rfl) (hna : (assignEach tgs X.env).length = tgs.length := by rfl) (hst : (assignEach tgs X.env).findIdx? (·.1) = none := by rfl) : EGr X b ts ρ (.Tuple tgs k0 pos) (.d (.tuple ys)) ρ2 := fun _ k => eg_tup hc hn hna hst (h _ k)
theorem lc_turn {scope : Scope} {vs : List Nat} {y : PyData} {ρ2 : List Sl} {acc : List PyData} {J : List PyData → List Sl → Prop} (hg : AllB X scope fun Y => EGr Y b vs ρ tg (.d y) ρ2) (ht : AllB X scope fun Y => ETsr Y b ρ2 ifs c) (hw : wipeR ρ2 vs = ρ)
    (h0 : c = false → J acc ρ) (h1 : c = true → ∃ r z, (AllB X scope fun Y => EVr Y b ρ2 elt r) ∧ cool r = .d z ∧ acc.length < sizeLine ∧ J (acc ++ [z]) ρ) : LcTurn X b scope tg elt ifs vs y ρ acc J :=
  ⟨fun ρ' => ρ' = ρ2, fun s H C cl fp => hg s H C cl fp _ rfl, fun ρ' e => by
    subst e
    refine ⟨fun c' ρ3 => c' = c ∧ ρ3 = ρ', fun s H C cl fp => ht s H C cl fp _ ⟨rfl, rfl⟩, fun c' ρ3 ⟨e1, e2⟩ => ?_⟩
    subst e1 e2
    refine ⟨fun e => by rw [hw]; exact h0 e, fun e => ?_⟩
    obtain ⟨r, z, hr, er, hz, hJ⟩ := h1 e
    exact ⟨hz, fun s H C cl fp => hr s H C cl fp _ ⟨z, er, by rw [hw]; exact hJ⟩⟩⟩
theorem r_lc {α : Type} {scope : Scope} (own : List (Str × Nat)) (l : List α) (g : α → PyData) (cf : α → Bool) (f : α → PyData) (ρt : α → List Sl) {ys : List PyData} (hi : EIr X b ρ tg iter ys) (ey : ys = l.map g) (hc : X.calm = true) (hN : X.N.Nodup) (ok : BlkOk X.N X.env.scope scope own) (hun : ∀ v ∈ own.map (·.2), ρ[v]? = some .un) (hlen : l.length ≤ 100000)
    (hg : ∀ y ∈ l, AllB X scope fun Y => EGr Y b (own.map (·.2)) ρ tg (.d (g y)) (ρt y)) (hw : ∀ y ∈ l, wipeR (ρt y) (own.map (·.2)) = ρ) (ht : ∀ y ∈ l, AllB X scope fun Y => ETsr Y b (ρt y) ifs (cf y))
    (he : ∀ y ∈ l, cf y = true → ∃ r, (AllB X scope fun Y => EVr Y b (ρt y) elt r) ∧ cool r = .d (f y)) (hs : ∀ x, foldedSetIterable iter X.env x = pure x := by intro _; rfl) : EVr X b ρ (.ListComp elt [⟨tg, iter, ifs, 0⟩] scope pos) (.own ((l.filter cf).map f)) := fun p k => by
  refine ev_lc own hc hN ok (hi _ fun _ => ⟨fun i acc ρ' => acc = (((l.take i).filter cf).map f) ∧ ρ' = ρ, ⟨by simp, rfl⟩, fun i acc ρ' ⟨_, e⟩ => by subst e; exact hun, fun i y acc ρ' hy _ ⟨ea, e⟩ => ?_, fun acc ρ' ⟨ea, e⟩ => by subst ea e ey; rw [List.length_map, List.take_length]; exact k⟩) hs
  subst e ey
  rw [List.getElem?_map] at hy
  cases hx : l[i]? with
  | none => rw [hx] at hy; cases hy
  | some x =>
    rw [hx] at hy
    cases hy
    have hm : x ∈ l := List.mem_of_getElem? hx
    have htk : l.take (i + 1) = l.take i ++ [x] := by rw [List.take_add_one, hx]; rfl
    refine lc_turn (hg x hm) (ht x hm) (hw x hm) (fun e => ⟨?_, rfl⟩) fun e => ?_
    · rw [htk, List.filter_append, List.filter_cons, e, ea]
      simp
    · obtain ⟨r, hr, er⟩ := he x hm e
      refine ⟨r, f x, hr, er, ?_, ?_, rfl⟩
      · rw [ea, List.length_map, sizeLine_eq]
        have h1 := List.length_filter_le cf (l.take i)
        have hb : i < l.length := (List.getElem?_eq_some_iff.mp hx).1
        rw [List.length_take] at h1
        omega
      · rw [htk, List.filter_append, List.filter_cons, e, ea]
        simp
end

theorem cr_strS {X : Cx} {b : Bs} {z : Str} : CVr X b (.type "str") [.d (.str z)] (.d (.str z)) := fun _ h => ⟨_, SkE.call_str_str, fun vs H L Q lv hh k => by
  obtain ⟨v, rfl⟩ := one_in (rs := []) lv
  have hh : Hold X.K b H ((some v, .d (.str z)) :: L) := hh
  have e := hh.isS
  subst e
  exact ⟨z, rfl, k _ _ H h (hh.drop.str _)⟩⟩

end DE

namespace DE
open PySem PySem.Spec PyProof.Rows L2 SZ VR VX StX RT
section
variable {X : Cx} {b : Bs} {ρ : List Sl} {p : Sl → List Sl → Prop} {e e2 : Expr} {pos : Pos}
/-- a list held alone is handed on: the name keeps nothing -/
theorem ev_mov (i : Nat) {ys : List PyData} {x : Str} (hN : X.N[i]? = some x) (hv : Vis X.env.scope x) (hr : ρ[i]? = some (.own ys)) (h : p (.own ys) (ρ.set i .un)) (hd : (x == ("__debug__" : Str)) = false := by decide) (hcd : (x == ("__classdict__" : Str)) = false := by decide) : EV X b ρ (.Name x pos) p := fun σ H L Q l hh q => by
  obtain ⟨a, ha⟩ := slot_ref l hr (.inl rfl) hh
  obtain ⟨M, p1, p2⟩ := set_perm (s' := .un) hr ha
  refine ⟨_, pe_var hN hv hd hcd, .ref a, ha, q _ _ _ H h (by simp [l]) ?_⟩
  have h1 : Hold X.K b H ((some (.ref a), .own ys) :: (M ++ L)) := hh.perm (p1.symm.append_right L)
  have h2 := (h1.un (x := some (.ref a))).perm (L' := (some (.ref a), .own ys) :: ((some (.ref a), .un) :: (M ++ L))) (List.Perm.swap ..)
  exact h2.perm (List.Perm.cons _ (p2.append_right L))
theorem x_retO (i : Nat) {po : Po} {ys : List PyData} {x : Str} {pos' : Pos} (hN : X.N[i]? = some x) (hv : Vis X.env.scope x) (hr : ρ[i]? = some (.own ys)) (h : po.rt (.own ys) (ρ.set i .un)) (hd : (x == ("__debug__" : Str)) = false := by decide) (hcd : (x == ("__classdict__" : Str)) = false := by decide) : XS X b ρ (.Return (some (.Name x pos)) pos') po := xs_ret (ev_mov i hN hv hr (fun _ => h) hd hcd)
/-- a list held alone is read, and stays so: what stands in it -/
theorem cell_read {K : PySem.W.Frag} {G H : Hp} {a : Addr} {ys : List PyData} {L : List Cl} (h : HoldG K b G H ((some (.ref a), .own ys) :: L)) : ∃ us, H a = some (.lst us) ∧ DpAll K G us ys := by
  obtain ⟨q, us, e, _, _, h3, h4⟩ := h.ok _ List.mem_cons_self
  cases e
  exact ⟨us, h3, h4⟩
theorem ev_catO (i : Nat) {x : Str} {px : Pos} (hN : X.N[i]? = some x) (hv : Vis X.env.scope x) (h0 : ∃ ys, ρ[i]? = some (.own ys)) (h : EV X b ρ e2 fun r ρ' => ∃ ys zs, ρ'[i]? = some (.own ys) ∧ r = .own zs ∧ ys.length + zs.length ≤ sizeLine ∧ p (.own (ys ++ zs)) ρ') (hd : (x == ("__debug__" : Str)) = false := by decide) (hcd : (x == ("__classdict__" : Str)) = false := by decide) : EV X b ρ (.BinOp (.Name x px) .Add e2 pos) p := fun σ H L Q l hh q => by
  obtain ⟨ys0, hr0⟩ := h0
  obtain ⟨a, ha⟩ := slot_ref l hr0 (.inl rfl) hh
  refine ⟨_, pe_op op_cat (pe_var hN hv hd hcd) (we_pe e2), .ref a, ha, h σ H L _ l hh fun r ρ' v H' ⟨ys, zs, hr, er, hz, hp⟩ l' hh' => ?_⟩
  subst er
  obtain ⟨M, p1, _⟩ := set_perm (s' := .un) hr ha
  obtain ⟨G, hG⟩ := id hh'
  obtain ⟨c, ws, ec, _, _, w3, w4⟩ := hG.ok _ List.mem_cons_self
  cases ec
  obtain ⟨us, u1, u2⟩ := cell_read (hG.drop.perm (p1.symm.append_right L))
  refine ⟨a, c, us, ws, rfl, rfl, u1, w3, by rw [DpAll.len u2, DpAll.len w4]; exact hz, fun f hf => q _ ρ' _ _ hp l' ⟨G, ?_⟩⟩
  exact hG.drop.newL hf (DpAll.app u2 w4)
theorem r_catO (i : Nat) {ys zs : List PyData} {x : Str} {px : Pos} (hN : X.N[i]? = some x) (hv : Vis X.env.scope x) (hr : ρ[i]? = some (.own ys)) (h : EVr X b ρ e2 (.own zs)) (hz : ys.length + zs.length ≤ sizeLine) (hd : (x == ("__debug__" : Str)) = false := by decide) (hcd : (x == ("__classdict__" : Str)) = false := by decide) : EVr X b ρ (.BinOp (.Name x px) .Add e2 pos) (.own (ys ++ zs)) := fun _ k => ev_catO i hN hv ⟨ys, hr⟩ (h _ ⟨ys, zs, hr, rfl, hz, k⟩) hd hcd
/-- len(x), x[e] of a list held alone -/
theorem r_lenO (i : Nat) {s : Sl} {ys : List PyData} {x : Str} {p1 p2 cp : Pos} (hm : X.mg "len" = none) (hN : X.N[i]? = some x) (hv : Vis X.env.scope x) (hr : ρ[i]? = some s) (hs : s = .own ys ∨ s = .bor ys) (hg : Gl X "len" := by rfl) (hd : (x == ("__debug__" : Str)) = false := by decide) (hcd : (x == ("__classdict__" : Str)) = false := by decide)
    (he : starEach [.Name x p2] X.env = (false, eval (.Name x p2) X.env) :: starEach [] X.env := by rfl) (hpl : (backTo cp (starEach [] X.env)).any (·.1) = false := by rfl) : EVr X b ρ (.Call (.Name "len" p1) [.Name x p2] [] cp) (.d (.int ys.length)) := fun p k σ H L Q l hh q => by
  obtain ⟨a, ha⟩ := slot_ref l hr hs hh
  refine ⟨_, pe_callB call_len_seq hg hm PySem.boot_len (pa_cons (pe_var hN hv hd hcd) pa_nil he) (by decide) (by decide) he hpl, .ref a, ha, ?_⟩
  obtain ⟨M, p1, _⟩ := set_perm (s' := .un) hr ha
  obtain ⟨G, hG⟩ := id hh
  obtain ⟨us, u1, u2, _⟩ := cell_lst (hG.perm (p1.symm.append_right L)) hs
  refine ⟨a, us, rfl, .inl (.of u1), ?_⟩
  rw [u2]
  exact q _ ρ _ H k l (hh.int _)
theorem r_ixO (i : Nat) {s : Sl} {ys : List PyData} {k : Int} {y : PyData} {x : Str} {p2 : Pos} (hN : X.N[i]? = some x) (hv : Vis X.env.scope x) (hr : ρ[i]? = some s) (hs : s = .own ys ∨ s = .bor ys) (h2 : EVr X b ρ e2 (.d (.int k))) (hk : atI ys k = some y) (hp : PlainIx e2 := by intro _ _; rfl) (hd : (x == ("__debug__" : Str)) = false := by decide) (hcd : (x == ("__classdict__" : Str)) = false := by decide) : EVr X b ρ (.Subscript (.Name x p2) e2 pos) (.d y) := fun p kk σ H L Q l hh q => by
  obtain ⟨a, ha⟩ := slot_ref l hr hs hh
  refine ⟨_, pe_ix ix_list (pe_var hN hv hd hcd) (we_pe e2) hp, .ref a, ha, h2 (fun r ρ' => r = .d (.int k) ∧ ρ' = ρ) ⟨rfl, rfl⟩ σ H L _ l hh fun r ρ' v H' ⟨er, e⟩ l' hh' => ?_⟩
  subst er e
  have ev := hh'.isI
  subst ev
  obtain ⟨M, p1, _⟩ := set_perm (s' := .un) hr ha
  obtain ⟨G, hG⟩ := hh'.drop
  obtain ⟨us, u1, _, u3⟩ := cell_lst (hG.perm (p1.symm.append_right L)) hs
  obtain ⟨u, hu, hd⟩ := dp_at u3 hk
  exact ⟨a, us, k, u, rfl, rfl, .of u1, hu, q _ ρ' _ H' kk l ⟨G, hG.add hd⟩⟩
end

end DE

namespace DE
open PySem PySem.Spec PyProof.Rows L2 SZ VR VX StX RT
/-! ### a call that knows a part of the heap -/
section
variable {P : Program} {w : World} {G G' H : Hp} {h h' : Heap} {a : Addr} {o : HO}
theorem objok_flat : ∀ {o : HO}, flatO o = true → ObjOk P w H h a o → ObjOk P w G h a o
  | .lst _, _, x => x
  | .tup _, _, x => x
  | .dK _, _, x => x
  | .set _ _, _, x => x
  | .xd _, _, x => x
  | .rng _ _, _, x => x
  | .tbl _, _, x => x
  | .met _ _, _, x => x
  | .ext _, _, x => x
  | .frz _ u, e, x => ⟨x.1, objok_flat (o := u) e x.2⟩
theorem objok_ex {o : HO} (x : ObjOk P w H h a o) : ∃ ob, h.get? a = some ob := by
  cases o with
  | lst _ => exact ⟨_, x.2.choose_spec.choose_spec.2⟩
  | tup _ => obtain ⟨_, _, _, ob, e, _⟩ := x; exact ⟨ob, e⟩
  | dK _ => obtain ⟨_, _, _, _, o, _, _, e, _⟩ := x; exact ⟨o, e⟩
  | dT _ => obtain ⟨_, _, _, _, o, _, _, e, _⟩ := x; exact ⟨o, e⟩
  | set _ _ => obtain ⟨o, _, _, _, e, _⟩ := x; exact ⟨o, e⟩
  | ins _ _ _ => exact ⟨_, x.2.2.2.1⟩
  | own _ => exact x
  | xd _ => obtain ⟨_, ⟨o, _, _, e, _⟩, _⟩ := x; exact ⟨o, e⟩
  | rng _ _ => obtain ⟨_, _, _, e⟩ := x; exact ⟨_, e⟩
  | frz ob _ => exact ⟨ob, x.1⟩
  | tbl _ => exact ⟨_, x⟩
  | met _ _ => exact ⟨_, x⟩
  | ext _ => exact x.2.1
theorem hok_sub (hs : Same G H) (fl : FlO G) (x : HOk P w H h) : HOk P w G h := fun a o e => by
  have ok := x a o (hs a o e)
  rcases fl a o e with ⟨C, dx, fs, rfl, e2⟩ | ⟨y, rfl, _⟩ | hf
  · obtain ⟨_, r⟩ := ok
    exact ⟨e2, r⟩
  · exact ok
  · exact objok_flat hf ok
/-- what is known behind it -/
def uni (G G' H : Hp) : Hp := fun b => match G' b with
  | some o => some o
  | none => if (G b).isSome = true then none else H b
theorem uni_in (e : G' a = some o) : uni G G' H a = some o := by unfold uni; rw [e]
theorem uni_out (e1 : G' a = none) (e2 : G a = none) : uni G G' H a = H a := by unfold uni; rw [e1, e2]; rfl
theorem uni_ok {fs : List Addr} (hs : Same G H) (fl : FlO G) (x : HOk P w H h) (x' : HOk P w G' h') (u : Un fs [] G G' h h') (hf : ∀ b ∈ fs, H b = none) : HOk P w (uni G G' H) h' ∧ Un fs [] H (uni G G' H) h h' ∧ Same G' (uni G G' H) ∧ (∀ b o, H b = some o → G b = none → uni G G' H b = some o) ∧ ∀ b o, G' b = some o → (G b).isSome = true ∨ H b = none := by
  have ex : ∀ {b o}, H b = some o → ∃ ob, h.get? b = some ob := fun {b o} e => objok_ex (x b o e)
  have out : ∀ {b o}, H b = some o → G b = none → G' b = none := fun {b o} e n => by
    obtain ⟨ob, eo⟩ := ex e
    exact u.free b ob eo n (by simp)
  have keepU : ∀ b o, H b = some o → G b = none → uni G G' H b = some o := fun b o e n => by rw [uni_out (out e n) n]; exact e
  have gnone : ∀ {b}, H b = none → G b = none := fun {b} e => by
    cases q : G b with
    | none => rfl
    | some o => rw [hs b o q] at e; cases e
  have tup : ∀ b xs, H b = some (.tup xs) → uni G G' H b = some (.tup xs) := fun b xs e => by
    cases q : G b with
    | none => exact keepU b _ e q
    | some o =>
      have := hs b o q
      rw [e] at this
      cases this
      exact uni_in (u.tups b xs q)
  refine ⟨fun b o e => ?_, ⟨fun b ob q n hb hx => u.keep b ob q (gnone n) hb hx, fun b ob q n hb hx => u.slot b ob q (gnone n) hb hx, fun b ob q n hx => ?_, u.there, tup, fun b ob v e => ?_, fun b ps e => ?_⟩, fun b o e => uni_in e, keepU, fun b o e => ?_⟩
  · cases q : G' b with
    | some o' =>
      rw [uni_in q] at e
      cases e
      exact (x' b o q).stay (fun _ _ _ z => z) (fun c z => uni_in z) fun c xs z => uni_in z
    | none =>
      have n : G b = none := by
        cases r : G b with
        | none => rfl
        | some o' => unfold uni at e; rw [q, r] at e; simp at e
      rw [uni_out q n] at e
      have nb : b ∉ fs := fun z => by rw [hf b z] at e; cases e
      have own : ∀ c, H c = some (.own b) → G c = none := fun c ec => by
        cases r : G c with
        | none => rfl
        | some o' =>
          have := hs c o' r
          rw [ec] at this
          cases this
          rcases fl c _ r with ⟨_, _, _, z, _⟩ | ⟨y, z, k⟩ | z
          · cases z
          · cases z; rw [n] at k; cases k
          · cases z
      refine (x b o e).stay (fun c v hc z => ?_) (fun c ec => keepU c _ ec (own c ec)) tup
      rcases hc with rfl | hc
      · exact u.keep c v z n nb (by simp)
      · exact u.keep c v z (own c hc) (fun zz => by rw [hf c zz] at hc; cases hc) (by simp)
  · rw [uni_out (u.free b ob q (gnone n) hx) (gnone n)]
    exact n
  · cases q : G b with
    | none => exact keepU b _ e q
    | some o =>
      have := hs b o q
      rw [e] at this
      cases this
      exact uni_in (u.frzs b ob v q)
  · cases q : G b with
    | none => exact ⟨#[], by rw [keepU b _ e q]; simp⟩
    | some o =>
      have := hs b o q
      rw [e] at this
      cases this
      obtain ⟨more, z⟩ := u.tbls b ps q
      exact ⟨more, uni_in z⟩
  · cases q : H b with
    | none => exact .inr rfl
    | some v =>
      cases r : G b with
      | some _ => exact .inl rfl
      | none => rw [out q r] at e; cases e
end
section
variable {P : Program} {w : World} {K : PySem.W.Frag} {mg : Str → Option Value} {base : Heap} {k : Nat} {f : Addr} {fd : FuncData} {ps : List Str} {sp : Sp}
/-- sp, asked of a part G of the heap; the rest stays -/
def frm (sp : Sp) : Sp := fun vs H Q E => ∃ G : Hp, Same G H ∧ FlO G ∧ sp vs G (fun v G' => ∀ H', Same G' H' → (∀ b o, H b = some o → G b = none → H' b = some o) → (∀ b o, G' b = some o → (G b).isSome = true ∨ H b = none) → Q v H') E
theorem frm_run {A : Around} {outer : List Env} {s : Shared} {H : Hp} {args : Args} {vs : List V} {Q : VK} {E : XK} (run : ∀ (H : Hp) (Q : VK), Env0 P w K mg base A outer s H → sp vs H Q E → codeAny (model P w) A (.call (.ref f) args) (CR CX0 outer P w H s Q E) s)
    (e0 : Env0 P w K mg base A outer s H) (h : frm sp vs H Q E) : codeAny (model P w) A (.call (.ref f) args) (CR CX0 outer P w H s Q E) s := by
  obtain ⟨G, hs, fl, h⟩ := h
  have gn : ∀ {b}, H b = none → G b = none := fun {b} e => hs.free e
  refine codeAny_mono (run G _ ⟨e0.frames, e0.mod, fun b o e => ⟨(e0.bs b o e).1, gn (e0.bs b o e).2⟩, e0.bsz, e0.funs, fun b hb => gn (e0.frf b hb), hok_sub hs fl e0.hok, e0.bare⟩ h) fun r s' hr => ?_
  match r, hr with
  | .ok (.ret u), ⟨v, G', os, bare, un, hok, rv, q⟩ =>
    obtain ⟨h1, h2, h3, h4, h5⟩ := uni_ok hs fl e0.hok hok un e0.frf
    exact ⟨v, uni G G' H, os, bare, h2, h1, rv, q _ h3 h4 h5⟩
  | .ok .next, hr => exact hr.elim
  | .ok .brk, hr => exact hr.elim
  | .ok .cont, hr => exact hr.elim
  | .error e, hr => exact hr.elim
theorem _root_.L2.FnOk.frm (F : FnOk P w K mg base CX0 k f fd ps sp) : FnOk P w K mg base CX0 k f fd ps (DE.frm sp) :=
  ⟨fun vs H Q E ⟨G, _, _, h⟩ => F.len vs G _ E h, fun A outer s H args us vs Q E hr e0 hb hv h => frm_run (fun H Q e1 h1 => F.run A outer s H args us vs Q E hr e1 hb hv h1) e0 h⟩
theorem _root_.VX.RunG.frm (F : RunG P w K mg base CX0 k f fd ps sp) : RunG P w K mg base CX0 k f fd ps (DE.frm sp) :=
  fun A outer s H args us vs Q E hg hr e0 hb hv h => frm_run (fun H Q e1 h1 => F A outer s H args us vs Q E hg hr e1 hb hv h1) e0 h
theorem _root_.VX.RunG.imp {CX : CXT} {sp' : Sp} (F : RunG P w K mg base CX k f fd ps sp) (h : ∀ vs H Q E, sp' vs H Q E → sp vs H Q E) : RunG P w K mg base CX k f fd ps sp' :=
  fun A outer s H args us vs Q E hg hr e0 hb hv hh => F A outer s H args us vs Q E hg hr e0 hb hv (h _ _ _ _ hh)
/-- what is new and leans on nothing -/
def flt (G G' : Hp) : Hp := fun b => match G b with
  | some o => some o
  | none => match G' b with
    | some o => if flatO o = true then some o else none
    | none => none
theorem flt_same {G G' : Hp} : Same G (flt G G') := fun b o e => by unfold flt; rw [e]
theorem flt_up {G G' : Hp} (s : Same G G') : Same (flt G G') G' := fun b o e => by
  unfold flt at e
  cases q : G b with
  | some u => rw [q] at e; cases e; exact s b _ q
  | none =>
    rw [q] at e
    cases r : G' b with
    | none => rw [r] at e; cases e
    | some u =>
      rw [r] at e
      by_cases hf : flatO u = true
      · simp [hf] at e; rw [e]
      · simp [hf] at e
theorem flt_fl {G G' : Hp} (f : FlO G) : FlO (flt G G') := fun b o e => by
  cases q : G b with
  | some u =>
    have : flt G G' b = some u := flt_same b u q
    rw [this] at e
    cases e
    rcases f b _ q with ⟨C, dx, fs, e1, e2⟩ | ⟨x, e1, e2⟩ | h
    · exact .inl ⟨C, dx, fs, e1, flt_same _ _ e2⟩
    · refine .inr (.inl ⟨x, e1, ?_⟩)
      cases r : G x with
      | none => rw [r] at e2; cases e2
      | some o => rw [flt_same _ _ r]; rfl
    · exact .inr (.inr h)
  | none =>
    unfold flt at e
    rw [q] at e
    cases r : G' b with
    | none => rw [r] at e; cases e
    | some u =>
      rw [r] at e
      by_cases hf : flatO u = true
      · simp [hf] at e; subst e; exact .inr (.inr hf)
      · simp [hf] at e
theorem flt_in {G G' : Hp} (s : Same G G') {b : Addr} {o : HO} (e : G' b = some o) (hf : flatO o = true) : flt G G' b = some o := by
  unfold flt
  cases q : G b with
  | some u =>
    have := s b u q
    rw [e] at this
    cases this
    rfl
  | none => rw [e]; simp [hf]
theorem flt_rd {G G' : Hp} (s : Same G G') {a : Addr} {u : HO} (h : Rd G' a u) (hf : flatO u = true) : Rd (flt G G') a u := by
  rcases h with h | ⟨o, h⟩
  · exact .inl (flt_in s h hf)
  · exact .inr ⟨o, flt_in s h hf⟩
mutual
theorem flt_dp {G G' : Hp} (s : Same G G') : ∀ {v : V} {y : PyData}, Dp K G' v y → Dp K (flt G G') v y
  | _, _, .non => .non
  | _, _, .bl b => .bl b
  | _, _, .int i => .int i
  | _, _, .str x => .str x
  | _, _, .lst h1 h2 => .lst (h1.imp (fun z => flt_rd s z rfl) id) (flt_dpA s h2)
  | _, _, .tup h1 h2 => .tup (h1.imp (fun z => flt_rd s z rfl) id) (flt_dpA s h2)
theorem flt_dpA {G G' : Hp} (s : Same G G') : ∀ {vs : List V} {ys : List PyData}, DpAll K G' vs ys → DpAll K (flt G G') vs ys
  | _, _, .nil => .nil
  | _, _, .cons h1 h2 => .cons (flt_dp s h1) (flt_dpA s h2)
end
/-- behind a call of the elder kind that hands back data -/
theorem HoldG.oldD {b : Bs} {G G' H H' : Hp} {v : V} {y : PyData} {L : List Cl} (h : HoldG K b G H L) (s : Same G G') (d : Dp K G' v y) (h1 : Same G' H') (h2 : ∀ b o, H b = some o → G b = none → H' b = some o) (h3 : ∀ b o, G' b = some o → (G b).isSome = true ∨ H b = none) : Hold K ⟨G, H, []⟩ H' [(some v, .d y)] :=
  ⟨flt G G', flt_same, (flt_up s).trans h1, fun a o e => (h3 a o (flt_up s a o e)).imp (fun z => by
      cases q : G a with
      | none => rw [q] at z; cases z
      | some o' => rw [flt_same a o' q] at e; cases e; exact q) id, fun a o e _ => by
      cases q : G a with
      | none => exact h2 a o e q
      | some o' =>
        have e1 := h.up a o' q
        have e2 : H a = some o := e
        rw [e2] at e1
        cases e1
        exact h1 a o (s a o q), fun a ha => (nomatch ha), fun c hc => by
      rw [List.mem_singleton.mp hc]
      exact ⟨v, rfl, flt_dp s d⟩, by cases v <;> simp [ads], flt_fl h.fl⟩
end

end DE

namespace DE
open PySem PySem.Spec PyProof.Rows L2 SZ VR VX StX RT
/-! ### words of the elder kind; defs that show; menus -/
section
variable {K : PySem.W.Frag} {b : Bs} {G H H' : Hp} {L : List Cl}
theorem SlOk.same {c : Cl} (s : Same H H') (h : SlOk K b G H c) : SlOk K b G H' c := by
  obtain ⟨x, sl⟩ := c
  cases sl with
  | un => trivial
  | d y => exact h
  | own ys => obtain ⟨p, vs, e, h1, h2, h3, h4⟩ := h; exact ⟨p, vs, e, h1, h2, s _ _ h3, h4⟩
  | bor ys => obtain ⟨p, vs, e, h1, h2, h3, h4⟩ := h; exact ⟨p, vs, e, h1, h2, s _ _ h3, h4⟩
  | fact φ st => exact h
  | dct o kvs => obtain ⟨p, vs, e, h1, h2, h3, h4⟩ := h; exact ⟨p, vs, e, h1, h2, s _ _ h3, h4⟩
theorem HoldG.same (h : HoldG K b G H L) (s : Same H H') : HoldG K b G H' L := ⟨h.old, h.up.trans s, h.new, fun a o e n => s _ _ (h.rest a o e n), fun a ha => by
  refine ⟨?_, (h.bs a ha).2.of fun c u e _ _ => s c u e⟩
  have := (h.bs a ha).1
  cases e : H a with
  | none => rw [e] at this; cases this
  | some o => rw [s _ _ e]; rfl, fun c hc => (h.ok c hc).same s, h.nd, h.fl⟩
theorem Hold.same (h : Hold K b H L) (s : Same H H') : Hold K b H' L := let ⟨G, h⟩ := h; ⟨G, h.same s⟩
/-- an object of one's own, new -/
theorem HoldG.obj (h : HoldG K b G H L) {x dx C : Addr} {fs : List (Str × V)} (s : Same H H') (nx : H x = none) (nd : H dx = none) (ne : dx ≠ x) (h1 : H' x = some (.ins C dx fs)) (h2 : H' dx = some (.own x)) : HoldG K b (upd (upd G dx (.own x)) x (.ins C dx fs)) H' L := by
  have gn : ∀ {c}, H c = none → G c = none := fun {c} e => h.up.free e
  have sG : Same G (upd (upd G dx (.own x)) x (.ins C dx fs)) := fun c o e => by
    rw [upd_ne (ne_of_none e (gn nx)), upd_ne (ne_of_none e (gn nd))]
    exact e
  have hb : ∀ {c}, H c = none → b.H c = none ∨ c ∈ b.B := fun {c} e => by
    by_cases hc : c ∈ b.B
    · exact .inr hc
    · cases e2 : b.H c with
      | none => exact .inl rfl
      | some o => rw [h.rest c o e2 hc] at e; cases e
  have nB : ∀ {c}, H c = none → c ∉ b.B := fun {c} e hc => by
    have := (h.bs c hc).1
    rw [e] at this
    cases this
  have hbn : ∀ {c}, H c = none → b.H c = none := fun {c} e => (hb e).resolve_right (nB e)
  refine ⟨h.old.trans sG, fun c o e => ?_, fun c o e => ?_, fun a o e n => s _ _ (h.rest a o e n), (h.same s).bs, fun c hc => ?_, h.nd, fun c o e => ?_⟩
  · by_cases e1 : c = x
    · subst e1; rw [upd_same] at e; cases e; exact h1
    · rw [upd_ne e1] at e
      by_cases e2 : c = dx
      · subst e2; rw [upd_same] at e; cases e; exact h2
      · rw [upd_ne e2] at e
        exact s _ _ (h.up _ _ e)
  · by_cases e1 : c = x
    · subst e1; exact .inr (hbn nx)
    · rw [upd_ne e1] at e
      by_cases e2 : c = dx
      · subst e2; exact .inr (hbn nd)
      · rw [upd_ne e2] at e
        exact h.new _ _ e
  · have ok := h.ok c hc
    obtain ⟨y, sl⟩ := c
    have ow : ∀ {p : Addr} {o : HO}, H p = some o → G p = none → (upd (upd G dx (.own x)) x (.ins C dx fs)) p = none := fun {p o} hp gp => by
      rw [upd_ne (ne_of_none hp nx), upd_ne (ne_of_none hp nd)]
      exact gp
    cases sl with
    | un => trivial
    | d z => obtain ⟨v, e, hd⟩ := ok; exact ⟨v, e, Dp.keep sG hd⟩
    | own ys => obtain ⟨p, vs, e, h1, h2, h3, h4⟩ := ok; exact ⟨p, vs, e, h1, ow h3 h2, s _ _ h3, DpAll.keep sG h4⟩
    | bor ys => obtain ⟨p, vs, e, h1, h2, h3, h4⟩ := ok; exact ⟨p, vs, e, h1, ow h3 h2, s _ _ h3, DpAll.keep sG h4⟩
    | fact φ st => obtain ⟨v, e, hp⟩ := ok; exact ⟨v, e, st _ _ _ sG hp⟩
    | dct o kvs => obtain ⟨p, vs, e, h1, h2, h3, h4⟩ := ok; exact ⟨p, vs, e, h1, ow h3 h2, s _ _ h3, DpK.keep sG h4⟩
  · by_cases e1 : c = x
    · subst e1
      rw [upd_same] at e
      cases e
      exact .inl ⟨C, dx, fs, rfl, by rw [upd_ne ne, upd_same]⟩
    · rw [upd_ne e1] at e
      by_cases e2 : c = dx
      · subst e2
        rw [upd_same] at e
        cases e
        exact .inr (.inl ⟨x, rfl, by rw [upd_same]; rfl⟩)
      · rw [upd_ne e2] at e
        rcases h.fl c o e with ⟨C', d', fs', e3, e4⟩ | ⟨y, e3, e4⟩ | h3
        · refine .inl ⟨C', d', fs', e3, ?_⟩
          exact sG _ _ e4
        · refine .inr (.inl ⟨y, e3, ?_⟩)
          cases e5 : G y with
          | none => rw [e5] at e4; cases e4
          | some o' => rw [sG _ _ e5]; rfl
        · exact .inr (.inr h3)
end
section
variable {X : Cx} {b : Bs} {ρ : List Sl} {e e1 e2 : Expr} {es : List Expr} {r : Sl} {c : Bool} {pos : Pos}
theorem r_oldS {te : TE} {z : Str} (he : PE X e te) (h : ∀ σ H L (Q : VK), σ.length = ρ.length → Hold X.K b H (σ.zip ρ ++ L) → (∀ H', Same H H' → Q (.str z) H') → te σ H Q) : EVr X b ρ e (.d (.str z)) := fun _ k σ H L Q l hh q =>
  ⟨te, he, h σ H L Q l hh fun H' s => q _ ρ _ H' k l ((hh.same s).str z)⟩
theorem t_old {te : TT} (he : PT X e te) (h : ∀ σ H L (Q : Bool → Hp → Prop), σ.length = ρ.length → Hold X.K b H (σ.zip ρ ++ L) → (∀ H', Same H H' → Q c H') → te σ H Q) : ETr X b ρ e c := fun _ k σ H L Q l hh q =>
  ⟨te, he, h σ H L Q l hh fun H' s => q _ ρ H' k l (hh.same s)⟩
structure CalG (P : Program) (w : World) (K : PySem.W.Frag) (mg : Str → Option Value) (base : Heap) (CX : CXT) (x : Str) (k : Nat) (Pre : List Sl → Prop) (Res : List Sl → Sl → Prop) : Prop where
  ex : ∃ f fd ps, RunG P w K mg base CX k f fd ps (spP K Pre Res) ∧ (∀ as, Pre as → as.length = ps.length) ∧ mg x = some (.ref f) ∧ PySem.W.keepIn K (.ref f) = true ∧ Binds K fd ps []
theorem ev_calG {CX : CXT} {k : Nat} {Pre : List Sl → Prop} {Res : List Sl → Sl → Prop} {x : Str} {p1 cp : Pos} {p : Sl → List Sl → Prop} (C : CalG X.prog X.w X.K X.mg X.base CX x k Pre Res) (gd : X.A.guards = some []) (hr : Room k X.A) {E : XK} (hx : Passes CX X E)
    (h : EA X b ρ (e :: es) fun rs ρ' => ∃ ys, datas rs = some ys ∧ Pre (ys.map .d) ∧ ∀ r, Res (ys.map .d) r → (∀ ys, r ≠ .bor ys) ∧ p r ρ') (hg : Gl X x := by rfl)
    (hdb : (x == ("__debug__" : Str)) = false := by decide) (he : starEach (e :: es) X.env = (false, eval e X.env) :: starEach es X.env := by rfl) (hpl : (backTo cp (starEach es X.env)).any (·.1) = false := by rfl) : EV X b ρ (.Call (.Name x p1) (e :: es) [] cp) p := fun σ H L Q l hh q => by
  obtain ⟨f, fd, ps, F, ln, hm, hk, hb⟩ := C.ex
  refine ⟨_, pe_callSh F gd hr (fun vs H Q E z => by obtain ⟨G, as, l, _, hp, _⟩ := z; exact l.trans (ln as hp)) hg hm hk hb hx (wa_pa _) hdb he hpl, h σ H L _ l hh fun rs ρ' vs H' ⟨ys, ed, hp, h2⟩ l' lv hh' => ?_⟩
  have ec := datas_cool ed
  obtain ⟨G, hG⟩ := hh'.coolAll
  rw [ec] at hG
  have hsub := HoldG.sub0 hG (flat_zip (vs := vs) fun r hr => by
    obtain ⟨y, _, rfl⟩ := List.mem_map.mp hr
    rfl)
  refine ⟨G, ys.map .d, by rw [← ec]; simp [lv], by rw [List.append_nil]; exact hsub, hp, fun r hr n v H2 hh2 => ?_⟩
  exact q r ρ' v H2 (h2 r hr).2 l' (hG.dropM.after hh2 n)
theorem r_calG {CX : CXT} {k : Nat} {Pre : List Sl → Prop} {Res : List Sl → Sl → Prop} {x : Str} {p1 cp : Pos} {rs : List Sl} {ys : List PyData} (C : CalG X.prog X.w X.K X.mg X.base CX x k Pre Res) (gd : X.A.guards = some []) (hr : Room k X.A) {E : XK} (hx : Passes CX X E)
    (h : EAr X b ρ (e :: es) rs) (ed : datas rs = some ys) (h1 : Pre (ys.map .d)) (h2 : ∀ r', Res (ys.map .d) r' → r' = r) (nb : ∀ ys, r ≠ .bor ys := by intro _; nofun) (hg : Gl X x := by rfl)
    (hdb : (x == ("__debug__" : Str)) = false := by decide) (he : starEach (e :: es) X.env = (false, eval e X.env) :: starEach es X.env := by rfl) (hpl : (backTo cp (starEach es X.env)).any (·.1) = false := by rfl) : EVr X b ρ (.Call (.Name x p1) (e :: es) [] cp) r := fun _ q =>
  ev_calG C gd hr hx (h _ ⟨ys, ed, h1, fun r' hr' => by rw [h2 r' hr']; exact ⟨nb, q⟩⟩) hg hdb he hpl
theorem r_cool {ys : List PyData} (h : EVr X b ρ e (.own ys)) : EVr X b ρ e (.d (.list ys)) := fun _ k σ H L Q l hh q =>
  h (fun r ρ' => r = .own ys ∧ ρ' = ρ) ⟨rfl, rfl⟩ σ H L Q l hh fun r ρ' v H' ⟨e1, e2⟩ l' hh' => by
    subst e1 e2
    exact q _ ρ' v H' k l' hh'.cool
theorem ev_cool {p : Sl → List Sl → Prop} (h : EV X b ρ e fun r ρ' => p (cool r) ρ') : EV X b ρ e p := fun σ H L Q l hh q =>
  h σ H L Q l hh fun r ρ' v H' k l' hh' => q _ ρ' v H' k l' hh'.cool
/-- a list at hand and a drawn place -/
theorem ev_menu {ys : List PyData} {p : Sl → List Sl → Prop} (h1 : EVr X b ρ e1 r) (er : cool r = .d (.list ys) ∨ cool r = .d (.tuple ys)) (h2 : EV X b ρ e2 fun r2 ρ' => ∃ i : Int, r2 = .d (.int i) ∧ 0 ≤ i ∧ i < ys.length ∧ ∀ y, ys[i.toNat]? = some y → p (.d y) ρ') (hs : PlainIx e2 := by intro _ _; rfl) : EV X b ρ (.Subscript e1 e2 pos) p :=
  ev_ix hs (h1 _ (h2.imp fun r2 ρ' ⟨i, e, i0, i1, k⟩ => by
    subst e
    have hl : i.toNat < ys.length := by omega
    have hy : ys[i.toNat]? = some ys[i.toNat] := List.getElem?_eq_getElem hl
    refine ir_at er ?_ _ (k _ hy)
    unfold atI
    have : ixN ys.length i = some i.toNat := by
      have := ixN_nat (k := i.toNat) hl
      rwa [Int.toNat_of_nonneg i0] at this
    rw [this]
    exact hy))
/-- repr of plain data -/
theorem r_repr {y : PyData} {ps cp : Pos} (gd : X.A.guards = some []) (hu : X.A.units + 64 < cLine) (hm : X.mg "repr" = none) (h : EVr X b ρ e (.d y)) (h1 : y.showable = true) (h2 : y.hasDict = false) (h3 : y.depth ≤ 8) (h4 : y.shown.length ≤ sizeLine) (hg : Gl X "repr" := by rfl)
    (he : starEach [e] X.env = (false, eval e X.env) :: starEach [] X.env := by rfl) : EVr X b ρ (.Call (.Name "repr" ps) [e] [] cp) (.d (.str y.shown)) :=
  r_callB (id := "repr") hm (a_cons h a_nil he) (fun p k => ⟨_, call_reprD gd hu, fun vs H L Q lv hh q => by
    obtain ⟨v, rfl⟩ := one_in (rs := [.d y]) (r := .d y) lv
    exact ⟨v, y, rfl, hh.dp, h1, h2, h3, h4, q _ _ _ k (hh.drop.str _)⟩⟩) (hg := hg) (he := he)
end
section
variable {P : Program} {w : World} {K : PySem.W.Frag} {mg : Str → Option Value} {base : Heap}
theorem fn_PG {x qual : Str} {st : Stmt} {f : Addr} {fd : FuncData} {N ps : List Str} {k : Nat} {Pre : List Sl → Prop} {Res : List Sl → Sl → Prop} (F : Fun K x qual st f fd) (S : FnScope N ps (defScope st)) (len : ∀ as, Pre as → as.length = ps.length) (hN : ps.length ≤ N.length)
    (h : ∀ (cdv : Value) (A : Around) (outer : List Env) (s : Shared) (H : Hp) (E : XK), A.guards = some [] → Room k (A.deeper (envOfC qual (defScope st) s.heap.objs.size f cdv)) → ∀ (b : Bs) (as : List Sl), Pre as → XB (cxOf CX0 P w K mg base N qual (defScope st) f cdv A outer s H E).nox b (as ++ List.replicate (N.length - as.length) .un) (defBody st)
      ⟨fun _ => Res as (.d .none), fun r _ => Res as r ∧ ∀ ys, r ≠ .bor ys, fun _ => False, fun _ => False⟩) : RunG P w K mg base CX0 (k + 1) f fd ps (spP K Pre Res) := by
  refine okG F S (fun vs H Q E z => ?_) (fun cdv A outer s H vs Q E hg hr z => ?_)
  · obtain ⟨G, as, l, _, hp, _⟩ := z
    exact l.trans (len as hp)
  · obtain ⟨G, as, l, hG, hp, q⟩ := z
    obtain ⟨t, ht, hq⟩ := h cdv A outer s H E hg hr ⟨G, H, []⟩ as hp (L2.start N vs) H [] { nx := fun _ H' => Q .non H', rt := Q } (by unfold L2.start; have := len as hp; simp [l])
      (by rw [List.append_nil, zip_start l]; exact hold_start _ ⟨G, hG⟩)
      ⟨fun ρ' σ' H' hn l' n' hh => q (.d .none) hn (by simp) .non H' (hh.dropL (M := σ'.zip ρ') (L := []) |>.non), fun r ρ' v σ' H' hn l' n' hh => q r hn.1 hn.2 v H' ((hh.perm (L' := σ'.zip ρ' ++ [(some v, r)]) (by rw [List.append_nil]; exact List.perm_append_singleton _ _)).dropL), fun _ _ _ z => z.elim, fun _ _ _ z => z.elim⟩
    exact ⟨t, ht, hq⟩
end

end DE

namespace DE
open PySem PySem.Spec PyProof.Rows L2 SZ VR VX StX RT
/-! ### lists joined, also lists that stay -/
section
open Builtin
theorem add_lists (l : Addr) (xs : Array Value) (n : Nat) (t : Array (Option Value)) (b : Addr) (ys : Array Value) (m : Nat) (u : Array (Option Value)) (hc0 : xs.size + ys.size ≤ sizeLine) :
    Meets (Builtin.«list.__add__» ⟨[.ref l, .ref b], []⟩) (fun _ R s =>
      (s.heap.get? l = some ⟨.type "list", none, .seq xs n, t⟩ ∧ s.heap.get? b = some ⟨.type "list", none, .seq ys m, u⟩) ∧
        R (.ok (.ret (Value.ref s.heap.objs.size))) { s with heap := s.heap.push { cls := Value.type "list", data := Data.seq (xs ++ ys) }, toks := s.toks }) :=
  .of_wp fun prog w A R s h => by
    obtain ⟨hp, g, d, tk, os⟩ := s
    obtain ⟨⟨hl, hb⟩, h⟩ := h
    have f1 := PySem.AutoSeq1.idx_int
    have f3 := PySem.AutoSeq1.sub_list_list
    have f2 := PySem.AutoSeq1.sub_tuple_tuple
    have f4 := PySem.AutoSeq1.sub_tuple_list
    have f5 := PySem.AutoSeq1.sub_list_tuple
    wp_walk using PySem.AutoSeq1.wpAny_loadPart' hl, PySem.AutoSeq1.wpAny_loadPart' hb
    exact ⟨_, rfl, h⟩
end
theorem op_catS {X : Cx} : OpR X (binaryOp .Add) (fun x y H Q => ∃ a b xs zs, x = .ref a ∧ y = .ref b ∧ SqL X.K H a xs ∧ SqL X.K H b zs ∧ xs.length + zs.length ≤ sizeLine ∧ ∀ p, H p = none → Q (.ref p) (upd H p (.lst (xs ++ zs)))) := by
  intro pins s σ H x y v u Q I rx ry h
  obtain ⟨l, b, xs, zs, rfl, rfl, hH, hB, hz, q⟩ := h
  cases rx
  cases ry
  obtain ⟨its, r, ⟨o, n, e, c1, c2, c3⟩, z⟩ := I.list hH
  obtain ⟨its2, r2, ⟨o2, n2, e2, d1, d2, d3⟩, z2⟩ := I.list hB
  obtain ⟨cls, dict, data, slots⟩ := o
  obtain ⟨cls2, dict2, data2, slots2⟩ := o2
  simp only at c1 c2 c3 d1 d2 d3
  subst c1 c2 c3 d1 d2 d3
  have l1 := r.length
  have l2 := r2.length
  have ea : its.toArray ++ its2.toArray = (its ++ its2).toArray := by simp
  refine concat_meets ⟨_, e, rfl⟩ ⟨_, e2, rfl⟩ noFill_list_add seq_list_add F.slot_list_add F.entry_list_add (F.args_list_add_2 _ _) (add_lists l its.toArray n slots b its2.toArray n2 slots2 (by rw [List.size_toArray, List.size_toArray]; omega)) ⟨⟨e, e2⟩, ?_⟩
  rw [ea]
  exact ⟨.ref _, _, I.lnew (t' := s.toks) (r.append r2) (by rw [List.length_append]; omega), rfl, q _ I.fresh⟩
section
variable {X : Cx} {b : Bs} {r1 r2 : Sl} {xs ys : List PyData}
theorem or_catS (e1 : cool r1 = .d (.list xs)) (e2 : cool r2 = .d (.list ys)) (hz : xs.length + ys.length ≤ sizeLine) : OVr X b (binaryOp .Add) r1 r2 (.own (xs ++ ys)) := fun p h => OV.cool (by
  rw [e1, e2]
  refine ⟨_, op_catS, fun v1 v2 H L Q hh k => ?_⟩
  obtain ⟨G, hg⟩ := hh
  obtain ⟨_, f1, d1⟩ := hg.ok (some v1, .d (.list xs)) List.mem_cons_self
  obtain ⟨_, f2, d2⟩ := hg.ok (some v2, .d (.list ys)) (List.mem_cons_of_mem _ List.mem_cons_self)
  cases f1
  cases f2
  cases d1 with
  | @lst a us _ s1 t1 =>
    cases d2 with
    | @lst c ws _ s2 t2 =>
      exact ⟨a, c, us, ws, rfl, rfl, hg.up.seq s1, hg.up.seq s2, by rw [DpAll.len t1, DpAll.len t2]; exact hz, fun q hq => k _ _ _ h ⟨G, hg.drop.drop.newL hq (DpAll.app t1 t2)⟩⟩)
/-- a list that is nobody's, n times -/
theorem or_rep {n : Int} (h0 : -(2 ^ 63) ≤ n) (h1 : n < 2 ^ 63) (hz : xs.length * n.toNat ≤ sizeLine) : OVr X b (binaryOp .Mult) (.own xs) (.d (.int n)) (.own (List.replicate n.toNat xs).flatten) := fun p h => ⟨_, op_rep, fun v1 v2 H L Q hh k => by
  have hi := (hh.perm (List.Perm.swap ..)).isI
  subst hi
  obtain ⟨G, hg⟩ := hh
  obtain ⟨l1, us, e1, _, _, h1', d1⟩ := hg.ok _ List.mem_cons_self
  cases e1
  refine ⟨l1, n, us, rfl, rfl, h1', h0, h1, by rw [DpAll.len d1]; exact hz, fun q hq => k _ _ _ h ⟨G, hg.drop.drop.newL hq ?_⟩⟩
  generalize n.toNat = m
  induction m with
  | zero => exact .nil
  | succ m ih =>
    rw [List.replicate_succ, List.replicate_succ, List.flatten_cons, List.flatten_cons]
    exact DpAll.app d1 ih⟩
end

end DE

namespace DE
open PySem PySem.Spec PyProof.Rows L2 SZ VR VX StX RT
/-! ### written parts of a text -/
section
variable {X : Cx} {b : Bs} {ρ : List Sl} {e : Expr} {es : List Expr} {pos : Pos}
theorem r_fmtS {z : Str} (h : EVr X b ρ e (.d (.str z))) (hz : z.length ≤ sizeLine) : EVr X b ρ (.FormattedValue e (-1) none pos) (.d (.str z)) := fun p k σ H L Q l hh q =>
  ⟨_, pe_fmt (we_pe e), h (fun r ρ' => r = .d (.str z) ∧ ρ' = ρ) ⟨rfl, rfl⟩ σ H L _ l hh fun r ρ' v H' ⟨e1, e2⟩ l' hh' => by
    subst e1 e2
    have ev := hh'.isS
    subst ev
    exact .inl ⟨z, rfl, hz, q _ ρ' _ H' k l' hh'⟩⟩
theorem r_fmtI {i : Int} (h : EVr X b ρ e (.d (.int i))) (hz : i.natAbs.log2 < 1920) : EVr X b ρ (.FormattedValue e (-1) none pos) (.d (.str (toString i))) := fun p k σ H L Q l hh q =>
  ⟨_, pe_fmt (we_pe e), h (fun r ρ' => r = .d (.int i) ∧ ρ' = ρ) ⟨rfl, rfl⟩ σ H L _ l hh fun r ρ' v H' ⟨e1, e2⟩ l' hh' => by
    subst e1 e2
    have ev := hh'.isI
    subst ev
    exact .inr ⟨i, rfl, hz, q _ ρ' _ H' k l' (hh'.drop.str _)⟩⟩
/-- texts side by side -/
inductive FJ (X : Cx) (b : Bs) (ρ : List Sl) : List Expr → List Str → Prop
  | nil : FJ X b ρ [] []
  | cons {e : Expr} {z : Str} {es : List Expr} {zs : List Str} : EVr X b ρ e (.d (.str z)) → FJ X b ρ es zs → FJ X b ρ (e :: es) (z :: zs)
theorem fj_pj : ∀ es : List Expr, PJ X es (es.map (WE X))
  | [] => .nil
  | e :: es => .cons (we_pe e) (fj_pj es)
theorem fj_go {zs : List Str} (h : FJ X b ρ es zs) : ∀ (acc : Str) (σ : L2.St) (H : Hp) (L : List Cl) (Q : Str → Hp → Prop), σ.length = ρ.length → Hold X.K b H (σ.zip ρ ++ L) → acc.length + (zs.map (·.length)).sum ≤ sizeLine → (∀ H', Hold X.K b H' (σ.zip ρ ++ L) → Q (zs.foldl (· ++ ·) acc) H') → tJs (es.map (WE X)) acc σ H Q := by
  induction h with
  | nil => exact fun acc σ H L Q l hh hz k => k H hh
  | @cons e z es zs he _ ih =>
    intro acc σ H L Q l hh hz k
    rw [List.map_cons, List.sum_cons] at hz
    refine he (fun r ρ' => r = .d (.str z) ∧ ρ' = ρ) ⟨rfl, rfl⟩ σ H L _ l hh fun r ρ' v H' ⟨e1, e2⟩ l' hh' => ?_
    subst e1 e2
    have ev := hh'.isS
    subst ev
    exact ⟨z, rfl, by rw [Str.length_append]; omega, ih (acc ++ z) σ H' L Q l' hh'.drop (by rw [Str.length_append]; omega) k⟩
theorem r_joined {v1 v2 : Expr} {zs : List Str} (h : FJ X b ρ (v1 :: v2 :: es) zs) (hz : (zs.map (·.length)).sum ≤ sizeLine) : EVr X b ρ (.JoinedStr (v1 :: v2 :: es) pos) (.d (.str (zs.foldl (· ++ ·) Str.empty))) := fun p k σ H L Q l hh q =>
  ⟨_, pe_joined (fj_pj _), fj_go h Str.empty σ H L _ l hh (by have : Str.empty.length = 0 := rfl; omega) fun H' hh' => q _ ρ _ H' k l (hh'.str _)⟩
end
/-! ### reversed(range(n)) -/
def revD (n : Nat) : List PyData := (List.range n).map fun i : Nat => .int ((n : Int) - 1 + (i : Int) * (-1))
theorem revD_len (n : Nat) : (revD n).length = n := by unfold revD; simp
theorem revD_at {n i : Nat} (h : i < n) : (revD n)[i]? = some (.int ((n : Int) - 1 + (i : Int) * (-1))) := by unfold revD; simp [h]
theorem walk_rangeN {lo c : Int} {n : Nat} : Walk (Itc lo c n) n (fun _ => True) (YFn fun i => .int (lo + (i : Nat) * c)) where
  goes := fun i H hi _ => hi
  stops := fun H _ => Nat.le_refl n
  yields := fun i H x H' _ _ h => h
section
variable {X : Cx} {b : Bs} {ρ : List Sl} {tg : Expr}
theorem ei_revRange {a : Expr} {p0 p1 p2 p3 : Pos} {p : List PyData → List Sl → Prop} (hg1 : Gl X "reversed") (hm1 : X.mg "reversed" = none) (hg : Gl X "range") (hm : X.mg "range" = none) (h : EV X b ρ a fun r ρ' => ∃ n : Int, r = .d (.int n) ∧ 0 ≤ n ∧ n < 2 ^ 62 ∧ p (revD n.toNat) ρ')
    (hs : starEach [a] X.env = [(false, eval a X.env)] := by rfl) (hs1 : starEach [.Call (.Name "range" p1) [a] [] p2] X.env = (false, eval (.Call (.Name "range" p1) [a] [] p2) X.env) :: starEach [] X.env := by rfl) : EI X b ρ tg (.Call (.Name "reversed" p0) [.Call (.Name "range" p1) [a] [] p2] [] p3) p :=
  ⟨_, pi_revR hg1 hm1 (prg_1 hg hm (we_pe a) hs) hs1, fun σ H L R l hh k => h σ H L _ l hh fun r ρ' v H' ⟨n, er, b0, b2, hp⟩ l' hh' => by
    subst er
    have ev := hh'.isI
    subst ev
    refine ⟨n, rfl, by omega, by omega, by omega, by omega, ?_⟩
    have e1 : ((0 : Int) + (((n - 0).toNat : Nat) : Int) - 1) = (n.toNat : Int) - 1 := by omega
    have e2 : (n - 0).toNat = n.toNat := by rw [Int.sub_zero]
    rw [e1, e2]
    refine k _ ρ' H' _ _ _ (none, .un) hp l' (wlen (revD_len n.toNat) (walk_rangeN (c := -1))) (hh'.drop.un.perm perm_in.symm) (fun _ _ _ => trivial) fun i x H1 H2 L2 hi ⟨e1, e2⟩ hz => ?_
    subst e1 e2
    rw [revD_len] at hi
    exact ⟨_, revD_at hi, hz.int _⟩⟩
end

end DE

namespace DE
open PySem PySem.Spec PyProof.Rows L2 SZ VR VX StX RT
/-! ### data that is flat, numerals -/
theorem eqv_nilL {ys : List PyData} : PyData.eqv (.list ys) (.list []) = ys.isEmpty := by
  cases ys <;> simp [PyData.eqv, PyData.eqvAll]
theorem eqv_nilT {ys : List PyData} : PyData.eqv (.tuple ys) (.tuple []) = ys.isEmpty := by
  cases ys <;> simp [PyData.eqv, PyData.eqvAll]
theorem layA : ∀ {ys : List PyData}, (∀ y ∈ ys, y.canLay0 = true) → PyData.canLayAll0 ys = true
  | [], _ => rfl
  | y :: ys, h => by
    unfold PyData.canLayAll0
    rw [h y List.mem_cons_self, layA fun z hz => h z (List.mem_cons_of_mem _ hz)]
    rfl
theorem depthA : ∀ {ys : List PyData} {n : Nat}, (∀ y ∈ ys, y.depth ≤ n) → PyData.depthAll ys ≤ n
  | [], _, _ => by simp [PyData.depthAll]
  | y :: ys, n, h => by
    unfold PyData.depthAll
    exact Nat.max_le.mpr ⟨h y List.mem_cons_self, depthA fun z hz => h z (List.mem_cons_of_mem _ hz)⟩
/-- what may be laid out, n deep -/
def Lay (n : Nat) (y : PyData) : Prop := y.canLay0 = true ∧ y.depth ≤ n
theorem Lay.mono {n m : Nat} {y : PyData} (h : Lay n y) (k : n ≤ m) : Lay m y := ⟨h.1, Nat.le_trans h.2 k⟩
theorem Lay.lst {n : Nat} {ys : List PyData} (h : ∀ y ∈ ys, Lay n y) : Lay (n + 1) (.list ys) := by
  have h1 := layA fun y hy => (h y hy).1
  have h2 := depthA fun y hy => (h y hy).2
  refine ⟨by simpa only [PyData.canLay0] using h1, ?_⟩
  simp only [PyData.depth]
  omega
theorem Lay.tup {n : Nat} {ys : List PyData} (h : ∀ y ∈ ys, Lay n y) : Lay (n + 1) (.tuple ys) := by
  have h1 := layA fun y hy => (h y hy).1
  have h2 := depthA fun y hy => (h y hy).2
  refine ⟨by simpa only [PyData.canLay0] using h1, ?_⟩
  simp only [PyData.depth]
  omega
theorem Lay.str {z : Str} (h : PyData.strOk z = true) : Lay 0 (.str z) := ⟨h, Nat.le_refl _⟩
theorem Lay.int {i : Int} : Lay 0 (.int i) := ⟨rfl, Nat.le_refl _⟩
theorem Lay.shaped {n : Nat} {y : PyData} (h : Lay n y) (hn : n ≤ 64) : SeqAt.shaped y = true := by
  unfold SeqAt.shaped
  rw [h.1, decide_eq_true (Nat.le_trans h.2 hn)]
  rfl
theorem ofS (s : String) : Str.ofString s = ⟨(s.toList.map Char.toNat).toArray⟩ := congrFun Str.ofString_eq_byList s
theorem ofS_len (s : String) : (Str.ofString s).length = s.length := by
  rw [ofS]
  show (s.toList.map Char.toNat).toArray.size = s.length
  rw [List.size_toArray, List.length_map, String.length_toList]
theorem ofS_ok (s : String) : PyData.strOk (Str.ofString s) = true := by
  show (Str.ofString s).cps.all (· < 0x110000) = true
  rw [ofS, ← Array.all_toList, List.all_eq_true]
  intro c hc
  simp only [List.mem_map] at hc
  obtain ⟨ch, _, rfl⟩ := hc
  have hv : ch.val.toNat < 0x110000 := by
    have := ch.valid
    rcases this with h | h <;> (have h2 : ch.val.toNat = ch.toNat := rfl; omega)
  exact decide_eq_true hv
theorem num_len {n : Int} (h0 : 0 ≤ n) {k : Nat} (hk : 0 < k) (h1 : n < 10 ^ k) : (Str.ofString (toString n)).length ≤ k := by
  rw [ofS_len]
  obtain ⟨m, rfl⟩ : ∃ m : Nat, n = m := ⟨n.toNat, (Int.toNat_of_nonneg h0).symm⟩
  have hm : m < 10 ^ k := by exact_mod_cast h1
  exact (Nat.length_repr_le_iff hk).mpr hm

end DE

namespace DE
open PySem PySem.Spec PyProof.Rows L2 SZ VR VX StX RT
theorem cutA_to {α : Type} (xs : List α) (i : Nat) : (xs.drop (HT.sIx xs.length 0 none)).take (HT.sIx xs.length xs.length (some (i : Int)) - HT.sIx xs.length 0 none) = xs.take i := by
  rw [HT.sIx_nat, HT.sIx_none, List.drop_zero, Nat.sub_zero, List.take_eq_take_iff]
  omega
theorem cutA_from {α : Type} (xs : List α) (i : Nat) : (xs.drop (HT.sIx xs.length 0 (some (i : Int)))).take (HT.sIx xs.length xs.length none - HT.sIx xs.length 0 (some (i : Int))) = xs.drop i := by
  rw [HT.sIx_nat, HT.sIx_none]
  by_cases h : i ≤ xs.length
  · rw [Nat.min_eq_left h, List.take_of_length_le (by rw [List.length_drop]; omega)]
  · rw [Nat.min_eq_right (by omega), List.drop_length, List.take_nil, List.drop_eq_nil_of_le (by omega)]
theorem cut_take {r : Sl} {ys : List PyData} {i : Int} {p : Sl → Prop} (er : cool r = .d (.list ys)) (i0 : 0 ≤ i) (h : p (.own (ys.take i.toNat))) : Cut r none (some i) p := .lst er (by
  have := cutA_to ys i.toNat
  rw [Int.toNat_of_nonneg i0] at this
  rw [this]
  exact h)
theorem cut_drop {r : Sl} {ys : List PyData} {i : Int} {p : Sl → Prop} (er : cool r = .d (.list ys)) (i0 : 0 ≤ i) (h : p (.own (ys.drop i.toNat))) : Cut r (some i) none p := .lst er (by
  have := cutA_from ys i.toNat
  rw [Int.toNat_of_nonneg i0] at this
  rw [this]
  exact h)

end DE

namespace DE
open PySem PySem.Spec PyProof.Rows L2 SZ VR VX StX RT
/-! ### tuples joined, lists reversed, list(range(n)) -/
theorem DpAll.rev {K : PySem.W.Frag} {G : Hp} : ∀ {vs : List V} {ys : List PyData}, DpAll K G vs ys → DpAll K G vs.reverse ys.reverse
  | _, _, .nil => .nil
  | _, _, .cons h r => by
    rw [List.reverse_cons, List.reverse_cons]
    exact DpAll.app (DpAll.rev r) (.cons h .nil)
theorem rg_dp {K : PySem.W.Frag} {G : Hp} {lo : Int} : ∀ l : List Nat, DpAll K G (l.map fun i => V.int (lo + (i : Nat))) (l.map fun i : Nat => PyData.int (lo + (i : Int)))
  | [] => .nil
  | i :: l => .cons (.int _) (rg_dp l)
section
variable {X : Cx} {b : Bs} {ρ : List Sl} {r1 r2 r : Sl} {xs ys : List PyData} {e : Expr}
theorem or_catT (hz : xs.length + ys.length ≤ sizeLine) : OVr X b (binaryOp .Add) (.d (.tuple xs)) (.d (.tuple ys)) (.d (.tuple (xs ++ ys))) := fun p h => ⟨_, op_catA, fun v1 v2 H L Q hh k => by
  obtain ⟨G, hg⟩ := hh
  obtain ⟨_, f1, d1⟩ := hg.ok (some v1, .d (.tuple xs)) List.mem_cons_self
  obtain ⟨_, f2, d2⟩ := hg.ok (some v2, .d (.tuple ys)) (List.mem_cons_of_mem _ List.mem_cons_self)
  cases f1
  cases f2
  have d1' := d1
  have d2' := d2
  cases d1 with
  | @tup a us _ s1 t1 =>
    cases d2 with
    | @tup c ws _ s2 t2 =>
      refine ⟨a, c, us, ws, rfl, rfl, hg.up.tup s1, hg.up.tup s2, by rw [DpAll.len t1, DpAll.len t2]; exact hz, fun e => ?_, fun _ e => ?_, fun _ _ q hq => ?_⟩
      · subst e
        cases t1
        exact k _ _ _ h ⟨G, hg.drop.drop.add d2'⟩
      · subst e
        cases t2
        rw [List.append_nil] at h
        exact k _ _ _ h ⟨G, hg.drop.drop.add d1'⟩
      · have gq : G q = none := hg.up.free hq
        have sg := Same.new (o := .tup (us ++ ws)) gq
        exact k _ _ _ h ⟨_, (hg.drop.drop.grow hq (o := .tup (us ++ ws)) rfl).add (.tup (.of upd_same) (DpAll.app (DpAll.keep sg t1) (DpAll.keep sg t2)))⟩⟩
theorem r_revL {p1 p2 p3 p4 : Pos} {kk : Nat} (h : EVr X b ρ e r) (er : cool r = .d (.list xs)) : EVr X b ρ (.Subscript e (.Slice none none (some (.UnaryOp .USub (.Constant (.int 1) kk p1) p2)) p3) p4) (.own xs.reverse) := fun p k σ H L Q l hh q =>
  ⟨_, pe_revL (we_pe e), h (fun r' ρ' => r' = r ∧ ρ' = ρ) ⟨rfl, rfl⟩ σ H L _ l hh fun r' ρ' v H' ⟨e1, e2⟩ l' hh' => by
    subst e1 e2
    have hc := hh'.cool
    rw [er] at hc
    obtain ⟨G, hg⟩ := hc
    obtain ⟨_, f1, d1⟩ := hg.ok (some v, .d (.list xs)) List.mem_cons_self
    cases f1
    cases d1 with
    | @lst a us _ s1 t1 =>
      exact ⟨a, us, rfl, hg.up.seq s1, fun p2 hp2 => q _ ρ' _ _ k l' ⟨G, hg.drop.newL hp2 (DpAll.rev t1)⟩⟩⟩
theorem r_listRg {n : Int} {p1 p2 p3 p4 : Pos} (hm1 : X.mg "list" = none) (hm2 : X.mg "range" = none) (hc : X.calm = true) (h : EVr X b ρ e (.d (.int n))) (h0 : 0 ≤ n) (h1 : n ≤ 16777216) (hg1 : Gl X "list" := by rfl) (hg2 : Gl X "range" := by rfl)
    (hs : starEach [e] X.env = [(false, eval e X.env)] := by rfl) (hs1 : starEach [.Call (.Name "range" p1) [e] [] p2] X.env = [(false, eval (.Call (.Name "range" p1) [e] [] p2) X.env)] := by rfl) : EVr X b ρ (.Call (.Name "list" p3) [.Call (.Name "range" p1) [e] [] p2] [] p4) (.own (rngD 0 n.toNat)) := fun p k σ H L Q l hh q =>
  ⟨_, pe_listRg hc hg1 hm1 (prg_1 hg2 hm2 (we_pe e) hs) hs1, h (fun r' ρ' => r' = .d (.int n) ∧ ρ' = ρ) ⟨rfl, rfl⟩ σ H L _ l hh fun r' ρ' v H' ⟨e1, e2⟩ l' hh' => by
    subst e1 e2
    have ev := hh'.isI
    subst ev
    refine ⟨n, rfl, RgOk.of_le (by decide) h1 (by decide) h0, fun p2 hp2 => q _ ρ' _ _ k l' ?_⟩
    obtain ⟨G, hg⟩ := hh'
    refine ⟨G, hg.drop.newL hp2 ?_⟩
    unfold rgV rngD
    rw [Int.sub_zero]
    exact rg_dp _⟩
end

end DE

namespace DE
open PySem PySem.Spec PyProof.Rows L2 SZ VR VX StX RT
/-! ### x[i] = e, x a list that the name at a slot holds alone -/
theorem DpAll.set {K : PySem.W.Frag} {G : Hp} : ∀ {vs : List V} {ys : List PyData} (j : Nat) {v : V} {y : PyData}, DpAll K G vs ys → Dp K G v y → DpAll K G (vs.set j v) (ys.set j y)
  | _, _, _, _, _, .nil, _ => .nil
  | _, _, 0, _, _, .cons _ h, k => .cons k h
  | _, _, j + 1, _, _, .cons g h, k => .cons g (DpAll.set j h k)
section
variable {X : Cx} {b : Bs} {ρ : List Sl}
theorem eg_sub (i : Nat) {ts : List Nat} {idx : Expr} {r s : Sl} {ys : List PyData} {k : Int} {j : Nat} {z : PyData} {x : Str} {p1 pos : Pos} {p : List Sl → Prop} (hN : X.N[i]? = some x) (hv : Vis X.env.scope x) (hr : ρ[i]? = some s) (hs : s = .own ys ∨ s = .bor ys) (hi : EVr X b ρ idx (.d (.int k))) (hj : ixN ys.length k = some j) (er : cool r = .d z) (h : p (ρ.set i (setS s (ys.set j z))))
    (hd : (x == ("__debug__" : Str)) = false := by decide) (hcd : (x == ("__classdict__" : Str)) = false := by decide)
    (ha : ∀ v, assign (.Subscript (.Name x p1) idx pos) X.env v = (do
      let ov ← holding [v] (eval (.Name x p1) X.env)
      let iv ← holding [v, ov] (eval idx X.env)
      standAt pos
      holding [v, ov, iv] (setItem ov iv v)
      release [v, ov, iv] []) := by intro _; rfl) : EG X b ts ρ (.Subscript (.Name x p1) idx pos) r p := fun σ H L v Q l hh q => by
  obtain ⟨a, hx⟩ := slot_ref l hr hs (hh.drop)
  refine ⟨_, pg_sub (pe_var hN hv hd hcd) (we_pe idx) set_list ha, .ref a, hx, ?_⟩
  refine hi (fun r' ρ' => r' = .d (.int k) ∧ ρ' = ρ) ⟨rfl, rfl⟩ σ H ((some v, r) :: L) _ l (hh.perm perm_in.symm) fun r' ρ' u H' ⟨e1, e2⟩ l' hh' => ?_
  subst e1 e2
  have eu := hh'.isI
  subst eu
  have h3 : Hold X.K b H' ((some v, r) :: (σ.zip ρ' ++ L)) := hh'.drop.perm perm_in
  have h4 := h3.cool
  rw [er] at h4
  obtain ⟨M, q1, q2⟩ := set_perm (s' := setS s (ys.set j z)) hr hx
  obtain ⟨G, hG⟩ := h4
  have hG2 : HoldG X.K b G H' ((some (.ref a), s) :: (some v, .d z) :: (M ++ L)) := hG.perm ((List.Perm.swap ..).trans (List.Perm.cons _ (q1.symm.append_right L)))
  obtain ⟨us, e1, e2, e3⟩ := cell_lst hG2 hs
  have hz : Dp X.K G v z := hG.seq
  refine ⟨a, us, k, j, rfl, rfl, e1, by rw [e2]; exact hj, ?_⟩
  have hput := hG2.put (s' := setS s (ys.set j z)) (ys := ys) (ys' := ys.set j z) (vs := us.set j v) (by rcases hs with rfl | rfl <;> simp [setS]) (DpAll.set j e3 hz)
  exact q _ σ _ h (by simp [l']) (by simp) rfl ⟨G, ((hput.perm ((List.Perm.swap ..))).drop).perm (q2.append_right L)⟩
end

end DE

namespace DE
open PySem PySem.Spec PyProof.Rows L2 SZ VR VX StX RT
/-! ### powers -/
theorem or_pow {X : Cx} {b : Bs} {i j : Int} (hc : CPow i j) : OVr X b (binaryOp .Pow) (.d (.int i)) (.d (.int j)) (.d (.int (i ^ j.toNat))) := fun _ h => ov_intC (g := fun i j => i ^ j.toNat) op_pow hc h
/-- .. of greater numbers -/
theorem or_mulW {X : Cx} {b : Bs} {i j : Int} (hc : CMulW i j) : OVr X b (binaryOp .Mult) (.d (.int i)) (.d (.int j)) (.d (.int (i * j))) := fun _ h => ov_intC (g := fun i j => i * j) op_mulW hc h
theorem u_neg {X : Cx} {b : Bs} {i : Int} : UVr X b (unaryOp .USub) (.d (.int i)) (.d (.int (-i))) := fun _ h => ⟨_, un_neg, fun v1 H L Q hh k => by
  have e1 := hh.isI
  subst e1
  exact ⟨i, rfl, k _ _ _ h (hh.drop.int _)⟩⟩

end DE

namespace DE
open PySem PySem.Spec PyProof.Rows L2 SZ VR VX StX RT
/-! ### sorted(texts) -/
section
variable {X : Cx} {b : Bs}
theorem dp_strsI {K : PySem.W.Frag} {G : Hp} : ∀ ws : List Str, DpAll K G (ws.map V.str) (ws.map PyData.str)
  | [] => .nil
  | w :: ws => .cons (.str w) (dp_strsI ws)
/-- some order of them, sorted -/
theorem cv_sortedS {ws : List Str} {r : Sl} {p : Sl → Prop} (er : cool r = .d (.list (ws.map .str))) (hn : ws.length < 64) (h : ∀ ys : List Str, ys.Perm ws → PyProof.Rows.sortedS ys = true → p (.own (ys.map .str))) : CV X b (.builtin "sorted") [r] p := ⟨_, cr_sortedS, fun vs H L Q lv hh k => by
  obtain ⟨v, rfl⟩ := one_in (rs := [r]) (r := r) lv
  have hc : Hold X.K b H ((some v, r) :: L) := hh
  have hc := hc.cool
  rw [er] at hc
  obtain ⟨G, hg⟩ := hc
  obtain ⟨_, f1, d1⟩ := hg.ok (some v, .d (.list (ws.map .str))) List.mem_cons_self
  cases f1
  cases d1 with
  | @lst a us _ s1 t1 =>
    have e := dp_strs t1
    subst e
    exact ⟨a, ws, rfl, hg.up.seq s1, hn, fun ys q hp hs hq => k _ _ _ (h ys hp hs) ⟨G, hg.drop.newL hq (dp_strsI ys)⟩⟩⟩
end

end DE

namespace DE
open PySem PySem.Spec PyProof.Rows L2 SZ VR VX StX RT
/-! ### max, min of two, repr, a list that is kept from here on -/
section
variable {X : Cx} {b : Bs}
theorem cr_max2 {i j : Int} (hc : X.calm = true) : CVr X b (.builtin "max") [.d (.int i), .d (.int j)] (.d (.int (if j > i then j else i))) := fun _ h => ⟨_, call_max2 hc, fun vs H L Q lv hh k => by
  match vs, lv with
  | [u1, u2], _ =>
    have e1 := hh.isI
    subst e1
    have e2 := hh.drop.isI
    subst e2
    exact ⟨i, j, rfl, k _ _ _ h (hh.drop.drop.int _)⟩⟩
theorem cr_min2 {i j : Int} (hc : X.calm = true) : CVr X b (.builtin "min") [.d (.int i), .d (.int j)] (.d (.int (if j < i then j else i))) := fun _ h => ⟨_, call_min2 hc, fun vs H L Q lv hh k => by
  match vs, lv with
  | [u1, u2], _ =>
    have e1 := hh.isI
    subst e1
    have e2 := hh.drop.isI
    subst e2
    exact ⟨i, j, rfl, k _ _ _ h (hh.drop.drop.int _)⟩⟩
end
section
variable {X : Cx} {b : Bs} {ρ : List Sl} {p : Sl → List Sl → Prop} {e : Expr} {pos : Pos}
theorem ev_repr {ps cp : Pos} (gd : X.A.guards = some []) (hu : X.A.units + 64 < cLine) (hm : X.mg "repr" = none) (h : EV X b ρ e fun r ρ' => ∃ y, r = .d y ∧ (y.showable = true ∧ y.hasDict = false ∧ y.depth ≤ 8 ∧ y.shown.length ≤ sizeLine) ∧ p (.d (.str y.shown)) ρ') (hg : Gl X "repr" := by rfl)
    (he : starEach [e] X.env = (false, eval e X.env) :: starEach [] X.env := by rfl) : EV X b ρ (.Call (.Name "repr" ps) [e] [] cp) p :=
  ev_callB (id := "repr") hg hm (by decide +kernel) (ea_cons (hs := he) (h := h.imp fun r ρ' ⟨y, er, ⟨h1, h2, h3, h4⟩, k⟩ => ea_nil ⟨_, call_reprD gd hu, fun vs H L Q lv hh q => by
    subst er
    obtain ⟨v, rfl⟩ := one_in (rs := [.d y]) (r := .d y) lv
    exact ⟨v, y, rfl, hh.dp, h1, h2, h3, h4, q _ _ _ k (hh.drop.str _)⟩⟩)) (by decide) (by decide) he (by rfl)
theorem xb_frz (i : Nat) {ys : List PyData} {st : List Stmt} {q : Po} {ρ2 : List Sl} (hs : ρ[i]? = some (.own ys)) (h2 : ρ.set i (.d (.list ys)) = ρ2) (h : XB X b ρ2 st q) : XB X b ρ st q := by
  subst h2
  intro σ H L D l hh k
  obtain ⟨x, hx, _⟩ := zip_mem l hs
  obtain ⟨M, p1, p2⟩ := set_perm (s' := .d (.list ys)) hs hx
  exact h σ H L D (by rw [List.length_set]; exact l) (((hh.perm ((p1.append_right L).symm)).freeze).perm (p2.append_right L)) (by rw [List.length_set]; exact k)
end

end DE

namespace DE
open PySem PySem.Spec PyProof.Rows L2 SZ VR VX StX RT
/-! ### a dict of texts, held by a name; defs that change a list and a dict -/
def getK (kvs : List (Str × PyData)) (k : Str) : Option PyData := (kvs.find? fun p => decide (p.1 = k)).map (·.2)
def setK (kvs : List (Str × PyData)) (k : Str) (y : PyData) : List (Str × PyData) := kvs.map fun p => if p.1 = k then (p.1, y) else p
section
variable {K : PySem.W.Frag} {b : Bs} {G H H' : Hp} {L : List Cl}
theorem inr_ne {a k : Str} (h : ¬ a = k) : ¬ (.inr a : Key) = .inr k := fun e => h (by injection e)
theorem dpk_get {k : Str} {y : PyData} : ∀ {us : List (Key × V)} {kvs : List (Str × PyData)}, DpK K G us kvs → getK kvs k = some y → ∃ v, valV us (.inr k) = some v ∧ Dp K G v y
  | [], [], _, h => by cases h
  | [], _ :: _, h, _ => h.elim
  | _ :: _, [], h, _ => h.elim
  | u :: us, p :: kvs, ⟨h1, h2, h3⟩, h => by
    by_cases e : p.1 = k
    · unfold getK at h
      rw [List.find?_cons, decide_eq_true e] at h
      cases h
      exact ⟨u.2, valV_pos (h1.trans (by rw [e])), h2⟩
    · unfold getK at h
      rw [List.find?_cons, decide_eq_false e] at h
      obtain ⟨v, a, c⟩ := dpk_get h3 h
      exact ⟨v, (valV_neg (by rw [h1]; exact inr_ne e)).trans a, c⟩
theorem dpk_map {k : Str} {v : V} {y : PyData} (hv : Dp K G v y) : ∀ {us : List (Key × V)} {kvs : List (Str × PyData)}, DpK K G us kvs → DpK K G (us.map fun kv => if kv.1 = .inr k then (kv.1, v) else kv) (setK kvs k y)
  | [], [], _ => trivial
  | [], _ :: _, h => h.elim
  | _ :: _, [], h => h.elim
  | u :: us, p :: kvs, ⟨h1, h2, h3⟩ => by
    have ih := dpk_map hv (k := k) h3
    show DpK K G ((if u.1 = .inr k then (u.1, v) else u) :: us.map _) ((if p.1 = k then (p.1, y) else p) :: setK kvs k y)
    by_cases e : p.1 = k
    · rw [if_pos e, if_pos (h1.trans (by rw [e]))]
      exact ⟨h1, hv, ih⟩
    · rw [if_neg e, if_neg (by rw [h1]; exact inr_ne e)]
      exact ⟨h1, h2, ih⟩
theorem dpk_put {k : Str} {v : V} {y y0 : PyData} {us : List (Key × V)} {kvs : List (Str × PyData)} (h : DpK K G us kvs) (hk : getK kvs k = some y0) (hv : Dp K G v y) : DpK K G (putK us (.inr k) v) (setK kvs k y) := by
  obtain ⟨w, e, _⟩ := dpk_get h hk
  unfold putK
  rw [valV_any, e]
  exact dpk_map hv h
theorem dpk_len : ∀ {us : List (Key × V)} {kvs : List (Str × PyData)}, DpK K G us kvs → us.length = kvs.length
  | [], [], _ => rfl
  | [], _ :: _, h => h.elim
  | _ :: _, [], h => h.elim
  | _ :: _, _ :: _, ⟨_, _, h⟩ => by rw [List.length_cons, List.length_cons, dpk_len h]
theorem HoldG.putD {p : Addr} {o : Bool} {kvs kvs' : List (Str × PyData)} {us : List (Key × V)} (h : HoldG K b G H ((some (.ref p), .dct o kvs) :: L)) (hv : DpK K G us kvs') : HoldG K b G (upd H p (.dK us)) ((some (.ref p), .dct o kvs') :: L) := by
  obtain ⟨q0, us0, e0, b0, g0, h0, d0⟩ := h.ok _ List.mem_cons_self
  cases e0
  have nd' := (List.nodup_cons.mp (show (p :: ads L).Nodup from h.nd)).1
  refine ⟨h.old, fun a u e => ?_, h.new, fun a u e n => ?_, fun a ha => ?_, fun c hc => ?_, h.nd, h.fl⟩
  · have := h.up a u e
    rw [upd_ne (ne_of_none e g0)]; exact this
  · by_cases ha : a = p
    · subst ha
      rcases b0 with z | z
      · rw [z.2] at e; cases e
      · exact absurd z.2.1 n
    · rw [upd_ne ha]; exact h.rest a u e n
  · refine ⟨?_, (h.bs a ha).2.of fun c u e _ n2 => ?_⟩
    · by_cases e : a = p
      · subst e; rw [upd_same]; rfl
      · rw [upd_ne e]; exact (h.bs a ha).1
    · have n : c ≠ p := fun z => by
        subst z; rw [h0] at e; cases e; exact n2 _ rfl
      rw [upd_ne n]
      exact e
  · rcases List.mem_cons.mp hc with rfl | hm
    · exact ⟨p, us, rfl, b0, g0, upd_same, hv⟩
    · have ok := h.ok c (List.mem_cons_of_mem _ hm)
      rcases c with ⟨x, t⟩
      cases t with
      | un => trivial
      | d y => exact ok
      | fact φ st => exact ok
      | dct o kvs =>
        obtain ⟨q, vs', e, k1, k2, k3, k4⟩ := ok
        have n : q ≠ p := fun n => by
          subst n; subst e
          exact nd' (ads_memD hm)
        exact ⟨q, vs', e, k1, k2, by rw [upd_ne n]; exact k3, k4⟩
      | own ys2 =>
        obtain ⟨q, vs', e, k1, k2, k3, k4⟩ := ok
        have n : q ≠ p := fun n => by
          subst n; subst e
          exact nd' (ads_mem (.inl ⟨_, rfl⟩) hm)
        exact ⟨q, vs', e, k1, k2, by rw [upd_ne n]; exact k3, k4⟩
      | bor ys2 =>
        obtain ⟨q, vs', e, k1, k2, k3, k4⟩ := ok
        have n : q ≠ p := fun n => by
          subst n; subst e
          exact nd' (ads_mem (.inr ⟨_, rfl⟩) hm)
        exact ⟨q, vs', e, k1, k2, by rw [upd_ne n]; exact k3, k4⟩
theorem HoldG.newD (h : HoldG K b G H L) {p : Addr} (hp : H p = none) : HoldG K b G (upd H p (.dK [])) ((some (.ref p), .dct true []) :: L) := by
  have g := h.growH (o := .dK []) hp
  refine ⟨g.old, g.up, g.new, g.rest, g.bs, fun c hc => ?_, ?_, g.fl⟩
  · rcases List.mem_cons.mp hc with rfl | hc
    · exact ⟨p, [], rfl, .inl ⟨rfl, h.fresh hp⟩, h.up.free hp, upd_same, trivial⟩
    · exact g.ok c hc
  · show (p :: ads L).Nodup
    refine List.nodup_cons.mpr ⟨fun hm => ?_, h.nd⟩
    obtain ⟨_, vs', e⟩ := h.adsH hm
    rw [hp] at e; cases e
theorem HoldG.subD {M : List Cl} {a d : Addr} {o : Bool} {s : Sl} {ys : List PyData} {kvs : List (Str × PyData)} (h : HoldG K b G H ((some (.ref a), s) :: (some (.ref d), .dct o kvs) :: (M ++ L))) (hs : s = .own ys ∨ s = .bor ys) (hf : ∀ c ∈ M, flatS c.2 = true) : HoldG K ⟨G, H, [a, d]⟩ G H ((some (.ref a), .bor ys) :: (some (.ref d), .dct false kvs) :: M) := by
  have h0 : G a = none ∧ ∃ vs, H a = some (.lst vs) ∧ DpAll K G vs ys := by
    have ok := h.ok _ List.mem_cons_self
    rcases hs with rfl | rfl
    · obtain ⟨q, vs, e, _, h2, h3, h4⟩ := ok; cases e; exact ⟨h2, vs, h3, h4⟩
    · obtain ⟨q, vs, e, _, h2, h3, h4⟩ := ok; cases e; exact ⟨h2, vs, h3, h4⟩
  obtain ⟨g, vs, h3, h4⟩ := h0
  obtain ⟨d', us, e, _, gd, hd, kd⟩ := h.ok _ (List.mem_cons_of_mem _ List.mem_cons_self)
  cases e
  have f := (HoldG.sub0 h.drop.drop hf)
  have nd : a ≠ d := fun e => by
    subst e
    rw [h3] at hd; cases hd
  refine ⟨Same.refl _, h.up, fun a o e => .inl e, fun a o e _ => e, fun c hc => ?_, fun c hc => ?_, ?_, h.fl⟩
  · simp only [List.mem_cons, List.not_mem_nil, or_false] at hc
    rcases hc with rfl | rfl
    · show (H c).isSome = true ∧ TbOk H H c; rw [h3]; exact ⟨rfl, TbOk.refl _ _⟩
    · show (H c).isSome = true ∧ TbOk H H c; rw [hd]; exact ⟨rfl, TbOk.refl _ _⟩
  · rcases List.mem_cons.mp hc with rfl | hc
    · exact ⟨a, vs, rfl, List.mem_cons_self, g, h3, h4⟩
    · rcases List.mem_cons.mp hc with rfl | hc
      · exact ⟨d, us, rfl, .inr ⟨rfl, by simp, us, hd⟩, gd, hd, kd⟩
      · have ok := f.ok c hc
        have := hf c hc
        rcases c with ⟨x, s⟩
        cases s with
        | un => trivial
        | d y => exact ok
        | fact φ st => exact ok
        | own ys => exact absurd this Bool.false_ne_true
        | bor ys => exact absurd this Bool.false_ne_true
        | dct o kvs => exact absurd this Bool.false_ne_true
  · show (a :: d :: ads M).Nodup
    rw [flat_ads hf]
    simp [nd]
theorem HoldG.afterD {a d : Addr} {o : Bool} {s s' : Sl} {ys ys' : List PyData} {kvs kvs' : List (Str × PyData)} (h : HoldG K b G H ((some (.ref a), s) :: (some (.ref d), .dct o kvs) :: L)) {v : V} {y : PyData} (k : Hold K ⟨G, H, [a, d]⟩ H' [(some v, .d y), (some (.ref a), .bor ys'), (some (.ref d), .dct false kvs')]) (hs : (s = .own ys ∧ s' = .own ys') ∨ (s = .bor ys ∧ s' = .bor ys')) : Hold K b H' ((some v, .d y) :: (some (.ref a), s') :: (some (.ref d), .dct o kvs') :: L) := by
  obtain ⟨G', k⟩ := k
  have keep : ∀ c o, H c = some o → c ≠ a → c ≠ d → H' c = some o := fun c o e n m => k.rest c o e (by simp [n, m])
  have gn : ∀ c, G c = none → (H c).isSome = true → G' c = none := fun c e hs => by
    cases q : G' c with
    | none => rfl
    | some o =>
      rcases k.new c o q with z | z
      · have z : G c = some o := z; rw [e] at z; cases z
      · have z : H c = none := z; rw [z] at hs; cases hs
  obtain ⟨q0, us, e0, _, g0, h0, d0⟩ := k.ok _ (List.mem_cons_of_mem _ List.mem_cons_self)
  cases e0
  obtain ⟨q1, ks, e1, _, g1, h1, d1⟩ := k.ok _ (List.mem_cons_of_mem _ (List.mem_cons_of_mem _ List.mem_cons_self))
  cases e1
  have nd : (a :: d :: ads L).Nodup := by rcases hs with ⟨rfl, _⟩ | ⟨rfl, _⟩ <;> exact h.nd
  have na := (List.nodup_cons.mp nd).1
  have nd2 := (List.nodup_cons.mp (List.nodup_cons.mp nd).2).1
  have nal : a ∉ ads L := fun z => na (List.mem_cons_of_mem _ z)
  have as : ads ((some (V.ref a), s') :: (some (V.ref d), Sl.dct o kvs') :: L) = a :: d :: ads L := by rcases hs with ⟨_, rfl⟩ | ⟨_, rfl⟩ <;> rfl
  have base : b.H a = none ∨ a ∈ b.B := by
    have ok := h.ok _ List.mem_cons_self
    rcases hs with ⟨rfl, _⟩ | ⟨rfl, _⟩
    · obtain ⟨q, _, e, z, _⟩ := ok; cases e; exact .inl z
    · obtain ⟨q, _, e, z, _⟩ := ok; cases e; exact .inr z
  have based : (o = true ∧ b.H d = none) ∨ (o = false ∧ d ∈ b.B ∧ ∃ u0, b.H d = some (.dK u0)) := by
    obtain ⟨q, _, e, z, _⟩ := h.ok _ (List.mem_cons_of_mem _ List.mem_cons_self)
    cases e; exact z
  refine ⟨G', h.old.trans k.old, k.up, fun c o e => ?_, fun c o e n => ?_, fun c hc => ?_, fun c hc => ?_, ?_, k.fl⟩
  · rcases k.new c o e with z | z
    · exact h.new c o z
    · exact .inr (h.fresh z)
  · refine keep c o (h.rest c o e n) (fun z => ?_) (fun z => ?_)
    · subst z
      rcases base with z | z
      · rw [z] at e; cases e
      · exact n z
    · subst z
      rcases based with z | z
      · rw [z.2] at e; cases e
      · exact n z.2.1
  · refine ⟨?_, (h.bs c hc).2.of fun c2 u e n1 n2 => keep c2 u e (fun z => ?_) (fun z => ?_)⟩
    · by_cases z : c = a
      · subst z; rw [h0]; rfl
      · by_cases z2 : c = d
        · subst z2; rw [h1]; rfl
        · have := (h.bs c hc).1
          cases q : H c with
          | none => rw [q] at this; cases this
          | some o => rw [keep c o q z z2]; rfl
    · subst z
      have ok := h.ok _ List.mem_cons_self
      rcases hs with ⟨rfl, _⟩ | ⟨rfl, _⟩
      · obtain ⟨q, us, e2, _, _, h3, _⟩ := ok; cases e2; rw [h3] at e; cases e; exact n1 _ rfl
      · obtain ⟨q, us, e2, _, _, h3, _⟩ := ok; cases e2; rw [h3] at e; cases e; exact n1 _ rfl
    · subst z
      obtain ⟨q, us, e2, _, _, h3, _⟩ := h.ok _ (List.mem_cons_of_mem _ List.mem_cons_self)
      cases e2; rw [h3] at e; cases e; exact n2 _ rfl
  · rcases List.mem_cons.mp hc with rfl | hc
    · exact k.ok _ List.mem_cons_self
    · rcases List.mem_cons.mp hc with rfl | hm1
      · have ok := h.ok _ List.mem_cons_self
        rcases hs with ⟨rfl, rfl⟩ | ⟨rfl, rfl⟩
        · obtain ⟨q, _, e, z, _⟩ := ok; cases e; exact ⟨a, us, rfl, z, g0, h0, d0⟩
        · obtain ⟨q, _, e, z, _⟩ := ok; cases e; exact ⟨a, us, rfl, z, g0, h0, d0⟩
      · rcases List.mem_cons.mp hm1 with rfl | hm
        · exact ⟨d, ks, rfl, based, g1, h1, d1⟩
        · clear hm1 hc
          have ok := h.ok c (List.mem_cons_of_mem _ (List.mem_cons_of_mem _ hm))
          rcases c with ⟨x, t⟩
          cases t with
          | un => trivial
          | d y => obtain ⟨v, e, z⟩ := ok; exact ⟨v, e, Dp.keep k.old z⟩
          | fact φ st => obtain ⟨v, e, z⟩ := ok; exact ⟨v, e, st _ _ _ k.old z⟩
          | own zs =>
            obtain ⟨q, vs, e, h1, h2, h3, h4⟩ := ok
            have n : q ≠ a := fun n => nal (by subst n; subst e; exact ads_mem (.inl ⟨_, rfl⟩) hm)
            have m : q ≠ d := fun n => nd2 (by subst n; subst e; exact ads_mem (.inl ⟨_, rfl⟩) hm)
            exact ⟨q, vs, e, h1, gn q h2 (by rw [h3]; rfl), keep _ _ h3 n m, DpAll.keep k.old h4⟩
          | bor zs =>
            obtain ⟨q, vs, e, h1, h2, h3, h4⟩ := ok
            have n : q ≠ a := fun n => nal (by subst n; subst e; exact ads_mem (.inr ⟨_, rfl⟩) hm)
            have m : q ≠ d := fun n => nd2 (by subst n; subst e; exact ads_mem (.inr ⟨_, rfl⟩) hm)
            exact ⟨q, vs, e, h1, gn q h2 (by rw [h3]; rfl), keep _ _ h3 n m, DpAll.keep k.old h4⟩
          | dct o zs =>
            obtain ⟨q, vs, e, h1, h2, h3, h4⟩ := ok
            have n : q ≠ a := fun n => nal (by subst n; subst e; exact ads_memD hm)
            have m : q ≠ d := fun n => nd2 (by subst n; subst e; exact ads_memD hm)
            exact ⟨q, vs, e, h1, gn q h2 (by rw [h3]; rfl), keep _ _ h3 n m, DpK.keep k.old h4⟩
  · rw [ads_cons, as]
    cases v <;> simpa [ads] using nd
end
/-- a def that changes the list in its first place and the dict in its second, and hands out data -/
def spD (K : PySem.W.Frag) (Pre : List PyData → List (Str × PyData) → List Sl → Prop) (Res : List PyData → List (Str × PyData) → List Sl → PyData → List PyData → List (Str × PyData) → Prop) : Sp := fun vs H Q _ => ∃ (G : Hp) (a d : Addr) (us : List V) (ys : List PyData) (kvs : List (Str × PyData)) (as : List Sl), vs = .ref a :: .ref d :: us ∧ us.length = as.length ∧ HoldG K ⟨G, H, [a, d]⟩ G H ((some (.ref a), .bor ys) :: (some (.ref d), .dct false kvs) :: (us.map some).zip as) ∧
  Pre ys kvs as ∧ ∀ y ys' kvs', Res ys kvs as y ys' kvs' → ∀ v H', Hold K ⟨G, H, [a, d]⟩ H' [(some v, .d y), (some (.ref a), .bor ys'), (some (.ref d), .dct false kvs')] → Q v H'
structure CalD (P : Program) (w : World) (K : PySem.W.Frag) (mg : Str → Option Value) (base : Heap) (CX : CXT) (x : Str) (k : Nat) (Pre : List PyData → List (Str × PyData) → List Sl → Prop) (Res : List PyData → List (Str × PyData) → List Sl → PyData → List PyData → List (Str × PyData) → Prop) : Prop where
  ex : ∃ f fd ps, FnOk P w K mg base CX k f fd ps (spD K Pre Res) ∧ mg x = some (.ref f) ∧ PySem.W.keepIn K (.ref f) = true ∧ Binds K fd ps []
section
variable {X : Cx} {b : Bs} {ρ : List Sl} {p : Sl → List Sl → Prop} {e : Expr} {es : List Expr}
theorem slot_dct {i : Nat} {o : Bool} {σ : L2.St} {H : Hp} {L : List Cl} {kvs : List (Str × PyData)} (l : σ.length = ρ.length) (hs : ρ[i]? = some (.dct o kvs)) (hh : Hold X.K b H (σ.zip ρ ++ L)) : ∃ a us, σ[i]? = some (some (.ref a)) ∧ H a = some (.dK us) := by
  obtain ⟨x0, hx0, hm0⟩ := zip_mem l hs
  obtain ⟨G, hG⟩ := hh
  obtain ⟨q, us, e, _, _, h, _⟩ := hG.ok _ (List.mem_append_left _ hm0)
  exact ⟨q, us, by rw [hx0, e], h⟩
theorem r_dget (i : Nat) {o : Bool} {kvs : List (Str × PyData)} {x k : Str} {y : PyData} {p1 pos : Pos} (hu : X.A.units + 1 < cLine) (hN : X.N[i]? = some x) (hv : Vis X.env.scope x) (hs : ρ[i]? = some (.dct o kvs)) (he : EVr X b ρ e (.d (.str k))) (hk : getK kvs k = some y) (hsl : NoSl e := by intro _ _; rfl)
    (hd : (x == ("__debug__" : Str)) = false := by decide) (hcd : (x == ("__classdict__" : Str)) = false := by decide) : EVr X b ρ (.Subscript (.Name x p1) e pos) (.d y) := fun p kp σ H L Q l hh q => by
  obtain ⟨a, us0, hx, _⟩ := slot_dct l hs hh
  refine ⟨_, pe_dget hu (pe_var hN hv hd hcd) (we_pe e) hsl, .ref a, hx, ?_⟩
  refine he (fun r' ρ' => r' = .d (.str k) ∧ ρ' = ρ) ⟨rfl, rfl⟩ σ H L _ l hh fun r' ρ' u H' ⟨e1, e2⟩ l' hh' => ?_
  subst e1 e2
  obtain ⟨G, hG⟩ := hh'
  obtain ⟨u', eu, du⟩ := hG.ok _ List.mem_cons_self
  cases eu
  cases du
  obtain ⟨x0, hx0, hm0⟩ := zip_mem l' hs
  obtain ⟨a', us, e2, _, _, h3, h4⟩ := hG.ok _ (List.mem_cons_of_mem _ (List.mem_append_left _ hm0))
  rw [hx] at hx0
  cases hx0
  cases e2
  obtain ⟨v, ev, dv⟩ := dpk_get h4 hk
  refine ⟨a, v, rfl, ?_, ?_⟩
  · have := DGet.k (k := .inr k) h3
    rw [ev] at this
    exact this
  · exact q _ ρ' v H' kp l' ⟨G, hG.drop.add dv⟩
theorem eg_dset (i : Nat) {o : Bool} {ts : List Nat} {idx : Expr} {r : Sl} {kvs : List (Str × PyData)} {k : Str} {z y0 : PyData} {x : Str} {p1 pos : Pos} {p : List Sl → Prop} (hu : X.A.units + 1 < cLine) (hN : X.N[i]? = some x) (hv : Vis X.env.scope x) (hr : ρ[i]? = some (.dct o kvs)) (hi : EVr X b ρ idx (.d (.str k))) (hk : getK kvs k = some y0) (hl : kvs.length ≤ 100) (er : cool r = .d z) (h : p (ρ.set i (.dct o (setK kvs k z))))
    (hd : (x == ("__debug__" : Str)) = false := by decide) (hcd : (x == ("__classdict__" : Str)) = false := by decide)
    (ha : ∀ v, assign (.Subscript (.Name x p1) idx pos) X.env v = (do
      let ov ← holding [v] (eval (.Name x p1) X.env)
      let iv ← holding [v, ov] (eval idx X.env)
      standAt pos
      holding [v, ov, iv] (setItem ov iv v)
      release [v, ov, iv] []) := by intro _; rfl) : EG X b ts ρ (.Subscript (.Name x p1) idx pos) r p := fun σ H L v Q l hh q => by
  obtain ⟨a, us0, hx, _⟩ := slot_dct l hr hh.drop
  refine ⟨_, pg_sub (pe_var hN hv hd hcd) (we_pe idx) (set_dict hu) ha, .ref a, hx, ?_⟩
  refine hi (fun r' ρ' => r' = .d (.str k) ∧ ρ' = ρ) ⟨rfl, rfl⟩ σ H ((some v, r) :: L) _ l (hh.perm perm_in.symm) fun r' ρ' u H' ⟨e1, e2⟩ l' hh' => ?_
  subst e1 e2
  have eu : u = .str k := by
    obtain ⟨G, hG⟩ := hh'
    obtain ⟨u', eu, du⟩ := hG.ok _ List.mem_cons_self
    cases eu
    cases du
    rfl
  subst eu
  have h3 : Hold X.K b H' ((some v, r) :: (σ.zip ρ' ++ L)) := hh'.drop.perm perm_in
  have h4 := h3.cool
  rw [er] at h4
  obtain ⟨M, q1, q2⟩ := set_perm (s' := .dct o (setK kvs k z)) hr hx
  obtain ⟨G, hG⟩ := h4
  have hG2 : HoldG X.K b G H' ((some (.ref a), .dct o kvs) :: (some v, .d z) :: (M ++ L)) := hG.perm ((List.Perm.swap ..).trans (List.Perm.cons _ (q1.symm.append_right L)))
  obtain ⟨a', us, e2, _, _, hH, hD⟩ := hG2.ok _ List.mem_cons_self
  cases e2
  obtain ⟨v', ev, dz⟩ := hG2.ok _ (List.mem_cons_of_mem _ List.mem_cons_self)
  cases ev
  have hput := hG2.putD (us := putK us (.inr k) v) (dpk_put hD hk dz)
  refine ⟨a, _, rfl, DPut.k (k := .inr k) hH (by rw [dpk_len hD, sizeLine_eq]; omega), ?_⟩
  exact q _ σ _ h (by simp [l']) (by simp) rfl ⟨G, ((hput.perm ((List.Perm.swap ..))).drop).perm (q2.append_right L)⟩
end

end DE

namespace DE
open PySem PySem.Spec PyProof.Rows L2 SZ VR VX StX RT
/-! ### calls of defs that change a list and a dict; a dict's display -/
section
variable {X : Cx} {b : Bs} {ρ : List Sl} {p : Sl → List Sl → Prop} {e : Expr} {es : List Expr}
theorem set_perm2 {σ : L2.St} {i j : Nat} {s t s' t' : Sl} {x y : Option V} (hij : i ≠ j) (hi : ρ[i]? = some s) (hj : ρ[j]? = some t) (hx : σ[i]? = some x) (hy : σ[j]? = some y) : ∃ M, (σ.zip ρ).Perm ((x, s) :: (y, t) :: M) ∧ (σ.zip ((ρ.set i s').set j t')).Perm ((x, s') :: (y, t') :: M) := by
  obtain ⟨M1, a1, a2⟩ := set_perm (s' := s') hi hx
  have hj2 : (ρ.set i s')[j]? = some t := by rw [List.getElem?_set_ne hij]; exact hj
  obtain ⟨M2, c1, c2⟩ := set_perm (s' := t') hj2 hy
  -- (y, t) stands in M1
  have hm : (y, t) ∈ M1 := by
    have hz : (σ.zip ρ)[j]? = some (y, t) := by
      rw [List.getElem?_zip_eq_some]
      exact ⟨hy, hj⟩
    have hz2 : (σ.zip (ρ.set i s'))[j]? = some (y, t) := by
      rw [List.getElem?_zip_eq_some]
      exact ⟨hy, hj2⟩
    have e1 : ((σ.zip ρ).eraseIdx i)[(if j < i then j else j - 1)]? = some (y, t) := by
      by_cases h : j < i
      · rw [if_pos h, List.getElem?_eraseIdx, if_pos h]
        exact hz
      · rw [if_neg h, List.getElem?_eraseIdx, if_neg (by omega), show j - 1 + 1 = j by omega]
        exact hz
    have e2 : (σ.zip ρ).Perm ((x, s) :: (σ.zip ρ).eraseIdx i) := by
      have hl : i < (σ.zip ρ).length := by
        have h1 := (List.getElem?_eq_some_iff.mp hi).1
        have h2 := (List.getElem?_eq_some_iff.mp hx).1
        rw [List.length_zip]; omega
      have h3 : (σ.zip ρ)[i] = (x, s) := by
        have : (σ.zip ρ)[i]? = some (x, s) := by rw [List.getElem?_zip_eq_some]; exact ⟨hx, hi⟩
        rw [List.getElem?_eq_getElem hl] at this
        exact Option.some.inj this
      have h4 : σ.zip ρ = (σ.zip ρ).take i ++ (x, s) :: (σ.zip ρ).drop (i + 1) := by
        rw [← h3, ← List.drop_eq_getElem_cons hl, List.take_append_drop]
      rw [List.eraseIdx_eq_take_drop_succ]
      conv => lhs; rw [h4]
      exact List.perm_middle
    have e3 : M1.Perm ((σ.zip ρ).eraseIdx i) := (a1.symm.trans e2).cons_inv
    exact e3.mem_iff.mpr (List.mem_of_getElem? e1)
  obtain ⟨l1, l2, el⟩ := List.append_of_mem hm
  have pm : M1.Perm ((y, t) :: (l1 ++ l2)) := by rw [el]; exact List.perm_middle
  refine ⟨l1 ++ l2, a1.trans (List.Perm.cons _ pm), ?_⟩
  -- behind both
  have q1 : ((y, t) :: M2).Perm ((x, s') :: (y, t) :: (l1 ++ l2)) := c1.symm.trans (a2.trans (List.Perm.cons _ pm))
  have q2 : M2.Perm ((x, s') :: (l1 ++ l2)) := (q1.trans (List.Perm.swap ..)).cons_inv
  exact c2.trans ((List.Perm.cons _ q2).trans (List.Perm.swap ..))
/-- f(x, z, e, ..): the list at slot i and the dict at slot j are changed -/
theorem ev_calD (i j : Nat) {CX : CXT} {k : Nat} {Pre : List PyData → List (Str × PyData) → List Sl → Prop} {Res : List PyData → List (Str × PyData) → List Sl → PyData → List PyData → List (Str × PyData) → Prop} {x y z : Str} {p1 p2 p3 cp : Pos} (C : CalD X.prog X.w X.K X.mg X.base CX x k Pre Res) (hij : i ≠ j) (hr : Room k X.A) (hg : Gl X x) {E : XK} (hx : Passes CX X E)
    (hN : X.N[i]? = some y) (hv : Vis X.env.scope y) (hN2 : X.N[j]? = some z) (hv2 : Vis X.env.scope z)
    (h : EA X b ρ es fun rs ρ' => ∃ zs, datas rs = some zs ∧ ∃ s ys o kvs, ρ'[i]? = some s ∧ (s = .own ys ∨ s = .bor ys) ∧ ρ'[j]? = some (.dct o kvs) ∧ Pre ys kvs (zs.map .d) ∧ ∀ r ys' kvs', Res ys kvs (zs.map .d) r ys' kvs' → p (.d r) ((ρ'.set i (setS s ys')).set j (.dct o kvs')))
    (hs0 : ∃ s ys, ρ[i]? = some s ∧ (s = .own ys ∨ s = .bor ys)) (hs1 : ∃ o kvs, ρ[j]? = some (.dct o kvs))
    (hdy : (y == ("__debug__" : Str)) = false := by decide) (hcy : (y == ("__classdict__" : Str)) = false := by decide) (hdz : (z == ("__debug__" : Str)) = false := by decide) (hcz : (z == ("__classdict__" : Str)) = false := by decide) (hdb : (x == ("__debug__" : Str)) = false := by decide)
    (he : starEach (.Name y p2 :: .Name z p3 :: es) X.env = (false, eval (.Name y p2) X.env) :: starEach (.Name z p3 :: es) X.env := by rfl) (he2 : starEach (.Name z p3 :: es) X.env = (false, eval (.Name z p3) X.env) :: starEach es X.env := by rfl) (hpl : (backTo cp (starEach (.Name z p3 :: es) X.env)).any (·.1) = false := by rfl) : EV X b ρ (.Call (.Name x p1) (.Name y p2 :: .Name z p3 :: es) [] cp) p := fun σ H L Q l hh q => by
  obtain ⟨f, fd, ps, F, hm, hk, hb⟩ := C.ex
  obtain ⟨s0, ys0, h0, k0⟩ := hs0
  obtain ⟨o0, kvs0, h1⟩ := hs1
  obtain ⟨a, hx0⟩ := slot_ref l h0 k0 hh
  obtain ⟨d, us0, hx1, _⟩ := slot_dct l h1 hh
  refine ⟨_, pe_call F hr hg hm hk hb .nil hx (pa_cons (pe_var hN hv hdy hcy) (pa_cons (pe_var hN2 hv2 hdz hcz) (wa_pa es) he2) he) hdb he hpl, .ref a, hx0, .ref d, hx1, ?_⟩
  refine h σ H L _ l hh fun rs ρ' vs H' ⟨zs, ed, s, ys, o, kvs, hs, ks, hd, hp, h2⟩ l' lv hh' => ?_
  have ec := datas_cool ed
  obtain ⟨G, hG⟩ := hh'.coolAll
  rw [ec] at hG
  have hf : ∀ c ∈ (vs.map some).zip (zs.map Sl.d), flatS c.2 = true := flat_zip fun r hr => by
    obtain ⟨y, _, rfl⟩ := List.mem_map.mp hr
    rfl
  obtain ⟨M0, m1, _⟩ := set_perm2 (s' := s) (t' := .dct o kvs) hij hs hd hx0 hx1
  have hG2 : HoldG X.K b G H' ((some (.ref a), s) :: (some (.ref d), .dct o kvs) :: (((vs.map some).zip (zs.map Sl.d)) ++ (M0 ++ L))) := hG.perm (by
    have q0 := m1.append_right L
    refine List.Perm.trans ?_ (List.Perm.append_left _ q0.symm)
    show ((some (V.ref a), s) :: (some (V.ref d), Sl.dct o kvs) :: _).Perm (_ ++ ((some (V.ref a), s) :: (some (V.ref d), Sl.dct o kvs) :: (M0 ++ L)))
    exact (List.Perm.cons _ perm_in).trans perm_in)
  refine ⟨G, a, d, vs, ys, kvs, zs.map .d, by simp, by rw [← ec]; simp [lv], HoldG.subD hG2 ks hf, hp, fun r ys' kvs' hr v H2 hh2 => ?_⟩
  have hG3 : HoldG X.K b G H' ((some (.ref a), s) :: (some (.ref d), .dct o kvs) :: (M0 ++ L)) := (hG.dropM (M := (vs.map some).zip (zs.map Sl.d))).perm (m1.symm.append_right L)
  obtain ⟨M, n1, n2⟩ := set_perm2 (s' := setS s ys') (t' := .dct o kvs') hij hs hd hx0 hx1
  have hMM : M0.Perm M := ((m1.symm.trans n1).cons_inv).cons_inv
  refine q _ _ v H2 (h2 r ys' kvs' hr) (by rw [List.length_set, List.length_set]; exact l') ?_
  have hA := hG3.afterD (ys := ys) (s' := setS s ys') hh2 (by rcases ks with rfl | rfl <;> simp [setS])
  refine hA.perm (List.Perm.cons _ ?_)
  exact (n2.append_right L).trans (List.Perm.cons _ (List.Perm.cons _ (hMM.symm.append_right L)))
/-- {'..': e1, '..': e2, '..': e3} -/
theorem ev_dict3 {k1 k2 k3 : String} {n1 n2 n3 : Nat} {q1 q2 q3 pos : Pos} {e1 e2 e3 : Expr} (hd : ([k1, k2, k3].map Str.ofString).Nodup)
    (h : EV X b ρ e1 fun r1 ρ1 => ∃ y1, cool r1 = .d y1 ∧ EV X b ρ1 e2 fun r2 ρ2 => ∃ y2, cool r2 = .d y2 ∧ EV X b ρ2 e3 fun r3 ρ3 => ∃ y3, cool r3 = .d y3 ∧ p (.dct true [(Str.ofString k1, y1), (Str.ofString k2, y2), (Str.ofString k3, y3)]) ρ3) :
    EV X b ρ (.Dict [some (.Constant (.str (Str.ofString k1)) n1 q1), some (.Constant (.str (Str.ofString k2)) n2 q2), some (.Constant (.str (Str.ofString k3)) n3 q3)] [e1, e2, e3] pos) p := fun σ H L Q l hh q => by
  refine ⟨_, pe_disp (pps_cons pe_str (we_pe e1) (pps_cons pe_str (we_pe e2) (pps_cons pe_str (we_pe e3) pps_nil))) (by rfl) rfl (by simp) (show (3 : Nat) ≤ 15 by decide), fun a ha => ?_⟩
  obtain ⟨G, hG⟩ := hh
  have h0 : Hold X.K b (upd H a (.dK [])) (σ.zip ρ ++ ((some (.ref a), .dct true []) :: L)) := (show Hold X.K b _ ((some (V.ref a), Sl.dct true []) :: (σ.zip ρ ++ L)) from ⟨G, hG.newD ha⟩).perm perm_in.symm
  refine h σ _ _ _ l h0 fun r1 ρ1 v1 H1 ⟨y1, c1, h1⟩ l1 hh1 => ?_
  have hh1 := hh1.cool
  rw [c1] at hh1
  refine h1 σ H1 ((some v1, .d y1) :: (some (.ref a), .dct true []) :: L) _ l1 (hh1.perm perm_in.symm) fun r2 ρ2 v2 H2 ⟨y2, c2, h2⟩ l2 hh2 => ?_
  have hh2 := hh2.cool
  rw [c2] at hh2
  refine h2 σ H2 ((some v2, .d y2) :: (some v1, .d y1) :: (some (.ref a), .dct true []) :: L) _ l2 (hh2.perm perm_in.symm) fun r3 ρ3 v3 H3 ⟨y3, c3, hp⟩ l3 hh3 => ?_
  have hh3 := hh3.cool
  rw [c3] at hh3
  obtain ⟨G3, hG3⟩ := hh3
  have ok : ∀ c ∈ [(some v3, Sl.d y3), (some v2, Sl.d y2), (some v1, Sl.d y1), (some (V.ref a), Sl.dct true [])], SlOk X.K b G3 H3 c := fun c hc => hG3.ok c (by
    simp only [List.mem_cons, List.not_mem_nil, or_false] at hc
    rcases hc with rfl | rfl | rfl | rfl <;> simp)
  obtain ⟨w3, e3', d3⟩ := ok (some v3, .d y3) (by simp)
  cases e3'
  obtain ⟨w2, e2', d2⟩ := ok (some v2, .d y2) (by simp)
  cases e2'
  obtain ⟨w1, e1', d1⟩ := ok (some v1, .d y1) (by simp)
  cases e1'
  obtain ⟨a', us, ea, _, _, hH, hD⟩ := ok (some (.ref a), .dct true []) (by simp)
  cases ea
  have hus : us = [] := List.length_eq_zero_iff.mp (dpk_len hD)
  subst hus
  refine ⟨hH, [(.inr (Str.ofString k1), v1), (.inr (Str.ofString k2), v2), (.inr (Str.ofString k3), v3)], rfl, by simp, ?_⟩
  have n12 : Str.ofString k1 ≠ Str.ofString k2 := fun e => by simp [e] at hd
  have n13 : Str.ofString k1 ≠ Str.ofString k3 := fun e => by simp [e] at hd
  have n23 : Str.ofString k2 ≠ Str.ofString k3 := fun e => by simp [e] at hd
  have em : mergeK [] [((.inr (Str.ofString k1) : Key), v1), (.inr (Str.ofString k2), v2), (.inr (Str.ofString k3), v3)] = [(.inr (Str.ofString k1), v1), (.inr (Str.ofString k2), v2), (.inr (Str.ofString k3), v3)] := by
    have a12 : ¬ ((.inr (Str.ofString k1) : Key) = .inr (Str.ofString k2)) := inr_ne n12
    have a13 : ¬ ((.inr (Str.ofString k1) : Key) = .inr (Str.ofString k3)) := inr_ne n13
    have a23 : ¬ ((.inr (Str.ofString k2) : Key) = .inr (Str.ofString k3)) := inr_ne n23
    unfold mergeK
    simp only [List.foldl_cons, List.foldl_nil]
    unfold putK
    simp [n12, n13, n23]
  rw [em]
  have hP : HoldG X.K b G3 H3 ((some (.ref a), .dct true []) :: (some v3, .d y3) :: (some v2, .d y2) :: (some v1, .d y1) :: (σ.zip ρ3 ++ L)) := hG3.perm (by
    have b1 : ((some (V.ref a), Sl.dct true []) :: (some v3, Sl.d y3) :: (some v2, Sl.d y2) :: (some v1, Sl.d y1) :: (σ.zip ρ3 ++ L)).Perm ((some v3, Sl.d y3) :: (some v2, Sl.d y2) :: (some v1, Sl.d y1) :: (some (V.ref a), Sl.dct true []) :: (σ.zip ρ3 ++ L)) :=
      (List.Perm.swap ..).trans (List.Perm.cons _ ((List.Perm.swap ..).trans (List.Perm.cons _ (List.Perm.swap ..))))
    refine b1.trans (List.Perm.cons _ ?_)
    have b2 : ((some v2, Sl.d y2) :: (some v1, Sl.d y1) :: (some (V.ref a), Sl.dct true []) :: (σ.zip ρ3 ++ L)).Perm (σ.zip ρ3 ++ ((some v2, Sl.d y2) :: (some v1, Sl.d y1) :: (some (V.ref a), Sl.dct true []) :: L)) :=
      (List.Perm.cons _ (List.Perm.cons _ perm_in)).trans ((List.Perm.cons _ perm_in).trans perm_in)
    exact b2)
  have hput := hP.putD (us := [(.inr (Str.ofString k1), v1), (.inr (Str.ofString k2), v2), (.inr (Str.ofString k3), v3)]) (kvs' := [(Str.ofString k1, y1), (Str.ofString k2, y2), (Str.ofString k3, y3)]) ⟨rfl, d1, rfl, d2, rfl, d3, trivial⟩
  refine q _ ρ3 (.ref a) _ hp l3 ⟨G3, ?_⟩
  exact ((((hput.perm (List.Perm.swap ..)).drop.perm (List.Perm.swap ..)).drop.perm (List.Perm.swap ..)).drop)
end

end DE

namespace DE
open PySem PySem.Spec PyProof.Rows L2 SZ VR VX StX RT
/-! ### the body of a def that changes a list and a dict -/
section
variable {P : Program} {w : World} {K : PySem.W.Frag} {mg : Str → Option Value} {base : Heap}
theorem fn_D {x qual : Str} {st : Stmt} {f : Addr} {fd : FuncData} {N ps : List Str} {k : Nat} {Pre : List PyData → List (Str × PyData) → List Sl → Prop} {Res : List PyData → List (Str × PyData) → List Sl → PyData → List PyData → List (Str × PyData) → Prop} (F : Fun K x qual st f fd) (S : FnScope N ps (defScope st)) (len : ∀ ys kvs as, Pre ys kvs as → as.length + 2 = ps.length)
    (h : ∀ (cdv : Value) (A : Around) (outer : List Env) (s : Shared) (H : Hp) (E : XK), Room k (A.deeper (envOfC qual (defScope st) s.heap.objs.size f cdv)) → ∀ (b : Bs) (ys : List PyData) (kvs : List (Str × PyData)) (as : List Sl), Pre ys kvs as → XB (cxOf CX0 P w K mg base N qual (defScope st) f cdv A outer s H E).nox b (.bor ys :: .dct false kvs :: (as ++ List.replicate (N.length - (as.length + 2)) .un)) (defBody st)
      ⟨fun _ => False, fun r ρ' => ∃ y ys' kvs', r = .d y ∧ ρ'[0]? = some (.bor ys') ∧ ρ'[1]? = some (.dct false kvs') ∧ Res ys kvs as y ys' kvs', fun _ => False, fun _ => False⟩) : FnOk P w K mg base CX0 (k + 1) f fd ps (spD K Pre Res) := by
  refine F.ok S (fun vs H Q E z => ?_) (fun cdv A outer s H vs Q E hr z => ?_)
  · obtain ⟨G, a, d, us, ys, kvs, as, rfl, l, _, hp, _⟩ := z
    rw [List.length_cons, List.length_cons, l]
    exact len ys kvs as hp
  · obtain ⟨G, a, d, us, ys, kvs, as, rfl, l, hG, hp, q⟩ := z
    have nd0 : a ≠ d := by
      obtain ⟨q1, v1, e1, _, _, h1, _⟩ := hG.ok _ List.mem_cons_self
      obtain ⟨q2, v2, e2, _, _, h2, _⟩ := hG.ok _ (List.mem_cons_of_mem _ List.mem_cons_self)
      cases e1; cases e2
      intro e
      subst e
      rw [h1] at h2
      cases h2
    have hHa : ∃ vs, H a = some (.lst vs) := by
      obtain ⟨q1, v1, e1, _, _, h1, _⟩ := hG.ok _ List.mem_cons_self
      cases e1
      exact ⟨_, h1⟩
    have hHd : ∃ vs, H d = some (.dK vs) := by
      obtain ⟨q1, v1, e1, _, _, h1, _⟩ := hG.ok _ (List.mem_cons_of_mem _ List.mem_cons_self)
      cases e1
      exact ⟨_, h1⟩
    have get : ∀ {ρ' : List Sl} {σ' : L2.St} {H' : Hp} {zs : List PyData} {ks : List (Str × PyData)} {v : V} {y : PyData}, ρ'[0]? = some (.bor zs) → ρ'[1]? = some (.dct false ks) → σ'.length = ρ'.length → Hold K ⟨G, H, [a, d]⟩ H' ((some v, .d y) :: (σ'.zip ρ' ++ [])) → Hold K ⟨G, H, [a, d]⟩ H' [(some v, .d y), (some (.ref a), .bor zs), (some (.ref d), .dct false ks)] := fun {ρ' σ' H' zs ks v y} h0 h1 l' hh => by
      rw [List.append_nil] at hh
      obtain ⟨x0, hx0, hm0⟩ := zip_mem l' h0
      obtain ⟨x1, hx1, hm1⟩ := zip_mem l' h1
      obtain ⟨G', hG'⟩ := id hh
      obtain ⟨q9, vs, e0, hq, _, h3, _⟩ := hG'.ok _ (List.mem_cons_of_mem _ hm0)
      obtain ⟨p, ws, e1, hp', _, h4, _⟩ := hG'.ok _ (List.mem_cons_of_mem _ hm1)
      obtain ⟨va, ea⟩ := hHa
      have hpd : p = d := by
        obtain ⟨_, hpm, u0, hpH⟩ := hp'.resolve_left (fun z => by cases z.1)
        have hpm : p ∈ [a, d] := hpm
        have hpH : H p = some (.dK u0) := hpH
        simp only [List.mem_cons, List.not_mem_nil, or_false] at hpm
        rcases hpm with rfl | rfl
        · exact absurd (ea.symm.trans hpH) (fun z => by cases z)
        · rfl
      have hqa : q9 = a := by
        have hq : q9 ∈ [a, d] := hq
        simp only [List.mem_cons, List.not_mem_nil, or_false] at hq
        rcases hq with rfl | rfl
        · rfl
        · rw [hpd, h3] at h4; cases h4
      subst hpd
      subst hqa
      subst e0
      subst e1
      obtain ⟨M, m1, _⟩ := set_perm2 (s' := .un) (t' := .un) (show (0 : Nat) ≠ 1 by decide) h0 h1 hx0 hx1
      refine (hh.perm (L' := M ++ [(some v, .d y), (some (.ref q9), .bor zs), (some (.ref p), .dct false ks)]) ?_).dropL
      refine List.Perm.trans ?_ (List.Perm.cons _ m1.symm)
      exact (List.perm_append_comm).trans (List.Perm.refl _)
    obtain ⟨t, ht, hq⟩ := h cdv A outer s H E hr ⟨G, H, [a, d]⟩ ys kvs as hp (L2.start N (.ref a :: .ref d :: us)) H [] { nx := fun _ H' => Q .non H', rt := Q } (by
        have := len ys kvs as hp
        unfold L2.start; simp [l])
      (by
        rw [List.append_nil]
        have := zip_start (N := N) (vs := .ref a :: .ref d :: us) (as := .bor ys :: .dct false kvs :: as) (by simp [l])
        rw [List.cons_append, List.cons_append] at this
        rw [show (List.length as + 2) = (Sl.bor ys :: Sl.dct false kvs :: as).length from rfl, this]
        exact hold_start _ ⟨G, hG⟩)
      ⟨fun ρ' σ' H' hn l' n' hh => hn.elim, fun r ρ' v σ' H' ⟨y, ys', kvs', er, e0, e1, hn⟩ l' n' hh => by
        subst er
        exact q y ys' kvs' hn v H' (get e0 e1 l' hh), fun _ _ _ z => z.elim, fun _ _ _ z => z.elim⟩
    exact ⟨t, ht, hq⟩
end

end DE

namespace DE
open PySem PySem.Spec PyProof.Rows L2 SZ VR VX StX RT
/-! ### a comprehension whose element changes what is held -/
section
variable {X : Cx} {b : Bs} {ρ : List Sl} {tg elt : Expr}
theorem lc_turnE {scope : Scope} {vs : List Nat} {y : PyData} {ρ2 : List Sl} {acc : List PyData} {J : List PyData → List Sl → Prop} (hg : AllB X scope fun Y => EGr Y b vs ρ tg (.d y) ρ2) (hl : acc.length < sizeLine)
    (he : AllB X scope fun Y => EV Y b ρ2 elt fun r ρ4 => ∃ z, cool r = .d z ∧ J (acc ++ [z]) (wipeR ρ4 vs)) : LcTurn X b scope tg elt [] vs y ρ acc J :=
  ⟨fun ρ' => ρ' = ρ2, fun s H C cl fp => hg s H C cl fp _ rfl, fun ρ' e => by
    subst e
    refine ⟨fun c' ρ3 => c' = true ∧ ρ3 = ρ', fun s H C cl fp => ts_nil _ ⟨rfl, rfl⟩, fun c' ρ3 ⟨e1, e2⟩ => ?_⟩
    subst e1 e2
    exact ⟨(fun e => (nomatch e)), fun _ => ⟨hl, he⟩⟩⟩
end

end DE

namespace DE
open PySem PySem.Spec PyProof.Rows L2 SZ VR VX StX RT
/-! ### list.count of texts -/
def eqkS (k : Str) (v : Value) : Bool := match v with
  | .str n _ => n == k
  | _ => false
theorem eqkS_gives {k : Str} {t : Tok} : ∀ {us : List Value} {ns : List Str}, StrsAre us ns → ∀ y ∈ us, MeetsSeq.EqGives y (.str k t) (eqkS k y)
  | _, _, .nil => fun y hy => by cases hy
  | _, _, .cons n t' h => fun y hy => by
    rcases List.mem_cons.mp hy with e | e
    · rw [e]
      exact PyProof.Rows.eqGives_str n k t' t
    · exact eqkS_gives h y e
theorem eqkS_count {k : Str} : ∀ {us : List Value} {ns : List Str}, StrsAre us ns → us.countP (eqkS k) = ns.count k
  | _, _, .nil => rfl
  | _, _, .cons n t h => by
    have ih := eqkS_count (k := k) h
    rw [List.countP_cons, List.count_cons, ih] <;> rfl
theorem strs_of_valsD : ∀ {ns : List Str} {us : List Value}, Vals (ns.map V.str) us → StrsAre us ns
  | [], us, r => by
    rw [List.map_nil] at r
    cases r
    exact StrsAre.nil
  | n :: ns, us, r => by
    rw [List.map_cons] at r
    cases r with
    | cons r1 r2 =>
      obtain ⟨t, rfl⟩ := r1
      exact StrsAre.cons n t (strs_of_valsD r2)
def rCntS (K : PySem.W.Frag) : V → List V → Hp → VK → Prop := fun x xs H Q => ∃ (p : Addr) (ns : List Str) (k : Str), x = .ref p ∧ xs = [.str k] ∧ SqL K H p (ns.map V.str) ∧ Q (.int (ns.count k : Nat)) H
section
variable {X : Cx} {b : Bs} {ρ : List Sl} {e1 e2 : Expr} {r : Sl}
theorem mt_lcountS : MtR X "list.count" (rCntS X.K) := by
  intro pins s σ H x xs v us Q I rx rxs h
  obtain ⟨p, ns, k, rfl, rfl, hs, q⟩ := h
  cases rx
  obtain ⟨u, rfl, ru⟩ := rxs.one
  obtain ⟨t, rfl⟩ := ru
  obtain ⟨its, rv, ⟨⟨cls, dd, data, sl⟩, n, ho, hc, hdn, hd⟩, hlen⟩ := I.list hs
  simp only at hc hd
  subst hc hd
  have hi := strs_of_valsD rv
  refine call_meets PySem.F.slot_list_count ⟨_, ho, rfl⟩ PySem.F.entry_list_count (PySem.F.args_list_count_2 _ _)
    (SeqAt.list_countAt p its.toArray n dd sl (.str k t) (eqkS k)) ⟨ho, fun y hy => (eqkS_gives hi y (by simpa using hy)).at _ _, ?_⟩
  have ec : its.toArray.toList.countP (eqkS k) = ns.count k := eqkS_count hi
  refine ⟨.int (ns.count k : Nat), H, I.tok _, ⟨s.toks, ?_⟩, q⟩
  show Value.int ((its.toArray.toList.countP (eqkS k) : Nat) : Int) s.toks = Value.int ((ns.count k : Nat) : Int) s.toks
  rw [ec]
theorem dp_strsC {K : PySem.W.Frag} {G : Hp} : ∀ {ns : List Str} {xs : List V}, DpAll K G xs (ns.map .str) → xs = ns.map V.str
  | [], _, h => by cases h; rfl
  | n :: ns, _, h => by
    rw [List.map_cons] at h
    cases h with
    | cons h1 h2 =>
      cases h1
      rw [dp_strsC h2]
      rfl
theorem r_count {ys : List Str} {z : Str} {p1 p2 : Pos} (h1 : EVr X b ρ e1 r) (er : cool r = .d (.list (ys.map .str))) (h2 : EVr X b ρ e2 (.d (.str z)))
    (hbase : attributeBase e1 "count" X.env (eval e1 X.env) = eval e1 X.env := by rfl)
    (hfew : ((backTo p2 (starEach [e2] X.env)).all (fun x => !x.1) && (backToKw p2 (keywordEach [] X.env)).all (fun x => x.1.isSome) && decide (([e2] : List Expr).length + ([] : List Keyword).length + (if ([] : List Keyword).isEmpty then 0 else 1) < 30)) = true := by rfl)
    (hline : (p1.endLine == p2.line) = true := by rfl) (hse : starEach [e2] X.env = (false, eval e2 X.env) :: starEach [] X.env := by rfl) (hpl : (backTo p2 (starEach [] X.env)).any (·.1) = false := by rfl) :
    EVr X b ρ (.Call (.Attribute e1 "count" p1) [e2] [] p2) (.d (.int (ys.count z : Nat))) := fun p kp σ H L Q l hh q => by
  refine ⟨_, pe_bm PySem.F.plainAttrs_list PySem.F.slot_list_count PySem.F.type_list_count mt_lcountS (we_pe e1) (pa_cons (we_pe e2) pa_nil hse) hbase hfew hline hse hpl, ?_⟩
  refine h1 (fun r' ρ' => r' = r ∧ ρ' = ρ) ⟨rfl, rfl⟩ σ H L _ l hh fun r' ρ1 v1 H1 ⟨c1, c2⟩ l1 hh1 => ?_
  subst c1 c2
  have hh1 := hh1.cool
  rw [er] at hh1
  have hl : ∃ a us, v1 = .ref a ∧ SqL X.K H1 a us := by
    obtain ⟨G, hG⟩ := hh1
    obtain ⟨v', e, hd⟩ := hG.ok _ List.mem_cons_self
    cases e
    cases hd with
    | lst g1 g2 => exact ⟨_, _, rfl, hG.up.seq g1⟩
  obtain ⟨a, us, rfl, hus⟩ := hl
  refine ⟨.inl ⟨rfl, us, hus⟩, ?_⟩
  refine h2 (fun r' ρ' => r' = .d (.str z) ∧ ρ' = ρ1) ⟨rfl, rfl⟩ σ H1 ((some (.ref a), .d (.list (ys.map .str))) :: L) _ l1 (hh1.perm perm_in.symm) fun r2 ρ2 v2 H2 ⟨c3, c4⟩ l2 hh2 => ?_
  subst c3 c4
  have ev : v2 = .str z := by
    obtain ⟨G, hG⟩ := hh2
    obtain ⟨v', e, hd⟩ := hG.ok _ List.mem_cons_self
    cases e
    cases hd
    rfl
  subst ev
  have hh3 : Hold X.K b H2 ((some (.ref a), .d (.list (ys.map .str))) :: (σ.zip ρ2 ++ L)) := hh2.drop.perm perm_in
  obtain ⟨G, hG⟩ := hh3
  obtain ⟨v', e, hd⟩ := hG.ok _ List.mem_cons_self
  cases e
  cases hd with
  | lst g1 g2 =>
    have := dp_strsC g2
    subst this
    exact ⟨a, ys, z, rfl, rfl, hG.up.seq g1, q _ ρ2 _ H2 kp l2 ((show Hold X.K b H2 _ from ⟨G, hG⟩).drop.int _)⟩
end

end DE

namespace SS
open PySem PySem.Spec PyProof.Rows L2 PySem.Froz
theorem str_at : ∀ {vs : List Value} {zs : List Str}, StrsAre vs zs → ∀ (i : Nat) (v : Value), vs[i]? = some v → ∃ t, v = .str (zs.getD i "") t
  | [], [], _, i, v, h => by simp at h
  | u :: vs, z :: zs, h, 0, v, e => by
    cases h with
    | cons y t h2 =>
      cases e
      exact ⟨_, rfl⟩
  | u :: vs, z :: zs, h, i + 1, v, e => by
    cases h with
    | cons y t h2 => exact str_at h2 i v e

/-! ### set(texts), sorted(set of texts) -/
/-- a set of these texts that can be walked -/
def GS (P : Program) (w : World) (h : Heap) (a : Addr) (l : List Str) : Prop := ∃ D : SD, h.get? a = some (sObj "set" D) ∧ TxOk P w D l ∧ Ris D.2.2.place.toList ∧ (w.params.followText "set-order" = true ∨ D.2.2.led = true)
theorem GS.at {P : Program} {w : World} {h h' : Heap} {a : Addr} {l : List Str} (g : GS P w h a l) (k : ∀ o, h.get? a = some o → h'.get? a = some o) : GS P w h' a l := by
  obtain ⟨D, ho, r⟩ := g
  exact ⟨D, k _ ho, r⟩
theorem tail_ris {c : Prop} {ep : Nat} {es : Array (Int × Value)} {t : SetTable} {wd : Bool} (r : Ris t.place.toList) (l : c ∨ t.led = true) : Ris (tailTx ep es t wd).2.2.place.toList ∧ (c ∨ (tailTx ep es t wd).2.2.led = true) := by
  unfold tailTx
  split
  · exact ⟨relayAll_ris _ _ _, l.imp id fun z => (relayAll_led _ _ _).trans z⟩
  · exact ⟨r, l⟩
theorem add_ris {c : Prop} {D : SD} {hh : Int} {v : Value} (r : Ris D.2.2.place.toList) (l : c ∨ D.2.2.led = true) : Ris (addTx hh v D).2.2.place.toList ∧ (c ∨ (addTx hh v D).2.2.led = true) := by
  unfold addTx
  refine tail_ris ?_ (l.imp id fun z => ?_)
  · split
    · exact layNew_ris _ _ _ _ r
    · exact layNew_ris _ _ _ _ r
  · split
    · exact (layNew_led _ _ _ _).trans z
    · exact (layNew_led _ _ _ _).trans z
section
variable {P : Program} {w : World} {A : Around} {R : Result → Shared → Prop} {I : Addr} {fp wr : List Addr} {G : Array GenState → Array GenState → Prop} {n : Nat} {Pv : Nat → Value → Prop} {St : Nat → Shared → Prop}
/-- new texts into a set, one by one -/
theorem set_loop (W : WalksS P w A.in1 I fp wr G n Pv St) (S : Addr) (hS : S ∉ fp) (zs : List Str) (hn : n = zs.length) (hv : ∀ i v, i < n → Pv i v → ∃ t, v = .str (zs.getD i "") t) (nd : zs.Nodup) (hb : n + 1 < scanBound) :
    ∀ (k i : Nat) (s : Shared), n - i = k → i ≤ n → St i s → GS P w s.heap S (zs.take i).reverse → (∀ s', Moved (S :: wr) G s s' → GS P w s'.heap S zs.reverse → R (.ok (.ret .none)) s') →
      codeAny (model P w) A (.builtin "set.update.loop" ⟨[.ref S, .ref I], []⟩) R s := by
  have sw : S ∉ wr := fun h => hS (W.sub _ h)
  have sub : ∀ b ∈ wr, b ∈ S :: wr := fun b h => List.mem_cons_of_mem _ h
  intro k
  induction k with
  | zero =>
    intro i s hk hi st hg hR
    obtain rfl : i = n := by omega
    rw [hn, List.take_length] at hg
    refine codeAny_builtin F.entry_set_update_loop ?_
    rw [Around.under_plainId F.plain_set_update_loop _]
    show wpAny _ A.in1 (pyNext (.ref I) >>= _) _ _ s
    refine wpAny_bind (W.done s _ _ st fun s' m => ?_)
    show wpAny _ A.in1 (ret Value.none) _ _ s'
    exact wpAny_pure (hR s' (m.mono sub) (hg.at fun o e => m.heap S o sw e))
  | succ k ih =>
    intro i s hk hi st hg hR
    have lt : i < n := by omega
    have lz : i < zs.length := by omega
    refine codeAny_builtin F.entry_set_update_loop ?_
    rw [Around.under_plainId F.plain_set_update_loop _]
    show wpAny _ A.in1 (pyNext (.ref I) >>= _) _ _ s
    refine wpAny_bind (W.item i s _ _ lt st fun v s' hp st' m => ?_)
    obtain ⟨t, rfl⟩ := hv i v lt hp
    obtain ⟨D, ho, TX, rs, ld⟩ := hg.at fun o e => m.heap S o sw e
    have ez : zs.getD i "" = zs[i] := by rw [List.getD_eq_getElem?_getD, List.getElem?_eq_getElem lz]; rfl
    have er : (zs.take (i + 1)).reverse = zs.getD i "" :: (zs.take i).reverse := by
      rw [List.take_succ_eq_append_getElem lz, List.reverse_append, ez] <;> rfl
    have nk : zs.getD i "" ∉ (zs.take i).reverse := fun h => by
      rw [List.mem_reverse, ez] at h
      have h2 : (zs.take i ++ zs[i] :: zs.drop (i + 1)).Nodup := by
        rw [← List.drop_eq_getElem_cons lz, List.take_append_drop]; exact nd
      exact (List.nodup_append.mp h2).2.2 _ h _ List.mem_cons_self rfl
    have hl : (zs.take i).reverse.length = i := by rw [List.length_reverse, List.length_take]; omega
    show wpAny _ A.in1 (holding [Value.str (zs.getD i "") t] (setAdd S (.str (zs.getD i "") t)) >>= _) _ _ s'
    refine wpAny_bind (wpAny_holding ?_)
    unfold setAdd
    refine wpAny_holding ?_
    refine wpAny_bind ((strKind P w).pyHash (k := zs.getD i "") (is_str _ _) ?_)
    refine add_x (s := { s' with toks := s'.toks + 1 }) ho TX nk (by rw [hl]; omega) ?_
    have g2 : GS P w (s'.heap.update S (fun _ => sObj "set" (addTx (hashStr w (zs.getD i "")) (.str (zs.getD i "") t) D))) S (zs.take (i + 1)).reverse := by
      rw [er]
      obtain ⟨q1, q2⟩ := add_ris (hh := hashStr w (zs.getD i "")) (v := .str (zs.getD i "") t) rs ld
      exact ⟨_, get_upd _ ho rfl, add_ok t TX, q1, q2⟩
    refine wpAny_pure ⟨plainId_quiet F.plain_set_update_loop _, ih (i + 1) _ (by omega) lt (W.frame _ s' _ _ st' (Nat.le_succ _) fun b hb o e => ?_) g2 fun s'' m2 g3 => ?_⟩
    · exact (Heap.get?_update_other _ _ (fun h : S = b => hS (by rw [h]; exact hb))).trans e
    · refine hR s'' (Moved.trans W.gtrans ((m.mono sub).then_heap (Nat.le_succ _) fun b o hb e => ?_) m2) g3
      exact (Heap.get?_update_other _ _ (fun h : S = b => hb (by rw [← h]; exact List.mem_cons_self))).trans e
end
section
variable {P : Program} {w : World} {A : Around} {E : Value → Shared → Prop} {s : Shared}
/-- the new set, its table led by nothing -/
theorem set_made (a : Value) {Q₁ : Value → Shared → Prop}
    (h : Q₁ (.ref s.heap.objs.size) { s with heap := s.heap.push { cls := .type "set", dict := none, data := .set #[] 0 (.fresh 0 0 (!w.params.followText "set-order")) } }) :
    codeAny (model P w) A (.call (.builtin "set.__new__") ⟨[.type "set", a], []⟩) (wants Q₁ E) s := by
  refine codeAny_of_tree ?_
  show wpAny _ A.in1 (do checkBuiltinCall "set.__new__" ⟨[.type "set", a], []⟩; again (.builtin "set.__new__" ⟨[.type "set", a], []⟩)) _ _ s
  refine wpAny_bind (wpAny_of_eq (F.newCall_set_1 a) (wpAny_pure ⟨plainId_quiet F.plain_set_new _, codeAny_builtin F.entry_set_new ?_⟩))
  rw [Around.under_plainId F.plain_set_new _]
  unfold Builtin.«set.__new__» Builtin.Frozenset.newClass
  have hsub := sub_set_self
  obtain ⟨hp, g, d, tk, os⟩ := s
  dsimp only
  wp_walk
  refine wpAny_askSetting (wpAny_pure ?_)
  dsimp only
  simp only [newObj]
  refine wpAny_bind (wpAny_alloc (wpAny_pure ?_))
  exact wpAny_pure h
theorem set_empty (h : Heap) (P : Program) (w : World) : GS P w (h.push { cls := .type "set", dict := none, data := .set #[] 0 (.fresh 0 0 (!w.params.followText "set-order")) }) h.objs.size [] := by
  refine ⟨(#[], 0, .fresh 0 0 (!w.params.followText "set-order")), Heap.get?_push_size _ rfl, TxOk.nil rfl, List.Pairwise.nil, ?_⟩
  show _ ∨ (!w.params.followText "set-order") = true
  cases w.params.followText "set-order"
  · exact .inr rfl
  · exact .inl rfl
set_option maxRecDepth 100000 in
set_option maxHeartbeats 3200000 in
/-- set(texts), each once -/
theorem call_setS {l : Addr} {items : Array Value} {zs : List Str} {Q : Value → Shared → Prop} (hh : A.handled = none) (hl : s.heap.IsList l items) (hi : StrsAre items.toList zs) (nd : zs.Nodup) (hb : items.size + 1 < scanBound)
    (h : ∀ (h' : Heap) (tk : Nat), GS P w h' s.heap.objs.size zs.reverse → (∀ b o, b < s.heap.objs.size → s.heap.get? b = some o → h'.get? b = some o) → Q (.ref s.heap.objs.size) { s with heap := h', toks := tk }) :
    wpAny (model P w) A (call (.type "set") [.ref l]) Q E s := by
  obtain ⟨c, tl, hmro⟩ := F.called_set.mro
  have hmade := F.called_set.made
  have hsub := F.called_set.sub
  refine wpAny_call (codeAny_of_tree ?_)
  show wpAny _ _ (callAny (.type "set") _) _ _ _
  refine wpAny_pure ⟨Code.quiet_builtin _ (by decide +kernel), codeAny_builtin F.entry_type_call ?_⟩
  rw [Around.under_plain (weight_type_call_type "set" [.ref l] []) rfl]
  have h1 := F.called_set.notType
  have h2 := F.called_set.canCreate
  have hct := F.typeCall_set_1 (.ref l)
  repeat (any_goals (first | assumption | wp_step))
  refine codeAny_mono (set_made (.ref l) (E := E) (Q₁ := fun obj s₁ => obj = .ref s.heap.objs.size ∧ s₁ = { s with heap := s.heap.push { cls := .type "set", dict := none, data := .set #[] 0 (.fresh 0 0 (!w.params.followText "set-order")) } }) ⟨rfl, rfl⟩) fun r s₁ hr => ?_
  cases r with
  | error e => exact hr
  | ok fl =>
    cases fl with
    | ret obj =>
      obtain ⟨rfl, rfl⟩ := hr
      have g0 := set_empty s.heap P w
      generalize hS : s.heap.push { cls := .type "set", dict := none, data := .set #[] 0 (.fresh 0 0 (!w.params.followText "set-order")) } = hp1 at g0 ⊢
      have zz : hp1.objs.size = s.heap.objs.size + 1 := by rw [← hS, Heap.size_push]
      have kk : ∀ b o, s.heap.get? b = some o → hp1.get? b = some o := fun b o e => by rw [← hS]; exact Heap.get?_push_of_some _ e
      have hS1 : hp1.get? s.heap.objs.size = some { cls := .type "set", dict := none, data := .set #[] 0 (.fresh 0 0 (!w.params.followText "set-order")) } := by rw [← hS]; exact Heap.get?_push_size _ rfl
      have hT : Shared.TypeIs { s with heap := hp1 } (.ref s.heap.objs.size) "set" := ⟨_, hS1, rfl⟩
      have hli := F.called_set.init.lookup
      have hbi := F.called_set.init.bind (.ref s.heap.objs.size)
      repeat (any_goals (first | assumption | wp_step))
      refine codeAny_mono (codeAny_call_builtin (R := wants (fun r s₂ => r = .none ∧ ∃ h' tk, s₂ = { s with heap := h', toks := tk } ∧ GS P w h' s.heap.objs.size zs.reverse ∧
          (∀ b o, b < s.heap.objs.size → s.heap.get? b = some o → h'.get? b = some o)) E) F.called_set.init.plain F.entry_set_init (check_set_init_1 hT ?_)) fun r₂ s₂ hr₂ => ?_
      · have hlS : l < s.heap.objs.size := by obtain ⟨ol, hol, _⟩ := hl; exact Heap.lt_size hol
        obtain ⟨ol, hol, hcl, nl, hdl⟩ := hl
        obtain ⟨ocls, odict, odata, oslots⟩ := ol
        simp only at hcl hdl
        subst hcl; subst hdl
        have hol' := kk _ _ hol
        have hsls := F.sub_list_set
        have hslf := F.sub_list_frozenset
        have hne : (Value.type "list" == Value.type "dict") = false := by decide
        have hl1 : hp1.IsList l items := ⟨_, hol', rfl, nl, rfl⟩
        unfold Builtin.«set.__init__» noKeywords Builtin.Frozenset.updateFrom
        generalize hPI : pyIter = PI
        wp_walk
        subst hPI
        refine wpAny_pyIter_list (s := { s with heap := hp1 }) hl1 ?_
        refine wpAny_bind (wpAny_runValue ?_)
        have hh3 : A.in1.in1.in1.handled = none := by simp [hh]
        have hneI : l ≠ hp1.objs.size := by rw [zz]; exact Nat.ne_of_lt (Nat.lt_succ_of_lt hlS)
        have hSf : s.heap.objs.size ∉ [hp1.objs.size, l] := by
          rw [zz]
          simp only [List.mem_cons, List.not_mem_nil, or_false, not_or]
          exact ⟨Nat.ne_of_lt (Nat.lt_succ_self _), Nat.ne_of_gt hlS⟩
        have hz : items.size = zs.length := by rw [← Array.length_toList]; exact hi.length
        have hval : ∀ (i : Nat) (v : Value), i < items.size → items[i]? = some v → ∃ t, v = .str (zs.getD i "") t := fun i v hlt hv => str_at hi i v (by rw [Array.getElem?_toList]; exact hv)
        refine set_loop ((Walks.list hh3 _ l hneI items).toS) s.heap.objs.size hSf zs hz hval nd hb (items.size - 0) 0 _ (by omega) (Nat.zero_le _) ⟨⟨_, Heap.get?_push_size _ rfl, rfl, rfl⟩, (hl1.push _)⟩ ?hS0 ?hR
        case hS0 => exact g0.at fun o e => Heap.get?_push_of_some _ e
        case hR =>
          intro s' hm hS'
          obtain ⟨h', g', d', tk', os'⟩ := s'
          have eg : g' = s.gens := hm.gens
          have ed : d' = s.drawn := hm.drawn
          have eo : os' = s.os := hm.os
          subst eg; subst ed; subst eo
          show wpAny _ _ _ _ _ _
          refine wpAny_pure ?_
          show wpAny _ _ (ret Value.none) _ _ _
          refine wpAny_pure ⟨rfl, h', tk', rfl, hS', fun b o hb e => ?_⟩
          have b2 : b ≠ hp1.objs.size := by rw [zz]; exact Nat.ne_of_lt (Nat.lt_succ_of_lt hb)
          exact hm.heap b o (by simp only [List.mem_cons, List.not_mem_nil, or_false, not_or]; exact ⟨Nat.ne_of_lt hb, b2⟩) (Heap.get?_push_of_some _ (kk _ _ e))
      · cases r₂ with
        | error e => exact hr₂
        | ok fl₂ =>
          cases fl₂ with
          | ret r =>
            obtain ⟨rfl, h', tk, rfl, hS', hk'⟩ := hr₂
            repeat (any_goals (first | assumption | wp_step))
            exact h _ _ hS' hk'
          | _ => exact hr₂.elim
    | _ => exact hr.elim
end

end SS

namespace SS
open PySem PySem.Spec PyProof.Rows L2 PySem.Froz
theorem perm_of_sub {α : Type} [DecidableEq α] : ∀ {l m : List α}, l.Nodup → (∀ x ∈ l, x ∈ m) → m.length = l.length → m.Perm l
  | [], m, _, _, h => by
    have : m = [] := List.length_eq_zero_iff.mp h
    rw [this]
  | x :: l, m, nd, hs, h => by
    have hx := hs x List.mem_cons_self
    have p := List.perm_cons_erase hx
    have nd2 := List.nodup_cons.mp nd
    refine p.trans (List.Perm.cons x (perm_of_sub nd2.2 (fun y hy => ?_) ?_))
    · have hy2 := p.mem_iff.mp (hs y (List.mem_cons_of_mem _ hy))
      rcases List.mem_cons.mp hy2 with e | e
      · subst e; exact absurd hy nd2.1
      · exact e
    · have := p.length_eq
      rw [List.length_cons, h, List.length_cons] at this
      omega
theorem is_strOf {P : Program} {w : World} {k : Str} {v : Value} (h : (strKind P w).is k v = true) : ∃ t, v = .str k t := by
  have h : Value.isStrOf k v = true := h
  cases v <;> simp [Value.isStrOf] at h
  subst h
  exact ⟨_, rfl⟩
theorem gs_vals {P : Program} {w : World} {D : SD} {l : List Str} (F : TxOk P w D l) (nd : l.Nodup) : (∀ v ∈ D.1.toList.map (·.2), ∃ x t, v = Value.str x t) ∧ ((D.1.toList.map (·.2)).map strOf).Perm l := by
  have h1 : ∀ v ∈ D.1.toList.map (·.2), ∃ x t, v = Value.str x t := fun v hv => by
    obtain ⟨e, he, rfl⟩ := List.mem_map.mp hv
    obtain ⟨⟨k, hk, _⟩, _⟩ := F.el e he
    obtain ⟨t, ht⟩ := is_strOf hk
    exact ⟨k, t, ht⟩
  refine ⟨h1, perm_of_sub nd (fun x hx => ?_) ?_⟩
  · obtain ⟨e, he, hk⟩ := (F.mem x).mp hx
    obtain ⟨t, ht⟩ := is_strOf hk
    refine List.mem_map.mpr ⟨e.2, List.mem_map.mpr ⟨e, he, rfl⟩, ?_⟩
    rw [ht] <;> rfl
  · rw [List.length_map, List.length_map, Array.length_toList]
    exact F.sz
section
variable {P : Program} {w : World} {A : Around} {E : Value → Shared → Prop} {s : Shared}
/-- sorted(set), fewer than 64 texts -/
theorem sorted_setS {a : Addr} {l : List Str} {Q : Value → Shared → Prop} (R : GS P w s.heap a l) (hh : A.handled = none) (h64 : l.length < 64) (nd : l.Nodup)
    (hQ : ∀ s' p (out : Array Value) (c : Nat) (ys : List Str), (∀ b o, s.heap.get? b = some o → s'.heap.get? b = some o) → s'.gens = s.gens → s'.os = s.os → s.heap.objs.size ≤ p →
      s'.heap.get? p = some (seqObj "list" out c) → StrsAre out.toList ys → ys.Perm l → sortedS ys = true → Q (.ref p) s') :
    wpAny (model P w) A (call (.builtin "sorted") [.ref a]) Q E s := by
  obtain ⟨⟨es, ep, t⟩, ho, TX, r, ld⟩ := R
  obtain ⟨g1, g2⟩ := gs_vals TX nd
  have hsz : es.size = l.length := TX.sz
  have hf : t.fits es.size = true := TX.fit
  have hb : es.size < scanBound := by unfold scanBound; omega
  refine Calls.call_function_entry kind_sorted plain_sorted entry_sorted (args_sorted1 _) ?_
  unfold Builtin.«sorted»
  refine wpAny_bind (m := checkCount "sorted" 1 1 _) (wpAny_pure ?_)
  refine wpAny_bind (collect_set (A := A.in1) hh ⟨_, ho, rfl, rfl⟩ hf hb r ld fun s1 vs k1 hz q1 o1 pm => ?_)
  have hvl : vs.length = l.length := by rw [pm.length_eq, List.length_map, Array.length_toList]; exact hsz
  have hS : StrsAre vs (vs.map strOf) := strsAre_map vs fun v hv => g1 v (pm.mem_iff.mp hv)
  have pk : (vs.map strOf).Perm l := (pm.map strOf).trans g2
  refine wpAny_bind (wpAny_newList ?_ (by rw [hvl, sizeLine_eq]; omega))
  have hoL : (s1.heap.push (seqObj "list" vs.toArray 0)).get? s1.heap.objs.size = some (seqObj "list" vs.toArray 0) := Heap.get?_push_size _ rfl
  refine wpAny_bind (wpAny_holding (wpAny_call_entry slot_list_sort ⟨_, hoL, rfl⟩ entry_list_sort (list_sort_treeK strKind_oneLt hoL hS.keysOf (fun v₁ v₂ rest e => keyKind_strs (by rw [← e]; exact hS)) (by rw [hvl]; exact h64) fun st' a1 a2 => ⟨_, rfl, ?_⟩) (args_list_sort _)))
  obtain ⟨ys, b1, b2, b3⟩ := sorted_out_str hS a1 a2
  obtain ⟨c, hc⟩ := sortedHeap_at (vs := vs) (out := (arrOf st').map (·.2)) hoL
  refine wpAny_pure ⟨_, rfl, hQ _ s1.heap.objs.size _ c ys (fun b u e => ?_) q1 o1 hz hc b1 (b2.trans pk) b3⟩
  have q := k1 b u e
  have hlt := Heap.lt_size q
  show (sortedHeap (s1.heap.push (seqObj "list" vs.toArray 0)) s1.heap.objs.size vs _).get? b = some u
  rw [sortedHeap_old (Nat.ne_of_lt hlt) (by rw [size_push']; exact Nat.lt_succ_of_lt hlt)]
  exact Heap.get?_push_of_some _ q
end
/-! ### as the walk has them -/
/-- the set of these texts at a -/
def SetS (P : Program) (w : World) (a : Addr) (l : List Str) : HO := .ext fun h => GS P w h a l
section
variable {X : Cx}
theorem setS_new {w : World} {P : Program} {H : Hp} {h : Heap} {a : Addr} {l : List Str} (R : GS P w h a l) : ObjOk P w H h a (SetS P w a l) := by
  have ⟨D, ho, _⟩ := R
  exact ⟨R, ⟨_, ho⟩, fun h1 h2 p k => GS.at p k⟩
theorem setS_get {pins : List (Addr × Obj)} {σ : L2.St} {H : Hp} {s : Shared} {a : Addr} {l : List Str} (I : Inv X pins σ H s) (ha : H a = some (SetS X.prog X.w a l)) : GS X.prog X.w s.heap a l := (I.hok a _ ha).1
/-- set(list of texts) -/
def rSetL (K : PySem.W.Frag) (P : Program) (w : World) : List V → Hp → VK → Prop := fun vs H Q => ∃ (a : Addr) (zs : List Str), vs = [.ref a] ∧ SqL K H a (zs.map V.str) ∧ zs.Nodup ∧ zs.length ≤ 60 ∧ ∀ p, H p = none → Q (.ref p) (upd H p (SetS P w p zs.reverse))
theorem cr_setL (hc : X.calm = true) : CallR X (.type "set") (rSetL X.K X.prog X.w) := by
  intro pins s σ H vs us Q I r h
  obtain ⟨a, zs, rfl, hs, nd, h60, q⟩ := h
  obtain ⟨its, rv, hl, _⟩ := I.list hs
  rw [Vals.ref1 r]
  have hlen := rv.length
  rw [List.length_map] at hlen
  have e : its.toArray.size = zs.length := by rw [List.size_toArray]; exact hlen.symm
  refine call_setS (I.ok.hd hc) hl.isList rv.strs nd (by rw [e]; unfold scanBound; omega) fun h' tk g k => ?_
  have kp : ∀ b o, s.heap.get? b = some o → h'.get? b = some o := fun b o e => k b o (Heap.lt_size e) e
  exact ⟨.ref _, _, I.laid (t' := tk) kp (Nat.le_refl _) (setS_new g), rfl, q _ (I.hok.fresh (Nat.le_refl _))⟩
/-- sorted(set of texts) -/
def rSortedSS (P : Program) (w : World) : List V → Hp → VK → Prop := fun vs H Q => ∃ (a : Addr) (l : List Str), vs = [V.ref a] ∧ H a = some (SetS P w a l) ∧ l.Nodup ∧ l.length < 64 ∧
  ∀ (ys : List Str) (p : Addr), ys.Perm l → sortedS ys = true → H p = none → Q (.ref p) (upd H p (.lst (ys.map V.str)))
theorem cr_sortedSS (hc : X.calm = true) : CallR X (.builtin "sorted") (rSortedSS X.prog X.w) := by
  intro pins s σ H vs us Q I r h
  obtain ⟨a, l, rfl, ha, nd, h64, q⟩ := h
  have R := setS_get I ha
  rw [Vals.ref1 r]
  refine sorted_setS R (I.ok.hd hc) h64 nd fun s' p out c ys k g o hp hg hi hm hs => ?_
  have hlen : (ys.map V.str).length ≤ sizeLine := by rw [List.length_map, hm.length_eq, sizeLine_eq]; omega
  have hn : H p = none := I.hok.fresh hp
  have J : Inv X pins σ (upd H p (.lst (ys.map V.str))) { s with heap := s'.heap, gens := s'.gens, drawn := s'.drawn, toks := s'.toks } :=
    I.call (ch := []) (Un.laid k hp hn) (I.hok.laid k hp ⟨hlen, out.toList, c, vals_of_strs hi, hg⟩) (by rw [g]; exact I.bare) (fun _ z => nomatch z)
  have e : s' = { s with heap := s'.heap, gens := s'.gens, drawn := s'.drawn, toks := s'.toks } := by
    cases s'
    cases s
    cases o
    rfl
  rw [e]
  exact ⟨.ref p, _, J, rfl, q ys p hm hs hn⟩
end

end SS

namespace DE
open PySem PySem.Spec PyProof.Rows L2 SZ VR VX StX RT
/-! ### set(texts), sorted(set(texts)) -/
def SetF (P : Program) (w : World) (l : List Str) : V → Hp → Prop := fun v H => ∃ p, v = .ref p ∧ H p = some (SS.SetS P w p l)
theorem SetF.st (P : Program) (w : World) (l : List Str) : ∀ v G G', Same G G' → SetF P w l v G → SetF P w l v G' := fun v G G' s ⟨p, e, h⟩ => ⟨p, e, s p _ h⟩
abbrev SetSl (P : Program) (w : World) (l : List Str) : Sl := .fact (SetF P w l) (SetF.st P w l)
section
variable {X : Cx} {b : Bs} {ρ : List Sl} {e : Expr}
theorem cv_setL {zs : List Str} {r : Sl} {p : Sl → Prop} (hc : X.calm = true) (er : cool r = .d (.list (zs.map .str))) (nd : zs.Nodup) (hn : zs.length ≤ 60) (h : p (SetSl X.prog X.w zs.reverse)) : CV X b (.type "set") [r] p := ⟨_, SS.cr_setL hc, fun vs H L Q lv hh k => by
  obtain ⟨v, rfl⟩ := one_in (rs := [r]) (r := r) lv
  have hc : Hold X.K b H ((some v, r) :: L) := hh
  have hc := hc.cool
  rw [er] at hc
  obtain ⟨G, hg⟩ := hc
  obtain ⟨_, f1, d1⟩ := hg.ok (some v, .d (.list (zs.map .str))) List.mem_cons_self
  cases f1
  cases d1 with
  | @lst a us _ s1 t1 =>
    have e := dp_strs t1
    subst e
    exact ⟨a, zs, rfl, hg.up.seq s1, nd, hn, fun q hq => k _ _ _ h ⟨_, (hg.drop.grow (o := SS.SetS X.prog X.w q zs.reverse) hq rfl).addF ⟨q, rfl, upd_same⟩⟩⟩⟩
theorem cv_sortedSS {l : List Str} {p : Sl → Prop} (hc : X.calm = true) (nd : l.Nodup) (hn : l.length < 64) (h : ∀ ys : List Str, ys.Perm l → PyProof.Rows.sortedS ys = true → p (.own (ys.map .str))) : CV X b (.builtin "sorted") [SetSl X.prog X.w l] p := ⟨_, SS.cr_sortedSS hc, fun vs H L Q lv hh k => by
  obtain ⟨v, rfl⟩ := one_in (rs := [SetSl X.prog X.w l]) (r := SetSl X.prog X.w l) lv
  have hc : Hold X.K b H ((some v, SetSl X.prog X.w l) :: L) := hh
  obtain ⟨G, hg⟩ := hc
  obtain ⟨_, f1, d1⟩ := hg.ok (some v, SetSl X.prog X.w l) List.mem_cons_self
  cases f1
  obtain ⟨q, rfl, hq⟩ := d1
  exact ⟨q, l, rfl, hg.up q _ hq, nd, hn, fun ys p2 hp hs h2 => k _ _ _ (h ys hp hs) ⟨G, hg.drop.newL h2 (dp_strsI ys)⟩⟩⟩
/-- sorted(set(texts)) where the texts stand sorted, each once -/
theorem ev_sortedSet {zs : List Str} {r : Sl} {p : Sl → List Sl → Prop} {p1 p2 c1 c2 : Pos} (hc : X.calm = true) (m1 : X.mg "sorted" = none) (m2 : X.mg "set" = none) (he : EVr X b ρ e r) (er : cool r = .d (.list (zs.map .str))) (nd : zs.Nodup) (hn : zs.length ≤ 60)
    (h : ∀ ys : List Str, ys.Perm zs → PyProof.Rows.sortedS ys = true → p (.own (ys.map .str)) ρ) (g1 : Gl X "sorted" := by rfl) (g2 : Gl X "set" := by rfl) (hs : starEach [.Call (.Name "set" p2) [e] [] c2] X.env = (false, eval (.Call (.Name "set" p2) [e] [] c2) X.env) :: starEach [] X.env := by rfl) (he2 : starEach [e] X.env = (false, eval e X.env) :: starEach [] X.env := by rfl) (hp1 : (backTo c1 (starEach [] X.env)).any (·.1) = false := by rfl) (hp2 : (backTo c2 (starEach [] X.env)).any (·.1) = false := by rfl) :
    EV X b ρ (.Call (.Name "sorted" p1) [.Call (.Name "set" p2) [e] [] c2] [] c1) p :=
  ev_callB (id := "sorted") g1 m1 (by decide +kernel) ((a_cons (r_callTy (T := "set") m2 (a_cons he a_nil he2) (fun _ k => cv_setL hc er nd hn k) g2 (by decide +kernel) (by decide) (by decide) he2 hp2) a_nil hs) _ (cv_sortedSS hc ((List.reverse_perm zs).nodup_iff.mpr nd) (by rw [List.length_reverse]; omega) fun ys a1 a2 => h ys (a1.trans (List.reverse_perm zs)) a2)) (by decide) (by decide) hs hp1
end

end DE

namespace DE
open PySem PySem.Spec PyProof.Rows L2 SZ VR VX StX RT
/-! ### all, any of tests with one answer -/
section
variable {X : Cx} {b : Bs}
theorem cr_allT {zs : List PyData} (hc : X.calm = true) (h : ∀ z ∈ zs, z = .bool true) : CVr X b (.builtin "all") [.own zs] (.d (.bool true)) := fun p k => by
  have e : zs = (zs.map fun _ => true).map .bool := by
    rw [List.map_map]
    exact (List.map_id zs).symm.trans (List.map_congr_left fun z hz => h z hz)
  have e2 : (zs.map fun _ => true).all id = true := by
    rw [List.all_map]
    exact List.all_eq_true.mpr fun _ _ => rfl
  rw [e]
  exact cv_all hc (by rw [e2]; exact k)
theorem cr_anyF {zs : List PyData} (hc : X.calm = true) (h : ∀ z ∈ zs, z = .bool false) : CVr X b (.builtin "any") [.own zs] (.d (.bool false)) := fun p k => by
  have e : zs = (zs.map fun _ => false).map .bool := by
    rw [List.map_map]
    exact (List.map_id zs).symm.trans (List.map_congr_left fun z hz => h z hz)
  have e2 : (zs.map fun _ => false).any id = false := by
    rw [List.any_map]
    exact List.any_eq_false.mpr fun _ _ => by simp
  rw [e]
  exact cv_any hc (by rw [e2]; exact k)
end

section
variable {X : Cx} {b : Bs} {ρ : List Sl} {p : Po}
/-- name = [f(x) for x in xs if c(x)] in one row -/
theorem x_setLc {α : Type} {tg iter elt : Expr} {ifs : List Expr} {scope : Scope} (i : Nat) (own : List (Str × Nat)) (l : List α) (g : α → PyData) (cf : α → Bool) (f : α → PyData) (ρt : α → List Sl) {ys : List PyData} {y : Str} {py spos pos : Pos} {ρ2 : List Sl} (hi : EIr X b ρ tg iter ys) (ey : ys = l.map g) (hc : X.calm = true) (hN : X.N.Nodup) (ok : BlkOk X.N X.env.scope scope own) (hun : ∀ v ∈ own.map (·.2), ρ[v]? = some .un) (hlen : l.length ≤ 100000)
    (hg : ∀ y ∈ l, AllB X scope fun Y => EGr Y b (own.map (·.2)) ρ tg (.d (g y)) (ρt y)) (hw : ∀ y ∈ l, wipeR (ρt y) (own.map (·.2)) = ρ) (ht : ∀ y ∈ l, AllB X scope fun Y => ETsr Y b (ρt y) ifs (cf y))
    (he : ∀ y ∈ l, cf y = true → ∃ r, (AllB X scope fun Y => EVr Y b (ρt y) elt r) ∧ cool r = .d (f y)) (h2 : ρ.set i (.own ((l.filter cf).map f)) = ρ2) (k : p.nx ρ2) (hy : X.N[i]? = some y := by rfl) (hl : i < ρ.length := by first | decide | simp) (hyl : X.env.scope.names.lookup y = some .local := by rfl)
    (hsw : swapsWith (.ListComp elt [⟨tg, iter, ifs, 0⟩] scope pos) (some (.Name y py)) spos.line X.env = pure true := by rfl) (hs : ∀ x, foldedSetIterable iter X.env x = pure x := by intro _; rfl) : XS X b ρ (.Assign [.Name y py] (.ListComp elt [⟨tg, iter, ifs, 0⟩] scope pos) spos) p := by
  refine xs_setLc i own hc hN hy hl hyl hsw ok (hi _ fun _ => ⟨fun j acc ρ' => acc = (((l.take j).filter cf).map f) ∧ ρ' = ρ, ⟨by simp, rfl⟩, fun j acc ρ' ⟨_, e⟩ => by subst e; exact hun, fun j y acc ρ' hy _ ⟨ea, e⟩ => ?_, fun acc ρ' ⟨ea, e⟩ _ => by subst ea e ey; rw [List.length_map, List.take_length, h2]; exact k⟩) hs
  subst e ey
  rw [List.getElem?_map] at hy
  cases hx : l[j]? with
  | none => rw [hx] at hy; cases hy
  | some x =>
    rw [hx] at hy
    cases hy
    have hm : x ∈ l := List.mem_of_getElem? hx
    have htk : l.take (j + 1) = l.take j ++ [x] := by rw [List.take_add_one, hx]; rfl
    refine lc_turn (hg x hm) (ht x hm) (hw x hm) (fun e => ⟨?_, rfl⟩) fun e => ?_
    · rw [htk, List.filter_append, List.filter_cons, e, ea]
      simp
    · obtain ⟨r, hr, er⟩ := he x hm e
      refine ⟨r, f x, hr, er, ?_, ?_, rfl⟩
      · rw [ea, List.length_map, sizeLine_eq]
        have h1 := List.length_filter_le cf (l.take j)
        have hb : j < l.length := (List.getElem?_eq_some_iff.mp hx).1
        rw [List.length_take] at h1
        omega
      · rw [htk, List.filter_append, List.filter_cons, e, ea]
        simp
end

end DE

namespace DE
open PySem PySem.Spec PyProof.Rows L2 SZ VR VX StX RT
/-! ### comprehensions of two fors -/
def lcI (X : Cx) (scope : Scope) (tg iter : Expr) : TI := fun σ H R => ∀ (s : Shared) (H0 : Hp) (C : Addr) (cl : List (Str × Addr)) (fp : List Addr), ∃ wi, PI (X.blk s H0 scope (compEnvC scope cl C X.env) fp) tg iter wi ∧ wi σ H R
section
variable {X : Cx} {b : Bs} {ρ : List Sl} {iter tg tg1 iter1 elt : Expr}
theorem r_lc2 {α : Type} {scope : Scope} (own : List (Str × Nat)) (vs1 : List Nat) (l : List α) (g : α → PyData) (y1 : α → List PyData) (f : α → PyData → PyData) (ρt : α → List Sl) (ρu : α → PyData → List Sl) {ys : List PyData} {pos : Pos} (hi : EIr X b ρ tg iter ys) (ey : ys = l.map g) (hc : X.calm = true) (hN : X.N.Nodup) (ok : BlkOk X.N X.env.scope scope own) (hv : ∀ i ∈ vs1, i ∈ own.map (·.2)) (hun : ∀ v ∈ own.map (·.2), ρ[v]? = some .un)
    (hlen : (l.flatMap fun a => (y1 a).map (f a)).length ≤ 100000)
    (hg : ∀ a ∈ l, AllB X scope fun Y => EGr Y b (own.map (·.2)) ρ tg (.d (g a)) (ρt a)) (hw : ∀ a ∈ l, wipeR (ρt a) (own.map (·.2)) = ρ) (hu1 : ∀ a ∈ l, ∀ v ∈ vs1, (ρt a)[v]? = some .un)
    (hi1 : ∀ a ∈ l, AllB X scope fun Y => EIr Y b (ρt a) tg1 iter1 (y1 a)) (hg1 : ∀ a ∈ l, ∀ y ∈ y1 a, AllB X scope fun Y => EGr Y b vs1 (ρt a) tg1 (.d y) (ρu a y)) (hw1 : ∀ a ∈ l, ∀ y ∈ y1 a, wipeR (ρu a y) vs1 = ρt a)
    (he : ∀ a ∈ l, ∀ y ∈ y1 a, ∃ r, (AllB X scope fun Y => EVr Y b (ρu a y) elt r) ∧ cool r = .d (f a y))
    (hs : ∀ x, foldedSetIterable iter X.env x = pure x := by intro _; rfl) (hs1 : ∀ env x, foldedSetIterable iter1 env x = pure x := by intro _ _; rfl) :
    EVr X b ρ (.ListComp elt [⟨tg, iter, [], 0⟩, ⟨tg1, iter1, [], 0⟩] scope pos) (.own (l.flatMap fun a => (y1 a).map (f a))) := fun p kp σ H L Q ls hh k => by
  obtain ⟨wi, hpi, hh2⟩ := hi (fun ys' ρ' => ys' = ys ∧ ρ' = ρ) ⟨rfl, rfl⟩
  refine ⟨_, pe_lc2 (vs1 := vs1) (g := lcG X scope tg) (tt := lcT X scope []) (wi1 := lcI X scope tg1 iter1) (g1 := lcG X scope tg1) (tt1 := lcT X scope []) (te := lcE X scope elt) hc hN hpi ok hv
    (fun s H C cl fp => ⟨fun pins s' σ H' v u Q I r q => (wg_pg tg).run pins s' σ H' v u Q I r (q s H C cl fp)⟩) (fun s H C cl fp => ⟨fun pins s' σ H' Q I q => (wts_pts []).run pins s' σ H' Q I (q s H C cl fp)⟩)
    (fun s H C cl fp => ⟨fun pins s' σ H' R I q => let ⟨wi, h, q⟩ := q s H C cl fp; h.run pins s' σ H' R I q⟩)
    (fun s H C cl fp => ⟨fun pins s' σ H' v u Q I r q => (wg_pg tg1).run pins s' σ H' v u Q I r (q s H C cl fp)⟩) (fun s H C cl fp => ⟨fun pins s' σ H' Q I q => (wts_pts []).run pins s' σ H' Q I (q s H C cl fp)⟩)
    (fun s H C cl fp => ⟨fun pins s' σ H' Q I q => (we_pe elt).run pins s' σ H' Q I (q s H C cl fp)⟩) hs hs1, ?_⟩
  refine hh2 σ H L _ ls hh fun ys' ρ' H1 J G Y c ⟨e1, e2⟩ l1 W hh1 hG hY => ?_
  subst e1 e2 ey
  intro D hD
  have lw : (L2.wipe σ (own.map (·.2))).length = ρ'.length := by rw [wipe_length]; exact ls
  have hn : (l.map g).length = l.length := List.length_map _
  let acc : Nat → List PyData := fun i => (l.take i).flatMap fun a => (y1 a).map (f a)
  let Pv : Nat → Hp → Prop := fun i H' => Hold X.K b H' ((L2.wipe σ (own.map (·.2))).zip ρ' ++ (some (.ref D), .own (acc i)) :: c :: L)
  refine ⟨fun i m H' => m = l.length - i ∧ i ≤ l.length ∧ Pv i H', ⟨l.length, by simp, Nat.zero_le _, ?_⟩, ?_⟩
  · obtain ⟨G', h3⟩ := hh1
    have h4 : Hold X.K b (upd H1 D (.lst [])) (σ.zip ρ' ++ (some (.ref D), .own []) :: c :: L) := ⟨G', (h3.newL hD .nil).perm perm_in.symm⟩
    have h5 := hold_wipe ls h4 (own.map (·.2))
    rw [wipeR_un hun] at h5
    exact h5
  rintro i m H2 ⟨rfl, hil, hP⟩
  have swp : ∀ (A M : List Cl) (u v : Cl), (A ++ u :: v :: M).Perm (v :: (A ++ u :: M)) := fun A M u v => (List.Perm.append_left A (List.Perm.swap v u M)).trans perm_in.symm
  have hq := hG H2 _ (hP.perm (swp _ L _ c).symm)
  by_cases hlt : i < l.length
  · refine .inr ⟨W.goes i H2 (by omega) hq, Pv (i + 1), fun H' p' => ⟨l.length - (i + 1), by omega, rfl, hlt, p'⟩, fun x H3 yl => ?_⟩
    obtain ⟨y, ey, hz⟩ := hY i x H2 H3 _ (by omega) (W.yields i H2 x H3 (by omega) hq yl) (hP.perm (swp _ L _ c).symm)
    rw [List.getElem?_map, List.getElem?_eq_getElem hlt] at ey
    cases ey
    have ha : l[i] ∈ l := List.getElem_mem hlt
    generalize hla : l[i] = a at ha hz
    have hacc : acc (i + 1) = acc i ++ (y1 a).map (f a) := by
      show (l.take (i + 1)).flatMap _ = _
      rw [List.take_succ_eq_append_getElem hlt, List.flatMap_append, hla]
      simp
      rfl
    have hbnd : (acc i).length + (y1 a).length ≤ 100000 := by
      have e : (l.flatMap fun a => (y1 a).map (f a)) = acc (i + 1) ++ (l.drop (i + 1)).flatMap fun a => (y1 a).map (f a) := by
        show _ = (l.take (i + 1)).flatMap _ ++ _
        rw [← List.flatMap_append, List.take_append_drop]
      rw [e, List.length_append, hacc, List.length_append, List.length_map] at hlen
      omega
    intro s H0 C cl fp
    have hgg : EG (X.blk s H0 scope (compEnvC scope cl C X.env) fp) b (own.map (·.2)) ρ' tg (.d (g a)) (fun ρ2 => ρ2 = ρt a) := hg a ha s H0 C cl fp _ rfl
    have hz' : Hold X.K b H3 ((some x, .d (g a)) :: ((L2.wipe σ (own.map (·.2))).zip ρ' ++ (some (.ref D), .own (acc i)) :: c :: L)) := hz.perm (List.Perm.cons _ (swp _ L _ c))
    refine hgg (L2.wipe σ (own.map (·.2))) H3 _ x _ lw hz' ?_
    intro ρ2 σ2 H4 h2 l2 n2 w2 hh4
    refine ⟨?_, ?_⟩
    · rw [w2]
      exact wipe_sub _ _ fun _ h => h
    subst h2
    have w2' : L2.wipe σ2 (own.map (·.2)) = L2.wipe σ (own.map (·.2)) := by
      rw [w2]
      exact wipe_sub _ _ fun _ h => h
    intro s H0 C cl fp
    refine ⟨_, pts_nil, ?_⟩
    intro s H0 C cl fp
    obtain ⟨wi1, hp1, hk1⟩ := hi1 a ha s H0 C cl fp (fun ys' ρ'' => ys' = y1 a ∧ ρ'' = ρt a) ⟨rfl, rfl⟩
    refine ⟨wi1, hp1, hk1 σ2 H4 _ _ l2 hh4 fun ys' ρ'' H5 J1 G1 Y1 c1 ⟨f1, f2⟩ l5 W1 hh5 hG1 hY1 => ?_⟩
    subst f1 f2
    let P1 : Nat → Hp → Prop := fun j H' => Hold X.K b H' (σ2.zip (ρt a) ++ c1 :: (some (.ref D), .own (acc i ++ ((y1 a).take j).map (f a))) :: c :: L)
    refine ⟨fun j k H' => k = (y1 a).length - j ∧ j ≤ (y1 a).length ∧ P1 j H', ⟨(y1 a).length, by simp, Nat.zero_le _, ?_⟩, ?_⟩
    · show Hold X.K b H5 (σ2.zip (ρt a) ++ c1 :: (some (.ref D), .own (acc i ++ ((y1 a).take 0).map (f a))) :: c :: L)
      rw [List.take_zero, List.map_nil, List.append_nil]
      exact hh5
    rintro j k2 H6 ⟨rfl, hjl, hP1⟩
    have hq1 := hG1 H6 _ (hP1.perm perm_in)
    by_cases hjt : j < (y1 a).length
    · refine .inr ⟨W1.goes j H6 hjt hq1, P1 (j + 1), fun H' p' => ⟨(y1 a).length - (j + 1), by omega, rfl, hjt, p'⟩, fun x1 H7 yl1 => ?_⟩
      obtain ⟨y, ey, hz1⟩ := hY1 j x1 H6 H7 _ hjt (W1.yields j H6 x1 H7 hjt hq1 yl1) (hP1.perm perm_in)
      have hy : y ∈ y1 a := List.mem_of_getElem? ey
      have hz2 : Hold X.K b H7 ((some x1, .d y) :: (σ2.zip (ρt a) ++ c1 :: (some (.ref D), .own (acc i ++ ((y1 a).take j).map (f a))) :: c :: L)) := hz1.perm (List.Perm.cons _ perm_in.symm)
      have hz3 : Hold X.K b H7 ((some x1, .d y) :: ((L2.wipe σ2 vs1).zip (ρt a) ++ c1 :: (some (.ref D), .own (acc i ++ ((y1 a).take j).map (f a))) :: c :: L)) := by
        have q := hold_wipe (L := (some x1, .d y) :: c1 :: (some (.ref D), .own (acc i ++ ((y1 a).take j).map (f a))) :: c :: L) l2 (hz2.perm perm_in.symm) vs1
        rw [wipeR_un (hu1 a ha)] at q
        exact q.perm perm_in
      intro s H0 C cl fp
      have hgg1 : EG (X.blk s H0 scope (compEnvC scope cl C X.env) fp) b vs1 (ρt a) tg1 (.d y) (fun ρ2 => ρ2 = ρu a y) := hg1 a ha y hy s H0 C cl fp _ rfl
      refine hgg1 (L2.wipe σ2 vs1) H7 _ x1 _ (by rw [wipe_length]; exact l2) hz3 ?_
      intro ρ3 σ3 H8 h3 l3 n3 w3 hh8
      refine ⟨?_, ?_⟩
      · rw [w3]
        exact wipe_sub _ _ fun _ h => h
      subst h3
      have w3' : L2.wipe σ3 vs1 = L2.wipe σ2 vs1 := by
        rw [w3]
        exact wipe_sub _ _ fun _ h => h
      intro s H0 C cl fp
      refine ⟨_, pts_nil, ?_⟩
      intro s H0 C cl fp
      obtain ⟨r, hr, er⟩ := he a ha y hy
      have hrr : EV (X.blk s H0 scope (compEnvC scope cl C X.env) fp) b (ρu a y) elt (fun r' ρ' => r' = r ∧ ρ' = ρu a y) := hr s H0 C cl fp _ ⟨rfl, rfl⟩
      refine hrr σ3 H8 _ _ l3 hh8 ?_
      intro r' ρ4 v H9 ⟨e1, e2⟩ l9 hh9
      subst e1 e2
      have h5 := hh9.cool
      rw [er] at h5
      obtain ⟨G', hG'⟩ := h5
      obtain ⟨us, g1, g2, hA⟩ := HoldG.app (hG'.perm (L' := (some v, .d (f a y)) :: (some (.ref D), .own (acc i ++ ((y1 a).take j).map (f a))) :: (σ3.zip (ρu a y) ++ c1 :: c :: L)) (List.Perm.cons _ (swp _ (c :: L) c1 _).symm))
      have hal : (acc i ++ ((y1 a).take j).map (f a)).length < sizeLine := by
        rw [List.length_append, List.length_map, List.length_take, sizeLine_eq]
        omega
      show ∃ acc, H9 D = some (.lst acc) ∧ acc.length < sizeLine ∧ Hold X.K b (upd H9 D (.lst (acc ++ [v]))) (σ2.zip (ρt a) ++ c1 :: (some (.ref D), .own ((l.take i).flatMap (fun a => (y1 a).map (f a)) ++ ((y1 a).take (j + 1)).map (f a))) :: c :: L)
      refine ⟨us, g1, by rw [g2]; exact hal, ?_⟩
      show Hold X.K b _ (σ2.zip (ρt a) ++ c1 :: (some (.ref D), .own (acc i ++ ((y1 a).take (j + 1)).map (f a))) :: c :: L)
      have et : (y1 a).take (j + 1) = (y1 a).take j ++ [y] := by rw [List.take_add_one, ey]; rfl
      rw [et, List.map_append, ← List.append_assoc]
      have h6 : Hold X.K b (upd H9 D (.lst (us ++ [v]))) (σ3.zip (ρu a y) ++ c1 :: (some (.ref D), .own (acc i ++ ((y1 a).take j).map (f a) ++ [f a y])) :: c :: L) := ⟨G', hA.perm (swp _ (c :: L) c1 _)⟩
      have h7 := hold_wipe l3 h6 vs1
      rw [hw1 a ha y hy, w3'] at h7
      exact hold_unwipe l2 vs1 (hu1 a ha) h7
    · obtain rfl : j = (y1 a).length := by omega
      refine .inl ⟨W1.stops H6 hq1, ?_⟩
      show Hold X.K b H6 ((L2.wipe σ (own.map (·.2))).zip ρ' ++ (some (.ref D), .own (acc (i + 1))) :: c :: L)
      rw [hacc]
      have h8 : Hold X.K b H6 (c1 :: (σ2.zip (ρt a) ++ (some (.ref D), .own (acc i ++ ((y1 a).take (y1 a).length).map (f a))) :: c :: L)) := hP1.perm perm_in
      rw [List.take_length] at h8
      have h9 := hold_wipe l2 h8.drop (own.map (·.2))
      rw [hw a ha, w2'] at h9
      exact h9
  · obtain rfl : i = l.length := by omega
    refine .inl ⟨by rw [← hn]; exact W.stops H2 hq, ?_⟩
    have e : acc l.length = l.flatMap fun a => (y1 a).map (f a) := by
      show (l.take l.length).flatMap _ = _
      rw [List.take_length]
    have h2 := hold_unwipe ls _ hun hP
    rw [e] at h2
    exact k _ ρ' _ H2 kp ls ((h2.perm (L' := c :: (some (.ref D), .own (l.flatMap fun a => (y1 a).map (f a))) :: (σ.zip ρ' ++ L)) ((List.Perm.swap ..).trans ((List.Perm.cons _ perm_in).trans perm_in))).drop)
end

end DE

namespace DE
open PySem PySem.Spec PyProof.Rows L2 SZ VR VX StX RT
/-! ### max of a list; x in a list held alone -/
section
variable {X : Cx} {b : Bs} {ρ : List Sl} {e : Expr} {pos : Pos}
theorem cr_maxO {ns : List Int} {m : Int} (hc : X.calm = true) (hm : m ∈ ns) (hb : ∀ y ∈ ns, y ≤ m) : CVr X b (.builtin "max") [.own (ns.map .int)] (.d (.int m)) := fun p h => ⟨_, cr_max hc, fun vs H L Q lv hh k => by
  obtain ⟨v, rfl⟩ := one_in (rs := []) lv
  have hh : Hold X.K b H ((some v, .own (ns.map .int)) :: L) := hh
  obtain ⟨G, hg⟩ := hh
  obtain ⟨l1, us, e1, _, _, h1, d1⟩ := hg.ok _ List.mem_cons_self
  cases e1
  have e := dp_ints d1
  subst e
  refine ⟨_, ns, rfl, .of h1, List.length_pos_of_mem hm, fun m' a1 a2 => ?_⟩
  obtain rfl : m' = m := Int.le_antisymm (hb m' a1) (a2 m hm)
  exact k _ _ _ h ⟨G, hg.drop.add (.int _)⟩⟩
theorem r_inO (i : Nat) {z : Str} {l : List Str} {x : Str} {p2 : Pos} (he : EVr X b ρ e (.d (.str z))) (hN : X.N[i]? = some x) (hv : Vis X.env.scope x) (hr : ρ[i]? = some (.own (l.map .str))) (hd : (x == ("__debug__" : Str)) = false := by decide) (hcd : (x == ("__classdict__" : Str)) = false := by decide) (hm : behindInMarks .In (.Name x p2) = false := by first | exact nomark _ | rfl | with_unfolding_all rfl) :
    ETr X b ρ (.Compare e [.In] [.Name x p2] pos) (l.contains z) := fun p kk σ H L Q ls hh q => by
  obtain ⟨a, ha⟩ := slot_ref ls hr (.inl rfl) hh
  refine ⟨_, pt_cmpR op_in_seq (we_pe e) (pe_var hN hv hd hcd) hm, he (fun r ρ' => r = .d (.str z) ∧ ρ' = ρ) ⟨rfl, rfl⟩ σ H L _ ls hh fun r ρ' v H' ⟨er, e⟩ l' hh' => ?_⟩
  subst er e
  have ev := hh'.isS
  subst ev
  refine ⟨.ref a, ha, ?_⟩
  obtain ⟨M, p1, _⟩ := set_perm (s' := .un) hr ha
  obtain ⟨G, hG⟩ := hh'.drop
  obtain ⟨us, u1, _, u3⟩ := cell_lst (hG.perm (p1.symm.append_right L)) (.inl rfl)
  have e := dp_strs u3
  subst e
  refine ⟨_, _, rfl, .inl (.of u1), rfl, strFlat _, ?_⟩
  rw [strIn]
  exact ⟨_, rfl, q _ ρ' H' kk ls ⟨G, hG⟩⟩
end

end DE

namespace DE
open PySem PySem.Spec PyProof.Rows L2 SZ VR VX StX RT
/-! ### a list that stays and is known to be a plain one -/
def LstF (K : PySem.W.Frag) (ys : List PyData) : Sl := .fact (fun v G => ∃ a us, v = .ref a ∧ G a = some (.lst us) ∧ DpAll K G us ys) (fun _ _ _ s ⟨a, us, e, h1, h2⟩ => ⟨a, us, e, s _ _ h1, DpAll.keep s h2⟩)
section
variable {K : PySem.W.Frag} {b : Bs} {G H : Hp} {L : List Cl}
theorem HoldG.freezeL {x : Option V} {ys : List PyData} (h : HoldG K b G H ((x, .own ys) :: L)) : Hold K b H ((x, LstF K ys) :: L) := by
  obtain ⟨p, vs, rfl, h1, h2, h3, h4⟩ := h.ok _ List.mem_cons_self
  have nd := h.nd
  have nd' : p ∉ ads L := (List.nodup_cons.mp (show (p :: ads L).Nodup from nd)).1
  have sG : Same G (upd G p (.lst vs)) := Same.new h2
  refine ⟨upd G p (.lst vs), h.old.trans sG, fun a u e => ?_, fun a u e => ?_, h.rest, h.bs, fun c hc => ?_, ?_, h.fl.upd h2 rfl⟩
  · by_cases ha : a = p
    · subst ha; rw [upd_same] at e; rw [h3]; exact e
    · rw [upd_ne ha] at e; exact h.up a u e
  · by_cases ha : a = p
    · subst ha; exact .inr h1
    · rw [upd_ne ha] at e; exact h.new a u e
  · rcases List.mem_cons.mp hc with rfl | hm
    · exact ⟨_, rfl, p, vs, rfl, upd_same, DpAll.keep sG h4⟩
    · have ok := h.ok c (List.mem_cons_of_mem _ hm)
      rcases c with ⟨x, s⟩
      cases s with
      | un => trivial
      | d y => obtain ⟨v, e, k⟩ := ok; exact ⟨v, e, Dp.keep sG k⟩
      | fact φ st => obtain ⟨v, e, k⟩ := ok; exact ⟨v, e, st _ _ _ sG k⟩
      | dct o kvs =>
        obtain ⟨q, vs', e, k1, k2, k3, k4⟩ := ok
        have n : q ≠ p := fun n => by
          subst n; subst e
          exact nd' (ads_memD hm)
        exact ⟨q, vs', e, k1, by rw [upd_ne n]; exact k2, k3, DpK.keep sG k4⟩
      | own ys' =>
        obtain ⟨q, vs', e, k1, k2, k3, k4⟩ := ok
        have n : q ≠ p := fun n => by
          subst n; subst e
          exact nd' (ads_mem (.inl ⟨_, rfl⟩) hm)
        exact ⟨q, vs', e, k1, by rw [upd_ne n]; exact k2, k3, DpAll.keep sG k4⟩
      | bor ys' =>
        obtain ⟨q, vs', e, k1, k2, k3, k4⟩ := ok
        have n : q ≠ p := fun n => by
          subst n; subst e
          exact nd' (ads_mem (.inr ⟨_, rfl⟩) hm)
        exact ⟨q, vs', e, k1, by rw [upd_ne n]; exact k2, k3, DpAll.keep sG k4⟩
  · exact (List.nodup_cons.mp (show (p :: ads L).Nodup from nd)).2
end
section
variable {X : Cx} {b : Bs} {ρ : List Sl} {e e1 e2 : Expr} {pos : Pos} {r : Sl}
theorem xb_frzL (i : Nat) {ys : List PyData} {st : List Stmt} {q : Po} {ρ2 : List Sl} (hs : ρ[i]? = some (.own ys)) (h2 : ρ.set i (LstF X.K ys) = ρ2) (h : XB X b ρ2 st q) : XB X b ρ st q := by
  subst h2
  intro σ H L D l hh k
  obtain ⟨x, hx, _⟩ := zip_mem l hs
  obtain ⟨M, p1, p2⟩ := set_perm (s' := LstF X.K ys) hs hx
  obtain ⟨G, hG⟩ := hh.perm ((p1.append_right L).symm)
  exact h σ H L D (by rw [List.length_set]; exact l) ((HoldG.freezeL hG).perm (p2.append_right L)) (by rw [List.length_set]; exact k)
theorem r_varF (i : Nat) {φ : V → Hp → Prop} {st} {x : Str} (hN : X.N[i]? = some x) (hv : Vis X.env.scope x) (hr : ρ[i]? = some (.fact φ st)) (hd : (x == ("__debug__" : Str)) = false := by decide) (hcd : (x == ("__classdict__" : Str)) = false := by decide) : EVr X b ρ (.Name x pos) (.fact φ st) := fun _ h => ev_varF i hN hv hr h hd hcd
theorem r_varL (i : Nat) {ys : List PyData} {x : Str} (hN : X.N[i]? = some x) (hv : Vis X.env.scope x) (hr : ρ[i]? = some (LstF X.K ys)) (hd : (x == ("__debug__" : Str)) = false := by decide) (hcd : (x == ("__classdict__" : Str)) = false := by decide) : EVr X b ρ (.Name x pos) (.d (.list ys)) := fun p h σ H L Q l hh q => by
  obtain ⟨x', hx, hm⟩ := zip_mem l hr
  obtain ⟨G, hg⟩ := hh
  obtain ⟨v, e, a, us, e2, h1, h2⟩ := hg.ok _ (List.mem_append_left _ hm)
  subst e2
  subst e
  exact ⟨_, pe_var hN hv hd hcd, .ref a, hx, q _ _ _ H h l ⟨G, hg.add (.lst (.of h1) h2)⟩⟩
theorem or_repF {xs : List PyData} {n : Int} (h0 : -(2 ^ 63) ≤ n) (h1 : n < 2 ^ 63) (hz : xs.length * n.toNat ≤ sizeLine) : OVr X b (binaryOp .Mult) (LstF X.K xs) (.d (.int n)) (.own (List.replicate n.toNat xs).flatten) := fun p h => ⟨_, op_rep, fun v1 v2 H L Q hh k => by
  have hi := (hh.perm (List.Perm.swap ..)).isI
  subst hi
  obtain ⟨G, hg⟩ := hh
  obtain ⟨v, e, l1, us, e1, h1', d1⟩ := hg.ok _ List.mem_cons_self
  cases e
  subst e1
  refine ⟨l1, n, us, rfl, rfl, hg.up _ _ h1', h0, h1, by rw [DpAll.len d1]; exact hz, fun q hq => k _ _ _ h ⟨G, hg.drop.drop.newL hq ?_⟩⟩
  generalize n.toNat = m
  induction m with
  | zero => exact .nil
  | succ m ih =>
    rw [List.replicate_succ, List.replicate_succ, List.flatten_cons, List.flatten_cons]
    exact DpAll.app d1 ih⟩
theorem r_ifT {t : Expr} (h : ETr X b ρ t true) (h1 : EVr X b ρ e1 r) : EVr X b ρ (.IfExp t e1 e2 pos) r := fun _ k => ev_if (h _ ⟨fun _ => h1 _ k, fun e => nomatch e⟩)
theorem r_ifF {t : Expr} (h : ETr X b ρ t false) (h1 : EVr X b ρ e2 r) : EVr X b ρ (.IfExp t e1 e2 pos) r := fun _ k => ev_if (h _ ⟨fun e => (nomatch e), fun _ => h1 _ k⟩)
/-- a text in a text: its first sign is in no place of it -/
theorem or_inW {u z : Str} {c : Nat} {t : List Nat} (hu : u.cps.toList = c :: t) (hc : c ∉ z.cps.toList) : OVr X b (compareOp .In) (.d (.str u)) (.d (.str z)) (.d (.bool false)) := fun p h => ⟨_, op_in_str, fun v1 v2 H L Q hh k => by
  have h1 := hh.isS
  subst h1
  have h2 := hh.drop.isS
  subst h2
  refine ⟨u, z, rfl, rfl, ?_⟩
  have e : (!(Builtin.Str.occurrences z u 0 z.length 1).isEmpty) = false := by
    rw [Bool.eq_false_iff]
    intro hf
    obtain ⟨i, hi, hs⟩ := (PySem.StrLaws.found_iff z u).mp hf
    rw [PySem.StrLaws.subAt_eq, hu] at hs
    have hs := eq_of_beq hs
    refine hc ?_
    have hm : c ∈ (z.cps.toList.drop i).take u.length := by rw [hs]; exact List.mem_cons_self
    exact List.mem_of_mem_drop (List.mem_of_mem_take hm)
  rw [e]
  exact k _ _ H h (hh.drop.drop.bl _)⟩
end

end DE

namespace DE
open PySem PySem.Spec PyProof.Rows L2 SZ VR VX StX RT
/-! ### repr of data, deep ones too -/
def rReprW (K : PySem.W.Frag) : List V → Hp → VK → Prop := fun xs H Q => ∃ (v : V) (d : PyData), xs = [v] ∧ Dp K H v d ∧ d.showable = true ∧ d.hasDict = false ∧ d.depth ≤ 50 ∧ d.shown.length ≤ sizeLine ∧ Q (.str d.shown) H
theorem call_reprW {X : Cx} (hg : X.A.guards = some []) (hu : X.A.units + 64 < cLine) : CallR X (.builtin "repr") (rReprW X.K) := by
  intro pins s σ H xs us Q I r h
  obtain ⟨v, d, rfl, hd, hs, hn, hp, hz, q⟩ := h
  obtain ⟨u, rfl, r1⟩ := vals1 r
  cases hd with
  | non =>
    obtain rfl : u = Value.none := r1
    exact PySem.P.repr_of_none ⟨.str _, H, I.tok _, ⟨_, rfl⟩, by simpa [PyData.shown] using q⟩
  | bl b =>
    obtain rfl : u = Value.bool b := r1
    exact PySem.P.repr_of_bool ⟨.str _, H, I.tok _, ⟨_, rfl⟩, by simpa [PyData.shown] using q⟩
  | int i =>
    obtain ⟨t, rfl⟩ := r1
    exact PySem.P.repr_of_int (by simpa [PyData.showable] using hs) ⟨.str _, H, I.tok _, ⟨_, rfl⟩, by simpa [PyData.shown] using q⟩
  | str x =>
    obtain ⟨t, rfl⟩ := r1
    exact PySem.P.repr_of_str ⟨.str _, H, I.tok _, ⟨_, rfl⟩, by simpa [PyData.shown] using q⟩ (by simpa [PyData.shown] using hz)
  | @lst a xs ds h1 h2 =>
    obtain rfl : u = Value.ref a := r1
    obtain ⟨as, ra⟩ := Dp.reads I _ _ _ (Dp.lst h1 h2) rfl
    exact repr_of_reads' ra hs (fun z => by rw [hn] at z; cases z) hg (by omega) (fun _ _ e => e) (fun h' u tk hk => ⟨.str _, H, I.kept hk, ⟨_, rfl⟩, q⟩) hz
  | @tup a xs ds h1 h2 =>
    obtain rfl : u = Value.ref a := r1
    obtain ⟨as, ra⟩ := Dp.reads I _ _ _ (Dp.tup h1 h2) rfl
    exact repr_of_reads' ra hs (fun z => by rw [hn] at z; cases z) hg (by omega) (fun _ _ e => e) (fun h' u tk hk => ⟨.str _, H, I.kept hk, ⟨_, rfl⟩, q⟩) hz
section
variable {X : Cx} {b : Bs} {ρ : List Sl} {e : Expr}
theorem r_reprW {y : PyData} {ps cp : Pos} (gd : X.A.guards = some []) (hu : X.A.units + 64 < cLine) (hm : X.mg "repr" = none) (h : EVr X b ρ e (.d y)) (h1 : y.showable = true) (h2 : y.hasDict = false) (h3 : y.depth ≤ 50) (h4 : y.shown.length ≤ sizeLine) (hg : Gl X "repr" := by rfl)
    (he : starEach [e] X.env = (false, eval e X.env) :: starEach [] X.env := by rfl) : EVr X b ρ (.Call (.Name "repr" ps) [e] [] cp) (.d (.str y.shown)) :=
  r_callB (id := "repr") hm (a_cons h a_nil he) (fun p k => ⟨_, call_reprW gd hu, fun vs H L Q lv hh q => by
    obtain ⟨v, rfl⟩ := one_in (rs := [.d y]) (r := .d y) lv
    exact ⟨v, y, rfl, hh.dp, h1, h2, h3, h4, q _ _ _ k (hh.drop.str _)⟩⟩) (hg := hg) (he := he)
end

end DE

namespace DE
open PySem PySem.Spec PyProof.Rows L2 SZ VR VX StX RT
/-! ### tuple(dict); x in an object with its own __contains__ -/
section
open PySem.W
variable {prog : Program} {w : World} {T : String} {A : Around} {s : Shared} {E : Value → Shared → Prop} {n : Nat} {d r : Addr} {OK : Heap → Prop} {P : Nat → Value → Prop}
theorem gather {Q : List Value → Shared → Prop} (K : KdlSrc prog w T r d n P OK) (ha : A.handled = none) (ok : OK s.heap) (hn : n ≤ sizeLine)
    (q : ∀ (h' : Heap) (tk : Nat) (acc : Array Value), (∀ b o, s.heap.get? b = some o → h'.get? b = some o) → ItemsOf P acc n → Q acc.toList { s with heap := h', toks := tk }) : wpAny (model prog w) A (collect (.ref r)) Q E s := by
  have lt := K.there _ ok
  unfold collect
  refine wpAny_bind (wpAny_runValue (codeAny_builtin PySem.F.entry_proto_collect (?_ : _)))
  rw [Around.under_plainId PySem.F.plain_proto_collect (_ : Args)]
  show wpAny _ A.in1 (newList [] >>= fun z => again (.builtin "list.__iadd__" ⟨[z, .ref r], []⟩)) _ _ s
  refine wpAny_bind (wpAny_newObj_type (wpAny_pure ⟨plainId_quiet PySem.F.plain_list_iadd _, codeAny_builtin PySem.F.entry_list_iadd ?_⟩))
  rw [Around.under_plainId PySem.F.plain_list_iadd (_ : Args)]
  show wpAny _ A.in1 (Builtin.List.listExtendWith (.ref s.heap.objs.size) (Value.ref r) (.ref s.heap.objs.size)) _ _ _
  have hS : (s.heap.push { cls := .type "list", data := .seq ([] : List Value).toArray }).get? s.heap.objs.size = some { cls := .type "list", data := .seq #[] 0 } := by exact Heap.get?_push_size _ rfl
  refine wpAny_mono (kdl_extend (A := A) (R := fun rr s' => rr = .ok (.ret (.ref s.heap.objs.size)) ∧ ∃ (h' : Heap) (tk : Nat) (acc : Array Value) (c' : Nat), s' = { s with heap := h', toks := tk } ∧ (∀ b o, s.heap.get? b = some o → h'.get? b = some o) ∧ h'.get? s.heap.objs.size = some { cls := .type "list", dict := none, data := .seq acc c', slots := #[] } ∧ ItemsOf P acc n) (s := { s with heap := s.heap.push { cls := .type "list", data := .seq ([] : List Value).toArray } }) K ha (K.keep _ _ ok fun b _ o e => Heap.get?_push_of_some _ e) s.heap.objs.size (Nat.ne_of_gt lt.1) (Nat.ne_of_gt lt.2) _ 0 hS (fun h' tk acc c' hk e hi => ⟨rfl, h', tk, acc, c', rfl, fun b o z => hk b o (Nat.ne_of_lt (Heap.lt_size z)) (Heap.get?_push_of_some _ z), e, hi⟩) hn) (fun f1 s1 h1 => ?_) (fun e s1 h1 => absurd h1.1 (by simp))
  cases f1 with
  | done f =>
    obtain ⟨e, h', tk, acc, c', rfl, hk, hS', hi⟩ := h1
    cases e
    exact wpAny_bind (wpAny_load hS' (wpAny_pure (q h' tk acc hk hi)))
  | again c1 =>
    refine ⟨h1.1, codeAny_mono h1.2 fun rr s2 ⟨er, h', tk, acc, c', es, hk, hS', hi⟩ => ?_⟩
    subst er es
    exact wpAny_bind (wpAny_load hS' (wpAny_pure (q h' tk acc hk hi)))
end
section
open PySem.W
variable {prog : Program} {w : World} {A : Around} {E : Value → Shared → Prop} {s : Shared} {r d : Addr} {n : Nat} {P : Nat → Value → Prop} {OK : Heap → Prop}
theorem code_tup {Q1 : Value → Shared → Prop} (K : KdlSrc prog w "dict" r d n P OK) (ha : A.handled = none) (ok : OK s.heap) (hn : n ≤ sizeLine) (q : ∀ (h' : Heap) (tk : Nat) (acc : Array Value), (∀ b o, s.heap.get? b = some o → h'.get? b = some o) → ItemsOf P acc n → Q1 (.ref h'.objs.size) { s with heap := h'.push { cls := .type "tuple", data := .seq acc }, toks := tk }) :
    codeAny (model prog w) A (.call (.builtin "tuple.__new__") ⟨[.type "tuple", .ref r], []⟩) (wants Q1 E) s := by
  have ty := K.type s ok
  have ha1 : A.in1.handled = none := ha
  refine codeAny_of_tree (show wpAny _ A.in1 (do checkBuiltinCall "tuple.__new__" ⟨[.type "tuple", .ref r], []⟩; again (.builtin "tuple.__new__" ⟨[.type "tuple", .ref r], []⟩)) _ _ s from ?_)
  refine wpAny_bind (wpAny_of_eq (PySem.F.newCall_tuple_1 (.ref r)) (wpAny_pure ⟨plainId_quiet PySem.F.plain_tuple_new _, codeAny_builtin PySem.F.entry_tuple_new ?_⟩))
  rw [Around.under_plainId PySem.F.plain_tuple_new (_ : Args)]
  have k1 := sub_tuple_self; have k2 := init_tuple_lookup; have k3 := madeHere_tuple
  wp_walk using wpAny_typeOf ty, gather (A := A.in1) K ha1 ok hn
  intro h' tk acc hk hi
  show wpAny _ _ (Builtin.Tuple.tupleExact (acc.toList.toArray) >>= fun z => ret z) _ _ _
  unfold Builtin.Tuple.tupleExact
  refine wpAny_bind (wpAny_newObj_type ?_ (by show acc.toList.toArray.size ≤ sizeLine; rw [Array.toArray_toList, hi.1]; exact hn))
  refine wpAny_pure ?_
  rw [show acc.toList.toArray = acc by simp]
  exact q h' tk acc hk hi
theorem call_tup {Q : Value → Shared → Prop} (K : KdlSrc prog w "dict" r d n P OK) (ha : A.handled = none) (ok : OK s.heap) (hn : n ≤ sizeLine) (q : ∀ (h' : Heap) (tk : Nat) (acc : Array Value), (∀ b o, s.heap.get? b = some o → h'.get? b = some o) → ItemsOf P acc n → Q (.ref h'.objs.size) { s with heap := h'.push { cls := .type "tuple", data := .seq acc }, toks := tk }) :
  wpAny (model prog w) A (call (.type "tuple") [Value.ref r]) Q E s := by
  refine callType_codes (Q₁ := fun z s1 => s1.TypeIs z "tuple" ∧ Q z s1) PySem.F.called_tuple (PySem.F.typeCall_tuple_1 _) PySem.F.entry_object_init (code_tup (A := A.in1) K ha ok hn fun h' tk acc hk hi => ⟨⟨_, Heap.get?_push_size _ rfl, rfl⟩, q h' tk acc hk hi⟩) fun z s1 h1 => ⟨h1.1, PySem.F.args_object_init_2 z _, ?_⟩
  exact object_init_meets PySem.F.called_tuple.init.lookup PySem.F.called_tuple.made (by decide) prog w A.in1 _ s1 ⟨h1.1, rfl, h1.2⟩
end
def rTupD : List V → Hp → VK → Prop := fun xs H Q => ∃ p kvs, xs = [.ref p] ∧ H p = some (.dK kvs) ∧ ∀ q, H q = none → Q (.ref q) (upd H q (.tup (kvs.map fun kv => kV kv.1)))
theorem call_tupD {X : Cx} (hc : X.calm = true) : CallR X (.type "tuple") rTupD := by
  intro pins s σ H xs us Q I r h
  obtain ⟨p, kvs, rfl, hk, q⟩ := h
  obtain ⟨u, rfl, rx⟩ := vals1 r
  obtain rfl : u = Value.ref p := rx
  obtain ⟨z, low, vs, rk, isd⟩ := (show ObjOk X.prog X.w H s.heap p (.dK kvs) from I.hok _ _ hk)
  obtain ⟨ep, hat⟩ := isd.dictAt
  have hl : kvs.length = vs.length := rk.length
  refine call_tup (PySem.W.kdl_dict (knd := mixKind X.prog X.w) (kvs := vs) (ep := ep) low) (I.ok.hd hc) hat (by rw [← hl]; exact z) fun h' tk acc hkeep hi => ?_
  have I1 : Inv X pins σ H { s with heap := h', toks := tk } := I.kept (t' := tk) hkeep
  have hv : Vals (kvs.map fun kv => kV kv.1) acc.toList := by
    have el : acc.toList.length = acc.size := by simp
    refine vals_of_at (by rw [List.length_map, el, hi.1, hl]) fun j x v h1 h2 => ?_
    obtain ⟨k, y, hky, hi2⟩ := hi.2 j v (by rw [← Array.getElem?_toList]; exact h2)
    have e1 : (kvs.map (·.1))[j]? = some k := by rw [KV.keys rk, List.getElem?_map, hky]; rfl
    have e2 : (kvs.map fun c => kV c.1)[j]? = some (kV k) := by
      rw [show (kvs.map fun kv => kV kv.1) = (kvs.map (·.1)).map kV by rw [List.map_map]; rfl, List.getElem?_map, e1]; rfl
    rw [e2] at h1
    cases h1
    exact keyIs_rel hi2
  have hz : (kvs.map fun kv => kV kv.1).length ≤ sizeLine := by rw [List.length_map]; exact z
  have I2 : Inv X pins σ (upd H h'.objs.size (.tup (kvs.map fun kv => kV kv.1))) { s with heap := h'.push { cls := .type "tuple", data := .seq acc }, toks := tk } :=
    I1.laid (t' := tk) (fun b o e => Heap.get?_push_of_some _ e) (Nat.le_refl _) (show ObjOk X.prog X.w _ _ _ (.tup (kvs.map fun kv => kV kv.1)) from ⟨hz, acc.toList, hv, by rw [Array.toArray_toList]; exact IsTup.new _ _⟩)
  exact ⟨.ref h'.objs.size, _, I2, rfl, q _ (I1.hok.fresh (Nat.le_refl _))⟩
/-- x in o, o an object with its own __contains__ that tells a bool -/
def rOwnI (C : Addr) (sp : Sp) (E : XK) (neg : Bool) : R2 := fun x y H Q => ∃ a dx fs, y = .ref a ∧ H a = some (.ins C dx fs) ∧ sp [y, x] H (fun v H' => ∃ c, v = .bl c ∧ Q (.bl (if neg then !c else c)) H') E
section
variable {X : Cx} {CX : CXT} {k : Nat} {C f : Addr} {fd : FuncData} {ps : List Str} {sp : Sp} {E : XK}
theorem op_ownIn (he : PySem.W.findIn X.K (.ref C) "__contains__" = some (some (.ref f))) (hf : PySem.W.isFn X.K (.ref f) = true) (F : FnOk X.prog X.w X.K X.mg X.base CX k f fd ps sp) (hr : Room k X.A) (hb : Binds X.K fd ps []) (hx : Passes CX X E) : OpR X (compareOp .In) (rOwnI C sp E false) := by
  intro pins s σ H x y v u Q I rx ry h
  obtain ⟨a, dx, fs, rfl, ha, q⟩ := h
  cases ry
  obtain ⟨mA, O, _⟩ := ins_get I.hok ha
  obtain ⟨od, J, _⟩ := O.look
  obtain ⟨m, hF⟩ := I.fr
  refine PySem.W.in_K hF I.ok.mod.kin J he hf (wpAny_mono (run_fn (us := [.ref a, v]) (vs := [.ref a, x]) (dvs := []) F hr hb .nil hx I (.cons rfl (.cons rx .nil)) q) (fun r s' hq => ?_) fun _ _ z => z)
  obtain ⟨z, H', I', rz, c, ez, hz⟩ := hq
  subst ez
  cases rz
  exact wpAny_truthy_bool ⟨.bl c, H', I', rfl, hz⟩
theorem op_ownNotIn (he : PySem.W.findIn X.K (.ref C) "__contains__" = some (some (.ref f))) (hf : PySem.W.isFn X.K (.ref f) = true) (F : FnOk X.prog X.w X.K X.mg X.base CX k f fd ps sp) (hr : Room k X.A) (hb : Binds X.K fd ps []) (hx : Passes CX X E) : OpR X (compareOp .NotIn) (rOwnI C sp E true) := by
  intro pins s σ H x y v u Q I rx ry h
  obtain ⟨a, dx, fs, rfl, ha, q⟩ := h
  cases ry
  obtain ⟨mA, O, _⟩ := ins_get I.hok ha
  obtain ⟨od, J, _⟩ := O.look
  obtain ⟨m, hF⟩ := I.fr
  refine PySem.W.notIn_K hF I.ok.mod.kin J he hf (wpAny_mono (run_fn (us := [.ref a, v]) (vs := [.ref a, x]) (dvs := []) F hr hb .nil hx I (.cons rfl (.cons rx .nil)) q) (fun r s' hq => ?_) fun _ _ z => z)
  obtain ⟨z, H', I', rz, c, ez, hz⟩ := hq
  subst ez
  cases rz
  exact wpAny_truthy_bool ⟨.bl (!c), H', I', rfl, hz⟩
end

end DE

namespace SS
open PySem PySem.Spec PyProof.Rows L2 PySem.Froz
/-! ### set(texts) where a text may come twice -/
def ddR (l : List Str) (z : Str) : List Str := if z ∈ l then l else z :: l
def ddS (zs : List Str) : List Str := zs.foldl ddR []
theorem ddR_nodup {l : List Str} {z : Str} (h : l.Nodup) : (ddR l z).Nodup := by
  unfold ddR
  split
  · exact h
  · rename_i c; exact List.nodup_cons.mpr ⟨c, h⟩
theorem ddR_mem {l : List Str} {z x : Str} : x ∈ ddR l z ↔ x = z ∨ x ∈ l := by
  unfold ddR
  split
  · rename_i c
    constructor
    · exact fun h => .inr h
    · rintro (rfl | h)
      · exact c
      · exact h
  · exact List.mem_cons
theorem dd_nodup : ∀ {zs l : List Str}, l.Nodup → (zs.foldl ddR l).Nodup
  | [], _, h => h
  | _ :: zs, _, h => dd_nodup (zs := zs) (ddR_nodup h)
theorem dd_mem : ∀ {zs l : List Str} {x : Str}, x ∈ zs.foldl ddR l ↔ x ∈ l ∨ x ∈ zs
  | [], _, _ => by simp
  | z :: zs, l, x => by
    rw [List.foldl_cons, dd_mem (zs := zs), ddR_mem, List.mem_cons]
    constructor
    · rintro ((h | h) | h)
      · exact .inr (.inl h)
      · exact .inl h
      · exact .inr (.inr h)
    · rintro (h | h | h)
      · exact .inl (.inr h)
      · exact .inl (.inl h)
      · exact .inr h
theorem dd_len : ∀ {zs l : List Str}, (zs.foldl ddR l).length ≤ l.length + zs.length
  | [], _ => Nat.le_refl _
  | z :: zs, l => by
    rw [List.foldl_cons]
    refine Nat.le_trans (dd_len (zs := zs)) ?_
    have : (ddR l z).length ≤ l.length + 1 := by
      unfold ddR
      split
      · omega
      · rw [List.length_cons]; omega
    rw [List.length_cons]
    omega
theorem ddS_nodup (zs : List Str) : (ddS zs).Nodup := dd_nodup List.nodup_nil
theorem ddS_mem {zs : List Str} {x : Str} : x ∈ ddS zs ↔ x ∈ zs := by
  unfold ddS
  rw [dd_mem]
  simp
theorem ddS_len (zs : List Str) : (ddS zs).length ≤ zs.length := by
  have := dd_len (zs := zs) (l := [])
  simpa [ddS] using this
theorem ddS_snoc (zs : List Str) (z : Str) : ddS (zs ++ [z]) = ddR (ddS zs) z := by
  unfold ddS
  rw [List.foldl_append]
  rfl
section
variable {P : Program} {w : World} {A : Around} {E : Value → Shared → Prop} {s : Shared}
/-- a text that is there already -/
theorem old_x {a : Addr} {T : String} {D : SD} {l : List Str} {k : Str} {u : Tok} {Q : Bool → Shared → Prop} (ho : s.heap.get? a = some (sObj T D)) (F : TxOk P w D l) (hk : k ∈ l) (hb : l.length + 1 < scanBound)
    (h : Q false s) : wpAny (model P w) A (setAddHashed a (.str k u) (hashStr w k)) Q E s := by
  obtain ⟨es, ep, t⟩ := D
  have hd : (sObj T (es, ep, t)).data = .set es ep t := rfl
  have hf : t.fits es.size = true := F.fit
  have hel : ElemsOf (strKind P w) es.toList := F.el
  have hsz : es.size = l.length := F.sz
  have hb0 : es.size < scanBound := by omega
  have hkey : (strKind P w).is k (.str k u) = true := is_str k u
  obtain ⟨j, hsome⟩ : ∃ j, List.findIdx? (fun e => (strKind P w).is k e.2) es.toList = some j := by
    cases hr : List.findIdx? (fun e => (strKind P w).is k e.2) es.toList with
    | some j => exact ⟨j, rfl⟩
    | none =>
      obtain ⟨e, he, hi⟩ := (F.mem k).mp hk
      have := List.findIdx?_eq_none_iff.mp hr e he
      rw [this] at hi
      cases hi
  unfold setAddHashed setAddHashedIn
  refine wpAny_holding (wpAny_bind (wpAny_setState_of ho hd hf ?_))
  dsimp only
  rw [byScan_of rfl hb0 hel]
  simp only [↓reduceIte]
  unfold setAddByScan
  refine wpAny_bind ?_
  refine wpAny_bind (wpAny_rule ?_)
  refine wpAny_bind (wpAny_setScan_of (knd := strKind P w) (k := k) hkey ho hd hf hel ?_)
  rw [hsome]
  dsimp only
  exact wpAny_pure (wpAny_pure h)
end
section
variable {P : Program} {w : World} {A : Around} {R : Result → Shared → Prop} {I : Addr} {fp wr : List Addr} {G : Array GenState → Array GenState → Prop} {n : Nat} {Pv : Nat → Value → Prop} {St : Nat → Shared → Prop}
/-- texts into a set, one by one -/
theorem set_loopD (W : WalksS P w A.in1 I fp wr G n Pv St) (S : Addr) (hS : S ∉ fp) (zs : List Str) (hn : n = zs.length) (hv : ∀ i v, i < n → Pv i v → ∃ t, v = .str (zs.getD i "") t) (hb : n + 1 < scanBound) :
    ∀ (k i : Nat) (s : Shared), n - i = k → i ≤ n → St i s → GS P w s.heap S (ddS (zs.take i)) → (∀ s', Moved (S :: wr) G s s' → GS P w s'.heap S (ddS zs) → R (.ok (.ret .none)) s') →
      codeAny (model P w) A (.builtin "set.update.loop" ⟨[.ref S, .ref I], []⟩) R s := by
  have sw : S ∉ wr := fun h => hS (W.sub _ h)
  have sub : ∀ b ∈ wr, b ∈ S :: wr := fun b h => List.mem_cons_of_mem _ h
  intro k
  induction k with
  | zero =>
    intro i s hk hi st hg hR
    obtain rfl : i = n := by omega
    rw [hn, List.take_length] at hg
    refine codeAny_builtin F.entry_set_update_loop ?_
    rw [Around.under_plainId F.plain_set_update_loop _]
    show wpAny _ A.in1 (pyNext (.ref I) >>= _) _ _ s
    refine wpAny_bind (W.done s _ _ st fun s' m => ?_)
    show wpAny _ A.in1 (ret Value.none) _ _ s'
    exact wpAny_pure (hR s' (m.mono sub) (hg.at fun o e => m.heap S o sw e))
  | succ k ih =>
    intro i s hk hi st hg hR
    have lt : i < n := by omega
    have lz : i < zs.length := by omega
    refine codeAny_builtin F.entry_set_update_loop ?_
    rw [Around.under_plainId F.plain_set_update_loop _]
    show wpAny _ A.in1 (pyNext (.ref I) >>= _) _ _ s
    refine wpAny_bind (W.item i s _ _ lt st fun v s' hp st' m => ?_)
    obtain ⟨t, rfl⟩ := hv i v lt hp
    obtain ⟨D, ho, TX, rs, ld⟩ := hg.at fun o e => m.heap S o sw e
    have ez : zs.getD i "" = zs[i] := by rw [List.getD_eq_getElem?_getD, List.getElem?_eq_getElem lz]; rfl
    have er : ddS (zs.take (i + 1)) = ddR (ddS (zs.take i)) (zs.getD i "") := by
      rw [List.take_succ_eq_append_getElem lz, ddS_snoc, ez] <;> rfl
    have hl : (ddS (zs.take i)).length ≤ i := by
      have := ddS_len (zs.take i)
      rw [List.length_take] at this
      omega
    show wpAny _ A.in1 (holding [Value.str (zs.getD i "") t] (setAdd S (.str (zs.getD i "") t)) >>= _) _ _ s'
    refine wpAny_bind (wpAny_holding ?_)
    unfold setAdd
    refine wpAny_holding ?_
    refine wpAny_bind ((strKind P w).pyHash (k := zs.getD i "") (is_str _ _) ?_)
    by_cases nk : zs.getD i "" ∈ ddS (zs.take i)
    · refine old_x (s := { s' with toks := s'.toks + 1 }) ho TX nk (by omega) ?_
      have g2 : GS P w s'.heap S (ddS (zs.take (i + 1))) := by
        rw [er, ddR, if_pos nk]
        exact ⟨_, ho, TX, rs, ld⟩
      refine wpAny_pure ⟨plainId_quiet F.plain_set_update_loop _, ih (i + 1) { s' with toks := s'.toks + 1 } (by omega) lt (W.frame _ s' _ _ st' (Nat.le_succ _) fun b hb o e => e) g2 fun s'' m2 g3 => ?_⟩
      refine hR s'' (Moved.trans W.gtrans ((m.mono sub).then_heap (Nat.le_succ _) fun b o hb e => ?_) m2) g3
      exact e
    · refine add_x (s := { s' with toks := s'.toks + 1 }) ho TX nk (by omega) ?_
      have g2 : GS P w (s'.heap.update S (fun _ => sObj "set" (addTx (hashStr w (zs.getD i "")) (.str (zs.getD i "") t) D))) S (ddS (zs.take (i + 1))) := by
        rw [er, ddR, if_neg nk]
        obtain ⟨q1, q2⟩ := add_ris (hh := hashStr w (zs.getD i "")) (v := .str (zs.getD i "") t) rs ld
        exact ⟨_, get_upd _ ho rfl, add_ok t TX, q1, q2⟩
      refine wpAny_pure ⟨plainId_quiet F.plain_set_update_loop _, ih (i + 1) _ (by omega) lt (W.frame _ s' _ _ st' (Nat.le_succ _) fun b hb o e => ?_) g2 fun s'' m2 g3 => ?_⟩
      · exact (Heap.get?_update_other _ _ (fun h : S = b => hS (by rw [h]; exact hb))).trans e
      · refine hR s'' (Moved.trans W.gtrans ((m.mono sub).then_heap (Nat.le_succ _) fun b o hb e => ?_) m2) g3
        exact (Heap.get?_update_other _ _ (fun h : S = b => hb (by rw [← h]; exact List.mem_cons_self))).trans e
end
section
variable {P : Program} {w : World} {A : Around} {E : Value → Shared → Prop} {s : Shared}
set_option maxRecDepth 100000 in
set_option maxHeartbeats 3200000 in
theorem call_setD {l : Addr} {items : Array Value} {zs : List Str} {Q : Value → Shared → Prop} (hh : A.handled = none) (hl : s.heap.IsList l items) (hi : StrsAre items.toList zs) (hb : items.size + 1 < scanBound)
    (h : ∀ (h' : Heap) (tk : Nat), GS P w h' s.heap.objs.size (ddS zs) → (∀ b o, b < s.heap.objs.size → s.heap.get? b = some o → h'.get? b = some o) → Q (.ref s.heap.objs.size) { s with heap := h', toks := tk }) :
    wpAny (model P w) A (call (.type "set") [.ref l]) Q E s := by
  obtain ⟨c, tl, hmro⟩ := F.called_set.mro
  have hmade := F.called_set.made
  have hsub := F.called_set.sub
  refine wpAny_call (codeAny_of_tree ?_)
  show wpAny _ _ (callAny (.type "set") _) _ _ _
  refine wpAny_pure ⟨Code.quiet_builtin _ (by decide +kernel), codeAny_builtin F.entry_type_call ?_⟩
  rw [Around.under_plain (weight_type_call_type "set" [.ref l] []) rfl]
  have h1 := F.called_set.notType
  have h2 := F.called_set.canCreate
  have hct := F.typeCall_set_1 (.ref l)
  repeat (any_goals (first | assumption | wp_step))
  refine codeAny_mono (set_made (.ref l) (E := E) (Q₁ := fun obj s₁ => obj = .ref s.heap.objs.size ∧ s₁ = { s with heap := s.heap.push { cls := .type "set", dict := none, data := .set #[] 0 (.fresh 0 0 (!w.params.followText "set-order")) } }) ⟨rfl, rfl⟩) fun r s₁ hr => ?_
  cases r with
  | error e => exact hr
  | ok fl =>
    cases fl with
    | ret obj =>
      obtain ⟨rfl, rfl⟩ := hr
      have g0 := set_empty s.heap P w
      generalize hS : s.heap.push { cls := .type "set", dict := none, data := .set #[] 0 (.fresh 0 0 (!w.params.followText "set-order")) } = hp1 at g0 ⊢
      have zz : hp1.objs.size = s.heap.objs.size + 1 := by rw [← hS, Heap.size_push]
      have kk : ∀ b o, s.heap.get? b = some o → hp1.get? b = some o := fun b o e => by rw [← hS]; exact Heap.get?_push_of_some _ e
      have hS1 : hp1.get? s.heap.objs.size = some { cls := .type "set", dict := none, data := .set #[] 0 (.fresh 0 0 (!w.params.followText "set-order")) } := by rw [← hS]; exact Heap.get?_push_size _ rfl
      have hT : Shared.TypeIs { s with heap := hp1 } (.ref s.heap.objs.size) "set" := ⟨_, hS1, rfl⟩
      have hli := F.called_set.init.lookup
      have hbi := F.called_set.init.bind (.ref s.heap.objs.size)
      repeat (any_goals (first | assumption | wp_step))
      refine codeAny_mono (codeAny_call_builtin (R := wants (fun r s₂ => r = .none ∧ ∃ h' tk, s₂ = { s with heap := h', toks := tk } ∧ GS P w h' s.heap.objs.size (ddS zs) ∧
          (∀ b o, b < s.heap.objs.size → s.heap.get? b = some o → h'.get? b = some o)) E) F.called_set.init.plain F.entry_set_init (check_set_init_1 hT ?_)) fun r₂ s₂ hr₂ => ?_
      · have hlS : l < s.heap.objs.size := by obtain ⟨ol, hol, _⟩ := hl; exact Heap.lt_size hol
        obtain ⟨ol, hol, hcl, nl, hdl⟩ := hl
        obtain ⟨ocls, odict, odata, oslots⟩ := ol
        simp only at hcl hdl
        subst hcl; subst hdl
        have hol' := kk _ _ hol
        have hsls := F.sub_list_set
        have hslf := F.sub_list_frozenset
        have hne : (Value.type "list" == Value.type "dict") = false := by decide
        have hl1 : hp1.IsList l items := ⟨_, hol', rfl, nl, rfl⟩
        unfold Builtin.«set.__init__» noKeywords Builtin.Frozenset.updateFrom
        generalize hPI : pyIter = PI
        wp_walk
        subst hPI
        refine wpAny_pyIter_list (s := { s with heap := hp1 }) hl1 ?_
        refine wpAny_bind (wpAny_runValue ?_)
        have hh3 : A.in1.in1.in1.handled = none := by simp [hh]
        have hneI : l ≠ hp1.objs.size := by rw [zz]; exact Nat.ne_of_lt (Nat.lt_succ_of_lt hlS)
        have hSf : s.heap.objs.size ∉ [hp1.objs.size, l] := by
          rw [zz]
          simp only [List.mem_cons, List.not_mem_nil, or_false, not_or]
          exact ⟨Nat.ne_of_lt (Nat.lt_succ_self _), Nat.ne_of_gt hlS⟩
        have hz : items.size = zs.length := by rw [← Array.length_toList]; exact hi.length
        have hval : ∀ (i : Nat) (v : Value), i < items.size → items[i]? = some v → ∃ t, v = .str (zs.getD i "") t := fun i v hlt hv => str_at hi i v (by rw [Array.getElem?_toList]; exact hv)
        refine set_loopD ((Walks.list hh3 _ l hneI items).toS) s.heap.objs.size hSf zs hz hval hb (items.size - 0) 0 _ (by omega) (Nat.zero_le _) ⟨⟨_, Heap.get?_push_size _ rfl, rfl, rfl⟩, (hl1.push _)⟩ ?hS0 ?hR
        case hS0 => exact g0.at fun o e => Heap.get?_push_of_some _ e
        case hR =>
          intro s' hm hS'
          obtain ⟨h', g', d', tk', os'⟩ := s'
          have eg : g' = s.gens := hm.gens
          have ed : d' = s.drawn := hm.drawn
          have eo : os' = s.os := hm.os
          subst eg; subst ed; subst eo
          show wpAny _ _ _ _ _ _
          refine wpAny_pure ?_
          show wpAny _ _ (ret Value.none) _ _ _
          refine wpAny_pure ⟨rfl, h', tk', rfl, hS', fun b o hb e => ?_⟩
          have b2 : b ≠ hp1.objs.size := by rw [zz]; exact Nat.ne_of_lt (Nat.lt_succ_of_lt hb)
          exact hm.heap b o (by simp only [List.mem_cons, List.not_mem_nil, or_false, not_or]; exact ⟨Nat.ne_of_lt hb, b2⟩) (Heap.get?_push_of_some _ (kk _ _ e))
      · cases r₂ with
        | error e => exact hr₂
        | ok fl₂ =>
          cases fl₂ with
          | ret r =>
            obtain ⟨rfl, h', tk, rfl, hS', hk'⟩ := hr₂
            repeat (any_goals (first | assumption | wp_step))
            exact h _ _ hS' hk'
          | _ => exact hr₂.elim
    | _ => exact hr.elim
end
section
variable {X : Cx}
/-- set(list of texts), each as often as it comes -/
def rSetD (K : PySem.W.Frag) (P : Program) (w : World) : List V → Hp → VK → Prop := fun vs H Q => ∃ (a : Addr) (zs : List Str), vs = [.ref a] ∧ SqL K H a (zs.map V.str) ∧ zs.length ≤ 60 ∧ ∀ p, H p = none → Q (.ref p) (upd H p (SetS P w p (ddS zs)))
theorem cr_setD (hc : X.calm = true) : CallR X (.type "set") (rSetD X.K X.prog X.w) := by
  intro pins s σ H vs us Q I r h
  obtain ⟨a, zs, rfl, hs, h60, q⟩ := h
  obtain ⟨its, rv, hl, _⟩ := I.list hs
  rw [Vals.ref1 r]
  have hlen := rv.length
  rw [List.length_map] at hlen
  have e : its.toArray.size = zs.length := by rw [List.size_toArray]; exact hlen.symm
  refine call_setD (I.ok.hd hc) hl.isList rv.strs (by rw [e]; unfold scanBound; omega) fun h' tk g k => ?_
  have kp : ∀ b o, s.heap.get? b = some o → h'.get? b = some o := fun b o e => k b o (Heap.lt_size e) e
  exact ⟨.ref _, _, I.laid (t' := tk) kp (Nat.le_refl _) (setS_new g), rfl, q _ (I.hok.fresh (Nat.le_refl _))⟩
end

end SS

namespace DE
open PySem PySem.Spec PyProof.Rows L2 SZ VR VX StX RT
/-! ### sorted(set(texts)) where a text may come twice -/
section
variable {X : Cx} {b : Bs} {ρ : List Sl} {e : Expr}
theorem cv_setD {zs : List Str} {r : Sl} {p : Sl → Prop} (hc : X.calm = true) (er : cool r = .d (.list (zs.map .str))) (hn : zs.length ≤ 60) (h : p (SetSl X.prog X.w (SS.ddS zs))) : CV X b (.type "set") [r] p := ⟨_, SS.cr_setD hc, fun vs H L Q lv hh k => by
  obtain ⟨v, rfl⟩ := one_in (rs := [r]) (r := r) lv
  have hc : Hold X.K b H ((some v, r) :: L) := hh
  have hc := hc.cool
  rw [er] at hc
  obtain ⟨G, hg⟩ := hc
  obtain ⟨_, f1, d1⟩ := hg.ok (some v, .d (.list (zs.map .str))) List.mem_cons_self
  cases f1
  cases d1 with
  | @lst a us _ s1 t1 =>
    have e := dp_strs t1
    subst e
    exact ⟨a, zs, rfl, hg.up.seq s1, hn, fun q hq => k _ _ _ h ⟨_, (hg.drop.grow (o := SS.SetS X.prog X.w q (SS.ddS zs)) hq rfl).addF ⟨q, rfl, upd_same⟩⟩⟩⟩
/-- sorted(set(texts)) -/
theorem ev_sortedSetD {zs : List Str} {r : Sl} {p : Sl → List Sl → Prop} {p1 p2 c1 c2 : Pos} (hc : X.calm = true) (m1 : X.mg "sorted" = none) (m2 : X.mg "set" = none) (he : EVr X b ρ e r) (er : cool r = .d (.list (zs.map .str))) (hn : zs.length ≤ 60)
    (h : ∀ ys : List Str, ys.Perm (SS.ddS zs) → PyProof.Rows.sortedS ys = true → p (.own (ys.map .str)) ρ) (g1 : Gl X "sorted" := by rfl) (g2 : Gl X "set" := by rfl) (hs : starEach [.Call (.Name "set" p2) [e] [] c2] X.env = (false, eval (.Call (.Name "set" p2) [e] [] c2) X.env) :: starEach [] X.env := by rfl) (he2 : starEach [e] X.env = (false, eval e X.env) :: starEach [] X.env := by rfl) (hp1 : (backTo c1 (starEach [] X.env)).any (·.1) = false := by rfl) (hp2 : (backTo c2 (starEach [] X.env)).any (·.1) = false := by rfl) :
    EV X b ρ (.Call (.Name "sorted" p1) [.Call (.Name "set" p2) [e] [] c2] [] c1) p :=
  ev_callB (id := "sorted") g1 m1 (by decide +kernel) ((a_cons (r_callTy (T := "set") m2 (a_cons he a_nil he2) (fun _ k => cv_setD hc er hn k) g2 (by decide +kernel) (by decide) (by decide) he2 hp2) a_nil hs) _ (cv_sortedSS hc (SS.ddS_nodup zs) (by have := SS.ddS_len zs; omega) fun ys a1 a2 => h ys a1 a2)) (by decide) (by decide) hs hp1
end

end DE

namespace DE
open PySem PySem.Spec PyProof.Rows L2 SZ VR VX StX RT
/-! ### data and the empty dict -/
def Dq (K : PySem.W.Frag) (G : Hp) (v : V) (y : PyData) : Prop := Dp K G v y ∨ (y = .dict [] ∧ ∃ a, v = .ref a ∧ G a = some (.dK []))
theorem Dq.keep {K : PySem.W.Frag} {G G' : Hp} {v : V} {y : PyData} (s : Same G G') : Dq K G v y → Dq K G' v y
  | .inl h => .inl (Dp.keep s h)
  | .inr ⟨e, a, e2, h⟩ => .inr ⟨e, a, e2, s _ _ h⟩
def DqAll (K : PySem.W.Frag) (G : Hp) : List V → List PyData → Prop
  | [], [] => True
  | v :: vs, y :: ys => Dq K G v y ∧ DqAll K G vs ys
  | _, _ => False
theorem DqAll.keep {K : PySem.W.Frag} {G G' : Hp} (s : Same G G') : ∀ {vs : List V} {ys : List PyData}, DqAll K G vs ys → DqAll K G' vs ys
  | [], [], _ => trivial
  | _ :: _, _ :: _, ⟨h1, h2⟩ => ⟨h1.keep s, h2.keep s⟩
  | [], _ :: _, h => h
  | _ :: _, [], h => h
theorem DqAll.len {K : PySem.W.Frag} {G : Hp} : ∀ {vs : List V} {ys : List PyData}, DqAll K G vs ys → vs.length = ys.length
  | [], [], _ => rfl
  | _ :: vs, _ :: ys, ⟨_, h2⟩ => by rw [List.length_cons, List.length_cons, h2.len]
  | [], _ :: _, h => h.elim
  | _ :: _, [], h => h.elim
theorem DqAll.app {K : PySem.W.Frag} {G : Hp} : ∀ {vs us : List V} {ys zs : List PyData}, DqAll K G vs ys → DqAll K G us zs → DqAll K G (vs ++ us) (ys ++ zs)
  | [], _, [], _, _, h => h
  | _ :: _, _, _ :: _, _, ⟨h1, h2⟩, h => ⟨h1, h2.app h⟩
  | [], _, _ :: _, _, h, _ => h.elim
  | _ :: _, _, [], _, h, _ => h.elim
theorem DqAll.of {K : PySem.W.Frag} {G : Hp} : ∀ {vs : List V} {ys : List PyData}, DpAll K G vs ys → DqAll K G vs ys
  | [], [], _ => trivial
  | _ :: _, _ :: _, .cons h1 h2 => ⟨.inl h1, DqAll.of h2⟩
theorem DqAll.at {K : PySem.W.Frag} {G : Hp} : ∀ {vs : List V} {ys : List PyData} {i : Nat} {x : V}, DqAll K G vs ys → vs[i]? = some x → ∃ y, ys[i]? = some y ∧ Dq K G x y
  | _ :: _, y :: _, 0, _, ⟨h1, _⟩, e => by cases e; exact ⟨y, rfl, h1⟩
  | _ :: vs, _ :: ys, i + 1, x, ⟨_, h2⟩, e => by
    obtain ⟨y, h3, h4⟩ := DqAll.at (i := i) h2 (by simpa using e)
    exact ⟨y, by simpa using h3, h4⟩
  | [], [], i, _, _, e => by simp at e
abbrev qS (K : PySem.W.Frag) (y : PyData) : Sl := .fact (fun v G => Dq K G v y) (fun _ _ _ s h => h.keep s)
abbrev lqS (K : PySem.W.Frag) (ys : List PyData) : Sl := .fact (fun v G => ∃ a vs, v = .ref a ∧ SqL K G a vs ∧ DqAll K G vs ys) (fun _ _ _ s ⟨a, vs, e, h1, h2⟩ => ⟨a, vs, e, s.seq h1, h2.keep s⟩)
abbrev iqS (K : PySem.W.Frag) (xs : List V) (ys : List PyData) : Sl := .fact (fun v G => ∃ a, v = .ref a ∧ SqL K G a xs ∧ DqAll K G xs ys) (fun _ _ _ s ⟨a, e, h1, h2⟩ => ⟨a, e, s.seq h1, h2.keep s⟩)
theorem allQ {K : PySem.W.Frag} {b : Bs} {G H : Hp} {L : List Cl} {y : PyData} : ∀ {vs : List V} {ys : List PyData}, vs.length = ys.length + 1 → HoldG K b G H ((vs.map some).zip (ys.map .d ++ [qS K y]) ++ L) → DqAll K G vs (ys ++ [y])
  | [v], [], _, h => by
    obtain ⟨v', e, hd⟩ := h.ok (some v, qS K y) (by simp)
    cases e
    exact ⟨hd, trivial⟩
  | v :: vs, z :: ys, l, h => by
    obtain ⟨v', e, hd⟩ := HoldG.data (show HoldG K b G H ((some v, .d z) :: ((vs.map some).zip (ys.map .d ++ [qS K y]) ++ L)) from h)
    cases e
    exact ⟨.inl hd, allQ (by simpa using l) (HoldG.drop (show HoldG K b G H ((some v, .d z) :: ((vs.map some).zip (ys.map .d ++ [qS K y]) ++ L)) from h))⟩
  | v :: w :: vs, [], l, _ => by simp at l
  | [], _, l, _ => by simp at l
theorem last_split {α : Type} {l : List α} {x : α} (h : l.getLast? = some x) : l = l.dropLast ++ [x] := by
  have hn : l ≠ [] := fun e => by rw [e] at h; cases h
  have := List.dropLast_concat_getLast hn
  rw [List.getLast?_eq_some_getLast hn] at h
  cases h
  exact this.symm
section
variable {X : Cx} {b : Bs} {ρ : List Sl} {e : Expr} {es : List Expr} {pos : Pos} {r r1 r2 : Sl}
/-- {} that stays -/
theorem r_dict0 : EVr X b ρ (.Dict [] [] pos) (qS X.K (.dict [])) := fun p h σ H L Q l hh q => by
  obtain ⟨G, hG⟩ := hh
  refine ⟨_, pe_dnewK, fun a ha => ?_⟩
  exact q _ ρ _ _ h l ⟨_, (hG.grow (o := .dK []) ha rfl).addF (.inr ⟨rfl, a, rfl, upd_same⟩)⟩
/-- a list whose last is such a one -/
theorem r_lstQ {rs : List Sl} {ys : List PyData} {y : PyData} (h : EAr X b ρ es rs) (e1 : rs.getLast? = some (qS X.K y)) (e2 : datas rs.dropLast = some ys) (n : ys.length ≤ 10000 := by simp) : EVr X b ρ (.List es pos) (lqS X.K (ys ++ [y])) := fun p k σ H L Q l hh q => by
  refine ⟨_, pe_lst (wa_pa es), h (fun rs' ρ' => rs' = rs ∧ ρ' = ρ) ⟨rfl, rfl⟩ σ H L _ l hh fun rs' ρ' vs H' ⟨er, eρ⟩ l' lv hh' => ?_⟩
  subst er eρ
  have h2 := hh'.coolAll
  have ec : rs'.map DE.cool = ys.map .d ++ [qS X.K y] := by
    rw [last_split e1, List.map_append, datas_cool e2]
    rfl
  rw [ec] at h2
  obtain ⟨G, hg⟩ := h2
  have lr : rs'.length = ys.length + 1 := by have := congrArg List.length ec; simpa using this
  have hq := allQ (lv.trans lr) hg
  refine ⟨by rw [lv, lr, sizeLine_eq]; omega, fun a ha => ?_⟩
  have hG := hg.dropM
  exact q _ ρ' _ _ k l' ⟨_, (hG.grow (o := .lst vs) ha rfl).addF ⟨a, vs, rfl, .of upd_same, hq.keep (Same.new (hG.up.free ha))⟩⟩
theorem or_catQ {xs ys : List PyData} (e2 : cool r2 = .d (.list ys)) (hz : xs.length + ys.length ≤ sizeLine) : OVr X b (binaryOp .Add) (lqS X.K xs) r2 (lqS X.K (xs ++ ys)) := fun p h => OV.cool (by
  rw [e2]
  refine ⟨_, op_catS, fun v1 v2 H L Q hh k => ?_⟩
  obtain ⟨G, hg⟩ := hh
  obtain ⟨_, f1, a, us, rfl, s1, t1⟩ := hg.ok (some v1, lqS X.K xs) List.mem_cons_self
  obtain ⟨_, f2, d2⟩ := hg.ok (some v2, .d (.list ys)) (List.mem_cons_of_mem _ List.mem_cons_self)
  cases f1
  cases f2
  cases d2 with
  | @lst c ws _ s2 t2 =>
    have hG := hg.drop.drop
    exact ⟨a, c, us, ws, rfl, rfl, hg.up.seq s1, hg.up.seq s2, by rw [t1.len, DpAll.len t2]; exact hz, fun q hq => k _ _ _ h ⟨_, (hG.grow (o := .lst (us ++ ws)) hq rfl).addF ⟨q, _, rfl, .of upd_same, (t1.app (.of t2)).keep (Same.new (hG.up.free hq))⟩⟩⟩)
theorem xs_forQ {p : Po} {tg iter : Expr} {body : List Stmt} {ts : List Nat} {ys : List PyData} (hp : PassesOwn (model X.prog X.w) X.A X.env X.xe) (hc : X.calm = true) (hst : ∀ x, foldedSetIterable iter X.env x = pure x := by intro _; rfl)
    (h : EVr X b ρ iter (lqS X.K ys)) (I : Nat → List Sl → Prop) (i0 : I 0 ρ) (hs : ∀ i y ρ', ys[i]? = some y → ρ'.length = ρ.length → I i ρ' → EG X b ts ρ' tg (qS X.K y) fun ρ2 => ρ2.length = ρ.length → XB X b ρ2 body (loopI p I i)) (hd : ∀ ρ', I ys.length ρ' → p.nx ρ') : XS X b ρ (.For tg iter body [] pos) p := fun σ H L D l hh k => by
  refine ⟨_, ps_for hp hc (pi_list (we_pe iter)) (wg_pg tg) (wss_pss body) hst, ?_⟩
  refine h (fun r ρ' => r = lqS X.K ys ∧ ρ' = ρ) ⟨rfl, rfl⟩ σ H L _ l hh fun r ρ1 v H1 ⟨er, eρ⟩ l1 hh1 => ?_
  subst er eρ
  obtain ⟨G, hg⟩ := hh1
  obtain ⟨_, f1, a, xs, rfl, s1, t1⟩ := hg.ok (some v, lqS X.K ys) List.mem_cons_self
  cases f1
  have lx : xs.length = ys.length := t1.len
  have h2 : Hold X.K b H1 ((some (.ref a), iqS X.K xs ys) :: (σ.zip ρ1 ++ L)) := ⟨G, hg.drop.addF ⟨a, rfl, s1, t1⟩⟩
  have hG : ∀ H2 L2, Hold X.K b H2 ((some (V.ref a), iqS X.K xs ys) :: L2) → SqL X.K H2 a xs := fun H2 L2 ⟨G2, g2⟩ => by
    obtain ⟨_, f1, a', e1, s2, _⟩ := g2.ok (some (.ref a), iqS X.K xs ys) List.mem_cons_self
    cases f1
    cases e1
    exact g2.up.seq s2
  refine ⟨a, rfl, ⟨xs, hG _ _ h2⟩, ?_⟩
  refine for_it (wlen lx.symm walk_list) (fun i σ' H' => ∃ ρ', I i ρ' ∧ σ'.length = ρ'.length ∧ ρ'.length = ρ1.length ∧ Hold X.K b H' (σ'.zip ρ' ++ (some (.ref a), iqS X.K xs ys) :: L)) ⟨ρ1, i0, l1, rfl, h2.perm perm_in.symm⟩ (fun i σ' H' _ ⟨ρ', _, _, _, hh'⟩ => hG H' _ (hh'.perm perm_in)) (fun i x σ' H1' H2' hi ⟨ρ', hI, l', n', hh'⟩ hy => ?_) (fun σ' H' ⟨ρ', hI, l', n', hh'⟩ => k.nx ρ' σ' H' (hd ρ' hI) l' n' ((hh'.perm perm_in).drop))
  obtain ⟨e1, e2⟩ := hy
  subst e1
  have hz : ∃ y, ys[i]? = some y ∧ Hold X.K b H2' ((some x, qS X.K y) :: (σ'.zip ρ' ++ (some (V.ref a), iqS X.K xs ys) :: L)) := by
    obtain ⟨G2, g2⟩ := hh'
    obtain ⟨_, f1, a', e1, s2, t2⟩ := g2.ok (some (V.ref a), iqS X.K xs ys) (by simp)
    cases f1
    cases e1
    obtain ⟨y, ey, hq⟩ := t2.at e2
    exact ⟨y, ey, G2, g2.addF (φ := fun v G => Dq X.K G v y) hq⟩
  obtain ⟨y, ey, hz⟩ := hz
  refine hs i y ρ' ey n' hI σ' H2' ((some (V.ref a), iqS X.K xs ys) :: L) x _ l' hz fun ρ2 σ2 H2 h3 l2 n2 _ hh2 => ?_
  exact h3 (n2.trans n') σ2 H2 _ { D with nx := _, ct := _, bk := D.nx } l2 hh2 ⟨fun ρ3 σ3 H3 z l3 n3 hh3 => ⟨ρ3, z, l3, n3.trans (n2.trans n'), hh3⟩, fun r ρ3 v σ3 H3 z l3 n3 hh3 => k.rt r ρ3 v σ3 H3 z l3 (n3.trans (n2.trans n')) ((hh3.perm (L' := (some (V.ref a), iqS X.K xs ys) :: ((some v, r) :: (σ3.zip ρ3 ++ L))) ((List.Perm.swap ..).trans (List.Perm.cons _ perm_in))).drop),
          fun ρ3 σ3 H3 z l3 n3 hh3 => k.nx ρ3 σ3 H3 z l3 (n3.trans (n2.trans n')) ((hh3.perm perm_in).drop), fun ρ3 σ3 H3 z l3 n3 hh3 => ⟨ρ3, z, l3, n3.trans (n2.trans n'), hh3⟩⟩
end
/-! ### repr of it -/
structure ShQ (y : PyData) : Prop where
  s : y.showable = true
  n : y.hasDict = false ∨ y = .dict []
  d : y.depth ≤ 50
  l : y.shown.length ≤ sizeLine
def rReprQ (K : PySem.W.Frag) : List V → Hp → VK → Prop := fun xs H Q => ∃ (v : V) (d : PyData), xs = [v] ∧ Dq K H v d ∧ ShQ d ∧ Q (.str d.shown) H
theorem call_reprQ {X : Cx} (hg : X.A.guards = some []) (hu : X.A.units + 64 < cLine) : CallR X (.builtin "repr") (rReprQ X.K) := by
  intro pins s σ H xs us Q I r h
  obtain ⟨v, d, rfl, hd, hs, q⟩ := h
  rcases hd with hd | ⟨rfl, a, rfl, ha⟩
  · refine call_reprW hg hu pins s σ H [v] us Q I r ⟨v, d, rfl, hd, hs.s, ?_, hs.d, hs.l, q⟩
    rcases hs.n with h | rfl
    · exact h
    · cases hd
  · obtain ⟨u, rfl, r1⟩ := vals1 r
    obtain rfl : u = Value.ref a := r1
    obtain ⟨_, hsm, vs, kv, o, es, ep, ho, ex, he, _, hp, _⟩ := dk_of I.hok ha
    have hv : vs = [] := by cases kv; rfl
    subst hv
    have hes : es.toList = [] := by
      cases hh : es.toList with
      | nil => rfl
      | cons x l =>
        rw [hh] at hp
        cases hp
    have ra : Reads s.heap (.ref a) (.dict []) (a :: [] ++ []) := .dict ho ex.1 he (by rw [hes]; exact .nil) (by rw [hes]; exact .nil)
    exact repr_of_reads' ra hs.s (fun _ => by
      simp only [List.append_nil, List.mem_singleton]
      intro e
      rw [e] at hsm
      simp at hsm) hg (by have := hs.d; omega) (fun _ _ e => e) (fun h' u tk hk => ⟨.str _, H, I.kept hk, ⟨_, rfl⟩, q⟩) hs.l
section
variable {X : Cx} {b : Bs} {ρ : List Sl} {e : Expr}
theorem r_reprQ {y : PyData} {ps cp : Pos} (gd : X.A.guards = some []) (hu : X.A.units + 64 < cLine) (hm : X.mg "repr" = none) (h : EVr X b ρ e (qS X.K y)) (h1 : ShQ y) (hg : Gl X "repr" := by rfl)
    (he : starEach [e] X.env = (false, eval e X.env) :: starEach [] X.env := by rfl) : EVr X b ρ (.Call (.Name "repr" ps) [e] [] cp) (.d (.str y.shown)) :=
  r_callB (id := "repr") hm (a_cons h a_nil he) (fun p k => ⟨_, call_reprQ gd hu, fun vs H L Q lv hh q => by
    obtain ⟨v, rfl⟩ := one_in (rs := [qS X.K y]) (r := qS X.K y) lv
    obtain ⟨G, hG⟩ := hh
    obtain ⟨_, f1, hd⟩ := hG.ok (some v, qS X.K y) List.mem_cons_self
    cases f1
    exact ⟨v, y, rfl, hd.keep hG.up, h1, q _ _ _ k ⟨G, hG.drop.add (.str _)⟩⟩⟩) (hg := hg) (he := he)
end
theorem dq_ty {K : PySem.W.Frag} {H : Hp} {v : V} {d : PyData} (h : Dq K H v d) : TyX K H v (.type (tyD d)) := by
  rcases h with h | ⟨rfl, a, rfl, h⟩
  · exact dp_ty h
  · exact .base (.dK h)
section
variable {X : Cx} {b : Bs} {ρ : List Sl} {e : Expr} {es : List Expr}
theorem r_isiQ {y : PyData} {t : String} {x : Str} {ps cp pn : Pos} (hm : X.mg "isinstance" = none) (hmt : X.mg x = none) (h : EVr X b ρ e (qS X.K y)) (hg : Gl X "isinstance" := by rfl) (hgt : Gl X x := by rfl) (hv : bootBuiltins x = some (.type t) := by decide +kernel) (ht : t = "int" ∨ t = "bool" ∨ t = "str" ∨ t = "tuple" ∨ t = "list" ∨ t = "dict" := by decide)
    (hn : x ≠ "__name__" := by decide) (hd : (x == ("__debug__" : Str)) = false := by decide) (he : starEach [e, .Name x pn] X.env = (false, eval e X.env) :: starEach [.Name x pn] X.env := by rfl) (hpl : (backTo cp (starEach [.Name x pn] X.env)).any (·.1) = false := by rfl) :
    EVr X b ρ (.Call (.Name "isinstance" ps) [e, .Name x pn] [] cp) (.d (.bool (subTy (tyD y) t))) := fun p k σ H L Q l hh q =>
  ⟨_, pe_callB call_isi hg hm (by decide +kernel) (pa_cons (we_pe e) (pa_cons (pe_bltn hgt hmt (u := .type t) (v := .ty t) hv rfl hn hd) pa_nil) he) (by decide) (by decide) he hpl, h (fun r ρ' => r = qS X.K y ∧ ρ' = ρ) ⟨rfl, rfl⟩ σ H L _ l hh fun r ρ' v H' ⟨er, eρ⟩ l' hh' => by
    subst er eρ
    obtain ⟨G, hG⟩ := hh'
    obtain ⟨_, f1, hd⟩ := hG.ok (some v, qS X.K y) List.mem_cons_self
    cases f1
    exact ⟨v, .ty t, .type (tyD y), .type t, subTy (tyD y) t, rfl, .ty _, dq_ty (hd.keep hG.up), kit_d ht y, q _ ρ' _ H' k l' ⟨G, hG.drop.add (.bl _)⟩⟩⟩
theorem r_calF {CX : CXT} {k : Nat} {Pre : List Sl → Prop} {Res : List Sl → Sl → Prop} {x : Str} {p1 cp : Pos} {rs : List Sl} {r : Sl} (C : CalP X.prog X.w X.K X.mg X.base CX x k Pre Res) (hr : Room k X.A) {E : XK} (hx : Passes CX X E)
    (h : EAr X b ρ (e :: es) rs) (hf : (rs.map cool).all flatS = true) (h1 : Pre (rs.map cool)) (h2 : ∀ r', Res (rs.map cool) r' → r' = r) (nb : ∀ ys, r ≠ .bor ys := by intro _; nofun) (hg : Gl X x := by rfl)
    (hdb : (x == ("__debug__" : Str)) = false := by decide) (he : starEach (e :: es) X.env = (false, eval e X.env) :: starEach es X.env := by rfl) (hpl : (backTo cp (starEach es X.env)).any (·.1) = false := by rfl) : EVr X b ρ (.Call (.Name x p1) (e :: es) [] cp) r := fun _ q => by
  obtain ⟨f, fd, ps, F, hm, hk, hb⟩ := C.ex
  refine ev_call F hr hg hm hk hb hx (h _ ⟨?_, h1, fun r' hr' => by rw [h2 r' hr']; exact ⟨nb, q⟩⟩) hdb he hpl
  exact List.all_eq_true.mp hf
/-- a call that knows what is being shown, its arguments data or what stays -/
theorem r_calGF {CX : CXT} {k : Nat} {f : Addr} {fd : FuncData} {ps : List Str} {Pre : List Sl → Prop} {Res : List Sl → Sl → Prop} {x : Str} {p1 cp : Pos} {rs : List Sl} {r : Sl} (F : RunG X.prog X.w X.K X.mg X.base CX k f fd ps (spP X.K Pre Res)) (ln : ∀ as, Pre as → as.length = ps.length) (hm : X.mg x = some (.ref f)) (hk : PySem.W.keepIn X.K (.ref f) = true) (hb : Binds X.K fd ps []) (gd : X.A.guards = some []) (hr : Room k X.A) {E : XK} (hx : Passes CX X E)
    (h : EAr X b ρ (e :: es) rs) (hf : ∀ r ∈ rs, flatS r = true) (h1 : Pre rs) (h2 : ∀ r', Res rs r' → r' = r) (nb : ∀ ys, r ≠ .bor ys := by intro _; nofun) (hg : Gl X x := by rfl)
    (hdb : (x == ("__debug__" : Str)) = false := by decide) (he : starEach (e :: es) X.env = (false, eval e X.env) :: starEach es X.env := by rfl) (hpl : (backTo cp (starEach es X.env)).any (·.1) = false := by rfl) : EVr X b ρ (.Call (.Name x p1) (e :: es) [] cp) r := fun p q σ H L Q l hh qq => by
  refine ⟨_, pe_callSh F gd hr (fun vs H Q E z => by obtain ⟨G, as, l, _, hp, _⟩ := z; exact l.trans (ln as hp)) hg hm hk hb hx (wa_pa _) hdb he hpl, h (fun rs' ρ' => rs' = rs ∧ ρ' = ρ) ⟨rfl, rfl⟩ σ H L _ l hh fun rs' ρ' vs H' ⟨e1, e2⟩ l' lv hh' => ?_⟩
  subst e1 e2
  obtain ⟨G, hG⟩ := hh'
  refine ⟨G, rs', by rw [List.append_nil]; exact lv, by rw [List.append_nil]; exact HoldG.sub0 hG (flat_zip hf), h1, fun r' hr' n v H2 hh2 => ?_⟩
  rw [h2 r' hr'] at hh2
  exact qq _ ρ' v H2 q l' (hG.dropM.after hh2 nb)
end

end DE

namespace DE
open PySem PySem.Spec PyProof.Rows L2 SZ VR VX StX RT
/-! ### lambdas handed to a def -/
structure LamB (b : Bs) (P : Addr) : Prop where
  B : b.B = [P]
  t : LamX.TabS b.H P lamQ
  only : ∀ a ps, b.H a = some (.tbl ps) → a = P
theorem HoldG.tab {K : PySem.W.Frag} {b : Bs} {P : Addr} {G H : Hp} {L : List Cl} (h : HoldG K b G H L) (lb : LamB b P) : LamX.TabS H P lamQ := (h.bs P (by rw [lb.B]; exact List.mem_singleton.mpr rfl)).2 lb.t
theorem HoldG.extN {K : PySem.W.Frag} {b : Bs} {P : Addr} {G H H1 : Hp} {L : List Cl} (h : HoldG K b G H L) (lb : LamB b P) (e : LamX.ExtN H H1) (ht : LamX.TabS H1 P lamQ) : HoldG K b G H1 L := by
  have k : ∀ a o, H a = some o → (∀ ps, o ≠ .tbl ps) → H1 a = some o := e
  refine ⟨h.old, fun a o g => k a o (h.up a o g) fun ps z => ?_, h.new, fun a o g n => k a o (h.rest a o g n) fun ps z => ?_, fun a ha => ?_, fun c hc => ?_, h.nd, h.fl⟩
  · subst z
    rcases h.fl a _ g with ⟨_, _, _, z, _⟩ | ⟨_, z, _⟩ | z <;> cases z
  · subst z
    exact n (by rw [lb.B]; exact List.mem_singleton.mpr (lb.only a ps g))
  · rw [lb.B] at ha
    rw [List.mem_singleton.mp ha]
    obtain ⟨ps, h1, h2⟩ := ht
    exact ⟨by rw [h1]; rfl, fun _ => ⟨ps, h1, h2⟩⟩
  · have ok := h.ok c hc
    obtain ⟨x, s⟩ := c
    cases s with
    | un => trivial
    | d y => exact ok
    | fact φ st => exact ok
    | own ys => obtain ⟨q, vs, e1, h1, h2, h3, h4⟩ := ok; exact ⟨q, vs, e1, h1, h2, k _ _ h3 nofun, h4⟩
    | bor ys => obtain ⟨q, vs, e1, h1, h2, h3, h4⟩ := ok; exact ⟨q, vs, e1, h1, h2, k _ _ h3 nofun, h4⟩
    | dct o kvs => obtain ⟨q, vs, e1, h1, h2, h3, h4⟩ := ok; exact ⟨q, vs, e1, h1, h2, k _ _ h3 nofun, h4⟩
/-- x(lambda: body): what x makes of it -/
theorem r_lam {X : Cx} {b : Bs} {ρ : List Sl} {x : Str} {params : Arguments} {body : Expr} {scope : Scope} {p lpos pos : Pos} {P : Addr} {TT : (XK → Hp → VK → Prop) → Hp → VK → Prop} {t : XK → TE} {r : Sl} (lb : LamB b P)
    (raw : PE X (.Call (.Name x p) [.Lambda params body scope lpos] [] pos) (LamX.tLam [(P, lamQ)] TT t))
    (h : ∀ (σ : L2.St) (H1 : Hp) (L : List Cl) (Q : VK), σ.length = ρ.length → Hold X.K b H1 (σ.zip ρ ++ L) → (∀ v H', Hold X.K b H' ((some v, r) :: (σ.zip ρ ++ L)) → Q v H') → TT (fun E H' Q' => t E σ H' Q') H1 Q) :
    EVr X b ρ (.Call (.Name x p) [.Lambda params body scope lpos] [] pos) r := fun p' k σ H L Q l hh q => by
  obtain ⟨G, hG⟩ := hh
  refine ⟨_, raw, fun a ha => ?_, fun H1 eN T1 => ?_⟩
  · rw [List.mem_singleton.mp ha]
    exact hG.tab lb
  · exact h σ H1 L Q l ⟨G, hG.extN lb eN (T1 _ List.mem_cons_self)⟩ fun v H' hh' => q r ρ v H' k l hh'
/-- a new list, found behind what one did not see -/
theorem HoldG.newLs {K : PySem.W.Frag} {b : Bs} {G H H' : Hp} {L : List Cl} (h : HoldG K b G H L) (s : Same H H') {p : Addr} {vs : List V} {ys : List PyData} (hp : H p = none) (e : H' p = some (.lst vs)) (hv : DpAll K G vs ys) : HoldG K b G H' ((some (.ref p), .own ys) :: L) := by
  have g := h.same s
  refine ⟨g.old, g.up, g.new, g.rest, g.bs, fun c hc => ?_, ?_, g.fl⟩
  · rcases List.mem_cons.mp hc with rfl | hc
    · exact ⟨p, vs, rfl, h.fresh hp, h.up.free hp, e, hv⟩
    · exact g.ok c hc
  · show (p :: ads L).Nodup
    refine List.nodup_cons.mpr ⟨fun hm => ?_, h.nd⟩
    obtain ⟨_, vs', e⟩ := h.adsH hm
    rw [hp] at e; cases e

end DE

namespace DE
open PySem PySem.Spec PyProof.Rows L2 SZ VR VX StX RT
/-! ### a list of defs -/
def VF (x : V) : Sl := .fact (fun v _ => v = x) (fun _ _ _ _ h => h)
def lrS (K : PySem.W.Frag) (vs : List V) : Sl := .fact (fun v G => ∃ a, v = .ref a ∧ SqL K G a vs) (fun _ _ _ s ⟨a, e, h⟩ => ⟨a, e, s.seq h⟩)
theorem vf_all {K : PySem.W.Frag} {b : Bs} {G H : Hp} {M : List Cl} : ∀ {us vs : List V}, us.length = vs.length → HoldG K b G H ((us.map some).zip (vs.map VF) ++ M) → us = vs
  | [], [], _, _ => rfl
  | u :: us, v :: vs, l, h => by
    obtain ⟨v', e, hv⟩ := h.ok (some u, VF v) List.mem_cons_self
    cases e
    have hv : u = v := hv
    rw [hv, vf_all (us := us) (vs := vs) (by simpa using l) (HoldG.drop h)]
  | [], _ :: _, l, _ => by simp at l
  | _ :: _, [], l, _ => by simp at l
section
variable {X : Cx} {b : Bs} {ρ : List Sl} {e : Expr} {es : List Expr} {pos : Pos}
theorem r_fnG {x : Str} {fD : Addr} (hd : X.mg x = some (.ref fD)) (hgd : Gl X x) (hdd : (x == ("__debug__" : Str)) = false := by decide) : EVr X b ρ (.Name x pos) (VF (.ref fD)) := fun p h σ H L Q l hh q =>
  ⟨_, pe_glob (v := .ref fD) hgd hd rfl hdd, q (VF (.ref fD)) ρ (.ref fD) H h l (let ⟨G, hG⟩ := hh; ⟨G, hG.addF rfl⟩)⟩
theorem r_lstR {vs : List V} (h : EAr X b ρ es (vs.map VF)) (n : vs.length ≤ 10000 := by simp) : EVr X b ρ (.List es pos) (lrS X.K vs) := fun p k σ H L Q l hh q => by
  refine ⟨_, pe_lst (wa_pa es), h (fun rs' ρ' => rs' = vs.map VF ∧ ρ' = ρ) ⟨rfl, rfl⟩ σ H L _ l hh fun rs' ρ' us H' ⟨er, eρ⟩ l' lv hh' => ?_⟩
  subst er eρ
  obtain ⟨G, hg⟩ := hh'
  have lr : us.length = vs.length := lv.trans (List.length_map _)
  have hq := vf_all lr hg
  subst hq
  refine ⟨by rw [lr, sizeLine_eq]; omega, fun a ha => ?_⟩
  have hG := hg.dropM
  exact q _ ρ' _ _ k l' ⟨_, (hG.grow (o := .lst us) ha rfl).addF ⟨a, rfl, .of upd_same⟩⟩
theorem xs_forR {p : Po} {tg iter : Expr} {body : List Stmt} {ts : List Nat} {xs : List V} (hp : PassesOwn (model X.prog X.w) X.A X.env X.xe) (hc : X.calm = true) (hst : ∀ x, foldedSetIterable iter X.env x = pure x := by intro _; rfl)
    (h : EVr X b ρ iter (lrS X.K xs)) (I : Nat → List Sl → Prop) (i0 : I 0 ρ) (hs : ∀ i x ρ', xs[i]? = some x → ρ'.length = ρ.length → I i ρ' → EG X b ts ρ' tg (VF x) fun ρ2 => ρ2.length = ρ.length → XB X b ρ2 body (loopI p I i)) (hd : ∀ ρ', I xs.length ρ' → p.nx ρ') : XS X b ρ (.For tg iter body [] pos) p := fun σ H L D l hh k => by
  refine ⟨_, ps_for hp hc (pi_list (we_pe iter)) (wg_pg tg) (wss_pss body) hst, ?_⟩
  refine h (fun r ρ' => r = lrS X.K xs ∧ ρ' = ρ) ⟨rfl, rfl⟩ σ H L _ l hh fun r ρ1 v H1 ⟨er, eρ⟩ l1 hh1 => ?_
  subst er eρ
  obtain ⟨G, hg⟩ := hh1
  obtain ⟨_, f1, a, rfl, s1⟩ := hg.ok (some v, lrS X.K xs) List.mem_cons_self
  cases f1
  have h2 : Hold X.K b H1 ((some (.ref a), lrS X.K xs) :: (σ.zip ρ1 ++ L)) := ⟨G, hg⟩
  have hG : ∀ H2 L2, Hold X.K b H2 ((some (V.ref a), lrS X.K xs) :: L2) → SqL X.K H2 a xs := fun H2 L2 ⟨G2, g2⟩ => by
    obtain ⟨_, f1, a', e1, s2⟩ := g2.ok (some (.ref a), lrS X.K xs) List.mem_cons_self
    cases f1
    cases e1
    exact g2.up.seq s2
  refine ⟨a, rfl, ⟨xs, hG _ _ h2⟩, ?_⟩
  refine for_it (wlen rfl walk_list) (fun i σ' H' => ∃ ρ', I i ρ' ∧ σ'.length = ρ'.length ∧ ρ'.length = ρ1.length ∧ Hold X.K b H' (σ'.zip ρ' ++ (some (.ref a), lrS X.K xs) :: L)) ⟨ρ1, i0, l1, rfl, h2.perm perm_in.symm⟩ (fun i σ' H' _ ⟨ρ', _, _, _, hh'⟩ => hG H' _ (hh'.perm perm_in)) (fun i x σ' H1' H2' hi ⟨ρ', hI, l', n', hh'⟩ hy => ?_) (fun σ' H' ⟨ρ', hI, l', n', hh'⟩ => k.nx ρ' σ' H' (hd ρ' hI) l' n' ((hh'.perm perm_in).drop))
  obtain ⟨e1, e2⟩ := hy
  subst e1
  have hz : Hold X.K b H2' ((some x, VF x) :: (σ'.zip ρ' ++ (some (V.ref a), lrS X.K xs) :: L)) := by
    obtain ⟨G2, g2⟩ := hh'
    exact ⟨G2, g2.addF rfl⟩
  refine hs i x ρ' e2 n' hI σ' H2' ((some (V.ref a), lrS X.K xs) :: L) x _ l' hz fun ρ2 σ2 H2 h3 l2 n2 _ hh2 => ?_
  exact h3 (n2.trans n') σ2 H2 _ { D with nx := _, ct := _, bk := D.nx } l2 hh2 ⟨fun ρ3 σ3 H3 z l3 n3 hh3 => ⟨ρ3, z, l3, n3.trans (n2.trans n'), hh3⟩, fun r ρ3 v σ3 H3 z l3 n3 hh3 => k.rt r ρ3 v σ3 H3 z l3 (n3.trans (n2.trans n')) ((hh3.perm (L' := (some (V.ref a), lrS X.K xs) :: ((some v, r) :: (σ3.zip ρ3 ++ L))) ((List.Perm.swap ..).trans (List.Perm.cons _ perm_in))).drop),
          fun ρ3 σ3 H3 z l3 n3 hh3 => k.nx ρ3 σ3 H3 z l3 (n3.trans (n2.trans n')) ((hh3.perm perm_in).drop), fun ρ3 σ3 H3 z l3 n3 hh3 => ⟨ρ3, z, l3, n3.trans (n2.trans n'), hh3⟩⟩
theorem var_F {K : PySem.W.Frag} {H : Hp} {σ : L2.St} {L : List Cl} {i : Nat} {x : V} (hh : Hold K b H (σ.zip ρ ++ L)) (l : σ.length = ρ.length) (hr : ρ[i]? = some (VF x)) : σ[i]? = some (some x) := by
  obtain ⟨x', hx, hm⟩ := zip_mem l hr
  obtain ⟨G, hg⟩ := hh
  obtain ⟨v, e, hv⟩ := hg.ok _ (List.mem_append_left _ hm)
  have hv : v = x := hv
  subst e hv
  exact hx
end
/-! ### the law that makes lambdas -/
def spL (K : PySem.W.Frag) (P : Addr) : Sp := fun vs H Q _ => ∃ (a : Addr) (ns : List Int), vs = [.ref a] ∧ ns.length ≤ 63 ∧ SqL K H a (ns.map V.int) ∧ H P = some (.tbl #[]) ∧ (∀ b, H b = none ∨ b = P ∨ ∃ o xs, H b = some (.frz o (.lst xs))) ∧ ∀ H', Q (.bl true) H'
theorem hold_law {K : PySem.W.Frag} {P a : Addr} {H : Hp} {ns : List Int} (hs : SqL K H a (ns.map V.int)) (hP : H P = some (.tbl #[])) (ho : ∀ b, H b = none ∨ b = P ∨ ∃ o xs, H b = some (.frz o (.lst xs))) :
    Hold K ⟨fun c => if c = P then none else H c, H, [P]⟩ H [(some (.ref a), .d (.list (ns.map .int)))] ∧ LamB ⟨fun c => if c = P then none else H c, H, [P]⟩ P := by
  have up : Same (fun c => if c = P then none else H c) H := fun c o e => by
    dsimp only at e
    split at e
    · cases e
    · exact e
  have hd : ∀ ms : List Int, DpAll K (fun c => if c = P then none else H c) (ms.map V.int) (ms.map PyData.int) := by
    intro ms
    induction ms with
    | nil => exact .nil
    | cons n l ih => exact .cons (.int n) ih
  have hs' : SqL K (fun c => if c = P then none else H c) a (ns.map V.int) := by
    rcases hs with (h | ⟨o, h⟩) | h
    · have ne : a ≠ P := fun e => by rw [e, hP] at h; cases h
      exact .inl (.inl ((if_neg ne).trans h))
    · have ne : a ≠ P := fun e => by rw [e, hP] at h; cases h
      exact .inl (.inr ⟨o, (if_neg ne).trans h⟩)
    · exact .inr h
  refine ⟨⟨fun c => if c = P then none else H c, ⟨Same.refl _, up, fun a o e => .inl e, fun a o e _ => e, fun c hc => ?_, fun c hc => ?_, by simp [ads], fun c o e => ?_⟩⟩, ⟨rfl, LamX.TabS.nil hP, fun c ps e => ?_⟩⟩
  · rw [List.mem_singleton.mp hc]
    exact ⟨by show (H P).isSome = true; rw [hP]; rfl, TbOk.refl _ _⟩
  · rw [List.mem_singleton.mp hc]
    exact ⟨.ref a, rfl, .lst hs' (hd ns)⟩
  · have e' := up _ _ e
    rcases ho c with h | h | ⟨o', xs, h⟩
    · rw [h] at e'; cases e'
    · have e : (if c = P then none else H c) = some o := e
      rw [if_pos h] at e
      cases e
    · rw [h] at e'
      cases e'
      exact .inr (.inr rfl)
  · rcases ho c with h | h | ⟨o', xs, h⟩
    · rw [show H c = some (.tbl ps) from e] at h; cases h
    · exact h
    · rw [show H c = some (.tbl ps) from e] at h; cases h
theorem fn_PL {P : Program} {w : World} {K : PySem.W.Frag} {mg : Str → Option Value} {base : Heap} {x qual : Str} {st : Stmt} {f : Addr} {fd : FuncData} {N : List Str} {pn : Str} {k : Nat} {c T : Addr} (F : Fun K x qual st f fd) (S : FnScope N [pn] (defScope st)) (hc : fd.code = .ref c) (hN : 1 ≤ N.length)
    (h : ∀ (A : Around) (outer : List Env) (s : Shared) (H : Hp) (E : XK), A.guards = some [] → Room k (A.deeper (PyProof.Rows.envOfC qual (defScope st) s.heap.objs.size f (.ref c))) → ∀ (b : Bs) (ns : List Int), LamB b T → ns.length ≤ 63 → XB (cxOf CX0 P w K mg base N qual (defScope st) f (.ref c) A outer s H E).nox b (.d (.list (ns.map .int)) :: List.replicate (N.length - 1) .un) (defBody st)
      ⟨fun _ => False, fun r _ => r = .d (.bool true), fun _ => False, fun _ => False⟩) : RunG P w K mg base CX0 (k + 1) f fd [pn] (spL K T) := by
  obtain ⟨oc, od, kV, doc, pm, an, cdv, ct, osl, rfl, lk, hcd⟩ := F.ex
  have hc : cdv = .ref c := hc
  subst hc
  refine runG_of lk hcd S (fun vs H Q E z => by obtain ⟨a, ns, rfl, _⟩ := z; rfl) fun A outer s H vs Q E hg hr z => ?_
  obtain ⟨a, ns, rfl, hn, hs, hP, ho, q⟩ := z
  obtain ⟨hold, lb⟩ := hold_law hs hP ho
  obtain ⟨t, ht, hq⟩ := h A outer s H E hg hr _ ns lb hn (L2.start N [.ref a]) H [] { nx := fun _ H' => Q .non H', rt := Q } (by unfold L2.start; simp)
    (by
      rw [List.append_nil]
      have e := zip_start (N := N) (vs := [V.ref a]) (as := [Sl.d (.list (ns.map .int))]) rfl
      have e2 : ([Sl.d (.list (ns.map .int))] ++ List.replicate (N.length - [Sl.d (.list (ns.map .int))].length) Sl.un) = (Sl.d (.list (ns.map .int)) :: List.replicate (N.length - 1) Sl.un) := rfl
      rw [← e2, e]
      exact hold_start _ hold)
    ⟨fun _ _ _ z => z.elim, fun r ρ' v σ' H' hn l' n' hh => by
      subst hn
      have e := hh.isB
      subst e
      exact q H', fun _ _ _ z => z.elim, fun _ _ _ z => z.elim⟩
  exact ⟨t, ht.nox, hq⟩
section
variable {X : Cx} {b : Bs} {ρ : List Sl}
theorem hold_set {K : PySem.W.Frag} {H : Hp} {σ : L2.St} {L : List Cl} {i : Nat} {v : V} {r : Sl} (li : i < ρ.length) (l : σ.length = ρ.length) (h : Hold K b H ((some v, r) :: (σ.zip ρ ++ L))) : Hold K b H ((σ.set i (some v)).zip (ρ.set i r) ++ L) := by
  obtain ⟨c, M, p1, p2⟩ := zip_set (r := r) (x := some v) li l
  have h2 : Hold K b H (c :: ((some v, r) :: (M ++ L))) := h.perm ((List.Perm.swap ..).trans (List.Perm.cons _ (p1.symm.append_right L)))
  exact h2.drop.perm (p2.append_right L)
theorem xs_par3 (i j m : Nat) {p : Po} {x y z : Str} {e1 e2 e3 : Expr} {px py pz pt pos : Pos} {kt k2 : Nat} {pt2 : Pos} (hc : X.calm = true) (hN : X.N.Nodup) (hi : X.N[i]? = some x) (hj : X.N[j]? = some y) (hm : X.N[m]? = some z) (hij : i ≠ j) (him : i ≠ m) (hjm : j ≠ m) (li : i < ρ.length) (lj : j < ρ.length) (lm : m < ρ.length)
    (hx : X.env.scope.names.lookup x = some .local) (hy : X.env.scope.names.lookup y = some .local) (hz : X.env.scope.names.lookup z = some .local) (h : EA X b ρ [e1, e2, e3] fun rs ρ' => ρ'.length = ρ.length → ∃ r1 r2 r3, rs = [r1, r2, r3] ∧ p.nx (((ρ'.set i r1).set j r2).set m r3))
    (hw : swappedStores [.Tuple [.Name x px, .Name y py, .Name z pz] kt pt] (.Tuple [e1, e2, e3] k2 pt2) X.env = pure (some [x, y, z]))
    (hs : swapsWithSole [.Tuple [.Name x px, .Name y py, .Name z pz] kt pt] (.Tuple [e1, e2, e3] k2 pt2) pos.line X.env = pure false := by rfl) :
    XS X b ρ (.Assign [.Tuple [.Name x px, .Name y py, .Name z pz] kt pt] (.Tuple [e1, e2, e3] k2 pt2) pos) p := fun σ H L D l hh k =>
  ⟨_, ps_par3 hc hN hi hj hm hij him hjm hx hy hz (wa_pa _) hw hs, h σ H L _ l hh fun rs ρ' vs H' h1 l' lv hh' => by
    have n' := l'.symm.trans l
    obtain ⟨r1, r2, r3, er, hp⟩ := h1 n'
    subst er
    match vs, lv with
    | [v1, v2, v3], _ =>
      refine ⟨v1, v2, v3, rfl, k.nx _ _ H' hp (by simp [l']) (by simp [n']) ?_⟩
      have hh2 : Hold X.K b H' ((some v1, r1) :: (some v2, r2) :: (some v3, r3) :: (σ.zip ρ' ++ L)) := hh'
      have q1 : Hold X.K b H' ((σ.set i (some v1)).zip (ρ'.set i r1) ++ ((some v2, r2) :: (some v3, r3) :: L)) := hold_set (L := (some v2, r2) :: (some v3, r3) :: L) (by rw [n']; exact li) l' (hh2.perm (by
        refine List.Perm.cons _ ?_
        exact (List.perm_append_comm (l₁ := σ.zip ρ') (l₂ := (some v2, r2) :: (some v3, r3) :: L)).trans (by
          show ((some v2, r2) :: (some v3, r3) :: (L ++ σ.zip ρ')).Perm ((some v2, r2) :: (some v3, r3) :: (σ.zip ρ' ++ L))
          exact List.Perm.cons _ (List.Perm.cons _ List.perm_append_comm))))
      have q2 : Hold X.K b H' (((σ.set i (some v1)).set j (some v2)).zip ((ρ'.set i r1).set j r2) ++ ((some v3, r3) :: L)) := hold_set (L := (some v3, r3) :: L) (by rw [List.length_set, n']; exact lj) (by simp [l']) (q1.perm (by
        exact (List.perm_middle (a := (some v2, r2)) (l₁ := (σ.set i (some v1)).zip (ρ'.set i r1)) (l₂ := (some v3, r3) :: L)).symm))
      exact hold_set (by rw [List.length_set, List.length_set, n']; exact lm) (by simp [l']) (q2.perm (List.perm_middle (a := (some v3, r3)) (l₁ := ((σ.set i (some v1)).set j (some v2)).zip ((ρ'.set i r1).set j r2)) (l₂ := L)).symm)⟩
end

end DE

/-! the words that the walks below find by themselves -/
local macro_rules | `(tactic| walk_at "v") => `(tactic| first | exact Or.inl rfl | exact Or.inr (Or.inl rfl) | exact Or.inr (Or.inr rfl))
local macro_rules | `(tactic| walk_at "o") => `(tactic| first
  | (refine fun _ h => DE.ov_eqInt h) | (refine fun _ h => DE.ov_eqStr h) | (refine fun _ h => DE.ov_add h) | (refine fun _ h => DE.ov_sub h) | (refine fun _ h => DE.ov_mod (by decide) h) | (refine fun _ h => DE.ov_lt h) | (refine fun _ h => DE.ov_le h) | (refine fun _ h => DE.ov_gt h) | (refine fun _ h => DE.ov_ge h)
  | (refine fun _ h => DE.ov_neInt h) | (refine fun _ h => DE.ov_neStr h) | (refine fun _ h => DE.ov_isN h) | (refine fun _ h => DE.ov_notN h)
  | exact DE.or_inS (.inl rfl) rfl | exact DE.or_inS (.inr rfl) rfl | exact DE.or_inI (.inl rfl) rfl | exact DE.or_inI (.inr rfl) rfl | exact DE.or_notInS (.inl rfl) rfl | exact DE.or_notInS (.inr rfl) rfl | exact DE.or_notInC | exact DE.or_inC
  | (refine fun _ h => DE.ov_mul (by first | exact .inl ⟨by omega, by omega⟩ | exact .inr ⟨by omega, by omega⟩) h))
local macro_rules | `(tactic| walk_at "c") => `(tactic| first
  | (refine fun _ h => DE.cv_int h) | (refine fun _ h => DE.cv_intB h) | (refine fun _ h => DE.cv_lenT h) | (refine fun _ h => DE.cv_lenL h) | (refine fun _ h => DE.cv_lenO h))

namespace K05
open PySem L2 SZ VR VX StX RT DE
/-! ### the draws -/
structure Bn2 (mg : Str → Option Value) : Prop where
  len : mg "len" = none
  int : mg "int" = none
  abs : mg "abs" = none
/-- a pool stands at a -/
def PoolAt (H : Hp) (a : Addr) : Prop := ∃ p q : Int, H a = some (.lst [.int p, .int q]) ∧ 0 ≤ p
theorem b01 (b : Bool) : -(2 ^ 64) < (if b = true then (1 : Int) else 0) ∧ (if b = true then (1 : Int) else 0) < 2 ^ 64 := by cases b <;> decide
theorem nn01 (c : Int) (b : Bool) : 0 ≤ (if c < 0 then -c else c) * (if b = true then (1 : Int) else 0) := by
  refine Int.mul_nonneg ?_ ?_
  · split <;> omega
  · cases b <;> decide
def spPool (K : PySem.W.Frag) : Sp := fun vs H Q _ => ∃ (a : Addr) (ns : List Int) (k : Nat), vs = [.ref a, .int k] ∧ SqL K H a (iz ns) ∧ k ≤ 63 ∧ ns.length ≤ 63 ∧ ∀ p H', H p = none → Same H H' → PoolAt H' p → Q (.ref p) H'
def spTake : Sp := fun vs H Q _ => ∃ (a : Addr) (wd : Int), vs = [.ref a, .int wd] ∧ PoolAt H a ∧ 0 < wd ∧ wd < 1073741824 ∧ ∀ (r : Int) (H' : Hp), 0 ≤ r → r < wd → PoolAt H' a → (∀ b o, H b = some o → b ≠ a → H' b = some o) → (∀ b, H b = none → H' b = none) → Q (.int r) H'
section
variable {P : Program} {w : World} {K : PySem.W.Frag} {mg : Str → Option Value} {base : Heap}
theorem ok_pool {f : Addr} {fd : FuncData} (F : Fun K "_law_pool" "_law_pool" S_law_pool f fd) (B : Bn2 mg) : FnOk P w K mg base CX0 1 f fd ["_law_script", "_law_k"] (spPool K) := by
  refine F.ok sc_law_pool (fun vs H Q E h => ?_) (fun cdv A outer s H vs Q E hr h => ?_)
  · obtain ⟨a, ns, k, rfl, _⟩ := h; rfl
  · obtain ⟨a, ns, k, rfl, ha, hk, hl, q⟩ := h
    refine ⟨_, pss_cons (ps_set (i := 2) sc_law_pool.nd rfl (Or.inl rfl) pe_int)
      (pss_cons (ps_if (pt_cmpR op_lt (pv 1) (pe_callB call_len_seq (by rfl) B.len PySem.boot_len (pa_cons (pv 0) pa_nil)) (nomark _)) (pss_one (ps_set (i := 2) sc_law_pool.nd rfl (Or.inl rfl) (pe_ix ix_list (pv 0) (pv 1) (fun _ _ => rfl)))) pss_nil)
      (pss_cons (ps_set (i := 3) sc_law_pool.nd rfl (Or.inl rfl) (pe_callB call_abs (by rfl) B.abs (by decide +kernel) (pa_cons (pv 2) pa_nil)))
      (pss_cons (ps_set (i := 4) sc_law_pool.nd rfl (Or.inl rfl) (pe_op op_mod (pe_op op_mul (pe_callTy call_int1 (by rfl) B.int (by decide +kernel) (pa_cons (pe_op op_add (pe_op op_mod (pe_callTy call_int1 (by rfl) B.int (by decide +kernel) (pa_cons (pv 2) pa_nil)) pe_int) (pe_op op_mul pe_int (pe_op op_add (pv 1) pe_int))) pa_nil)) (pe_op op_add (pv 1) pe_int)) pe_int))
      (pss_cons (ps_set (i := 5) sc_law_pool.nd rfl (Or.inl rfl) (pe_op op_mod (pe_op op_mul (pe_op op_mod (pe_callTy call_int1 (by rfl) B.int (by decide +kernel) (pa_cons (pe_op op_mul (pv 4) (pv 4)) pa_nil)) pe_int) pe_int) pe_int))
      (pss_one (ps_ret (pe_lst (pa_cons (pe_op op_mul (pv 3) (pe_callTy call_int1 (by rfl) B.int (by decide +kernel) (pa_cons (pe_cmpR op_ge (pv 3) (pe_op op_pow pe_int pe_int) (nomark _)) pa_nil))) (pa_cons (pv 5) pa_nil))))))))), ?_⟩
    refine ⟨_, rfl, _, rfl, a, iz ns, rfl, .inl ha, _, _, rfl, rfl, _, rfl, ?_⟩
    rw [iz_len]
    have m0 : (0 : Int) < 2147483629 := by decide
    have m1 : (0 : Int) < 2147483647 := by decide
    refine ite2 (fun h => ?_) (fun h => ?_)
    · have hlt : k < ns.length := by have := of_decide_eq_true h; omega
      have hx : ns[k]? = some ns[k] := List.getElem?_eq_getElem hlt
      refine ⟨_, rfl, _, rfl, a, iz ns, _, _, rfl, rfl, ha, at_of (j := k) rfl (iz_get hx), ?_⟩
      generalize ns[k] = c
      refine ⟨_, rfl, c, rfl, ?_⟩
      refine ⟨_, rfl, .inl ⟨_, rfl, _, _, rfl, rfl, m0, _, rfl, _, _, rfl, rfl, _, _, rfl, rfl, .inl ⟨by decide, by decide⟩, _, _, rfl, rfl, .inl ⟨_, rfl, _, rfl, _, _, rfl, rfl, _, _, rfl, rfl, .inr ⟨by omega, by omega⟩, _, _, rfl, rfl, m0, ?_⟩⟩⟩
      have b0 := Int.emod_nonneg ((c % 2147483629 + 104729 * ((k : Int) + 1)) * ((k : Int) + 7)) (Int.ne_of_gt m0)
      have b1 := Int.emod_lt_of_pos ((c % 2147483629 + 104729 * ((k : Int) + 1)) * ((k : Int) + 7)) m0
      generalize (c % 2147483629 + 104729 * ((k : Int) + 1)) * ((k : Int) + 7) % 2147483629 = bl at b0 b1
      refine ⟨_, rfl, _, rfl, _, _, rfl, rfl, .inl ⟨by omega, by omega⟩, .inl ⟨_, rfl, _, _, rfl, rfl, m0, _, _, rfl, rfl, .inr ⟨by decide, by decide⟩, _, _, rfl, rfl, m1, ?_⟩⟩
      refine ⟨_, rfl, _, rfl, _, _, rfl, rfl, ⟨by decide, by decide, by decide⟩, _, _, rfl, rfl, .inr ⟨_, rfl, _, _, rfl, rfl, (.inr (b01 _)), _, rfl, by show 2 ≤ sizeLine; decide, fun p hp => q p _ hp (Same.new hp) ⟨_, _, upd_same, nn01 c _⟩⟩⟩
    · refine ⟨_, rfl, (0 : Int), rfl, ?_⟩
      refine ⟨_, rfl, .inl ⟨_, rfl, _, _, rfl, rfl, m0, _, rfl, _, _, rfl, rfl, _, _, rfl, rfl, .inl ⟨by decide, by decide⟩, _, _, rfl, rfl, .inl ⟨_, rfl, _, rfl, _, _, rfl, rfl, _, _, rfl, rfl, .inr ⟨by omega, by omega⟩, _, _, rfl, rfl, m0, ?_⟩⟩⟩
      have b0 := Int.emod_nonneg (((0 : Int) % 2147483629 + 104729 * ((k : Int) + 1)) * ((k : Int) + 7)) (Int.ne_of_gt m0)
      have b1 := Int.emod_lt_of_pos (((0 : Int) % 2147483629 + 104729 * ((k : Int) + 1)) * ((k : Int) + 7)) m0
      generalize ((0 : Int) % 2147483629 + 104729 * ((k : Int) + 1)) * ((k : Int) + 7) % 2147483629 = bl at b0 b1
      refine ⟨_, rfl, _, rfl, _, _, rfl, rfl, .inl ⟨by omega, by omega⟩, .inl ⟨_, rfl, _, _, rfl, rfl, m0, _, _, rfl, rfl, .inr ⟨by decide, by decide⟩, _, _, rfl, rfl, m1, ?_⟩⟩
      refine ⟨_, rfl, _, rfl, _, _, rfl, rfl, ⟨by decide, by decide, by decide⟩, _, _, rfl, rfl, .inr ⟨_, rfl, _, _, rfl, rfl, (.inr (b01 _)), _, rfl, by show 2 ≤ sizeLine; decide, fun p hp => q p _ hp (Same.new hp) ⟨_, _, upd_same, nn01 0 _⟩⟩⟩
end

section
variable {P : Program} {w : World} {K : PySem.W.Frag} {mg : Str → Option Value} {base : Heap}
theorem ok_take {f : Addr} {fd : FuncData} (F : Fun K "_law_take" "_law_take" S_law_take f fd) (B : Bn2 mg) : FnOk P w K mg base CX0 1 f fd ["_law_pool_here", "_law_wide"] spTake := by
  refine F.ok sc_law_take (fun vs H Q E h => ?_) (fun cdv A outer s H vs Q E hr h => ?_)
  · obtain ⟨a, wd, rfl, _⟩ := h; rfl
  · obtain ⟨a, wd, rfl, ⟨p, q, ha, hp⟩, hw, hw2, k⟩ := h
    refine ⟨_, pss_cons (ps_if (pt_cmpR op_gt (pe_ix ix_list (pv 0) pe_int (fun _ _ => rfl)) pe_int (nomark _))
        (pss_cons (ps_set (i := 2) sc_law_take.nd rfl (Or.inl rfl) (pe_op op_mod (pe_callTy call_int1 (by rfl) B.int (by decide +kernel) (pa_cons (pe_ix ix_list (pv 0) pe_int (fun _ _ => rfl)) pa_nil)) (pv 1)))
        (pss_cons (ps_asg (pe_op op_fdiv (pe_ix ix_list (pv 0) pe_int (fun _ _ => rfl)) (pv 1)) (pg_sub (pv 0) pe_int set_list))
        (pss_one (ps_ret (pv 2))))) pss_nil)
      (pss_cons (ps_asg (pe_op op_mod (pe_callTy call_int1 (by rfl) B.int (by decide +kernel) (pa_cons (pe_op op_add (pe_op op_mul (pe_ix ix_list (pv 0) pe_int (fun _ _ => rfl)) pe_int) pe_int) pa_nil)) pe_int) (pg_sub (pv 0) pe_int set_list))
      (pss_one (ps_ret (pe_op op_mod (pe_op op_fdiv (pe_op op_mod (pe_callTy call_int1 (by rfl) B.int (by decide +kernel) (pa_cons (pe_op op_mul (pe_ix ix_list (pv 0) pe_int (fun _ _ => rfl)) (pe_ix ix_list (pv 0) pe_int (fun _ _ => rfl))) pa_nil)) pe_int) pe_int) (pv 1))))), ?_⟩
    have m0 : (0 : Int) < 2147483629 := by decide
    have m1 : (0 : Int) < 2147483647 := by decide
    have L : SqL K H a [.int p, .int q] := .of ha
    refine ⟨_, rfl, a, _, _, .int p, rfl, rfl, L, at_of (j := 0) rfl rfl, _, _, rfl, rfl, _, rfl, ?_⟩
    refine ite2 (fun h => ?_) (fun h => ?_)
    · refine ⟨_, rfl, a, _, _, .int p, rfl, rfl, L, at_of (j := 0) rfl rfl, .inl ⟨_, rfl, _, rfl, _, _, rfl, rfl, hw, ?_⟩⟩
      refine ⟨_, rfl, a, _, _, .int p, rfl, rfl, L, at_of (j := 0) rfl rfl, _, rfl, _, _, rfl, rfl, ⟨hw, hw2⟩, _, rfl, a, _, _, 0, rfl, rfl, ha, rfl, ?_⟩
      refine ⟨_, rfl, k _ _ (Int.emod_nonneg _ (Int.ne_of_gt hw)) (Int.emod_lt_of_pos _ hw) ⟨p / wd, q, upd_same, Int.ediv_nonneg hp (Int.le_of_lt hw)⟩ (fun b o hb hne => by rw [upd_ne hne]; exact hb) (fun b hb => ?_)⟩
      rw [upd_ne (fun e => by rw [e, ha] at hb; cases hb)]; exact hb
    · refine ⟨_, rfl, a, _, _, .int q, rfl, rfl, L, at_of (j := 1) rfl rfl, _, _, rfl, rfl, .inr ⟨by decide, by decide⟩, _, _, rfl, rfl, .inl ⟨_, rfl, _, _, rfl, rfl, m1, ?_⟩⟩
      refine ⟨_, rfl, a, _, _, 1, rfl, rfl, ha, rfl, ?_⟩
      dsimp only [List.set]
      have b0 := Int.emod_nonneg (q * 48271 + 12345) (Int.ne_of_gt m1)
      have b1 := Int.emod_lt_of_pos (q * 48271 + 12345) m1
      generalize (q * 48271 + 12345) % 2147483647 = z at b0 b1
      have L2 : SqL K (upd H a (.lst [.int p, .int z])) a [.int p, .int z] := .of upd_same
      refine ⟨_, rfl, a, _, _, .int z, rfl, rfl, L2, at_of (j := 1) rfl rfl, _, rfl, a, _, _, .int z, rfl, rfl, L2, at_of (j := 1) rfl rfl, _, _, rfl, rfl, .inl ⟨by omega, by omega⟩, .inl ⟨_, rfl, _, _, rfl, rfl, m0, _, _, rfl, rfl, ⟨by decide, by decide⟩, _, rfl, _, _, rfl, rfl, hw, ?_⟩⟩
      refine k _ _ (Int.emod_nonneg _ (Int.ne_of_gt hw)) (Int.emod_lt_of_pos _ hw) ⟨p, z, upd_same, hp⟩ (fun b o hb hne => by rw [upd_ne hne]; exact hb) (fun b hb => ?_)
      rw [upd_ne (fun e => by rw [e, ha] at hb; cases hb)]; exact hb
end

/-! ### the draws as data -/
def PoolD (ys : List PyData) : Prop := ∃ p q : Int, ys = [.int p, .int q] ∧ 0 ≤ p
abbrev PreT : List PyData → List Sl → Prop := fun ys as => PoolD ys ∧ ∃ wd : Int, as = [.d (.int wd)] ∧ 0 < wd ∧ wd < 1073741824
abbrev ResT : List PyData → List Sl → Sl → List PyData → Prop := fun _ as r ys' => PoolD ys' ∧ ∃ wd i : Int, as = [.d (.int wd)] ∧ r = .d (.int i) ∧ 0 ≤ i ∧ i < wd
abbrev PreP : List Sl → Prop := fun as => ∃ (ns : List Int) (k : Nat), as = [.d (.list (ns.map .int)), .d (.int k)] ∧ k ≤ 63 ∧ ns.length ≤ 63
abbrev ResP : List Sl → Sl → Prop := fun _ r => ∃ ys, r = .own ys ∧ PoolD ys
theorem dp_iz {K : PySem.W.Frag} {G : Hp} : ∀ {ns : List Int} {xs : List V}, DpAll K G xs (ns.map .int) → xs = iz ns
  | [], _, h => by cases h; rfl
  | n :: ns, _, h => by
    rw [List.map_cons] at h
    cases h with
    | cons h1 h2 =>
      cases h1
      rw [dp_iz h2]
      rfl
theorem dp_two {K : PySem.W.Frag} {G : Hp} {p q : Int} {vs : List V} (h : DpAll K G vs [.int p, .int q]) : vs = [.int p, .int q] := by
  cases h with
  | cons h1 h2 =>
    cases h1
    cases h2 with
    | cons h3 h4 =>
      cases h3
      cases h4
      rfl
section
variable {P : Program} {w : World} {K : PySem.W.Frag} {mg : Str → Option Value} {base : Heap}
theorem take_B {f : Addr} {fd : FuncData} {k : Nat} {ps : List Str} (F : FnOk P w K mg base CX0 k f fd ps spTake) : FnOk P w K mg base CX0 k f fd ps (spB K PreT ResT) := F.imp fun vs H Q E z => by
  obtain ⟨G, a, us, ys, as, rfl, l, hG, ⟨⟨p, q, rfl, hp⟩, wd, rfl, w0, w1⟩, h⟩ := z
  obtain ⟨u, rfl⟩ : ∃ u, us = [u] := List.length_eq_one_iff.mp (by simpa using l)
  have ok0 := hG.ok _ List.mem_cons_self
  obtain ⟨a', us0, e, hm, hg0, hl, hd⟩ := ok0
  cases e
  have := dp_two hd
  subst this
  obtain ⟨v, e, hv⟩ := hG.ok (some u, .d (.int wd)) (by simp)
  cases e
  cases hv
  refine ⟨a, wd, rfl, ⟨p, q, hl, hp⟩, w0, w1, fun r H' r0 r1 ⟨p', q', hl', hp'⟩ hb hn => ?_⟩
  refine h (.d (.int r)) [.int p', .int q'] ⟨⟨p', q', rfl, hp'⟩, wd, r, rfl, rfl, r0, r1⟩ (by simp) _ H' ⟨G, hG.old, fun b o e => hb b o (hG.up _ _ e) (fun n => by rw [n, hg0] at e; cases e), fun b o e => .inl e, fun b o e n => hb b o e (by simpa using n), fun b hb' => ?_, fun c hc => ?_, by simp [ads], hG.fl⟩
  · rw [List.mem_singleton.mp hb']
    exact ⟨by rw [hl']; rfl, fun z => by
      obtain ⟨ps, h1, _⟩ := z
      have h1 : H a = some (.tbl ps) := h1
      rw [hl] at h1; cases h1⟩
  · simp only [List.mem_cons, List.not_mem_nil, or_false] at hc
    rcases hc with rfl | rfl
    · exact ⟨_, rfl, .int r⟩
    · exact ⟨a, [.int p', .int q'], rfl, List.mem_singleton_self _, hg0, hl', .cons (.int _) (.cons (.int _) .nil)⟩
theorem pool_P {f : Addr} {fd : FuncData} {k : Nat} {ps : List Str} (F : FnOk P w K mg base CX0 k f fd ps (spPool K)) : FnOk P w K mg base CX0 k f fd ps (spP K PreP ResP) := F.imp fun vs H Q E z => by
  obtain ⟨G, as, l, hG, ⟨ns, k, rfl, hk, hn⟩, h⟩ := z
  obtain ⟨u1, u2, rfl⟩ : ∃ u1 u2, vs = [u1, u2] := by
    match vs, l with
    | [u1, u2], _ => exact ⟨u1, u2, rfl⟩
  obtain ⟨v1, e1, d1⟩ := hG.ok (some u1, .d (.list (ns.map .int))) (by simp)
  obtain ⟨v2, e2, d2⟩ := hG.ok (some u2, .d (.int k)) (by simp)
  cases e1; cases e2; cases d2
  cases d1 with
  | @lst a xs _ g1 g2 =>
    have := dp_iz g2
    subst this
    refine ⟨a, ns, k, rfl, hG.up.seq g1, hk, hn, fun p H' hp s ⟨p1, q1, hl, h0⟩ => ?_⟩
    have gp : G p = none := hG.up.free hp
    refine h _ ⟨[.int p1, .int q1], rfl, p1, q1, rfl, h0⟩ (by simp) _ H' ⟨G, hG.old, hG.up.trans s, fun b o e => .inl e, fun b o e _ => s _ _ e, fun b hb => (nomatch hb), fun c hc => ?_, by simp [ads], hG.fl⟩
    rw [List.mem_singleton.mp hc]
    exact ⟨p, [.int p1, .int q1], rfl, hp, gp, hl, .cons (.int _) (.cons (.int _) .nil)⟩
end
section
variable {X : Cx} {b : Bs} {ρ : List Sl} {p : Sl → List Sl → Prop} {e : Expr} {es : List Expr} {pos : Pos}
/-- a draw -/
theorem ev_take (i : Nat) {k : Nat} {wd : Int} {s : Sl} {ys : List PyData} {p1 p2 cp : Pos} (C : CalB X.prog X.w X.K X.mg X.base CX0 "_law_take" k PreT ResT) (hr : Room k X.A) (hN : X.N[i]? = some "_law_pool_here") (hv : Vis X.env.scope "_law_pool_here") {E : XK} (hx : Passes CX0 X E)
    (hs : ρ[i]? = some s) (ks : s = .own ys ∨ s = .bor ys) (hy : PoolD ys) (h : EVr X b ρ e (.d (.int wd))) (w0 : 0 < wd) (w1 : wd < 1073741824) (k : ∀ (r : Int) (ys' : List PyData), 0 ≤ r → r < wd → PoolD ys' → p (.d (.int r)) (ρ.set i (setS s ys'))) (hg : Gl X "_law_take" := by rfl)
    (he0 : starEach [e] X.env = (false, eval e X.env) :: starEach [] X.env := by rfl) (he : starEach [.Name "_law_pool_here" p2, e] X.env = (false, eval (.Name "_law_pool_here" p2) X.env) :: starEach [e] X.env := by rfl) (hpl : (backTo cp (starEach [e] X.env)).any (·.1) = false := by rfl) : EV X b ρ (.Call (.Name "_law_take" p1) [.Name "_law_pool_here" p2, e] [] cp) p :=
  ev_calL i C hr hg hx hN hv (a_cons h a_nil he0 _ ⟨[.int wd], rfl, s, ys, hs, ks, ⟨hy, wd, rfl, w0, w1⟩, fun r ys' ⟨h1, wd', j, e1, e2, j0, j1⟩ => by
    cases e1
    subst e2
    exact ⟨by simp, k j ys' j0 j1 h1⟩⟩) ⟨s, ys, hs, ks⟩ (by decide) (by decide) (by decide) he hpl
end

end K05

namespace K05
open PySem L2 SZ VR VX StX RT DE
/-! ### texts made of pieces -/
/-- pieces of a text, and what they are as tokens from a on -/
def itemToks : List (List Nat) → Nat → List (List Nat × Nat)
  | [], _ => []
  | it :: r, a => (if it = [32] ∨ it = [10] then [] else [(it, a)]) ++ itemToks r (a + it.length)
/-- a sign, or a run behind which none goes on -/
def GoodIt : List (List Nat) → Prop
  | [] => True
  | it :: r => ((∃ c, it = [c] ∧ an c = false) ∨ (it ≠ [] ∧ it.all an = true ∧ ∀ c, r.flatten[0]? = some c → an c = false)) ∧ GoodIt r
theorem gp_iff (c : Nat) : gp c = decide (c = 32 ∨ c = 10) := by
  have e : GAP.cps.toList = [32, 10] := by decide +kernel
  unfold gp
  rw [e, Bool.eq_iff_iff]
  simp
theorem an_ngp {c : Nat} (h : an c = true) : gp c = false := by
  rw [gp_iff]
  refine decide_eq_false fun z => ?_
  have h32 : an 32 = false := by decide +kernel
  have h10 : an 10 = false := by decide +kernel
  rcases z with rfl | rfl
  · rw [h32] at h; cases h
  · rw [h10] at h; cases h
theorem takeWhile_run : ∀ (it r : List Nat), it.all an = true → (∀ c, r[0]? = some c → an c = false) → ((it ++ r).takeWhile an) = it
  | [], [], _, _ => rfl
  | [], c :: r, _, h => by
    rw [List.nil_append, List.takeWhile_cons, h c rfl]
    rfl
  | x :: it, r, h, hr => by
    rw [List.all_cons, Bool.and_eq_true] at h
    rw [List.cons_append, List.takeWhile_cons, h.1, if_pos rfl, takeWhile_run it r h.2 hr]
theorem toks_items : ∀ (its : List (List Nat)) (s : List Nat) (a : Nat), GoodIt its → s.drop a = its.flatten → toks s a = itemToks its a
  | [], s, a, _, e => by
    have hl : ¬ a < s.length := fun h => by
      have := congrArg List.length e
      rw [List.length_drop] at this
      simp at this
      omega
    rw [toks_end hl]
    rfl
  | it :: r, s, a, ⟨h, g⟩, e => by
    rw [List.flatten_cons] at e
    have hne : it ≠ [] := by
      rcases h with ⟨c, rfl, _⟩ | ⟨h, _, _⟩
      · simp
      · exact h
    obtain ⟨c, t, rfl⟩ := List.exists_cons_of_ne_nil hne
    have hc : s[a]? = some c := by
      have := congrArg (fun l => l[0]?) e
      simpa [List.getElem?_drop] using this
    have hl : a < s.length := (List.getElem?_eq_some_iff.mp hc).1
    have ed : s.drop (a + (c :: t).length) = r.flatten := by
      rw [← List.drop_drop, e, List.drop_append_of_le_length (Nat.le_refl _), List.drop_length, List.nil_append]
    have ih := toks_items r s (a + (c :: t).length) g ed
    rcases h with ⟨c', e', hc'⟩ | ⟨_, ha, hr⟩
    · have e1 : c = c' ∧ t = [] := by simpa using e'
      obtain ⟨rfl, rfl⟩ := e1
      have en : nxt s a = a + 1 := by
        unfold nxt
        rw [runE_stop hc hc']
        omega
      by_cases hg : gp c = true
      · rw [toks_gap hc hg, en]
        have : [c] = [32] ∨ [c] = [10] := by
          rw [gp_iff, decide_eq_true_iff] at hg
          rcases hg with rfl | rfl
          · exact .inl rfl
          · exact .inr rfl
        show _ = (if [c] = [32] ∨ [c] = [10] then [] else [([c], a)]) ++ itemToks r (a + 1)
        rw [if_pos this]
        exact ih
      · have hg' : gp c = false := Bool.eq_false_iff.mpr hg
        rw [toks_tok hc hg', en]
        have : ¬ ([c] = [32] ∨ [c] = [10]) := fun z => hg (by
          rw [gp_iff, decide_eq_true_iff]
          simpa using z)
        show _ = (if [c] = [32] ∨ [c] = [10] then [] else [([c], a)]) ++ itemToks r (a + 1)
        rw [if_neg this, e]
        have e2 : a + 1 - a = 1 := by omega
        rw [e2]
        exact congrArg _ ih
    · have hac : an c = true := by
        rw [List.all_cons, Bool.and_eq_true] at ha
        exact ha.1
      have er : runE s a = a + (c :: t).length := by
        unfold runE
        rw [e, takeWhile_run _ _ ha hr]
      have en : nxt s a = a + (c :: t).length := by
        unfold nxt
        rw [er]
        simp only [List.length_cons]
        omega
      have hg' : gp c = false := an_ngp hac
      rw [toks_tok hc hg', en]
      have : ¬ (c :: t = [32] ∨ c :: t = [10]) := fun z => by
        have : c = 32 ∨ c = 10 := by
          rcases z with z | z
          · exact .inl (by simp at z; exact z.1)
          · exact .inr (by simp at z; exact z.1)
        rw [gp_iff] at hg'
        exact absurd this (of_decide_eq_false hg')
      show _ = (if c :: t = [32] ∨ c :: t = [10] then [] else [(c :: t, a)]) ++ itemToks r (a + (c :: t).length)
      rw [if_neg this, e, Nat.add_sub_cancel_left, List.take_append_of_le_length (Nat.le_refl _), List.take_length]
      exact congrArg _ ih

/-! ### tokens that differ in their numbers alone are read alike -/
def AlkT (a b : List Nat) : Prop := a = b ∨ (isN a = true ∧ isN b = true ∧ a.length = b.length)
structure Alk (ts us : List (List Nat × Nat)) : Prop where
  len : ts.length = us.length
  pos : ∀ k, ps ts k = ps us k
  tok : ∀ k, AlkT (tk ts k) (tk us k)
theorem isN_dg {s : List Nat} (h : isN s = true) : ∃ c r, s = c :: r ∧ dg c = true := by
  cases s with
  | nil => cases h
  | cons c r =>
    unfold isN at h
    rw [Bool.and_eq_true, List.all_cons, Bool.and_eq_true] at h
    exact ⟨c, r, rfl, h.2.1⟩
theorem lc_dg {c : Nat} (h : dg c = true) : lc c = false := by
  rw [dg_iff] at h
  simp only [Bool.and_eq_true, decide_eq_true_eq] at h
  have : ∀ c, 48 ≤ c → c ≤ 57 → lc c = false := fun c h1 h2 => by
    obtain ⟨d, rfl⟩ : ∃ d, c = 48 + d := ⟨c - 48, by omega⟩
    have hd : d < 10 := by omega
    have : ∀ d, d < 10 → lc (48 + d) = false := by decide +kernel
    exact this d hd
  exact this c h.1 h.2
theorem isN_nm {s : List Nat} (h : isN s = true) : isNmL s = false := by
  obtain ⟨c, r, rfl, hc⟩ := isN_dg h
  have : isW (c :: r) = false := by
    show (lc c && r.all an) = false
    rw [lc_dg hc]
    rfl
  show (isW (c :: r) && _) = false
  rw [this]
  rfl
theorem AlkT.eq {a b w : List Nat} (h : AlkT a b) (hw : isN w = false) : a = w ↔ b = w := by
  rcases h with rfl | ⟨h1, h2, _⟩
  · exact Iff.rfl
  · constructor
    · rintro rfl; rw [h1] at hw; cases hw
    · rintro rfl; rw [h2] at hw; cases hw
theorem AlkT.nm {a b : List Nat} (h : AlkT a b) : isNmL a = isNmL b := by
  rcases h with rfl | ⟨h1, h2, _⟩
  · rfl
  · rw [isN_nm h1, isN_nm h2]
theorem AlkT.num {a b : List Nat} (h : AlkT a b) : isN a = isN b := by
  rcases h with rfl | ⟨h1, h2, _⟩
  · rfl
  · rw [h1, h2]
theorem AlkT.len {a b : List Nat} (h : AlkT a b) : a.length = b.length := by
  rcases h with rfl | ⟨_, _, h⟩
  · rfl
  · exact h
theorem AlkT.same {a b : List Nat} (h : AlkT a b) (hn : isNmL a = true) : a = b := by
  rcases h with rfl | ⟨h1, _, _⟩
  · rfl
  · rw [isN_nm h1] at hn; cases hn
/-- two ends of one kind at one place -/
def Sim {α β : Type} (R : α → β → Prop) : Res α → Res β → Prop
  | .ok v k, .ok u j => R v u ∧ k = j
  | .syn p, .syn q => p = q
  | .big w, .big z => w = z
  | _, _ => False
theorem Sim.bind {α β γ δ : Type} {R : α → β → Prop} {S : γ → δ → Prop} {r : Res α} {q : Res β} {f : α → Nat → Res γ} {g : β → Nat → Res δ} (h : Sim R r q) (k : ∀ v u n, R v u → Sim S (f v n) (g u n)) : Sim S (r.bind f) (q.bind g) := by
  cases r <;> cases q <;> simp only [Sim] at h
  · obtain ⟨h1, rfl⟩ := h
    exact k _ _ _ h1
  · exact h
  · exact h
section
variable {ts us : List (List Nat × Nat)}
theorem part_sim (A : Alk ts us) (idx : Bool) : ∀ (f k pw : Nat), Sim (fun v u => v = u) (partLoop ts idx f k pw) (partLoop us idx f k pw)
  | 0, _, _ => rfl
  | f + 1, k, pw => by
    have ih := part_sim A idx f (k + 2) (pw + 1)
    unfold partLoop
    have h1 := (A.tok k).eq (w := [110]) (by decide +kernel)
    have h2 := (A.tok (k + 1)).eq (w := [42]) (by decide +kernel)
    have h3 := (A.tok k).nm
    by_cases c1 : tk ts k = [110]
    · rw [if_pos c1, if_pos (h1.mp c1)]
      by_cases c2 : tk ts (k + 1) = [42]
      · rw [if_pos c2, if_pos (h2.mp c2)]
        exact ih
      · rw [if_neg c2, if_neg fun z => c2 (h2.mpr z)]
        exact ⟨rfl, rfl⟩
    · rw [if_neg c1, if_neg fun z => c1 (h1.mpr z)]
      by_cases c3 : idx = true ∧ isNmL (tk ts k) = true
      · rw [if_pos c3, if_pos ⟨c3.1, h3 ▸ c3.2⟩]
        exact ⟨by rw [(A.tok k).same c3.2], rfl⟩
      · rw [if_neg c3, if_neg fun z => c3 ⟨z.1, h3.symm ▸ z.2⟩]
        exact A.pos k
theorem fin_sim {n m : Int} {r q : Res (Nat × List Nat)} (h : Sim (fun v u => v = u) r q) : Sim (fun v u => v.2 = u.2) (partFin n r) (partFin m q) := by
  cases r <;> cases q <;> simp only [Sim] at h
  · rename_i v j u i
    obtain ⟨rfl, rfl⟩ := h
    obtain ⟨pw, c⟩ := v
    show Sim _ (if 3 < pw then _ else _) (if 3 < pw then _ else _)
    by_cases hp : 3 < pw
    · rw [if_pos hp, if_pos hp]
      rfl
    · rw [if_neg hp, if_neg hp]
      exact ⟨rfl, rfl⟩
  · exact h
  · exact h
theorem partM_sim (A : Alk ts us) (idx : Bool) (k : Nat) : Sim (fun v u => v.2 = u.2) (partM ts idx k) (partM us idx k) := by
  unfold partM
  have h1 := (A.tok k).num
  have h2 := (A.tok (k + 1)).eq (w := [42]) (by decide +kernel)
  by_cases c1 : isN (tk ts k) = true
  · have c1' : isN (tk us k) = true := h1 ▸ c1
    rw [if_pos c1, if_pos c1', (A.tok k).len]
    by_cases c2 : 150 < (tk us k).length
    · rw [if_pos c2, if_pos c2]
      rfl
    · rw [if_neg c2, if_neg c2]
      refine fin_sim ?_
      by_cases c3 : tk ts (k + 1) = [42]
      · rw [if_pos c3, if_pos (h2.mp c3), A.len]
        exact part_sim A idx _ _ _
      · rw [if_neg c3, if_neg fun z => c3 (h2.mpr z)]
        exact ⟨rfl, rfl⟩
  · rw [if_neg c1, if_neg fun z => c1 (h1.symm ▸ z), A.len]
    exact fin_sim (part_sim A idx _ _ _)
theorem sumsLoop_sim (A : Alk ts us) (idx : Bool) : ∀ (f k : Nat) (s1 s2 : Int) (c1 c2 : List (List Nat × List Int)), Sim (fun _ _ => True) (sumsLoop ts idx f k s1 c1) (sumsLoop us idx f k s2 c2)
  | 0, _, _, _, _, _ => rfl
  | f + 1, k, s1, s2, c1, c2 => by
    have h := partM_sim A idx k
    unfold sumsLoop
    cases hr : partM ts idx k <;> cases hq : partM us idx k <;> rw [hr, hq] at h <;> simp only [Sim] at h
    · rename_i v j u i
      obtain ⟨_, rfl⟩ := h
      have h1 := (A.tok j).eq (w := [43]) (by decide +kernel)
      have h2 := (A.tok j).eq (w := [45]) (by decide +kernel)
      dsimp only
      by_cases d1 : tk ts j = [43]
      · rw [if_pos d1, if_pos (h1.mp d1)]
        exact sumsLoop_sim A idx f _ _ _ _ _
      · rw [if_neg d1, if_neg fun z => d1 (h1.mpr z)]
        by_cases d2 : tk ts j = [45]
        · rw [if_pos d2, if_pos (h2.mp d2)]
          exact sumsLoop_sim A idx f _ _ _ _ _
        · rw [if_neg d2, if_neg fun z => d2 (h2.mpr z)]
          exact ⟨trivial, rfl⟩
    · exact h
    · exact h
theorem sumsM_sim (A : Alk ts us) (idx : Bool) (k : Nat) : Sim (fun _ _ => True) (sumsM ts idx k) (sumsM us idx k) := by
  unfold sumsM
  have h2 := (A.tok k).eq (w := [45]) (by decide +kernel)
  rw [A.len]
  by_cases d2 : tk ts k = [45]
  · rw [if_pos d2, if_pos (h2.mp d2)]
    exact sumsLoop_sim A idx _ _ _ _ _ _
  · rw [if_neg d2, if_neg fun z => d2 (h2.mpr z)]
    exact sumsLoop_sim A idx _ _ _ _ _ _
theorem sizeM_sim (A : Alk ts us) (k : Nat) : Sim (fun _ _ => True) (sizeM ts k) (sizeM us k) := by
  have h := sumsM_sim A false k
  unfold sizeM
  cases hr : sumsM ts false k <;> cases hq : sumsM us false k <;> rw [hr, hq] at h <;> simp only [Sim] at h
  · exact ⟨trivial, h.2⟩
  · exact h
  · exact h
theorem loop_sim (A : Alk ts us) {b1 b2 : Nat → Nat → Res Blk} (hb : ∀ L k, Sim (fun _ _ => True) (b1 L k) (b2 L k)) (L k : Nat) : Sim (fun _ _ => True) (loopM ts b1 L k) (loopM us b2 L k) := by
  unfold loopM
  have h1 := (A.tok k).nm
  by_cases c1 : isNmL (tk ts k) = true
  · have c1' : isNmL (tk us k) = true := h1 ▸ c1
    rw [if_pos c1, if_pos c1']
    refine (sizeM_sim A (k + 1)).bind fun v u j _ => ?_
    have h2 := (A.tok j).eq (w := [123]) (by decide +kernel)
    by_cases c2 : tk ts j = [123]
    · rw [if_pos c2, if_pos (h2.mp c2)]
      split
      · rfl
      · refine (hb (L + 1) (j + 1)).bind fun v u i _ => ?_
        have h3 := (A.tok i).eq (w := [125]) (by decide +kernel)
        by_cases c3 : tk ts i = [125]
        · rw [if_pos c3, if_pos (h3.mp c3)]
          exact ⟨trivial, rfl⟩
        · rw [if_neg c3, if_neg fun z => c3 (h3.mpr z)]
          exact A.pos i
    · rw [if_neg c2, if_neg fun z => c2 (h2.mpr z)]
      exact A.pos j
  · rw [if_neg c1, if_neg fun z => c1 (h1.symm ▸ z)]
    exact A.pos k
theorem stm_sim (A : Alk ts us) {b1 b2 : Nat → Nat → Res Blk} (hb : ∀ L k, Sim (fun _ _ => True) (b1 L k) (b2 L k)) (L k : Nat) : Sim (fun _ _ => True) (stmM ts b1 L k) (stmM us b2 L k) := by
  unfold stmM
  have h1 := (A.tok k).eq (w := tFLUSH) (by decide +kernel)
  have h2 := (A.tok k).eq (w := tFOR) (by decide +kernel)
  have h3 := (A.tok (k + 1)).nm
  have h4 := (A.tok (k + 2)).eq (w := [91]) (by decide +kernel)
  by_cases c1 : tk ts k = tFLUSH
  · rw [if_pos c1, if_pos (h1.mp c1)]
    exact ⟨trivial, rfl⟩
  rw [if_neg c1, if_neg fun z => c1 (h1.mpr z)]
  by_cases c2 : tk ts k = tFOR
  · rw [if_pos c2, if_pos (h2.mp c2)]
    exact loop_sim A hb L (k + 1)
  rw [if_neg c2, if_neg fun z => c2 (h2.mpr z)]
  by_cases c3 : isNmL (tk ts (k + 1)) = true
  · have c3' : isNmL (tk us (k + 1)) = true := h3 ▸ c3
    rw [if_pos c3, if_pos c3']
    by_cases c4 : tk ts (k + 2) = [91]
    · rw [if_pos c4, if_pos (h4.mp c4)]
      refine (sumsM_sim A true (k + 3)).bind fun v u j _ => ?_
      have h5 := (A.tok j).eq (w := [93]) (by decide +kernel)
      by_cases c5 : tk ts j = [93]
      · rw [if_pos c5, if_pos (h5.mp c5)]
        exact ⟨trivial, rfl⟩
      · rw [if_neg c5, if_neg fun z => c5 (h5.mpr z)]
        exact A.pos j
    · rw [if_neg c4, if_neg fun z => c4 (h4.mpr z)]
      exact A.pos _
  · rw [if_neg c3, if_neg fun z => c3 (h3.symm ▸ z)]
    exact A.pos _
theorem block_sim (A : Alk ts us) : ∀ (f L k : Nat) (a1 a2 : Blk), Sim (fun _ _ => True) (blockM ts f L k a1) (blockM us f L k a2)
  | 0, _, _, _, _ => rfl
  | f + 1, L, k, a1, a2 => by
    unfold blockM
    have h : tk ts k ∈ STs ↔ tk us k ∈ STs := by
      have e : ∀ w, isN w = false → (tk ts k = w ↔ tk us k = w) := fun w hw => (A.tok k).eq hw
      simp only [STs, List.mem_cons, List.not_mem_nil, or_false]
      rw [e tFOR (by decide +kernel), e tREAD (by decide +kernel), e tWRITE (by decide +kernel), e tFLUSH (by decide +kernel)]
    by_cases c : tk ts k ∈ STs
    · rw [if_pos c, if_pos (h.mp c)]
      exact (stm_sim A (fun L' k' => block_sim A f L' k' .nil .nil) L k).bind fun v u j _ => block_sim A f L j _ _
    · rw [if_neg c, if_neg fun z => c (h.mpr z)]
      exact ⟨trivial, rfl⟩
theorem arrays_sim (A : Alk ts us) : ∀ (f k : Nat) (a1 a2 : List (List Nat × List Int)), Sim (fun _ _ => True) (arraysM ts f k a1) (arraysM us f k a2)
  | 0, _, _, _ => rfl
  | f + 1, k, a1, a2 => by
    unfold arraysM
    have h1 := (A.tok k).eq (w := tARRAY) (by decide +kernel)
    have h2 := (A.tok (k + 1)).nm
    by_cases c1 : tk ts k = tARRAY
    · rw [if_pos c1, if_pos (h1.mp c1)]
      by_cases c2 : isNmL (tk ts (k + 1)) = true
      · have c2' : isNmL (tk us (k + 1)) = true := h2 ▸ c2
        rw [if_pos c2, if_pos c2']
        exact (sizeM_sim A (k + 2)).bind fun v u j _ => arrays_sim A f j _ _
      · rw [if_neg c2, if_neg fun z => c2 (h2.symm ▸ z)]
        exact A.pos _
    · rw [if_neg c1, if_neg fun z => c1 (h1.mpr z)]
      exact ⟨trivial, rfl⟩
theorem end_sim {α β : Type} (A : Alk ts us) (v : α) (u : β) (k : Nat) : Sim (fun _ _ => True) (endM ts v k) (endM us u k) := by
  unfold endM
  have h1 := (A.tok k).eq (w := []) (by decide +kernel)
  by_cases c1 : tk ts k = []
  · rw [if_pos c1, if_pos (h1.mp c1)]
    exact ⟨trivial, rfl⟩
  · rw [if_neg c1, if_neg fun z => c1 (h1.mpr z)]
    exact A.pos _
theorem parse_sim (A : Alk ts us) : Sim (fun _ _ => True) (parseM ts) (parseM us) := by
  unfold parseM
  rw [A.len]
  exact (arrays_sim A _ _ _ _).bind fun v u k _ => (block_sim A _ _ _ _ _).bind fun b c j _ => end_sim A _ _ j
theorem parseSize_sim (A : Alk ts us) : Sim (fun _ _ => True) (parseSizeM ts) (parseSizeM us) := (sizeM_sim A 0).bind fun v u j _ => end_sim A _ _ j
end
/-- what is told of an end -/
inductive Oc where
  | fine
  | word (w : Str)
  | pos (p : Nat)
deriving DecidableEq
def oc {α : Type} : Res α → Oc
  | .ok _ _ => .fine
  | .syn p => .pos p
  | .big w => .word w
theorem Sim.oc {α β : Type} {R : α → β → Prop} {r : Res α} {q : Res β} (h : Sim R r q) : K05.oc r = K05.oc q := by
  cases r <;> cases q <;> simp only [Sim] at h
  · rfl
  · rw [h]; rfl
  · rw [h]; rfl
/-- few counters -/
theorem addC_le (c : List Nat) (xs : List Int) (cs : List (List Nat × List Int)) : (addC cs c xs).length ≤ cs.length + 1 := addC_length c xs cs
theorem loop_cnt {ts : List (List Nat × Nat)} {idx : Bool} : ∀ (f k : Nat) (sg : Int) (cs cs' : List (List Nat × List Int)) (k' : Nat), sumsLoop ts idx f k sg cs = .ok cs' k' → cs'.length ≤ cs.length + f
  | 0, _, _, _, _, _, h => by cases h
  | f + 1, k, sg, cs, cs', k', h => by
    unfold sumsLoop at h
    split at h
    · cases h
    · cases h
    · rename_i v j hv
      have h1 := addC_le v.2.2 (partC (sg * v.1) v.2.1) cs
      split at h
      · have := loop_cnt f _ _ _ _ _ h
        omega
      · split at h
        · have := loop_cnt f _ _ _ _ _ h
          omega
        · cases h
          omega
theorem i64_few {ts : List (List Nat × Nat)} (h : ts.length ≤ 62) : I64 ts := fun k cs k' e => by
  unfold sumsM at e
  split at e
  · have := loop_cnt _ _ _ _ _ _ e
    simp only [List.length_singleton] at this
    omega
  · have := loop_cnt _ _ _ _ _ _ e
    simp only [List.length_singleton] at this
    omega

end K05

namespace K05
open PySem L2 SZ VR VX StX RT DE
/-! ### the law's texts as pieces -/
inductive AlkL : List (List Nat) → List (List Nat) → Prop
  | nil : AlkL [] []
  | cons {a b : List Nat} {r s : List (List Nat)} : AlkT a b → AlkL r s → AlkL (a :: r) (b :: s)
theorem AlkL.refl : ∀ l : List (List Nat), AlkL l l
  | [] => .nil
  | _ :: l => .cons (.inl rfl) (AlkL.refl l)
theorem AlkL.app {a b c d : List (List Nat)} (h : AlkL a b) (k : AlkL c d) : AlkL (a ++ c) (b ++ d) := by
  induction h with
  | nil => exact k
  | cons h _ ih => exact .cons h ih
theorem AlkL.flat {a b : List (List Nat)} (h : AlkL a b) : a.flatten.length = b.flatten.length := by
  induction h with
  | nil => rfl
  | cons h _ ih => rw [List.flatten_cons, List.flatten_cons, List.length_append, List.length_append, h.len, ih]
theorem isN_an {s : List Nat} (h : isN s = true) : s ≠ [] ∧ s.all an = true := by
  cases s with
  | nil => cases h
  | cons c r =>
    unfold isN at h
    rw [Bool.and_eq_true] at h
    refine ⟨by simp, List.all_eq_true.mpr fun x hx => ?_⟩
    have := List.all_eq_true.mp h.2 x hx
    unfold an
    rw [this, Bool.or_true]
theorem AlkL.head {r s : List (List Nat)} (h : AlkL r s) (hne : ∀ x ∈ s, x ≠ []) (k : ∀ c, s.flatten[0]? = some c → an c = false) : ∀ c, r.flatten[0]? = some c → an c = false := by
  cases h with
  | nil => exact k
  | @cons a b r s ha hr =>
    intro c hc
    rcases ha with rfl | ⟨h1, h2, h3⟩
    · have hb := hne a List.mem_cons_self
      obtain ⟨x, l, rfl⟩ := List.exists_cons_of_ne_nil hb
      refine k c ?_
      simpa using hc
    · exfalso
      obtain ⟨hb, hall⟩ := isN_an h2
      obtain ⟨x, l, rfl⟩ := List.exists_cons_of_ne_nil hb
      have := k x (by simp)
      rw [List.all_cons, Bool.and_eq_true] at hall
      rw [hall.1] at this
      cases this
theorem good_ne : ∀ {l : List (List Nat)}, GoodIt l → ∀ x ∈ l, x ≠ []
  | [], _, x, h => by cases h
  | a :: l, ⟨h1, h2⟩, x, h => by
    rcases List.mem_cons.mp h with rfl | h
    · rcases h1 with ⟨c, rfl, _⟩ | ⟨h, _⟩
      · simp
      · exact h
    · exact good_ne h2 x h
theorem AlkL.good {r s : List (List Nat)} (h : AlkL r s) (k : GoodIt s) : GoodIt r := by
  induction h with
  | nil => trivial
  | @cons a b r s ha hr ih =>
    obtain ⟨k1, k2⟩ := k
    refine ⟨?_, ih k2⟩
    rcases ha with rfl | ⟨h1, h2, h3⟩
    · rcases k1 with k1 | ⟨k3, k4, k5⟩
      · exact .inl k1
      · exact .inr ⟨k3, k4, hr.head (good_ne k2) k5⟩
    · obtain ⟨n1, n2⟩ := isN_an h1
      refine .inr ⟨n1, n2, ?_⟩
      rcases k1 with ⟨c, rfl, hc⟩ | ⟨_, _, k5⟩
      · exfalso
        obtain ⟨_, hall⟩ := isN_an h2
        rw [List.all_cons, hc] at hall
        cases hall
      · exact hr.head (good_ne k2) k5
/-- the tokens of pieces -/
def itT (its : List (List Nat)) : List (List Nat × Nat) := itemToks its 0 ++ [([], its.flatten.length)]
inductive Al2 : List (List Nat × Nat) → List (List Nat × Nat) → Prop
  | nil : Al2 [] []
  | cons {a b : List Nat × Nat} {r s : List (List Nat × Nat)} : AlkT a.1 b.1 → a.2 = b.2 → Al2 r s → Al2 (a :: r) (b :: s)
theorem Al2.app {a b c d : List (List Nat × Nat)} (h : Al2 a b) (k : Al2 c d) : Al2 (a ++ c) (b ++ d) := by
  induction h with
  | nil => exact k
  | cons h1 h2 _ ih => exact .cons h1 h2 ih
theorem Al2.at {a b : List (List Nat × Nat)} (h : Al2 a b) : ∀ k, ps a k = ps b k ∧ AlkT (tk a k) (tk b k) := by
  induction h with
  | nil => exact fun k => ⟨rfl, .inl rfl⟩
  | @cons x y r s h1 h2 _ ih =>
    intro k
    cases k with
    | zero => exact ⟨h2, h1⟩
    | succ k => exact ih k
theorem Al2.len {a b : List (List Nat × Nat)} (h : Al2 a b) : a.length = b.length := by
  induction h with
  | nil => rfl
  | cons _ _ _ ih => rw [List.length_cons, List.length_cons, ih]
theorem AlkL.items {a b : List (List Nat)} (h : AlkL a b) : ∀ k, Al2 (itemToks a k) (itemToks b k) := by
  induction h with
  | nil => exact fun k => .nil
  | @cons x y r s hx _ ih =>
    intro k
    unfold itemToks
    rw [← hx.len]
    refine Al2.app ?_ (ih _)
    have e : (x = [32] ∨ x = [10]) ↔ (y = [32] ∨ y = [10]) := by rw [hx.eq (w := [32]) (by decide +kernel), hx.eq (w := [10]) (by decide +kernel)]
    by_cases c : x = [32] ∨ x = [10]
    · rw [if_pos c, if_pos (e.mp c)]
      exact .nil
    · rw [if_neg c, if_neg fun z => c (e.mpr z)]
      exact .cons hx rfl .nil
theorem AlkL.alk {a b : List (List Nat)} (h : AlkL a b) : Alk (itT a) (itT b) := by
  have k : Al2 (itT a) (itT b) := (h.items 0).app (.cons (.inl rfl) h.flat .nil)
  exact ⟨k.len, fun i => (k.at i).1, fun i => (k.at i).2⟩
theorem tokz_items {z : Str} {its : List (List Nat)} (g : GoodIt its) (e : z.cps.toList = its.flatten) : tokz z = itT its := by
  unfold tokz itT
  rw [toks_items its z.cps.toList 0 g (by rw [List.drop_zero]; exact e)]
  congr 3
  show z.cps.size = _
  rw [← Array.length_toList, e]
/-- a check of GoodIt -/
def goodB : List (List Nat) → Bool
  | [] => true
  | it :: r => ((decide (it.length = 1) && it.all fun c => !an c) || (!it.isEmpty && it.all an && (match r.flatten[0]? with | some c => !an c | none => true))) && goodB r
theorem good_b : ∀ {l : List (List Nat)}, goodB l = true → GoodIt l
  | [], _ => trivial
  | it :: r, h => by
    unfold goodB at h
    rw [Bool.and_eq_true, Bool.or_eq_true] at h
    refine ⟨?_, good_b h.2⟩
    rcases h.1 with h | h
    · rw [Bool.and_eq_true, decide_eq_true_iff] at h
      obtain ⟨c, rfl⟩ := List.length_eq_one_iff.mp h.1
      simp only [List.all_cons, List.all_nil, Bool.and_true, Bool.not_eq_true'] at h
      exact .inl ⟨c, rfl, h.2⟩
    · rw [Bool.and_eq_true, Bool.and_eq_true] at h
      refine .inr ⟨fun z => (by rw [z] at h; cases h.1.1), h.1.2, fun c hc => ?_⟩
      have h2 := h.2
      rw [hc] at h2
      simpa using h2
abbrev wd (s : String) : List Nat := (Str.ofString s).cps.toList
def partI (p : Nat) : List (List Nat) := [110] :: (List.replicate (p - 1) [[42], [110]]).flatten
def loopsI (d : Nat) (ins : List (List Nat)) : List (List Nat) := (List.replicate d [wd "for", [32], [105], [32], [110], [32], [123], [32]]).flatten ++ ins ++ (List.replicate d [[32], [125]]).flatten
/-- the law's texts -/
def txI (n : List Nat) (p d : Nat) : Nat → List (List Nat)
  | 0 => [wd "array", [32], [97], [32], n]
  | 1 => [wd "array", [32], [97], [32], [110], [32], [43], [32], n, [42], [110]]
  | 2 => [wd "for", [32], [105], [32], [45], [32], n, [32], [123], [32], [125]]
  | 3 => [wd "read", [32], [97], [91], n, [42], [105], [93]]
  | 4 => [wd "read", [32], [97], [91], [105], [32], [43], [32], n, [93]]
  | 5 => [wd "array", [32], [97], [32]] ++ partI p
  | 6 => [wd "read", [32], [97], [91], [51], [42]] ++ partI p ++ [[42], [105], [93]]
  | 7 => [wd "for", [32], [105], [32], [50], [32], [45], [32]] ++ partI p ++ [[32], [123], [32], [125]]
  | 8 => loopsI d [wd "flush"]
  | _ => loopsI (d - 1) [wd "for", [32], [106], [32], [110], [32], [123], [32], wd "read", [32], [97], [91], [106], [93], [32], [125], [32], wd "flush"]
theorem tx_alk {n m : List Nat} (h : AlkT n m) (p d at' : Nat) : AlkL (txI n p d at') (txI m p d at') := by
  have c := fun x => (Or.inl rfl : AlkT x x)
  match at' with
  | 0 => exact .cons (c _) (.cons (c _) (.cons (c _) (.cons (c _) (.cons h .nil))))
  | 1 => exact .cons (c _) (.cons (c _) (.cons (c _) (.cons (c _) (.cons (c _) (.cons (c _) (.cons (c _) (.cons (c _) (.cons h (AlkL.refl _)))))))))
  | 2 => exact .cons (c _) (.cons (c _) (.cons (c _) (.cons (c _) (.cons (c _) (.cons (c _) (.cons h (AlkL.refl _)))))))
  | 3 => exact .cons (c _) (.cons (c _) (.cons (c _) (.cons (c _) (.cons h (AlkL.refl _)))))
  | 4 => exact .cons (c _) (.cons (c _) (.cons (c _) (.cons (c _) (.cons (c _) (.cons (c _) (.cons (c _) (.cons (c _) (.cons h (AlkL.refl _)))))))))
  | 5 => exact AlkL.refl _
  | 6 => exact AlkL.refl _
  | 7 => exact AlkL.refl _
  | 8 => exact AlkL.refl _
  | _ + 9 => exact AlkL.refl _
/-- what is due of a text -/
def dueO (at' D p d : Nat) : Oc := if at' < 5 then (if 150 < D then .word "numbers" else .fine) else if at' < 8 then (if 3 < p then .word "degree" else .fine) else (if 5 < d then .word "nesting" else .fine)
def sufI (its : List (List Nat)) : List (List Nat) := its ++ [[32], [93]]
def preI (its : List (List Nat)) : List (List Nat) := [wd "flush", [32], [125], [32]] ++ its
def dueS (its : List (List Nat)) (o : Oc) : Oc := if o = .fine then .pos (its.flatten.length + 1) else o
def chk (D p d at' : Nat) : Bool :=
  let its := txI (List.replicate D 49) p d at'
  goodB its && goodB (sufI its) && goodB (preI its) && decide (oc (parseM (itT its)) = dueO at' D p d) && decide (oc (parseM (itT (sufI its))) = dueS its (dueO at' D p d)) && decide (oc (parseM (itT (preI its))) = .pos 6) && decide ((itT (sufI its)).length ≤ 62) && decide ((itT (preI its)).length ≤ 62) && decide ((itT its).length ≤ 62) && decide (its.flatten.length ≤ 300)
set_option maxRecDepth 1000000 in
theorem chk_a : (List.range 5).all (fun a => (List.range 4).all fun D => chk (149 + D) 2 4 a) = true := by decide +kernel
set_option maxRecDepth 1000000 in
theorem chk_b : ((List.range 3).all fun a => (List.range 4).all fun p => chk 149 (2 + p) 4 (5 + a)) = true := by decide +kernel
set_option maxRecDepth 1000000 in
theorem chk_c : ((List.range 2).all fun a => (List.range 4).all fun d => chk 149 2 (4 + d) (8 + a)) = true := by decide +kernel

end K05

namespace K05
open PySem L2 SZ VR VX StX RT DE
/-! ### a text n times -/
def rMulS : R2 := fun x y H Q => ∃ (z : Str) (n : Int), x = .str z ∧ y = .int n ∧ MulOk z n ∧ Q (.str (Txt.mul z n)) H
theorem op_mulS {X : Cx} : OpR X (binaryOp .Mult) rMulS := by
  intro pins s σ H x y v u Q I rx ry h
  obtain ⟨z, n, rfl, rfl, hz, q⟩ := h
  obtain ⟨t, rfl⟩ := rx
  obtain ⟨t', rfl⟩ := ry
  exact SB.mul hz fun t' k => ⟨.str (Txt.mul z n), H, I.tok _, ⟨_, rfl⟩, q⟩
theorem or_mulS {X : Cx} {b : Bs} {z : Str} {n : Int} (hz : MulOk z n) : OVr X b (binaryOp .Mult) (.d (.str z)) (.d (.int n)) (.d (.str (Txt.mul z n))) := fun p h => ⟨_, op_mulS, fun v1 v2 H L Q hh k => by
  have e1 := hh.isS
  have e2 := hh.drop.isI
  subst e1 e2
  exact ⟨z, n, rfl, rfl, hz, k _ _ H h (hh.drop.drop.str _)⟩⟩
theorem mul_cps {z : Str} {m : Nat} : (Txt.mul z (m : Int)).cps.toList = (List.replicate m z.cps.toList).flatten := by
  have rep : ∀ (k : Nat) (acc : Array Nat), ((List.replicate k z.cps).foldl (· ++ ·) acc).toList = acc.toList ++ (List.replicate k z.cps.toList).flatten := by
    intro k
    induction k with
    | zero => intro acc; simp
    | succ k ih => intro acc; rw [List.replicate_succ, List.foldl_cons, ih, List.replicate_succ, List.flatten_cons, Array.toList_append, List.append_assoc]
  unfold Txt.mul
  by_cases h1 : (m : Int) < 1
  · rw [if_pos h1]
    have : m = 0 := by omega
    subst this
    rfl
  · rw [if_neg h1]
    split
    · rename_i hc
      rw [Bool.or_eq_true, beq_iff_eq, beq_iff_eq] at hc
      rcases hc with h | h
      · have : m = 1 := by omega
        subst this
        simp
      · have e : z.cps.toList = [] := List.eq_nil_of_length_eq_zero (by rw [Array.length_toList]; exact h)
        rw [e]
        simp
    · show ((List.replicate (Int.toNat m) z.cps).foldl (· ++ ·) #[]).toList = _
      rw [rep]
      simp
theorem app_cps (x y : Str) : (x ++ y).cps.toList = x.cps.toList ++ y.cps.toList := Array.toList_append
/-! ### the law's texts -/
def partS (p : Nat) : Str := Txt.join "*" (List.replicate p (Str.ofString "n"))
def loopsS (d : Nat) (z : Str) : Str := (Txt.mul "for i n { " d ++ z) ++ Txt.mul " }" d
def txF (n : Str) (p d : Nat) : Nat → Str
  | 0 => Str.ofString "array a " ++ n
  | 1 => (Str.ofString "array a n + " ++ n) ++ Str.ofString "*n"
  | 2 => (Str.ofString "for i - " ++ n) ++ Str.ofString " { }"
  | 3 => (Str.ofString "read a[" ++ n) ++ Str.ofString "*i]"
  | 4 => (Str.ofString "read a[i + " ++ n) ++ Str.ofString "]"
  | 5 => Str.ofString "array a " ++ partS p
  | 6 => (Str.ofString "read a[3*" ++ partS p) ++ Str.ofString "*i]"
  | 7 => (Str.ofString "for i 2 - " ++ partS p) ++ Str.ofString " { }"
  | 8 => loopsS d "flush"
  | _ => loopsS (d - 1) "for j n { read a[j] } flush"
def txS (n : Str) (p d : Nat) : List Str := [txF n p d 0, txF n p d 1, txF n p d 2, txF n p d 3, txF n p d 4, txF n p d 5, txF n p d 6, txF n p d 7, txF n p d 8, txF n p d 9]
theorem part_c : (List.range 4).all (fun p => decide ((partS (2 + p)).cps.toList = (partI (2 + p)).flatten) && decide ((partS (2 + p)).length ≤ 9)) = true := by decide +kernel
theorem part_ok {p : Nat} (h1 : 2 ≤ p) (h2 : p ≤ 5) : (partS p).cps.toList = (partI p).flatten ∧ (partS p).length ≤ 9 := by
  have h := List.all_eq_true.mp part_c (p - 2) (List.mem_range.mpr (by omega))
  rw [Bool.and_eq_true, decide_eq_true_iff, decide_eq_true_iff, show 2 + (p - 2) = p by omega] at h
  exact h
theorem flat_rep {α : Type} (m : Nat) (l : List (List α)) : ((List.replicate m l).flatten).flatten = (List.replicate m l.flatten).flatten := by
  induction m with
  | zero => rfl
  | succ m ih => rw [List.replicate_succ, List.flatten_cons, List.flatten_append, ih, List.replicate_succ, List.flatten_cons]
theorem loops_ok {d : Nat} {z : Str} {ins : List (List Nat)} (h : z.cps.toList = ins.flatten) : (loopsS d z).cps.toList = (loopsI d ins).flatten := by
  unfold loopsS loopsI
  rw [app_cps, app_cps, mul_cps, mul_cps, h, List.flatten_append, List.flatten_append, flat_rep, flat_rep]
  have e1 : ("for i n { " : Str).cps.toList = [wd "for", [32], [105], [32], [110], [32], [123], [32]].flatten := by decide +kernel
  have e2 : (" }" : Str).cps.toList = [[32], [125]].flatten := by decide +kernel
  rw [e1, e2]
theorem fl2 {a b : List (List Nat)} {x y : Str} (e1 : x.cps.toList = a.flatten) (e2 : y.cps.toList = b.flatten) : (x ++ y).cps.toList = (a ++ b).flatten := by rw [app_cps, e1, e2, List.flatten_append]
theorem tx_ok {n : Str} {p d : Nat} (h1 : 2 ≤ p) (h2 : p ≤ 5) (at' : Nat) : (txF n p d at').cps.toList = (txI n.cps.toList p d at').flatten := by
  obtain ⟨hp, _⟩ := part_ok h1 h2
  have nn : n.cps.toList = [n.cps.toList].flatten := by simp
  generalize hq : partS p = q at hp
  generalize hi : partI p = I at hp
  have l0 : (Str.ofString "array a ").cps.toList = [wd "array", [32], [97], [32]].flatten := by decide +kernel
  have l1 : (Str.ofString "array a n + ").cps.toList = [wd "array", [32], [97], [32], [110], [32], [43], [32]].flatten := by decide +kernel
  have l2 : (Str.ofString "for i - ").cps.toList = [wd "for", [32], [105], [32], [45], [32]].flatten := by decide +kernel
  have l3 : (Str.ofString "read a[").cps.toList = [wd "read", [32], [97], [91]].flatten := by decide +kernel
  have l4 : (Str.ofString "read a[i + ").cps.toList = [wd "read", [32], [97], [91], [105], [32], [43], [32]].flatten := by decide +kernel
  have l6 : (Str.ofString "read a[3*").cps.toList = [wd "read", [32], [97], [91], [51], [42]].flatten := by decide +kernel
  have l7 : (Str.ofString "for i 2 - ").cps.toList = [wd "for", [32], [105], [32], [50], [32], [45], [32]].flatten := by decide +kernel
  have r1 : (Str.ofString "*n").cps.toList = [[42], [110]].flatten := by decide +kernel
  have r2 : (Str.ofString " { }").cps.toList = [[32], [123], [32], [125]].flatten := by decide +kernel
  have r3 : (Str.ofString "*i]").cps.toList = [[42], [105], [93]].flatten := by decide +kernel
  have r4 : (Str.ofString "]").cps.toList = [[93]].flatten := by decide +kernel
  have s8 : (Str.ofString "flush").cps.toList = [wd "flush"].flatten := by decide +kernel
  have s9 : (Str.ofString "for j n { read a[j] } flush").cps.toList = [wd "for", [32], [106], [32], [110], [32], [123], [32], wd "read", [32], [97], [91], [106], [93], [32], [125], [32], wd "flush"].flatten := by decide +kernel
  match at' with
  | 0 => exact fl2 l0 nn
  | 1 => exact fl2 (fl2 l1 nn) r1
  | 2 => exact fl2 (fl2 l2 nn) r2
  | 3 => exact fl2 (fl2 l3 nn) r3
  | 4 => exact fl2 (fl2 l4 nn) r4
  | 5 => unfold txF txI; rw [hq, hi]; exact fl2 l0 hp
  | 6 => unfold txF txI; rw [hq, hi]; exact fl2 (fl2 l6 hp) r3
  | 7 => unfold txF txI; rw [hq, hi]; exact fl2 (fl2 l7 hp) r2
  | 8 => exact loops_ok s8
  | _ + 9 => exact loops_ok s9
theorem tx_len {n : Str} {p d : Nat} : (txS n p d).length = 10 := rfl
theorem mulS_ok {z : Str} {d : Nat} (hz : z.length ≤ 20) (hd : d ≤ 20) : MulOk z (d : Int) := PyProof.Rows.mulOk_of 20 20 hz (by omega) (by omega) (by decide) (by decide)
theorem mulS_len {z : Str} {d : Nat} (hz : z.length ≤ 20) (hd : d ≤ 20) : (Txt.mul z (d : Int)).length ≤ 400 := by
  have h := PyProof.Rows.len_mul z (d : Int)
  rw [if_neg (by simp)] at h
  have : z.length * d ≤ 20 * 20 := Nat.mul_le_mul hz hd
  have e : ((z.length * d : Nat) : Int) = (z.length : Int) * (d : Int) := Int.natCast_mul _ _
  omega
abbrev PreDu : List Sl → Prop := fun as => ∃ (a D p d : Nat), as = [.d (.int a), .d (.int D), .d (.int p), .d (.int d)]
def dueW (a D p d : Nat) : Str := if a < 5 then (if 150 < D then "numbers" else "fine") else if a < 8 then (if 3 < p then "degree" else "fine") else (if 5 < d then "nesting" else "fine")
abbrev ResDu : List Sl → Sl → Prop := fun as r => ∃ (a D p d : Nat), as = [.d (.int a), .d (.int D), .d (.int p), .d (.int d)] ∧ r = .d (.str (dueW a D p d))
abbrev PreLo : List Sl → Prop := fun as => ∃ (d : Nat) (z : Str), as = [.d (.int d), .d (.str z)] ∧ d ≤ 20 ∧ z.length ≤ 100
abbrev ResLo : List Sl → Sl → Prop := fun as r => ∃ (d : Nat) (z : Str), as = [.d (.int d), .d (.str z)] ∧ r = .d (.str (loopsS d z))
abbrev PreTx : List Sl → Prop := fun as => ∃ (n : Str) (p d : Nat), as = [.d (.str n), .d (.int p), .d (.int d)] ∧ n.length ≤ 200 ∧ 2 ≤ p ∧ p ≤ 5 ∧ 1 ≤ d ∧ d ≤ 20
abbrev ResTx : List Sl → Sl → Prop := fun as r => ∃ (n : Str) (p d : Nat), as = [.d (.str n), .d (.int p), .d (.int d)] ∧ r = .d (.list ((txS n p d).map .str))
theorem if_dec {p q : Prop} [Decidable p] [Decidable q] (h : p ↔ q) (x y : Str) : Sl.d (.str (if decide p = true then x else y)) = Sl.d (.str (if q then x else y)) := by
  by_cases hp : p
  · rw [if_pos (decide_eq_true hp), if_pos (h.mp hp)]
  · rw [if_neg (by rw [decide_eq_true_iff]; exact hp), if_neg fun z => hp (h.mpr z)]
section
variable {P : Program} {w : World} {K : PySem.W.Frag} {mg : Str → Option Value} {base : Heap}
theorem t_due {f : Addr} {fd : FuncData} (F : Fun K "_law_due" "_law_due" S_law_due f fd) : FnOk P w K mg base CX0 1 f fd ["_law_at", "_law_digits", "_law_powers", "_law_deep"] (spP K PreDu ResDu) := by
  refine fn_P F sc_law_due (fun as h => ?_) (by decide) fun cdv A outer s H E hr b as hp => ?_
  · obtain ⟨a, D, p, d, rfl⟩ := h; rfl
  obtain ⟨a, D, p, d, rfl⟩ := hp
  show XB _ _ [.d (.int a), .d (.int D), .d (.int p), .d (.int d)] _ _
  refine xb_cons (x_if (t_cmp (r_var 0 rfl (by walk_at "v") rfl) r_int (by walk_at "o")) (fun h0 => ?_) (fun h0 => ?_))
  · have h0 : (a : Int) < 5 := of_decide_eq_true h0
    refine xb_one (x_ret (r_ifS (x := "numbers") (y := "fine") (t_cmp (r_var 1 rfl (by walk_at "v") rfl) r_int (by walk_at "o")) (fun _ => r_str) (fun _ => r_str)) ?_)
    refine ⟨⟨a, D, p, d, rfl, ?_⟩, nofun⟩
    rw [show dueW a D p d = if 150 < D then Str.ofString "numbers" else Str.ofString "fine" from if_pos (show a < 5 by omega)]
    exact if_dec (by omega) _ _
  · have h0 : ¬ (a : Int) < 5 := of_decide_eq_false h0
    refine xb_nil (fun _ => ?_)
    refine xb_cons (x_if (t_cmp (r_var 0 rfl (by walk_at "v") rfl) r_int (by walk_at "o")) (fun h1 => ?_) (fun h1 => ?_))
    · have h1 : (a : Int) < 8 := of_decide_eq_true h1
      refine xb_one (x_ret (r_ifS (x := "degree") (y := "fine") (t_cmp (r_var 2 rfl (by walk_at "v") rfl) r_int (by walk_at "o")) (fun _ => r_str) (fun _ => r_str)) ?_)
      refine ⟨⟨a, D, p, d, rfl, ?_⟩, nofun⟩
      rw [show dueW a D p d = if 3 < p then Str.ofString "degree" else Str.ofString "fine" from (if_neg (show ¬ a < 5 by omega)).trans (if_pos (show a < 8 by omega))]
      exact if_dec (by omega) _ _
    · have h1 : ¬ (a : Int) < 8 := of_decide_eq_false h1
      refine xb_nil (fun _ => ?_)
      refine xb_one (x_ret (r_ifS (x := "nesting") (y := "fine") (t_cmp (r_var 3 rfl (by walk_at "v") rfl) r_int (by walk_at "o")) (fun _ => r_str) (fun _ => r_str)) ?_)
      refine ⟨⟨a, D, p, d, rfl, ?_⟩, nofun⟩
      rw [show dueW a D p d = if 5 < d then Str.ofString "nesting" else Str.ofString "fine" from (if_neg (show ¬ a < 5 by omega)).trans (if_neg (show ¬ a < 8 by omega))]
      exact if_dec (by omega) _ _
theorem t_loops {f : Addr} {fd : FuncData} (F : Fun K "_law_loops" "_law_loops" S_law_loops f fd) : FnOk P w K mg base CX0 1 f fd ["_law_deep", "_law_inside"] (spP K PreLo ResLo) := by
  refine fn_P F sc_law_loops (fun as h => ?_) (by decide) fun cdv A outer s H E hr b as hp => ?_
  · obtain ⟨d, z, rfl, _⟩ := h; rfl
  obtain ⟨d, z, rfl, hd, hz⟩ := hp
  show XB _ _ [.d (.int d), .d (.str z)] _ _
  have l1 := mulS_len (z := "for i n { ") (d := d) (by decide +kernel) hd
  have l2 := mulS_len (z := " }") (d := d) (by decide +kernel) hd
  refine xb_one (x_ret (r_bin (r_bin (r_bin r_str (r_var 0 rfl (by walk_at "v") rfl) (or_mulS (mulS_ok (by decide +kernel) hd))) (r_var 1 rfl (by walk_at "v") rfl) (or_addS (by rw [sizeLine_eq]; omega))) (r_bin r_str (r_var 0 rfl (by walk_at "v") rfl) (or_mulS (mulS_ok (by decide +kernel) hd))) (or_addS (by rw [sizeLine_eq, Str.length_append]; omega))) ?_)
  exact ⟨⟨d, z, rfl, rfl⟩, nofun⟩
theorem t_texts {f : Addr} {fd : FuncData} (F : Fun K "_law_texts" "_law_texts" S_law_texts f fd) (CL : CalP P w K mg base CX0 "_law_loops" 1 PreLo ResLo) : FnOk P w K mg base CX0 2 f fd ["_law_number", "_law_powers", "_law_deep"] (spP K PreTx ResTx) := by
  refine fn_P F sc_law_texts (fun as h => ?_) (by decide) fun cdv A outer s H E hr b as hp => ?_
  · obtain ⟨n, p, d, rfl, _⟩ := h; rfl
  obtain ⟨n, p, d, rfl, hn, hp1, hp2, hd1, hd2⟩ := hp
  show XB _ _ [.d (.str n), .d (.int p), .d (.int d), .un, .un, .un] _ _
  obtain ⟨_, lp⟩ := part_ok hp1 hp2
  have lit : ∀ {x y : Str}, x.length ≤ 40 → y.length ≤ 300 → x.length + y.length ≤ sizeLine := fun h1 h2 => by rw [sizeLine_eq]; omega
  have lit2 : ∀ {x y z : Str}, x.length ≤ 40 → y.length ≤ 300 → z.length ≤ 40 → (x ++ y).length + z.length ≤ sizeLine := fun h1 h2 h3 => by rw [sizeLine_eq, Str.length_append]; omega
  have cat : ∀ {xs ys : List PyData}, xs.length ≤ 100 → ys.length ≤ 100 → xs.length + ys.length ≤ sizeLine := fun h1 h2 => by rw [sizeLine_eq]; omega
  refine xb_cons (x_set 3 (r := .d (.str (partS p))) (r_join (ys := List.replicate p (Str.ofString "n")) r_str (r_bin (r_lst (a_cons r_str a_nil) rfl) (r_var 1 rfl (by walk_at "v") rfl) (or_rep (by omega) (by omega) (by rw [sizeLine_eq]; simp; omega))) (.inl (by
    have e : (List.replicate (Int.toNat (p : Int)) [PyData.str (Str.ofString "n")]).flatten = (List.replicate p (Str.ofString "n")).map .str := by rw [Int.toNat_natCast, List.flatten_replicate_singleton, List.map_replicate]
    exact congrArg (fun l => Sl.d (.list l)) e)) (by
    have e : (Str.ofString "n").length = 1 := by decide +kernel
    have e2 : (Str.ofString "*").length = 1 := by decide +kernel
    rw [List.map_replicate, List.sum_replicate_nat, List.length_replicate, e, e2]
    omega)) rfl (by walk_at "v") sc_law_texts.nd rfl (fun _ => ?_))
  refine xb_cons (x_set 4 (r_cool (r_lst (a_cons (r_bin r_str (r_var 0 rfl (by walk_at "v") rfl) (or_addS (lit (by decide +kernel) (by omega)))) (a_cons (r_bin (r_bin r_str (r_var 0 rfl (by walk_at "v") rfl) (or_addS (lit (by decide +kernel) (by omega)))) r_str (or_addS (lit2 (by decide +kernel) (by omega) (by decide +kernel)))) (a_cons (r_bin (r_bin r_str (r_var 0 rfl (by walk_at "v") rfl) (or_addS (lit (by decide +kernel) (by omega)))) r_str (or_addS (lit2 (by decide +kernel) (by omega) (by decide +kernel)))) a_nil))) rfl)) rfl (by walk_at "v") sc_law_texts.nd rfl (fun _ => ?_))
  refine xb_cons (x_set 4 (r_cool (r_bin (r_var 4 rfl (by walk_at "v") rfl) (r_lst (a_cons (r_bin (r_bin r_str (r_var 0 rfl (by walk_at "v") rfl) (or_addS (lit (by decide +kernel) (by omega)))) r_str (or_addS (lit2 (by decide +kernel) (by omega) (by decide +kernel)))) (a_cons (r_bin (r_bin r_str (r_var 0 rfl (by walk_at "v") rfl) (or_addS (lit (by decide +kernel) (by omega)))) r_str (or_addS (lit2 (by decide +kernel) (by omega) (by decide +kernel)))) (a_cons (r_bin r_str (r_var 3 rfl (by walk_at "v") rfl) (or_addS (lit (by decide +kernel) (by omega)))) a_nil))) rfl) (or_catS rfl rfl (cat (by simp) (by simp))))) rfl (by walk_at "v") sc_law_texts.nd rfl (fun _ => ?_))
  refine xb_cons (x_set 4 (r_cool (r_bin (r_var 4 rfl (by walk_at "v") rfl) (r_lst (a_cons (r_bin (r_bin r_str (r_var 3 rfl (by walk_at "v") rfl) (or_addS (lit (by decide +kernel) (by omega)))) r_str (or_addS (lit2 (by decide +kernel) (by omega) (by decide +kernel)))) (a_cons (r_bin (r_bin r_str (r_var 3 rfl (by walk_at "v") rfl) (or_addS (lit (by decide +kernel) (by omega)))) r_str (or_addS (lit2 (by decide +kernel) (by omega) (by decide +kernel)))) a_nil)) rfl) (or_catS rfl rfl (cat (by simp) (by simp))))) rfl (by walk_at "v") sc_law_texts.nd rfl (fun _ => ?_))
  refine xb_cons (x_set 5 r_str rfl (by walk_at "v") sc_law_texts.nd rfl (fun _ => ?_))
  have ed : (d : Int) - 1 = ((d - 1 : Nat) : Int) := by omega
  refine xb_one (x_ret (r_cool (r_bin (r_var 4 rfl (by walk_at "v") rfl) (r_lst (a_cons (r_cal CL (hr.mono (by omega)) pass0 (a_cons (r_var 2 rfl (by walk_at "v") rfl) (a_cons r_str a_nil)) rfl ⟨d, "flush", rfl, hd2, by decide +kernel⟩ (r := .d (.str (loopsS d "flush"))) (fun r' h => by obtain ⟨d', z', e1, rfl⟩ := h; cases e1; rfl)) (a_cons (r_cal CL (hr.mono (by omega)) pass0 (a_cons (r_bin (r_var 2 rfl (by walk_at "v") rfl) r_int (by walk_at "o")) (a_cons (r_var 5 rfl (by walk_at "v") rfl) a_nil)) rfl ⟨d - 1, "for j n { read a[j] } flush", by rw [← ed]; rfl, by omega, by decide +kernel⟩ (r := .d (.str (loopsS (d - 1) "for j n { read a[j] } flush"))) (fun r' h => by obtain ⟨d', z', e1, rfl⟩ := h; rw [ed] at e1; cases e1; rfl)) a_nil)) rfl) (or_catS rfl rfl (cat (by simp) (by simp))))) ?_)
  exact ⟨⟨n, p, d, rfl, rfl⟩, nofun⟩
end

end K05

namespace K05
open PySem L2 SZ VR VX StX RT DE
/-! ### what is heard of a call -/
theorem Takes.len {X : Cx} {W : WX} {n : Nat} (hn : X.N.length = n) (tk : Takes X W) : Takes X (fun cls d σ H => σ.length = n → W cls d σ H) := fun u s' ⟨a, B, sI, pins, σ, H, cls, d, e, I, nb, up, sky, na, os, ag, w⟩ =>
  tk u s' ⟨a, B, sI, pins, σ, H, cls, d, e, I, nb, up, sky, na, os, ag, w (I.len.trans hn)⟩
theorem oxc_xf {K : PySem.W.Frag} {C : Addr} (T : OxC K C) : XfC K C := ⟨T.ga, T.gg, T.ex, T.hd⟩
def ShowOk (d : PyData) : Prop := d.showable = true ∧ d.hasDict = false ∧ d.depth ≤ 8 ∧ d.shown.length ≤ sizeLine
/-- what the call may let out, and what is heard of it -/
def EHd (K : PySem.W.Frag) (CV CS CT : Addr) (Q : VK) : XK := fun cls dd H' => ∃ d, dd = some d ∧
  ((∃ w : Str, cls = .ref CT ∧ H' d = some (.xd [("word", .str w)]) ∧ Q (.str w) H') ∨ (∃ p : Int, cls = .ref CS ∧ H' d = some (.xd [("position", .int p)]) ∧ Q (.int p) H') ∨
   (∃ v y, cls = .ref CV ∧ H' d = some (.xd [("value", v)]) ∧ Dp K H' v y ∧ ShowOk y ∧ ∀ q, H' q = none → Q (.ref q) (upd H' q (.lst [.str "text", .str y.shown]))))
def TTh (K : PySem.W.Frag) (CV CS CT : Addr) : (XK → Hp → VK → Prop) → Hp → VK → Prop := fun tl H Q => tl (EHd K CV CS CT Q) H fun _ H' => Q (.str "fine") H'
abbrev tsW (CT : Addr) (f : Str) : Addr → Value → Option Addr → TS := fun a cls d => tRet (tXf a cls d CT f (tVar 1))
abbrev tsR (K : PySem.W.Frag) (CI : Addr) (w : Str) : Addr → Value → Option Addr → TS := fun a cls d => tRet (tLst (tCons (tC (.str w)) (tCons (tCB (rReprD K) (tCons (tXf a cls d CI "value" (tVar 1)) tNil)) tNil)))
structure HdK (K : PySem.W.Frag) (mg : Str → Option Value) (CV CS CT : Addr) : Prop where
  rep : mg "repr" = none
  mV : mg "InvalidText" = some (.ref CV)
  mS : mg "InvalidSyntax" = some (.ref CS)
  mT : mg "TooLarge" = some (.ref CT)
  TV : OxC K CV
  TS : OxC K CS
  TT : OxC K CT
  nV : PySem.W.findIn K (.ref CV) "value" = some none
  nS : PySem.W.findIn K (.ref CS) "position" = some none
  nT : PySem.W.findIn K (.ref CT) "word" = some none
  ex : ∀ i j : Nat, i < 3 → j < 3 → PySem.W.exmOne K (.ref (([CT, CS, CV] : List Addr).getD i CV)) (.ref (([CT, CS, CV] : List Addr).getD j CV)) = some (decide (i = j))
theorem heard_gives {X : Cx} {g : Addr} {cdg : Value} {q : Str} {CV CS CT : Addr} {k : Nat} (Z : HdK X.K X.mg CV CS CT) (gd : X.A.guards = some []) (hr : Room (k + 1) X.A) :
    LamX.GivesTo X ["_law_call", "e"] "_law_heard" (defScope S_law_heard) g cdg (defBody S_law_heard) "_law_call" q (TTh X.K CV CS CT) := by
  intro f c' s H Q tl act hc h
  have hu : ((X.A.deeper (PyProof.Rows.envOfC "_law_heard" (defScope S_law_heard) s.heap.objs.size g cdg))).units + 64 < cLine := (hr.deeper _).units
  refine ⟨_, pss_one (ps_try_asMany (Y := (cxOf C8.CX0 X.prog X.w X.K X.mg X.base ["_law_call", "e"] "_law_heard" (defScope S_law_heard) g cdg X.A X.stack s H C8.E0).nox) (Wo := fun _ _ _ _ => False) (l := [(.ref CT, 1, tsW CT "word"), (.ref CS, 1, tsW CS "position"), (.ref CV, 1, tsR X.K CV "text")])
      (tb := fun W D σ H => ∃ Ech : XK, (∀ cls d σ' H', Ech cls d H' → σ'.length = 2 → W cls d σ' H') ∧ σ[0]? = some (some (.ref f)) ∧ H c' = some (LamX.CodeO c' q) ∧ tl Ech H fun _ H' => D.rt (.str "fine") H')
      rfl rfl sc_law_heard.nd LamX.takes0 (fun W pn xe tk _ => ?_)
      (.cons (n := "e") rfl rfl ⟨rfl, by decide, .inl Z.mT⟩ (fun a oe cls d pn hz hf => pss_one (ps_ret (pe_xf (oxc_xf Z.TT) Z.nT hz hf (pv 1))))
      (.cons (n := "e") rfl rfl ⟨rfl, by decide, .inl Z.mS⟩ (fun a oe cls d pn hz hf => pss_one (ps_ret (pe_xf (oxc_xf Z.TS) Z.nS hz hf (pv 1))))
      (.cons (n := "e") rfl rfl ⟨rfl, by decide, .inl Z.mV⟩ (fun a oe cls d pn hz hf => pss_one (ps_ret (pe_lst (pa_cons pe_str (pa_cons (pe_callB (call_reprD (by exact gd) (by exact hu)) (by rfl) Z.rep (by decide +kernel) (pa_cons (pe_xf (oxc_xf Z.TV) Z.nV hz hf (pv 1)) pa_nil)) pa_nil))))) .nil)))), ?_⟩
  · refine ⟨fun pins s' σ H' D I h' => ?_⟩
    obtain ⟨Ech, hW, h1, h2, h3⟩ := h'
    exact (pss_cons (ps_expr (act (fun cls d σ H => σ.length = 2 → W cls d σ H) pn xe Ech _ _ (Takes.len rfl tk) hW)) (pss_one (ps_ret pe_str))).run pins s' σ H' D I ⟨h1, h2, h3⟩
  · have e00 := Z.ex 0 0 (by decide) (by decide)
    have e10 := Z.ex 1 0 (by decide) (by decide)
    have e11 := Z.ex 1 1 (by decide) (by decide)
    have e20 := Z.ex 2 0 (by decide) (by decide)
    have e21 := Z.ex 2 1 (by decide) (by decide)
    have e22 := Z.ex 2 2 (by decide) (by decide)
    refine ⟨EHd X.K CV CS CT Q, fun cls dd σ H' he hl => ?_, rfl, hc, h⟩
    obtain ⟨d, rfl, he⟩ := he
    rcases he with ⟨w, rfl, hd, k⟩ | ⟨p, rfl, hd, k⟩ | ⟨v, y, rfl, hd, hv, sh, k⟩
    · refine ⟨true, e00, fun _ a ha => ?_, fun z => nomatch z⟩
      exact ⟨.ref a, by rw [List.getElem?_set_self (by omega)], rfl, rfl, d, _, _, rfl, hd, rfl, k⟩
    · refine ⟨false, e10, (fun z => nomatch z), fun _ => ⟨true, e11, fun _ a ha => ?_, fun z => nomatch z⟩⟩
      exact ⟨.ref a, by rw [List.getElem?_set_self (by omega)], rfl, rfl, d, _, _, rfl, hd, rfl, k⟩
    · refine ⟨false, e20, (fun z => nomatch z), fun _ => ⟨false, e21, (fun z => nomatch z), fun _ => ⟨true, e22, fun _ a ha => ?_, fun z => nomatch z⟩⟩⟩
      exact ⟨.ref a, by rw [List.getElem?_set_self (by omega)], rfl, rfl, d, _, v, rfl, hd, rfl, v, y, rfl, hv, sh.1, sh.2.1, sh.2.2.1, sh.2.2.2, small_line (by simp), fun p hp => k p hp⟩
/-! ### x(lambda: D(e)) -/
/-- what a door does at one value -/
def DoorT (CS CT : Addr) (sp : Sp) (z : Str) (o : Oc) : Prop := ∀ H Q E, (match o with | .fine => ∀ x H', Same H H' → Q x H' | .pos p => OutS CS H p E | .word w => OutT CT H w E) → sp [.str z] H Q E
def ocD : Oc → PyData
  | .fine => .str "fine"
  | .pos p => .int (p : Int)
  | .word w => .str w
theorem var_at {K : PySem.W.Frag} {b : Bs} {H : Hp} {σ : L2.St} {ρ : List Sl} {L : List Cl} {i : Nat} {y : PyData} (hh : Hold K b H (σ.zip ρ ++ L)) (l : σ.length = ρ.length) (hr : ρ[i]? = some (.d y)) : ∃ v, σ[i]? = some (some v) ∧ Dp K H v y := by
  obtain ⟨x', hx, hm⟩ := zip_mem l hr
  obtain ⟨G, hg⟩ := hh
  obtain ⟨v, e, hv'⟩ := hg.ok _ (List.mem_append_left _ hm)
  subst e
  exact ⟨v, hx, Dp.keep hg.up hv'⟩
theorem var_str {K : PySem.W.Frag} {b : Bs} {H : Hp} {σ : L2.St} {ρ : List Sl} {L : List Cl} {i : Nat} {y : Str} (hh : Hold K b H (σ.zip ρ ++ L)) (l : σ.length = ρ.length) (hr : ρ[i]? = some (.d (.str y))) : σ[i]? = some (some (.str y)) := by
  obtain ⟨v, e, h⟩ := var_at hh l hr
  cases h
  exact e
/-- the text told, the outcome heard -/
theorem told_T {K : PySem.W.Frag} {b : Bs} {H1 : Hp} {L : List Cl} {CV CS CT : Addr} {sp : Sp} {z : Str} {o : Oc} {Q : VK} (D : DoorT CS CT sp z o) (hh : Hold K b H1 L) (q : ∀ v H', Hold K b H' ((some v, .d (ocD o)) :: L) → Q v H') : sp [.str z] H1 (fun _ H' => Q (.str "fine") H') (EHd K CV CS CT Q) := by
  refine D _ _ _ ?_
  cases o with
  | fine => exact fun x H' s => q _ _ ((hh.same s).str _)
  | pos p => exact fun d H' s e => ⟨d, rfl, .inr (.inl ⟨p, rfl, e, q _ _ ((hh.same s).int _)⟩)⟩
  | word w => exact fun d H' s e => ⟨d, rfl, .inl ⟨w, rfl, e, q _ _ ((hh.same s).str _)⟩⟩
/-- what the law knows of heard -/
structure HdL (X : Cx) (CV CS CT c P : Addr) : Prop where
  Z : HdK X.K X.mg CV CS CT
  gd : X.A.guards = some []
  hr : Room 28 X.A
  TB : LamX.TabB X.base X.mg c P
  code : X.env.code = .ref c
  qual : X.env.qual ++ "<lambda>" = lamQ
  gl : Gl X "_law_heard"
  heard : ∃ f fd, Fun X.K "_law_heard" "_law_heard" S_law_heard f fd ∧ X.mg "_law_heard" = some (.ref f) ∧ Binds X.K fd ["_law_call"] []
section
variable {X : Cx} {CV CS CT c P : Addr}
theorem pe_heard (h : HdL X CV CS CT c P) {params : Arguments} {body : Expr} {scope : Scope} {t : XK → TE} {p lpos pos : Pos} (L : LamX.LamS X.env.scope scope) (hdef : defaultsOf params X.env = ([], []))
    (hbind : ∀ (q : Str) (cl : List (Str × Addr)) (pm cv ctv : Value), bindArgs (PySem.W.kla_fn "<lambda>" q params body scope cl pm cv ctv) ⟨[], []⟩ = pure [])
    (hbody : ∀ (A : Around) (outer : List Env) (s : Shared) (H : Hp) (E : XK) (f c' : Addr), Room 26 (A.deeper (LamX.lamEnv X scope s.heap.objs.size f c')) → PE (LamX.lamCx X A outer s H E scope f c') body (t E)) :
    PE X (.Call (.Name "_law_heard" p) [.Lambda params body scope lpos] [] pos) (LamX.tLam [(P, lamQ)] (TTh X.K CV CS CT) t) := by
  obtain ⟨f, fd, F, hm, hb⟩ := h.heard
  obtain ⟨oc, od, kV, doc, pm, an, cdv, ct, osl, rfl, lk, hcd⟩ := F.ex
  have hq := h.qual
  exact LamX.pe_lamcall (a := "_law_call") (Ng := ["_law_call", "e"]) h.gl hm F.kp lk hcd hb sc_law_heard rfl (Or.inl rfl) (heard_gives (k := 27) h.Z h.gd h.hr) h.TB h.code (by rw [hq]; exact List.mem_singleton.mpr rfl) (fun p' hp _ => by rw [List.mem_singleton.mp hp, hq]) h.hr L hdef hbind hbody
/-- heard(lambda: D(e)), e a text -/
theorem r_heardS (h : HdL X CV CS CT c P) {b : Bs} {ρ : List Sl} (lb : LamB b P) {params : Arguments} {e : Expr} {scope : Scope} {te : TE} {D : Str} {p lpos pos p1 cp : Pos} {z : Str} {o : Oc} {sp : Sp} {fD : Addr} {fdD : FuncData}
    (G : FnOk X.prog X.w X.K X.mg X.base (L2.CX X.prog X.w) 26 fD fdD ["text"] sp) (dt : DoorT CS CT sp z o) (mD : X.mg D = some (.ref fD)) (kD : PySem.W.keepIn X.K (.ref fD) = true) (bD : Binds X.K fdD ["text"] [])
    (L : LamX.LamS X.env.scope scope) (he : ∀ (A : Around) (outer : List Env) (s : Shared) (H : Hp) (E : XK) (f c' : Addr), PE (LamX.lamCx X A outer s H E scope f c') e te)
    (ht : ∀ (σ : L2.St) (H : Hp) (L : List Cl) (Q : VK), σ.length = ρ.length → Hold X.K b H (σ.zip ρ ++ L) → Q (.str z) H → te σ H Q) (hgl : scope.names.lookup D = some .globalImplicit)
    (hdb : (D == ("__debug__" : Str)) = false := by decide) (hs : ∀ env : Env, starEach [e] env = (false, eval e env) :: starEach [] env := by intro _; rfl) (hpl : ∀ env : Env, (backTo cp (starEach [] env)).any (·.1) = false := by intro _; rfl)
    (hdef : defaultsOf params X.env = ([], []) := by rfl)
    (hbind : ∀ (q : Str) (cl : List (Str × Addr)) (pm cv ctv : Value), bindArgs (PySem.W.kla_fn "<lambda>" q params (.Call (.Name D p1) [e] [] cp) scope cl pm cv ctv) ⟨[], []⟩ = pure [] := by intro _ _ _ _ _; rfl) :
    EVr X b ρ (.Call (.Name "_law_heard" p) [.Lambda params (.Call (.Name D p1) [e] [] cp) scope lpos] [] pos) (.d (ocD o)) :=
  r_lam lb (pe_heard h (t := fun E => tCall sp [] E (tCons te tNil)) L hdef hbind fun A outer s H E f c' hr =>
    pe_call (X := LamX.lamCx X A outer s H E scope f c') G hr (by exact hgl) mD kD bD .nil (passes_call (takes_of rfl rfl rfl rfl) (fun _ _ _ _ h => h)) (pa_cons (he A outer s H E f c') pa_nil (hs _)) hdb (hs _) (hpl _))
    fun σ H1 L Q l hh q => ht σ H1 L _ l hh (told_T dt hh q)
/-- heard(lambda: door(odd)) -/
def DoorO (K : PySem.W.Frag) (CV : Addr) (sp : Sp) : Prop := ∀ H Q E v y, Dp K H v y → isS y = false → OutV CV H v E → sp [v] H Q E
theorem r_heardO (h : HdL X CV CS CT c P) {b : Bs} {ρ : List Sl} (lb : LamB b P) {params : Arguments} {scope : Scope} {p lpos pos p1 p2 cp : Pos} {y : PyData} {sp : Sp} {fD : Addr} {fdD : FuncData}
    (G : FnOk X.prog X.w X.K X.mg X.base (L2.CX X.prog X.w) 26 fD fdD ["text"] sp) (dt : DoorO X.K CV sp) (kD : PySem.W.keepIn X.K (.ref fD) = true) (bD : Binds X.K fdD ["text"] []) (hy : isS y = false) (sh : ShowOk y)
    (L : LamX.LamS X.env.scope scope) (i j : Nat) (hi : X.N[i]? = some "_law_odd") (hj : X.N[j]? = some "_law_door") (vi : Vis scope "_law_odd") (vj : Vis scope "_law_door") (si : ρ[i]? = some (.d y)) (sj : ∀ (σ : L2.St) (H : Hp) (L : List Cl), σ.length = ρ.length → Hold X.K b H (σ.zip ρ ++ L) → σ[j]? = some (some (.ref fD)))
    (hdef : defaultsOf params X.env = ([], []) := by rfl)
    (hbind : ∀ (q : Str) (cl : List (Str × Addr)) (pm cv ctv : Value), bindArgs (PySem.W.kla_fn "<lambda>" q params (.Call (.Name "_law_door" p1) [.Name "_law_odd" p2] [] cp) scope cl pm cv ctv) ⟨[], []⟩ = pure [] := by intro _ _ _ _ _; rfl) :
    EVr X b ρ (.Call (.Name "_law_heard" p) [.Lambda params (.Call (.Name "_law_door" p1) [.Name "_law_odd" p2] [] cp) scope lpos] [] pos) (.own [.str "text", .str y.shown]) :=
  r_lam lb (pe_heard h (t := fun E => tCallL j fD sp [] E (tCons (tVar i) tNil)) L hdef hbind fun A outer s H E f c' hr =>
    pe_callL (X := LamX.lamCx X A outer s H E scope f c') (i := j) G hr (by exact hj) (by exact vj) kD bD .nil (passes_call (takes_of rfl rfl rfl rfl) (fun _ _ _ _ h => h)) (pa_cons (pv i (by exact hi) (by exact vi)) pa_nil (by rfl)) (by decide) (by decide) (by rfl) (by rfl))
    fun σ H1 L Q l hh q => by
      obtain ⟨v, e, hv⟩ := var_at hh l si
      refine ⟨sj σ H1 L l hh, v, e, dt _ _ _ v y hv hy fun d H' s ed => ⟨d, rfl, .inr (.inr ⟨v, y, rfl, ed, Dp.keep s hv, sh, fun q' hq' => ?_⟩)⟩⟩
      obtain ⟨G', hG⟩ := hh
      refine q _ _ ⟨G', (hG.same s).newL hq' (.cons (.str _) (.cons (.str _) .nil))⟩
end

end K05

namespace K05
open PySem L2 SZ VR VX StX RT DE
/-! ### what is due of the law's texts -/
def chkI (its : List (List Nat)) (o : Oc) : Bool := goodB its && goodB (sufI its) && goodB (preI its) && decide (oc (parseM (itT its)) = o) && decide (oc (parseM (itT (sufI its))) = dueS its o) && decide (oc (parseM (itT (preI its))) = .pos 6) && decide ((itT (sufI its)).length ≤ 62) && decide ((itT (preI its)).length ≤ 62) && decide ((itT its).length ≤ 62) && decide (its.flatten.length ≤ 300)
theorem chk_eq (D p d a : Nat) : chk D p d a = chkI (txI (List.replicate D 49) p d a) (dueO a D p d) := rfl
theorem chk_at {D p d a : Nat} (h1 : 149 ≤ D) (h2 : D ≤ 152) (h3 : 2 ≤ p) (h4 : p ≤ 5) (h5 : 4 ≤ d) (h6 : d ≤ 7) (ha : a < 10) : chkI (txI (List.replicate D 49) p d a) (dueO a D p d) = true := by
  by_cases a5 : a < 5
  · have h := List.all_eq_true.mp (List.all_eq_true.mp chk_a a (List.mem_range.mpr a5)) (D - 149) (List.mem_range.mpr (by omega))
    rw [show 149 + (D - 149) = D by omega, chk_eq] at h
    have e1 : txI (List.replicate D 49) p d a = txI (List.replicate D 49) 2 4 a := by
      match a, a5 with
      | 0, _ => rfl
      | 1, _ => rfl
      | 2, _ => rfl
      | 3, _ => rfl
      | 4, _ => rfl
      | k + 5, h => omega
    have e2 : dueO a D p d = dueO a D 2 4 := by unfold dueO; rw [if_pos a5, if_pos a5]
    rw [e1, e2]
    exact h
  by_cases a8 : a < 8
  · have h := List.all_eq_true.mp (List.all_eq_true.mp chk_b (a - 5) (List.mem_range.mpr (by omega))) (p - 2) (List.mem_range.mpr (by omega))
    rw [show 2 + (p - 2) = p by omega, show 5 + (a - 5) = a by omega, chk_eq] at h
    have e1 : txI (List.replicate D 49) p d a = txI (List.replicate 149 49) p 4 a := by
      match a, a5, a8 with
      | 0, h, _ => omega
      | 1, h, _ => omega
      | 2, h, _ => omega
      | 3, h, _ => omega
      | 4, h, _ => omega
      | 5, _, _ => rfl
      | 6, _, _ => rfl
      | 7, _, _ => rfl
      | k + 8, _, h => omega
    have e2 : dueO a D p d = dueO a 149 p 4 := by unfold dueO; rw [if_neg a5, if_neg a5, if_pos a8, if_pos a8]
    rw [e1, e2]
    exact h
  · have h := List.all_eq_true.mp (List.all_eq_true.mp chk_c (a - 8) (List.mem_range.mpr (by omega))) (d - 4) (List.mem_range.mpr (by omega))
    rw [show 4 + (d - 4) = d by omega, show 8 + (a - 8) = a by omega, chk_eq] at h
    have e1 : txI (List.replicate D 49) p d a = txI (List.replicate 149 49) 2 d a := by
      have : a = 8 ∨ a = 9 := by omega
      rcases this with rfl | rfl <;> rfl
    have e2 : dueO a D p d = dueO a 149 2 d := by unfold dueO; rw [if_neg a5, if_neg a5, if_neg a8, if_neg a8]
    rw [e1, e2]
    exact h
theorem rep_num : (List.range 4).all (fun D => isN (List.replicate (149 + D) 49)) = true := by decide +kernel
/-- a number of the law -/
structure NumD (n : Str) (D : Nat) : Prop where
  is : isN n.cps.toList = true
  len : n.length = D
  lo : 149 ≤ D
  hi : D ≤ 152
theorem NumD.alk {n : Str} {D : Nat} (h : NumD n D) : AlkT n.cps.toList (List.replicate D 49) := by
  have k := List.all_eq_true.mp rep_num (D - 149) (List.mem_range.mpr (by have := h.hi; have := h.lo; omega))
  rw [show 149 + (D - 149) = D by have := h.lo; omega] at k
  exact .inr ⟨h.is, k, by rw [List.length_replicate, Array.length_toList]; exact h.len⟩
theorem out_of {z : Str} {its its0 : List (List Nat)} (e : z.cps.toList = its.flatten) (k : AlkL its its0) (g : goodB its0 = true) (hl : (itT its0).length ≤ 62) (hf : its0.flatten.length ≤ 400) : z.length ≤ 50000 ∧ I64 (tokz z) ∧ oc (parseM (tokz z)) = oc (parseM (itT its0)) ∧ oc (parseSizeM (tokz z)) = oc (parseSizeM (itT its0)) := by
  have A := k.alk
  have et := tokz_items (k.good (good_b g)) e
  have el : z.length = its0.flatten.length := by
    rw [← k.flat, ← e, Array.length_toList]
    rfl
  rw [et]
  exact ⟨by omega, i64_few (by rw [A.len]; exact hl), (parse_sim A).oc, (parseSize_sim A).oc⟩
theorem tx_due {n z : Str} {D p d a : Nat} (h : NumD n D) (h3 : 2 ≤ p) (h4 : p ≤ 5) (h5 : 4 ≤ d) (h6 : d ≤ 7) (ha : a < 10) (hz : z = txF n p d a) :
    (z.length ≤ 300) ∧ (z.length ≤ 50000 ∧ I64 (tokz z) ∧ oc (parseM (tokz z)) = dueO a D p d) ∧ ((z ++ Str.ofString " ]").length ≤ 50000 ∧ I64 (tokz (z ++ Str.ofString " ]")) ∧ oc (parseM (tokz (z ++ Str.ofString " ]"))) = if dueO a D p d = .fine then .pos (z.length + 1) else dueO a D p d) ∧
      ((Str.ofString "flush } " ++ z).length ≤ 50000 ∧ I64 (tokz (Str.ofString "flush } " ++ z)) ∧ oc (parseM (tokz (Str.ofString "flush } " ++ z))) = .pos 6) := by
  have c := chk_at h.lo h.hi h3 h4 h5 h6 ha
  have e : z.cps.toList = (txI n.cps.toList p d a).flatten := hz ▸ tx_ok h3 h4 a
  have k := tx_alk h.alk p d a
  generalize dueO a D p d = o at c ⊢
  generalize txI n.cps.toList p d a = its at e k
  generalize txI (List.replicate D 49) p d a = its0 at c k
  unfold chkI at c
  simp only [Bool.and_eq_true, decide_eq_true_iff] at c
  obtain ⟨⟨⟨⟨⟨⟨⟨⟨⟨g1, g2⟩, g3⟩, o1⟩, o2⟩, o3⟩, l2⟩, l3⟩, l1⟩, lf⟩ := c
  have el : z.length = its0.flatten.length := by
    rw [← k.flat, ← e, Array.length_toList]
    rfl
  have r1 := out_of e k g1 l1 (by omega)
  have e2 : (z ++ Str.ofString " ]").cps.toList = (sufI its).flatten := fl2 e (by decide +kernel)
  have k2 : AlkL (sufI its) (sufI its0) := k.app (AlkL.refl _)
  have r2 := out_of e2 k2 g2 l2 (by unfold sufI; rw [List.flatten_append, List.length_append]; have : ([[32], [93]] : List (List Nat)).flatten.length = 2 := rfl; omega)
  have e3 : (Str.ofString "flush } " ++ z).cps.toList = (preI its).flatten := fl2 (by decide +kernel) e
  have k3 : AlkL (preI its) (preI its0) := (AlkL.refl _).app k
  have r3 := out_of e3 k3 g3 l3 (by unfold preI; rw [List.flatten_append, List.length_append]; have : ([wd "flush", [32], [125], [32]] : List (List Nat)).flatten.length = 8 := by decide +kernel
                                    omega)
  refine ⟨by omega, ⟨r1.1, r1.2.1, r1.2.2.1.trans o1⟩, ⟨r2.1, r2.2.1, r2.2.2.1.trans (o2.trans ?_)⟩, ⟨r3.1, r3.2.1, r3.2.2.1.trans o3⟩⟩
  unfold dueS
  rw [el]
def chkN (D : Nat) : Bool :=
  let N := List.replicate D 49
  goodB [N] && goodB [[110], [42], N] && goodB [wd "for", [32], N] && decide (oc (parseSizeM (itT [N])) = dueO 0 D 2 4) && decide (oc (parseSizeM (itT [[110], [42], N])) = .pos 2) && decide (oc (parseM (itT [wd "for", [32], N])) = .pos 4)
set_option maxRecDepth 1000000 in
theorem chk_n : (List.range 4).all (fun D => chkN (149 + D)) = true := by decide +kernel
theorem num_due {n : Str} {D : Nat} (h : NumD n D) : (n.length ≤ 50000 ∧ oc (parseSizeM (tokz n)) = dueO 0 D 2 4) ∧ ((Str.ofString "n*" ++ n).length ≤ 50000 ∧ oc (parseSizeM (tokz (Str.ofString "n*" ++ n))) = .pos 2) ∧
    ((Str.ofString "for " ++ n).length ≤ 50000 ∧ I64 (tokz (Str.ofString "for " ++ n)) ∧ oc (parseM (tokz (Str.ofString "for " ++ n))) = .pos 4) := by
  have c := List.all_eq_true.mp chk_n (D - 149) (List.mem_range.mpr (by have := h.hi; have := h.lo; omega))
  rw [show 149 + (D - 149) = D by have := h.lo; omega] at c
  have nn : n.cps.toList = [n.cps.toList].flatten := by simp
  have a := h.alk
  have hi := h.hi
  unfold chkN at c
  simp only [Bool.and_eq_true, decide_eq_true_iff] at c
  have hN : (List.replicate D 49).length = D := List.length_replicate
  generalize List.replicate D 49 = N at c a hN
  obtain ⟨⟨⟨⟨⟨g1, g2⟩, g3⟩, o1⟩, o2⟩, o3⟩ := c
  have few : ∀ l : List (List Nat), l.length ≤ 3 → ∀ k, (itemToks l k).length ≤ l.length := by
    intro l _
    induction l with
    | nil => intro k; exact Nat.le_refl _
    | cons x l ih =>
      intro k
      unfold itemToks
      rw [List.length_append, List.length_cons]
      have := ih (by simp at *; omega) (k + x.length)
      split
      · simp; omega
      · simp; omega
  have it3 : ∀ l : List (List Nat), l.length ≤ 3 → (itT l).length ≤ 62 := fun l hl => by
    unfold itT
    rw [List.length_append]
    have := few l hl 0
    simp
    omega
  have r1 := out_of (z := n) (its := [n.cps.toList]) (its0 := [N]) nn (.cons a .nil) g1 (it3 _ (by simp)) (by simp; omega)
  have r2 := out_of (z := Str.ofString "n*" ++ n) (its := [[110], [42], n.cps.toList]) (its0 := [[110], [42], N]) (fl2 (a := [[110], [42]]) (by decide +kernel) nn) (.cons (.inl rfl) (.cons (.inl rfl) (.cons a .nil))) g2 (it3 _ (by simp)) (by simp; omega)
  have r3 := out_of (z := Str.ofString "for " ++ n) (its := [wd "for", [32], n.cps.toList]) (its0 := [wd "for", [32], N]) (fl2 (a := [wd "for", [32]]) (by decide +kernel) nn) (.cons (.inl rfl) (.cons (.inl rfl) (.cons a .nil))) g3 (it3 _ (by simp)) (by
    have : (wd "for").length = 3 := by decide +kernel
    simp [this]; omega)
  exact ⟨⟨r1.1, r1.2.2.2.trans o1⟩, ⟨r2.1, r2.2.2.2.trans o2⟩, ⟨r3.1, r3.2.1, r3.2.2.1.trans o3⟩⟩
def nestI : List (List Nat) := (List.replicate 9 [wd "for", [32], [105], [32], [110], [32], [123]]).flatten
def nestZ : Str := Txt.mul (Str.ofString "for i n {") ((9 : Nat) : Int)
set_option maxRecDepth 1000000 in
theorem chk_z : (decide (nestZ.cps.toList = nestI.flatten) && goodB nestI && decide ((itT nestI).length ≤ 62) && decide (nestI.flatten.length ≤ 400) && decide (oc (parseM (itT nestI)) = .word "nesting")) = true := by decide +kernel
theorem nest_due : nestZ.length ≤ 50000 ∧ I64 (tokz nestZ) ∧ oc (parseM (tokz nestZ)) = .word "nesting" := by
  have c := chk_z
  simp only [Bool.and_eq_true, decide_eq_true_iff] at c
  obtain ⟨⟨⟨⟨e, g⟩, l⟩, f⟩, o⟩ := c
  have r := out_of e (AlkL.refl _) g l f
  exact ⟨r.1, r.2.1, r.2.2.1.trans o⟩
def nsZ : Str := Txt.mul (Str.ofString "n") ((20 : Nat) : Int)
set_option maxRecDepth 1000000 in
theorem chk_y : (decide (nsZ.cps.toList = ([List.replicate 20 110] : List (List Nat)).flatten) && goodB [List.replicate 20 110] && decide ((itT [List.replicate 20 110]).length ≤ 62) && decide (oc (parseM (itT [List.replicate 20 110])) = .pos 0)) = true := by decide +kernel
theorem ns_due : nsZ.length ≤ 50000 ∧ I64 (tokz nsZ) ∧ oc (parseM (tokz nsZ)) = .pos 0 := by
  have c := chk_y
  simp only [Bool.and_eq_true, decide_eq_true_iff] at c
  obtain ⟨⟨⟨e, g⟩, l⟩, o⟩ := c
  have r := out_of e (AlkL.refl _) g l (by decide)
  exact ⟨r.1, r.2.1, r.2.2.1.trans o⟩
theorem ocD_due (a D p d : Nat) : ocD (dueO a D p d) = .str (dueW a D p d) := by
  unfold dueO dueW
  split
  · split <;> rfl
  · split
    · split <;> rfl
    · split <;> rfl
theorem due_fine (a D p d : Nat) : dueO a D p d = .fine ↔ dueW a D p d = "fine" := by
  have n1 : ("numbers" : Str) ≠ "fine" := by decide +kernel
  have n2 : ("degree" : Str) ≠ "fine" := by decide +kernel
  have n3 : ("nesting" : Str) ≠ "fine" := by decide +kernel
  unfold dueO dueW
  split
  · split
    · exact ⟨nofun, fun h => absurd h n1⟩
    · exact ⟨fun _ => rfl, fun _ => rfl⟩
  · split
    · split
      · exact ⟨nofun, fun h => absurd h n2⟩
      · exact ⟨fun _ => rfl, fun _ => rfl⟩
    · split
      · exact ⟨nofun, fun h => absurd h n3⟩
      · exact ⟨fun _ => rfl, fun _ => rfl⟩
/-! ### the doors -/
theorem endsZ_of {α : Type} {CS CT : Addr} {H : Hp} {val : α → Hp → V → Prop} {r : Res α} {Q : VK} {E : XK} {o : Oc} (h : match o with | .fine => ∀ x H', Same H H' → Q x H' | .pos p => OutS CS H p E | .word w => OutT CT H w E) (e : oc r = o) : EndsZ CS CT H val r Q E := by
  subst e
  cases r with
  | ok v k => exact fun x H' s _ => h x H' s
  | syn p => exact h
  | big w => exact h
theorem door_parse {K : PySem.W.Frag} {CV CS CT : Addr} {z : Str} {o : Oc} (h : z.length ≤ 50000 ∧ I64 (tokz z) ∧ oc (parseM (tokz z)) = o) : DoorT CS CT (spParse K CV CS CT) z o := fun H Q E q => ⟨.str z, rfl, .inl ⟨z, rfl, h.1, h.2.1, endsZ_of q h.2.2⟩⟩
def spParseSize (K : PySem.W.Frag) (CV CS CT : Addr) : Sp := fun vs H Q E => ∃ v, vs = [v] ∧ ((∃ z : Str, v = .str z ∧ z.length ≤ 50000 ∧ EndsZ CS CT H (fun xs H' x => ∃ t : Addr, x = .ref t ∧ SqT K H' t (iz xs)) (parseSizeM (tokz z)) Q E) ∨
  ∃ t, TyX K H v t ∧ PySem.W.kitOne K t (.type "str") = some false ∧ OutV CV H v E)
theorem door_size {K : PySem.W.Frag} {CV CS CT : Addr} {z : Str} {o : Oc} (h : z.length ≤ 50000 ∧ oc (parseSizeM (tokz z)) = o) : DoorT CS CT (spParseSize K CV CS CT) z o := fun H Q E q => ⟨.str z, rfl, .inl ⟨z, rfl, h.1, endsZ_of q h.2⟩⟩
def spParseBlock (K : PySem.W.Frag) (CV CS CT : Addr) : Sp := fun vs H Q E => ∃ v, vs = [v] ∧ ((∃ z : Str, v = .str z ∧ z.length ≤ 50000 ∧ I64 (tokz z) ∧ EndsZ CS CT H (BlkV K) (parseBlockM (tokz z)) Q E) ∨
  ∃ t, TyX K H v t ∧ PySem.W.kitOne K t (.type "str") = some false ∧ OutV CV H v E)
theorem odd_parse {K : PySem.W.Frag} {CV CS CT : Addr} : DoorO K CV (spParse K CV CS CT) := fun H Q E v y hv hy q => ⟨v, rfl, .inr ⟨.type (tyD y), dp_ty hv, by rw [kitS, hy], q⟩⟩
theorem odd_size {K : PySem.W.Frag} {CV CS CT : Addr} : DoorO K CV (spParseSize K CV CS CT) := fun H Q E v y hv hy q => ⟨v, rfl, .inr ⟨.type (tyD y), dp_ty hv, by rw [kitS, hy], q⟩⟩
theorem odd_block {K : PySem.W.Frag} {CV CS CT : Addr} : DoorO K CV (spParseBlock K CV CS CT) := fun H Q E v y hv hy q => ⟨v, rfl, .inr ⟨.type (tyD y), dp_ty hv, by rw [kitS, hy], q⟩⟩

end K05

namespace K05
open PySem L2 SZ VR VX StX RT DE
section
variable {P : Program} {w : World} {K : PySem.W.Frag} {mg : Str → Option Value} {base : Heap} {C CV CS CT : Addr}
theorem ok_parse_size {f : Addr} {fd : FuncData} (F : Fun K "parse_size" "parse_size" S_parse_size f fd) (W : PzS P w K mg base C CV CS CT) : FnOk P w K mg base (L2.CX P w) 26 f fd ["text"] (spParseSize K CV CS CT) := by
  have V' := W.V'
  have Y := V'.Y
  have Z := Y.Z
  obtain ⟨fS, dS, gS, kS, bS, GS⟩ := V'.size
  obtain ⟨fR, dR, gR, kR, bR, GR⟩ := W.rd
  obtain ⟨fE, dE, ME, bE, GE⟩ := W.fin
  refine F.okX sc_parse_size (fun vs H Q E h => ?_) (fun cdv A outer s H vs Q E hr h => ?_)
  · obtain ⟨v, rfl, _⟩ := h; rfl
  · obtain ⟨v, rfl, q⟩ := h
    have hr3 : Room 3 _ := hr.mono (by decide)
    have hr5 : Room 5 _ := hr.mono (by decide)
    have hr7 : Room 7 _ := hr.mono (by decide)
    refine ⟨_, pss_cons (ps_set (i := 1) sc_parse_size.nd rfl (Or.inl rfl) (pe_call GR hr5 (by rfl) gR kR bR .nil (passes_call (takes_of rfl rfl rfl rfl) (fun _ _ _ _ h => h)) (pa_cons (pv 0) pa_nil)))
      (pss_cons (ps_set (i := 2) sc_parse_size.nd rfl (Or.inl rfl) (pe_call GS hr7 (by rfl) gS kS bS .nil (passes_call (takes_of rfl rfl rfl rfl) (fun _ _ _ _ h => h)) (pa_cons (pv 1) pa_nil)))
      (pss_cons (ps_expr (pe_meth0 (pv 1) Z.kit.cl ME GE hr3 bE .nil (passes_call (takes_of rfl rfl rfl rfl) (fun _ _ _ _ h => h))))
      (pss_one (ps_ret (pv 2))))), ?_⟩
    rcases q with ⟨z, rfl, hz, q⟩ | ⟨t, ty, kt, q⟩
    rotate_left
    · exact ⟨_, rfl, v, rfl, .inr ⟨t, ty, kt, q⟩⟩
    refine ⟨_, rfl, .str z, rfl, .inl ⟨z, rfl, hz, fun R H1 hR0 s1 h1 => ?_⟩⟩
    have hS : Snt (tokz z) := snt_toks hz
    have hk0 : 0 < (tokz z).length := by unfold tokz; rw [List.length_append, List.length_singleton]; omega
    generalize tokz z = ts at h1 hS hk0 q
    have q0 := EndsZ.but (C := C) (ts := ts) q hR0 s1
    clear q
    have q := q0
    clear q0
    refine ⟨_, rfl, R, ts, 0, rfl, h1, hk0, hS, ?_⟩
    unfold parseSizeM at q
    cases hm : sizeM ts 0 with
    | syn p => rw [hm] at q; exact q
    | big w => rw [hm] at q; exact q
    | ok sz j =>
      rw [hm] at q
      have q : Ends' C CS CT R H1 ts (fun xs H' x => ∃ t : Addr, x = .ref t ∧ SqT K H' t (iz xs)) (if tk ts j = [] then .ok sz j else .syn (ps ts j)) Q E := q
      rintro x H2 h2 hkj b2 ⟨tz, rfl, hz2⟩
      have q := Ends'.but q b2
      obtain ⟨dx2, l2, hR2, _⟩ := id h2
      by_cases hE : tk ts j = []
      · rw [if_pos hE] at q
        refine ⟨_, rfl, R, dx2, _, rfl, hR2, rfl, R, ts, j, _, rfl, h2, at_tk hkj, .inl ⟨hE, ?_⟩⟩
        exact ⟨_, rfl, q _ H2 h2 hkj (ButR.of (Same.refl _)) ⟨tz, rfl, hz2⟩⟩
      · rw [if_neg hE] at q
        refine ⟨_, rfl, R, dx2, _, rfl, hR2, rfl, R, ts, j, _, rfl, h2, at_tk hkj, .inr ⟨hE, q⟩⟩
end
section
variable {P : Program} {w : World} {K : PySem.W.Frag} {mg : Str → Option Value} {base : Heap} {C CV CS CT : Addr}
theorem ok_parse_block {f : Addr} {fd : FuncData} (F : Fun K "parse_block" "parse_block" S_parse_block f fd) (W : PzS P w K mg base C CV CS CT) : FnOk P w K mg base (L2.CX P w) 26 f fd ["text"] (spParseBlock K CV CS CT) := by
  have V' := W.V'
  have Y := V'.Y
  have Z := Y.Z
  obtain ⟨fB, dB, gB, kB, bB, GB⟩ := W.blk
  obtain ⟨fR, dR, gR, kR, bR, GR⟩ := W.rd
  obtain ⟨fE, dE, ME, bE, GE⟩ := W.fin
  refine F.okX sc_parse_block (fun vs H Q E h => ?_) (fun cdv A outer s H vs Q E hr h => ?_)
  · obtain ⟨v, rfl, _⟩ := h; rfl
  · obtain ⟨v, rfl, q⟩ := h
    have hr3 : Room 3 _ := hr.mono (by decide)
    have hr5 : Room 5 _ := hr.mono (by decide)
    refine ⟨_, pss_cons (ps_set (i := 1) sc_parse_block.nd rfl (Or.inl rfl) (pe_call GR hr5 (by rfl) gR kR bR .nil (passes_call (takes_of rfl rfl rfl rfl) (fun _ _ _ _ h => h)) (pa_cons (pv 0) pa_nil)))
      (pss_cons (ps_set (i := 2) sc_parse_block.nd rfl (Or.inl rfl) (pe_call GB hr (by rfl) gB kB bB .nil (passes_call (takes_of rfl rfl rfl rfl) (fun _ _ _ _ h => h)) (pa_cons (pv 1) (pa_cons pe_int pa_nil))))
      (pss_cons (ps_expr (pe_meth0 (pv 1) Z.kit.cl ME GE hr3 bE .nil (passes_call (takes_of rfl rfl rfl rfl) (fun _ _ _ _ h => h))))
      (pss_one (ps_ret (pv 2))))), ?_⟩
    rcases q with ⟨z, rfl, hz, hI, q⟩ | ⟨t, ty, kt, q⟩
    rotate_left
    · exact ⟨_, rfl, v, rfl, .inr ⟨t, ty, kt, q⟩⟩
    refine ⟨_, rfl, .str z, rfl, .inl ⟨z, rfl, hz, fun R H1 hR0 s1 h1 => ?_⟩⟩
    have hS : Snt (tokz z) := snt_toks hz
    have hk0 : 0 < (tokz z).length := by unfold tokz; rw [List.length_append, List.length_singleton]; omega
    generalize tokz z = ts at h1 hS hk0 hI q
    have q0 := EndsZ.but (C := C) (ts := ts) q hR0 s1
    clear q
    have q := q0
    clear q0
    refine ⟨_, rfl, R, ts, 0, ts.length, rfl, h1, hk0, hS, hI, by omega, ?_⟩
    unfold parseBlockM at q
    cases hm : blockM ts ts.length 0 0 .nil with
    | syn p => rw [hm] at q; exact q
    | big w => rw [hm] at q; exact q
    | ok b j =>
      rw [hm] at q
      have q : Ends' C CS CT R H1 ts (BlkV K) (if tk ts j = [] then .ok b j else .syn (ps ts j)) Q E := q
      rintro x H2 h2 hkj b2 ⟨tb, ub, rfl, htb, hbk⟩
      have q := Ends'.but q b2
      obtain ⟨dx2, l2, hR2, _⟩ := id h2
      by_cases hE : tk ts j = []
      · rw [if_pos hE] at q
        refine ⟨_, rfl, R, dx2, _, rfl, hR2, rfl, R, ts, j, _, rfl, h2, at_tk hkj, .inl ⟨hE, ?_⟩⟩
        exact ⟨_, rfl, q _ H2 h2 hkj (ButR.of (Same.refl _)) ⟨tb, ub, rfl, htb, hbk⟩⟩
      · rw [if_neg hE] at q
        refine ⟨_, rfl, R, dx2, _, rfl, hR2, rfl, R, ts, j, _, rfl, h2, at_tk hkj, .inr ⟨hE, q⟩⟩
end

end K05

namespace K05
open PySem L2 SZ VR VX StX RT DE
theorem joinL_ones : ∀ cs : List Nat, TL.joinL [] (cs.map fun c => [c]) = cs
  | [] => rfl
  | [c] => rfl
  | c :: d :: r => by
    have ih := joinL_ones (d :: r)
    show [c] ++ ([] ++ TL.joinL [] ((d :: r).map fun c => [c])) = _
    rw [ih]
    rfl
theorem join_ones (cs : List Nat) : Txt.join Str.empty (cs.map fun c => (⟨#[c]⟩ : Str)) = ⟨cs.toArray⟩ := by
  have e : (cs.map fun c => (⟨#[c]⟩ : Str)) = (cs.map fun c => [c]).map SX.S := by
    rw [List.map_map]
    rfl
  rw [e]
  have := SX.join_S [] (cs.map fun c => [c])
  rw [joinL_ones] at this
  exact this

/-! ### the law -/
theorem enD_some {ys : List PyData} {i : Nat} {y : PyData} (h : (enD ys)[i]? = some y) : ∃ x, ys[i]? = some x ∧ y = .tuple [.int (i : Nat), x] := by
  have hi : i < ys.length := by
    have := (List.getElem?_eq_some_iff.mp h).1
    rwa [enD_len] at this
  have hx : ys[i]? = some ys[i] := List.getElem?_eq_getElem hi
  rw [enD_at hx] at h
  cases h
  exact ⟨_, hx, rfl⟩
theorem ones_len : ∀ cs : List Nat, ((cs.map fun c => (⟨#[c]⟩ : Str)).map (·.length)).sum = cs.length
  | [] => rfl
  | c :: cs => by
    have := ones_len cs
    rw [List.map_cons, List.map_cons, List.sum_cons, this, List.length_cons]
    show 1 + cs.length = _
    omega
theorem dueW_0 (D p d p' d' : Nat) : dueW 0 D p d = dueW 0 D p' d' := by
  have h : (0 : Nat) < 5 := by decide
  unfold dueW
  rw [if_pos h, if_pos h]
structure Door (P : Program) (w : World) (K : PySem.W.Frag) (mg : Str → Option Value) (base : Heap) (x : Str) (sp : Sp) (f : Addr) (fd : FuncData) : Prop where
  F : FnOk P w K mg base (L2.CX P w) 26 f fd ["text"] sp
  m : mg x = some (.ref f)
  k : PySem.W.keepIn K (.ref f) = true
  b : Binds K fd ["text"] []
structure LwD (P : Program) (w : World) (K : PySem.W.Frag) (mg : Str → Option Value) (base : Heap) (CV CS CT c T fP fZ fB : Addr) (dP dZ dB : FuncData) : Prop where
  Z : HdK K mg CV CS CT
  TB : LamX.TabB base mg c T
  heard : ∃ f fd, Fun K "_law_heard" "_law_heard" S_law_heard f fd ∧ mg "_law_heard" = some (.ref f) ∧ Binds K fd ["_law_call"] []
  pool : CalP P w K mg base CX0 "_law_pool" 1 PreP ResP
  take : CalB P w K mg base CX0 "_law_take" 1 PreT ResT
  texts : CalP P w K mg base CX0 "_law_texts" 2 PreTx ResTx
  due : CalP P w K mg base CX0 "_law_due" 1 PreDu ResDu
  parse : Door P w K mg base "parse" (spParse K CV CS CT) fP dP
  size : Door P w K mg base "parse_size" (spParseSize K CV CS CT) fZ dZ
  block : Door P w K mg base "parse_block" (spParseBlock K CV CS CT) fB dB
  rng : mg "range" = none
  enum : mg "enumerate" = none
  len : mg "len" = none
  max : mg "max" = none
  min : mg "min" = none
  rep : mg "repr" = none
def oddsD : List PyData := [.none, .int 5, .list [.str "n"], .tuple [.str "n"], .bool true]
def txtD (y : PyData) : PyData := .list [.str "text", .str y.shown]
theorem odd_all : ∀ y ∈ oddsD, isS y = false ∧ ShowOk y ∧ PyData.eqv (txtD y) (txtD y) = true ∧ SeqAt.shaped (txtD y) = true := by
  intro y hy
  simp only [oddsD, List.mem_cons, List.not_mem_nil, or_false] at hy
  rcases hy with rfl | rfl | rfl | rfl | rfl <;> exact ⟨rfl, ⟨by decide +kernel, by decide +kernel, by decide +kernel, by decide +kernel⟩, by decide +kernel, by decide +kernel⟩
theorem ne_eqv {y : PyData} (h : PyData.eqv y y = true) (k : (!PyData.eqv y y) = true) : False := by
  rw [h] at k
  cases k
theorem ocD_eqv (o : Oc) : PyData.eqv (ocD o) (ocD o) = true := by
  cases o with
  | fine => decide +kernel
  | pos p => show decide (((p : Nat) : Int) = p) = true; exact decide_eq_true rfl
  | word w => show decide (w = w) = true; exact decide_eq_true rfl
def OcOk : Oc → Prop
  | .word w => PyData.strOk w = true
  | _ => True
theorem ocD_shp {o : Oc} (h : OcOk o) : SeqAt.shaped (ocD o) = true := by
  cases o with
  | fine => decide +kernel
  | pos p => rfl
  | word w =>
    have h : PyData.strOk w = true := h
    simp [ocD, SeqAt.shaped, PyData.canLay0, PyData.depth, h]
theorem due_ok (a D p d : Nat) : OcOk (dueO a D p d) := by
  unfold dueO
  split
  · split
    · show PyData.strOk "numbers" = true; decide +kernel
    · trivial
  · split
    · split
      · show PyData.strOk "degree" = true; decide +kernel
      · trivial
    · split
      · show PyData.strOk "nesting" = true; decide +kernel
      · trivial
theorem list10 (F : Nat → Str) {a : Nat} {z : Str} (h : [F 0, F 1, F 2, F 3, F 4, F 5, F 6, F 7, F 8, F 9][a]? = some z) : a < 10 ∧ z = F a := by
  match a, h with
  | 0, h => exact ⟨by decide, (Option.some.inj h).symm⟩
  | 1, h => exact ⟨by decide, (Option.some.inj h).symm⟩
  | 2, h => exact ⟨by decide, (Option.some.inj h).symm⟩
  | 3, h => exact ⟨by decide, (Option.some.inj h).symm⟩
  | 4, h => exact ⟨by decide, (Option.some.inj h).symm⟩
  | 5, h => exact ⟨by decide, (Option.some.inj h).symm⟩
  | 6, h => exact ⟨by decide, (Option.some.inj h).symm⟩
  | 7, h => exact ⟨by decide, (Option.some.inj h).symm⟩
  | 8, h => exact ⟨by decide, (Option.some.inj h).symm⟩
  | 9, h => exact ⟨by decide, (Option.some.inj h).symm⟩
  | k + 10, h => exact absurd (List.getElem?_eq_some_iff.mp h).1 (by simp)
theorem txS_at {n z : Str} {p d a : Nat} (h : (txS n p d)[a]? = some z) : a < 10 ∧ z = txF n p d a := list10 (txF n p d) (by unfold txS at h; exact h)
theorem dig_at : ∀ j < 9, atI (Str.ofString "123456789").cps.toList ((j : Nat) : Int) = some (49 + j) := by decide +kernel
theorem isN_of {cs : List Nat} (hne : cs ≠ []) (h : ∀ c ∈ cs, 49 ≤ c ∧ c ≤ 57) : isN cs = true := by
  obtain ⟨c, r, rfl⟩ := List.exists_cons_of_ne_nil hne
  have h0 := h c List.mem_cons_self
  unfold isN
  rw [Bool.and_eq_true]
  refine ⟨?_, List.all_eq_true.mpr fun x hx => ?_⟩
  · rw [decide_eq_false (show ¬ c = 48 by omega)]
    rfl
  · rw [dg_iff]
    have := h x hx
    simp only [Bool.and_eq_true, decide_eq_true_eq]
    omega
theorem suf_eqv {o : Oc} {W : Str} {k : Nat} (e : ocD o = .str W) (hf : o = .fine ↔ W = "fine") (ho : OcOk o) : PyData.eqv (ocD (if o = .fine then .pos (k + 1) else o)) (if decide (W = "fine") = true then .int ((k : Int) + 1) else .str W) = true ∧ OcOk (if o = .fine then .pos (k + 1) else o) ∧ SeqAt.shaped (if decide (W = "fine") = true then PyData.int ((k : Int) + 1) else .str W) = true := by
  by_cases h : o = .fine
  · rw [if_pos h, if_pos (decide_eq_true (hf.mp h))]
    exact ⟨decide_eq_true (show (((k + 1 : Nat)) : Int) = (k : Int) + 1 by omega), trivial, rfl⟩
  · rw [if_neg h, if_neg (by rw [decide_eq_true_iff]; exact fun z => h (hf.mpr z)), ← e]
    exact ⟨ocD_eqv o, ho, ocD_shp ho⟩
section
variable {P : Program} {w : World} {K : PySem.W.Frag} {mg : Str → Option Value} {base : Heap} {CV CS CT c T fP fZ fB : Addr} {dP dZ dB : FuncData}
theorem run_law {f : Addr} {fd : FuncData} (F : Fun K "law" "law" S_law f fd) (hc : fd.code = .ref c) (D : LwD P w K mg base CV CS CT c T fP fZ fB dP dZ dB) : RunG P w K mg base CX0 29 f fd ["_law_script"] (spL K T) := by
  refine fn_PL F sc_law hc (by decide) fun A outer s H E hg hr b ns lb hn => ?_
  have gd : (A.deeper (PyProof.Rows.envOfC "law" (defScope S_law) s.heap.objs.size f (.ref c))).guards = some [] := hg
  have hu := hr.units
  have hr1 := hr.mono (show 1 ≤ 28 by decide)
  have hr2 := hr.mono (show 2 ≤ 28 by decide)
  have h : HdL (cxOf CX0 P w K mg base ["_law_script", "_law_odd", "_law_door", "_law_k", "_law_pool_here", "_law_digits", "_law_powers", "_law_deep", "_law_number", "_law_at", "_law_text", "_law_due_here", "_law_turn"] "law" (defScope S_law) f (.ref c) A outer s H E).nox CV CS CT c T :=
    ⟨D.Z, gd, hr, D.TB, rfl, (show (Str.ofString "law" ++ Str.ofString ".<locals>.") ++ Str.ofString "<lambda>" = lamQ by decide +kernel), rfl, D.heard⟩
  show XB _ _ [.d (.list (ns.map .int)), .un, .un, .un, .un, .un, .un, .un, .un, .un, .un, .un, .un] _ _
  refine xb_cons (xs_for (ts := [1]) PassesOwn.never rfl (by intro _; rfl) ((i_list (r_lst (a_cons r_non (a_cons r_int (a_cons (r_lst (a_cons r_str a_nil) rfl) (a_cons (r_tup (a_cons r_str a_nil) rfl) (a_cons r_bl a_nil))))) rfl) rfl) _ fun _ => ?_))
  refine ⟨fun i ρ' => ∃ s1 s2, ρ' = [.d (.list (ns.map .int)), s1, s2, .un, .un, .un, .un, .un, .un, .un, .un, .un, .un], ⟨_, _, rfl⟩, ?_, ?_⟩
  · rintro i y ρ' hy hl ⟨s1, s2, rfl⟩
    obtain ⟨o1, o2, o3, o4⟩ := odd_all y (List.mem_of_getElem? hy)
    refine (g_name 1 rfl (.inr rfl) sc_law.nd rfl) _ fun _ => ?_
    show XB _ _ [.d (.list (ns.map .int)), .d y, s2, .un, .un, .un, .un, .un, .un, .un, .un, .un, .un] _ _
    refine xb_one (xs_forR (ts := [2]) (xs := [.ref fP, .ref fZ, .ref fB]) PassesOwn.never rfl (by intro _; rfl) (r_lstR (vs := [.ref fP, .ref fZ, .ref fB]) (a_cons (r_fnG D.parse.m rfl) (a_cons (r_fnG D.size.m rfl) (a_cons (r_fnG D.block.m rfl) a_nil)))) (fun j ρ' => ∃ s2, ρ' = [.d (.list (ns.map .int)), .d y, s2, .un, .un, .un, .un, .un, .un, .un, .un, .un, .un]) ⟨_, rfl⟩ ?_ ?_)
    · rintro j x ρ' hx hl2 ⟨s2, rfl⟩
      refine (g_name (r := VF x) 2 rfl (.inr rfl) sc_law.nd rfl) _ fun _ => ?_
      show XB _ _ [.d (.list (ns.map .int)), .d y, VF x, .un, .un, .un, .un, .un, .un, .un, .un, .un, .un] _ _
      have hx' : ∃ fD dD n sp, x = .ref fD ∧ Door P w K mg base n sp fD dD ∧ DoorO K CV sp := by
        match j, hx with
        | 0, hx => cases hx; exact ⟨_, _, _, _, rfl, D.parse, odd_parse⟩
        | 1, hx => cases hx; exact ⟨_, _, _, _, rfl, D.size, odd_size⟩
        | 2, hx => cases hx; exact ⟨_, _, _, _, rfl, D.block, odd_block⟩
        | k + 3, hx => simp at hx
      obtain ⟨fD, dD, n, sp, rfl, DD, dt⟩ := hx'
      refine xb_one (x_if (t_cmp (r_heardO h lb DD.F dt DD.k DD.b o1 o2 (LamX.lamS_by (sc := defScope S_law) (by decide +kernel)) 1 2 rfl rfl (by walk_at "v") (by walk_at "v") rfl (fun σ H L l hh => var_F hh l rfl)) (r_lst (a_cons r_str (a_cons (r_repr gd hu D.rep (r_var 1 rfl (by walk_at "v") rfl) o2.1 o2.2.1 o2.2.2.1 o2.2.2.2) a_nil)) rfl) (or_neD (by exact hu) rfl rfl o4 o4)) (fun hh => (ne_eqv o3 hh).elim) (fun _ => xb_nil ⟨_, rfl⟩))
    · rintro ρ' ⟨s2, rfl⟩
      exact ⟨_, _, rfl⟩
  rintro ρ' ⟨s1, s2, rfl⟩ hl
  have hk : ∃ m : Int, 1 ≤ m ∧ m ≤ 6 ∧ m = (if (if (6 : Int) < ((ns.map PyData.int).length : Int) then 6 else ((ns.map PyData.int).length : Int)) > 1 then (if (6 : Int) < ((ns.map PyData.int).length : Int) then 6 else ((ns.map PyData.int).length : Int)) else 1) := by
    refine ⟨_, ?_, ?_, rfl⟩
    · split <;> omega
    · split <;> (try split) <;> omega
  obtain ⟨m, m1, m6, em⟩ := hk
  refine xb_cons (xs_for (ts := [3]) PassesOwn.never rfl (by intro _; rfl) ((i_range D.rng (r_callB (id := "max") D.max (a_cons r_int (a_cons (r_callB (id := "min") D.min (a_cons (r_callB (id := "len") D.len (a_cons (r_var 0 rfl (by walk_at "v") rfl) a_nil) (by walk_at "c")) (a_cons r_int a_nil)) (cr_min2 rfl)) a_nil)) (cr_max2 rfl)) (by rw [← em]; omega) (by rw [← em]; omega)) _ fun _ => ?_))
  rw [← em]
  refine ⟨fun i ρ' => ∃ s1 s2 s3 s4 s5 s6 s7 s8 s9 s10 s11, ρ' = [.d (.list (ns.map .int)), s1, s2, s3, s4, s5, s6, s7, s8, s9, s10, s11, .un], ⟨_, _, _, _, _, _, _, _, _, _, _, rfl⟩, ?_, ?_⟩
  · rintro i y ρ' hy hl ⟨s1, s2, s3, s4, s5, s6, s7, s8, s9, s10, s11, rfl⟩
    obtain ⟨hi, rfl⟩ : i < 6 ∧ y = .int (i : Int) := by
      have h := (List.getElem?_eq_some_iff.mp hy).1
      rw [rngD_len] at h
      rw [rngD_at h] at hy
      cases hy
      exact ⟨by omega, by simp⟩
    refine (g_name 3 rfl (by walk_at "v") sc_law.nd rfl) _ fun _ => ?_
    show XB _ _ [.d (.list (ns.map .int)), s1, s2, .d (.int i), s4, s5, s6, s7, s8, s9, s10, s11, .un] _ _
    refine xb_cons (xs_set 4 sc_law.nd rfl (.inr rfl) (by simp) rfl (.inl rfl) (ev_cal D.pool hr1 rfl pass0 ((a_cons (r_var 0 rfl (by walk_at "v") rfl) (a_cons (r_var 3 rfl (by walk_at "v") rfl) a_nil)) _ ⟨[.list (ns.map .int), .int i], rfl, ⟨ns, i, rfl, by omega, hn⟩, fun r hr' => ?_⟩)))
    obtain ⟨ys, rfl, hy⟩ := hr'
    refine ⟨by simp, fun _ _ => ?_⟩
    show XB _ _ [.d (.list (ns.map .int)), s1, s2, .d (.int i), .own ys, s5, s6, s7, s8, s9, s10, s11, .un] _ _
    refine xb_cons (xs_par3 5 6 7 rfl sc_law.nd rfl rfl rfl (by decide) (by decide) (by decide) (by simp) (by simp) (by simp) rfl rfl rfl
      (ea_cons (h := ev_bin (r_int _ (ev_take 4 D.take hr1 rfl (by walk_at "v") pass0 rfl (.inl rfl) hy (wd := 4) r_int (by decide) (by decide) fun n1 ys1 a1 b1 hy1 => ov_add
        (ea_cons (h := ev_bin (r_int _ (ev_take 4 D.take hr1 rfl (by walk_at "v") pass0 rfl (.inl rfl) hy1 (wd := 4) r_int (by decide) (by decide) fun n2 ys2 a2 b2 hy2 => ov_add
          (ea_cons (h := ev_bin (r_int _ (ev_take 4 D.take hr1 rfl (by walk_at "v") pass0 rfl (.inl rfl) hy2 (wd := 4) r_int (by decide) (by decide) fun n3 ys3 a3 b3 hy3 => ov_add
            (ea_nil fun _ => ⟨_, _, _, rfl, fun _ => ?_⟩))))))))))))) rfl)
    obtain ⟨Dg, eD⟩ : ∃ Dg : Nat, 149 + n1 = (Dg : Int) := ⟨(149 + n1).toNat, by omega⟩
    obtain ⟨p, ep⟩ : ∃ p : Nat, 2 + n2 = (p : Int) := ⟨(2 + n2).toNat, by omega⟩
    obtain ⟨d, ed⟩ : ∃ d : Nat, 4 + n3 = (d : Int) := ⟨(4 + n3).toNat, by omega⟩
    show XB _ _ [.d (.list (ns.map .int)), s1, s2, .d (.int i), .own ys3, .d (.int (149 + n1)), .d (.int (2 + n2)), .d (.int (4 + n3)), s8, s9, s10, s11, .un] _ _
    rw [eD, ep, ed]
    have hD1 : 149 ≤ Dg := by omega
    have hD2 : Dg ≤ 152 := by omega
    have hp1 : 2 ≤ p := by omega
    have hp2 : p ≤ 5 := by omega
    have hd1 : 4 ≤ d := by omega
    have hd2 : d ≤ 7 := by omega
    refine xb_cons (xs_set 8 sc_law.nd rfl (.inr rfl) (by simp) rfl (.inl rfl) (ev_join (r_str _ ⟨_, rfl, ev_lc (own := [("_law_turn", 12)]) rfl sc_law.nd (blkOk_by (N := ["_law_script", "_law_odd", "_law_door", "_law_k", "_law_pool_here", "_law_digits", "_law_powers", "_law_deep", "_law_number", "_law_at", "_law_text", "_law_due_here", "_law_turn"]) (sc := defScope S_law) (by decide +kernel)) ((i_range D.rng (r_var 5 rfl (by walk_at "v") rfl) (by omega) (by omega)) _ fun _ => ?_)⟩)))
    refine ⟨fun t acc ρ' => ∃ ys cs, acc = (cs.map fun c => (⟨#[c]⟩ : Str)).map .str ∧ cs.length = t ∧ (∀ c ∈ cs, 49 ≤ c ∧ c ≤ 57) ∧ PoolD ys ∧ ρ' = [.d (.list (ns.map .int)), s1, s2, .d (.int i), .own ys, .d (.int Dg), .d (.int p), .d (.int d), s8, s9, s10, s11, .un], ⟨ys3, [], rfl, rfl, by simp, hy3, rfl⟩, ?_, ?_, ?_⟩
    · rintro t acc ρ' ⟨ys, cs, _, _, _, _, rfl⟩ v hv
      rw [List.mem_singleton.mp hv]
      rfl
    · rintro t y acc ρ' hyt hlt ⟨ys, cs, rfl, hcl, hcs, hy, rfl⟩
      have ht : t < Dg := by
        have h := (List.getElem?_eq_some_iff.mp hyt).1
        rw [rngD_len] at h
        omega
      refine lc_turnE (ρ2 := [.d (.list (ns.map .int)), s1, s2, .d (.int i), .own ys, .d (.int Dg), .d (.int p), .d (.int d), s8, s9, s10, s11, .d y]) (fun s H C cl fp => g_name 12 rfl (by walk_at "v") sc_law.nd rfl) (by rw [List.length_map, List.length_map, sizeLine_eq]; omega) (fun s H C cl fp => ?_)
      refine ev_ix (by intro _ _; rfl) (r_str _ (ev_take 4 D.take hr1 rfl (by walk_at "v") pass0 rfl (.inl rfl) hy (wd := 9) r_int (by decide) (by decide) fun j ys2 j0 j1 hy2 => ?_))
      obtain ⟨j', rfl⟩ := Int.eq_ofNat_of_zero_le j0
      refine iv_str (by decide +kernel) (dig_at j' (by omega)) ?_
      refine ⟨.str ⟨#[49 + j']⟩, rfl, ys2, cs ++ [49 + j'], by rw [List.map_append, List.map_append]; rfl, by rw [List.length_append, hcl]; rfl, fun x hx => ?_, hy2, rfl⟩
      rcases List.mem_append.mp hx with hx | hx
      · exact hcs x hx
      · rw [List.mem_singleton.mp hx]
        omega
    rintro acc ρ' ⟨ys, cs, rfl, hcl, hcs, hy, rfl⟩
    rw [rngD_len] at hcl
    have hcl : cs.length = Dg := by omega
    have hone : ((cs.map fun c => (⟨#[c]⟩ : Str)).map (·.length)).sum = cs.length := by
      exact ones_len cs
    refine ⟨cs.map fun c => (⟨#[c]⟩ : Str), .inl rfl, by rw [hone, List.length_map, show (Str.ofString "").length = 0 by decide +kernel]; omega, fun _ _ => ?_⟩
    have eJ : Txt.join (Str.ofString "") (cs.map fun c => (⟨#[c]⟩ : Str)) = ⟨cs.toArray⟩ := join_ones cs
    rw [eJ]
    have N : NumD ⟨cs.toArray⟩ Dg := ⟨isN_of (fun e => by have e : cs = [] := e; rw [e] at hcl; simp at hcl; omega) hcs, by show cs.toArray.size = Dg; rw [List.size_toArray]; exact hcl, hD1, hD2⟩
    generalize (⟨cs.toArray⟩ : Str) = n at N
    show XB _ _ [.d (.list (ns.map .int)), s1, s2, .d (.int i), .own ys, .d (.int Dg), .d (.int p), .d (.int d), .d (.str n), s9, s10, s11, .un] _ _
    have hnl := N.len
    refine xb_cons (xs_for (ts := [9, 10]) PassesOwn.never rfl (by intro _; rfl) ((i_enum D.enum (r_cal D.texts hr2 pass0 (a_cons (r_var 8 rfl (by walk_at "v") rfl) (a_cons (r_var 6 rfl (by walk_at "v") rfl) (a_cons (r_var 7 rfl (by walk_at "v") rfl) a_nil))) rfl ⟨n, p, d, rfl, by omega, hp1, hp2, by omega, by omega⟩ (r := .d (.list ((txS n p d).map .str))) (fun r' h => by obtain ⟨n', p', d', e1, rfl⟩ := h; cases e1; rfl)) rfl) _ fun _ => ?_))
    refine ⟨fun t ρ' => ∃ s9 s10 s11, ρ' = [.d (.list (ns.map .int)), s1, s2, .d (.int i), .own ys, .d (.int Dg), .d (.int p), .d (.int d), .d (.str n), s9, s10, s11, .un], ⟨_, _, _, rfl⟩, ?_, ?_⟩
    · rintro a y ρ' hya hla ⟨s9, s10, s11, rfl⟩
      obtain ⟨x, hx, rfl⟩ := enD_some hya
      rw [List.getElem?_map] at hx
      obtain ⟨z, hz, rfl⟩ : ∃ z, (txS n p d)[a]? = some z ∧ x = .str z := by
        cases hw : (txS n p d)[a]? with
        | none => rw [hw] at hx; cases hx
        | some z => rw [hw] at hx; cases hx; exact ⟨z, rfl, rfl⟩
      obtain ⟨ha, hz⟩ := txS_at hz
      obtain ⟨zl, T1, T2, T3⟩ := tx_due N hp1 hp2 hd1 hd2 ha hz
      clear hz
      refine (g_tup rfl (gs_cons (g_name 9 rfl (by walk_at "v") sc_law.nd rfl) (gs_cons (g_name 10 rfl (.inr rfl) sc_law.nd rfl) gs_nil))) _ fun _ => ?_
      show XB _ _ [.d (.list (ns.map .int)), s1, s2, .d (.int i), .own ys, .d (.int Dg), .d (.int p), .d (.int d), .d (.str n), .d (.int (a : Nat)), .d (.str z), s11, .un] _ _
      refine xb_cons (x_set 11 (r_cal D.due hr1 pass0 (a_cons (r_var 9 rfl (by walk_at "v") rfl) (a_cons (r_var 5 rfl (by walk_at "v") rfl) (a_cons (r_var 6 rfl (by walk_at "v") rfl) (a_cons (r_var 7 rfl (by walk_at "v") rfl) a_nil)))) rfl ⟨a, Dg, p, d, rfl⟩ (r := .d (.str (dueW a Dg p d))) (fun r' h => by obtain ⟨a', D', p', d', e1, rfl⟩ := h; cases e1; rfl)) rfl (by walk_at "v") sc_law.nd rfl (fun _ => ?_))
      have eW := ocD_due a Dg p d
      have hf := due_fine a Dg p d
      have hok := due_ok a Dg p d
      generalize dueO a Dg p d = o at T1 T2 eW hf hok
      generalize dueW a Dg p d = W at eW hf
      show XB _ _ [.d (.list (ns.map .int)), s1, s2, .d (.int i), .own ys, .d (.int Dg), .d (.int p), .d (.int d), .d (.str n), .d (.int (a : Nat)), .d (.str z), .d (.str W), .un] _ _
      obtain ⟨f1, f2, f3⟩ := suf_eqv (k := z.length) eW hf hok
      have l2 : (Str.ofString " ]").length = 2 := by decide +kernel
      have l8 : (Str.ofString "flush } ").length = 8 := by decide +kernel
      refine xb_cons (x_if (t_cmp (r_heardS h lb D.parse.F (door_parse T1) D.parse.m D.parse.k D.parse.b (LamX.lamS_by (sc := defScope S_law) (by decide +kernel)) (te := _) (fun A outer s H E f c' => pv 10) (fun σ H L Q l hh q => ⟨_, var_str hh l rfl, q⟩) rfl) (r_var 11 rfl (by walk_at "v") rfl) (or_neD (by exact hu) rfl rfl (ocD_shp hok) (eW ▸ ocD_shp hok))) (fun hh => ?_) (fun _ => xb_nil fun _ => ?_))
      · rw [← eW] at hh
        exact (ne_eqv (ocD_eqv o) hh).elim
      refine xb_cons (x_if (t_cmp (r_heardS h lb D.parse.F (door_parse T2) D.parse.m D.parse.k D.parse.b (LamX.lamS_by (sc := defScope S_law) (by decide +kernel)) (te := _) (fun A outer s H E f c' => pe_op op_add_str (pv 10) pe_str) (fun σ H L Q l hh q => ⟨_, var_str hh l rfl, _, _, rfl, rfl, by rw [l2, sizeLine_eq]; omega, q⟩) rfl) (r_if (t_cmp (r_var 11 rfl (by walk_at "v") rfl) r_str (by walk_at "o")) (fun _ => r_bin (r_callB (id := "len") D.len (a_cons (r_var 10 rfl (by walk_at "v") rfl) a_nil) (cr_lenS (by rw [sizeLine_eq]; omega))) r_int (by walk_at "o")) (fun _ => r_var 11 rfl (by walk_at "v") rfl)) (or_neD (by exact hu) rfl rfl (ocD_shp f2) f3)) (fun hh => ?_) (fun _ => xb_nil fun _ => ?_))
      · rw [show PyData.eqv (ocD (if o = .fine then .pos (z.length + 1) else o)) (if decide (W = "fine") = true then .int ((z.length : Int) + 1) else .str W) = true from f1] at hh
        cases hh
      refine xb_one (x_if (t_cmp (r_heardS h lb D.parse.F (door_parse T3) D.parse.m D.parse.k D.parse.b (LamX.lamS_by (sc := defScope S_law) (by decide +kernel)) (te := _) (fun A outer s H E f c' => pe_op op_add_str pe_str (pv 10)) (fun σ H L Q l hh q => ⟨_, var_str hh l rfl, _, _, rfl, rfl, by rw [l8, sizeLine_eq]; omega, q⟩) rfl) r_int (or_neD (by exact hu) rfl rfl (ocD_shp (o := .pos 6) trivial) rfl)) (fun hh => (ne_eqv (ocD_eqv (.pos 6)) hh).elim) (fun _ => xb_nil ⟨_, _, _, rfl⟩))
    rintro ρ' ⟨s9, s10, s11, rfl⟩ hlb
    obtain ⟨U1, U2, U3⟩ := num_due N
    have l2 : (Str.ofString "n*").length = 2 := by decide +kernel
    have l4 : (Str.ofString "for ").length = 4 := by decide +kernel
    have eW : ocD (dueO 0 Dg 2 4) = .str (dueW 0 Dg p d) := (ocD_due 0 Dg 2 4).trans (congrArg PyData.str (dueW_0 ..))
    have hok := due_ok 0 Dg 2 4
    refine xb_cons (x_if (t_cmp (r_heardS h lb D.size.F (door_size U1) D.size.m D.size.k D.size.b (LamX.lamS_by (sc := defScope S_law) (by decide +kernel)) (te := _) (fun A outer s H E f c' => pv 8) (fun σ H L Q l hh q => ⟨_, var_str hh l rfl, q⟩) rfl) (r_cal D.due hr1 pass0 (a_cons r_int (a_cons (r_var 5 rfl (by walk_at "v") rfl) (a_cons (r_var 6 rfl (by walk_at "v") rfl) (a_cons (r_var 7 rfl (by walk_at "v") rfl) a_nil)))) rfl ⟨0, Dg, p, d, rfl⟩ (r := .d (.str (dueW 0 Dg p d))) (fun r' h => by obtain ⟨a', D', p', d', e1, rfl⟩ := h; cases e1; rfl)) (or_neD (by exact hu) rfl rfl (ocD_shp hok) (eW ▸ ocD_shp hok))) (fun hh => ?_) (fun _ => xb_nil fun _ => ?_))
    · rw [← eW] at hh
      exact (ne_eqv (ocD_eqv _) hh).elim
    refine xb_cons (x_if (t_cmp (r_heardS h lb D.size.F (door_size U2) D.size.m D.size.k D.size.b (LamX.lamS_by (sc := defScope S_law) (by decide +kernel)) (te := _) (fun A outer s H E f c' => pe_op op_add_str pe_str (pv 8)) (fun σ H L Q l hh q => ⟨_, var_str hh l rfl, _, _, rfl, rfl, by rw [l2, sizeLine_eq]; omega, q⟩) rfl) r_int (or_neD (by exact hu) rfl rfl (ocD_shp (o := .pos 2) trivial) rfl)) (fun hh => (ne_eqv (ocD_eqv (.pos 2)) hh).elim) (fun _ => xb_nil fun _ => ?_))
    refine xb_one (x_if (t_cmp (r_heardS h lb D.parse.F (door_parse U3) D.parse.m D.parse.k D.parse.b (LamX.lamS_by (sc := defScope S_law) (by decide +kernel)) (te := _) (fun A outer s H E f c' => pe_op op_add_str pe_str (pv 8)) (fun σ H L Q l hh q => ⟨_, var_str hh l rfl, _, _, rfl, rfl, by rw [l4, sizeLine_eq]; omega, q⟩) rfl) r_int (or_neD (by exact hu) rfl rfl (ocD_shp (o := .pos 4) trivial) rfl)) (fun hh => (ne_eqv (ocD_eqv (.pos 4)) hh).elim) (fun _ => xb_nil ⟨_, _, _, _, _, _, _, _, _, _, _, rfl⟩))
  rintro ρ' ⟨s1, s2, s3, s4, s5, s6, s7, s8, s9, s10, s11, rfl⟩ hl
  refine xb_cons (x_if (t_cmp (r_heardS h lb D.parse.F (door_parse nest_due) D.parse.m D.parse.k D.parse.b (LamX.lamS_by (sc := defScope S_law) (by decide +kernel)) (te := _) (fun A outer s H E f c' => pe_op op_mulS pe_str pe_int) (fun σ H L Q l hh q => ⟨_, _, rfl, rfl, mulS_ok (d := 9) (by decide +kernel) (by decide), q⟩) rfl) r_str (or_neD (by exact hu) rfl rfl (ocD_shp (show PyData.strOk "nesting" = true by decide +kernel)) (ocD_shp (o := .word "nesting") (show PyData.strOk "nesting" = true by decide +kernel)))) (fun hh => (ne_eqv (ocD_eqv (.word "nesting")) hh).elim) (fun _ => xb_nil fun _ => ?_))
  refine xb_one (x_ret (r_cmp (r_heardS h lb D.parse.F (door_parse ns_due) D.parse.m D.parse.k D.parse.b (LamX.lamS_by (sc := defScope S_law) (by decide +kernel)) (te := _) (fun A outer s H E f c' => pe_op op_mulS pe_str pe_int) (fun σ H L Q l hh q => ⟨_, _, rfl, rfl, mulS_ok (d := 20) (by decide +kernel) (by decide), q⟩) rfl) r_int (or_eqD (by exact hu) rfl rfl (ocD_shp (o := .pos 0) trivial) rfl)) ?_)
  show Sl.d (.bool (PyData.eqv (ocD (.pos 0)) (.int 0))) = _
  rfl
end

end K05

namespace K05
open PySem L2 SZ VR VX StX RT DE
/-! ### own errors in the written part -/
abbrev veM (far : Addr) : List Value := [.ref far, .type "ValueError", .type "Exception", .type "BaseException", .type "object"]
/-- what the top says of an error class at C -/
structure ErX (K : PySem.W.Frag) (mg : Str → Option Value) (x : Str) (C far : Addr) (f : Str) : Prop where
  l : ∃ nm q N bs sn sub ab col dd k0 k1 k2 k3 k5, K.lookup C = some (excClassObj nm q C N bs (veM far) true sn sub ab col dd k0 k1 k2 k3 k5 "ValueError.__new__")
  sa : PySem.W.findIn K (.ref C) "__setattr__" = some (some (.builtin "object.__setattr__"))
  kC : PySem.W.keepIn K (.ref C) = true
  ga : PySem.W.findIn K (.ref C) "__getattribute__" = some (some (.builtin "BaseException.__getattribute__"))
  gg : PySem.W.findIn K (.ref C) "__getattr__" = some none
  ex : PySem.W.subIn K (.ref C) (.type "BaseException") = some true
  ac : PySem.W.findIn K (.ref C) "__class__" = some (some (.builtin "object.__class__"))
  an : PySem.W.specialIn K (.builtin "object.__class__") "__get__" = some (some (.builtin "getset_descriptor.__get__"))
  tk : PySem.W.takesIn K (.builtin "object.__class__") = some true
  mo : PySem.W.mroIn K C (.type "object") = some true
  no : PySem.W.findIn K (.ref C) f = some none
  m : mg x = some (.ref C)
theorem ErX.clsIn {K : PySem.W.Frag} {mg : Str → Option Value} {x : Str} {C far : Addr} {f : Str} (h : ErX K mg x C far f) : ∃ cd, PySem.W.clsIn K C = some cd ∧ cd.mro = .ref C :: veM far := by
  obtain ⟨nm, q, N, bs, sn, sub, ab, col, dd, k0, k1, k2, k3, k5, l⟩ := h.l
  have e : PySem.W.clsIn K C = some { name := nm, bases := bs, mro := .ref C :: veM far, ns := N, qualname := q, hasDict := true, slotNames := sn, subclasses := sub, abstract := ab, collection := col, hasDel := false } := by unfold PySem.W.clsIn; rw [l] <;> rfl
  exact ⟨_, e, rfl⟩
theorem ErX.sub {K : PySem.W.Frag} {mg : Str → Option Value} {x : Str} {C far : Addr} {f : Str} (h : ErX K mg x C far f) (b : Value) : PySem.W.subIn K (.ref C) b = some ((Value.ref C :: veM far).contains b) := by
  obtain ⟨cd, e, em⟩ := h.clsIn
  show ((PySem.W.clsIn K C).bind fun cd => if cd.mro.isEmpty = true then none else some (cd.mro.contains b)) = _
  rw [e]
  show (if cd.mro.isEmpty = true then none else some (cd.mro.contains b)) = _
  rw [em]
  rfl
theorem ErX.isC {K : PySem.W.Frag} {mg : Str → Option Value} {x : Str} {C far : Addr} {f : Str} (h : ErX K mg x C far f) : (PySem.W.clsIn K C).isSome = true := by
  obtain ⟨cd, e, _⟩ := h.clsIn
  rw [e]
  rfl
theorem ErX.ty {K : PySem.W.Frag} {mg : Str → Option Value} {x : Str} {C far : Addr} {f : Str} (h : ErX K mg x C far f) : PySem.W.typeIn K (.ref C) = some (.type "type") := by
  obtain ⟨nm, q, N, bs, sn, sub, ab, col, dd, k0, k1, k2, k3, k5, l⟩ := h.l
  show (K.lookup C).map (fun x => x.cls) = _
  rw [l]
  rfl
theorem ErX.oxc {K : PySem.W.Frag} {mg : Str → Option Value} {x : Str} {C far : Addr} {f : Str} (h : ErX K mg x C far f) : OxC K C := by
  obtain ⟨nm, q, N, bs, sn, sub, ab, col, dd, k0, k1, k2, k3, k5, l⟩ := h.l
  exact ⟨⟨nm, q, N, bs, veM far, sn, sub, ab, col, dd, k0, k1, k2, k3, k5, "ValueError", "ValueError.__new__", "ValueError.__init__", _, PySem.F.excBase_ValueError, l, fun Y => PySem.HandSPX.refsVE_contains Y (veM far) rfl, fun self => PySem.HandSPX.refsVE_pass self _ rfl, (PySem.HandSPX.refsVE_contains "object" (veM far) rfl).trans (by decide +kernel)⟩, h.sa, h.kC, h.ga, h.gg, h.ex, h.ac, h.an, h.tk, h.mo⟩
theorem ErX.oexc {K : PySem.W.Frag} {mg : Str → Option Value} {x : Str} {C far : Addr} {f : Str} (h : ErX K mg x C far f) : OexC K C := by
  obtain ⟨nm, q, N, bs, sn, sub, ab, col, dd, k0, k1, k2, k3, k5, l⟩ := h.l
  exact ⟨⟨nm, q, N, bs, veM far, sn, sub, ab, col, dd, k0, k1, k2, k3, k5, l, rfl⟩, h.sa, h.ex, h.ty, h.kC⟩
/-- raised by one class, named by the other -/
theorem ErX.exm {K : PySem.W.Frag} {mg : Str → Option Value} {x y : Str} {C D far : Addr} {f g : Str} (h : ErX K mg x C far f) (h2 : ErX K mg y D far g) (n : D ≠ far) : PySem.W.exmOne K (.ref C) (.ref D) = some (decide (C = D)) := by
  have e1 : (PySem.W.subIn K (.ref D) (.type "BaseException") == some true) = true := by rw [h2.ex] <;> rfl
  have e2 : ((PySem.W.clsIn K D).isSome && PySem.W.typeIn K (.ref D) == some (.type "type")) = true := by rw [h2.isC, h2.ty] <;> rfl
  show (if (PySem.W.subIn K (.ref D) (.type "BaseException") == some true) = true then (if ((PySem.W.clsIn K D).isSome && PySem.W.typeIn K (.ref D) == some (.type "type")) = true then PySem.W.subIn K (.ref C) (.ref D) else none) else none) = _
  rw [if_pos e1, if_pos e2, h.sub]
  congr 1
  rw [List.contains_cons]
  have n2 : (Value.ref D == Value.ref far) = false := beq_eq_false_iff_ne.mpr fun z => n (Value.ref.inj z)
  have e3 : (veM far).contains (.ref D) = false := by
    rw [List.contains_cons, n2]
    rfl
  rw [e3, Bool.or_false]
  by_cases e : C = D
  · subst e
    rw [decide_eq_true rfl]
    exact beq_self_eq_true _
  · rw [decide_eq_false e]
    exact beq_eq_false_iff_ne.mpr fun z => e (Value.ref.inj z).symm

section
variable {P : Program} {w : World} {K : PySem.W.Frag} {mg : Str → Option Value} {base : Heap}
theorem sx_InvalidText {C fI : Addr} {fd : FuncData} (T : OxC K C) (no : PySem.W.findIn K (.ref C) "value" = some none) (F : Fun K "__init__" "InvalidText.__init__" S_InvalidText___init__ fI fd) : FnOk P w K mg base CX0 1 fI fd [("self" : Str), "value"] (spOx K C "value") := by
  refine F.ok sc_InvalidText___init__ (fun vs H Q E h => ?_) (fun cdv A outer s H vs Q E hr h => ?_)
  · obtain ⟨a, v, rfl, _⟩ := h; rfl
  · obtain ⟨a, v, rfl, ha, q⟩ := h
    exact ⟨_, pss_one (ps_ox (pv 0) (pv 1)), ⟨_, rfl, _, rfl, a, C, rfl, T, no, ha, fun dx h1 h2 => q dx h1 h2⟩⟩
theorem sx_InvalidSyntax {C fI : Addr} {fd : FuncData} (T : OxC K C) (no : PySem.W.findIn K (.ref C) "position" = some none) (F : Fun K "__init__" "InvalidSyntax.__init__" S_InvalidSyntax___init__ fI fd) : FnOk P w K mg base CX0 1 fI fd [("self" : Str), "position"] (spOx K C "position") := by
  refine F.ok sc_InvalidSyntax___init__ (fun vs H Q E h => ?_) (fun cdv A outer s H vs Q E hr h => ?_)
  · obtain ⟨a, v, rfl, _⟩ := h; rfl
  · obtain ⟨a, v, rfl, ha, q⟩ := h
    exact ⟨_, pss_one (ps_ox (pv 0) (pv 1)), ⟨_, rfl, _, rfl, a, C, rfl, T, no, ha, fun dx h1 h2 => q dx h1 h2⟩⟩
theorem sx_TooLarge {C fI : Addr} {fd : FuncData} (T : OxC K C) (no : PySem.W.findIn K (.ref C) "word" = some none) (F : Fun K "__init__" "TooLarge.__init__" S_TooLarge___init__ fI fd) : FnOk P w K mg base CX0 1 fI fd [("self" : Str), "word"] (spOx K C "word") := by
  refine F.ok sc_TooLarge___init__ (fun vs H Q E h => ?_) (fun cdv A outer s H vs Q E hr h => ?_)
  · obtain ⟨a, v, rfl, _⟩ := h; rfl
  · obtain ⟨a, v, rfl, ha, q⟩ := h
    exact ⟨_, pss_one (ps_ox (pv 0) (pv 1)), ⟨_, rfl, _, rfl, a, C, rfl, T, no, ha, fun dx h1 h2 => q dx h1 h2⟩⟩
end
theorem all_mk {l : PySem.W.OpenLaw} {w : World} {K : PySem.W.Frag} {h : Heap} {mg : Str → Option Value} {fa : Addr}
    {C_FarError : Addr}
    {C_InvalidText : Addr}
    {N_InvalidText : Addr} {nm_InvalidText q_InvalidText : Str} {bs_InvalidText sb_InvalidText : List Value} {sn_InvalidText : List Str} {ab_InvalidText : Bool} {co_InvalidText : Option Bool} {dd_InvalidText : Option Addr} {x_InvalidText y_InvalidText zz_InvalidText u_InvalidText v_InvalidText : Option Value}
    {f_InvalidText___init__ : Addr} {oc_InvalidText___init__ kV_InvalidText___init__ dc_InvalidText___init__ pm_InvalidText___init__ cd_InvalidText___init__ ct_InvalidText___init__ : Value} {od_InvalidText___init__ an_InvalidText___init__ : Option Addr} {sl_InvalidText___init__ : Array (Option Value)}
    {C_InvalidSyntax : Addr}
    {N_InvalidSyntax : Addr} {nm_InvalidSyntax q_InvalidSyntax : Str} {bs_InvalidSyntax sb_InvalidSyntax : List Value} {sn_InvalidSyntax : List Str} {ab_InvalidSyntax : Bool} {co_InvalidSyntax : Option Bool} {dd_InvalidSyntax : Option Addr} {x_InvalidSyntax y_InvalidSyntax zz_InvalidSyntax u_InvalidSyntax v_InvalidSyntax : Option Value}
    {f_InvalidSyntax___init__ : Addr} {oc_InvalidSyntax___init__ kV_InvalidSyntax___init__ dc_InvalidSyntax___init__ pm_InvalidSyntax___init__ cd_InvalidSyntax___init__ ct_InvalidSyntax___init__ : Value} {od_InvalidSyntax___init__ an_InvalidSyntax___init__ : Option Addr} {sl_InvalidSyntax___init__ : Array (Option Value)}
    {C_TooLarge : Addr}
    {N_TooLarge : Addr} {nm_TooLarge q_TooLarge : Str} {bs_TooLarge sb_TooLarge : List Value} {sn_TooLarge : List Str} {ab_TooLarge : Bool} {co_TooLarge : Option Bool} {dd_TooLarge : Option Addr} {x_TooLarge y_TooLarge zz_TooLarge u_TooLarge v_TooLarge : Option Value}
    {f_TooLarge___init__ : Addr} {oc_TooLarge___init__ kV_TooLarge___init__ dc_TooLarge___init__ pm_TooLarge___init__ cd_TooLarge___init__ ct_TooLarge___init__ : Value} {od_TooLarge___init__ an_TooLarge___init__ : Option Addr} {sl_TooLarge___init__ : Array (Option Value)}
    {f_is_integer : Addr} {oc_is_integer kV_is_integer dc_is_integer pm_is_integer cd_is_integer ct_is_integer : Value} {od_is_integer an_is_integer : Option Addr} {sl_is_integer : Array (Option Value)}
    {f_trimmed : Addr} {oc_trimmed kV_trimmed dc_trimmed pm_trimmed cd_trimmed ct_trimmed : Value} {od_trimmed an_trimmed : Option Addr} {sl_trimmed : Array (Option Value)}
    {f_sum : Addr} {oc_sum kV_sum dc_sum pm_sum cd_sum ct_sum : Value} {od_sum an_sum : Option Addr} {sl_sum : Array (Option Value)}
    {f_product : Addr} {oc_product kV_product dc_product pm_product cd_product ct_product : Value} {od_product an_product : Option Addr} {sl_product : Array (Option Value)}
    {f_negative : Addr} {oc_negative kV_negative dc_negative pm_negative cd_negative ct_negative : Value} {od_negative an_negative : Option Addr} {sl_negative : Array (Option Value)}
    {f_is_operand : Addr} {oc_is_operand kV_is_operand dc_is_operand pm_is_operand cd_is_operand ct_is_operand : Value} {od_is_operand an_is_operand : Option Addr} {sl_is_operand : Array (Option Value)}
    {f_parts_of : Addr} {oc_parts_of kV_parts_of dc_parts_of pm_parts_of cd_parts_of ct_parts_of : Value} {od_parts_of an_parts_of : Option Addr} {sl_parts_of : Array (Option Value)}
    {C_Size : Addr}
    {T1_Size___init__ t0_Size___init__ : Addr} {dc1_Size___init__ : Value} {dd1_Size___init__ dd2_Size___init__ : Option Addr} {n1_Size___init__ n2_Size___init__ : Nat} {ds1_Size___init__ ds2_Size___init__ : Array (Option Value)}
    {f_Size___init__ : Addr} {oc_Size___init__ kV_Size___init__ dc_Size___init__ pm_Size___init__ cd_Size___init__ ct_Size___init__ : Value} {od_Size___init__ an_Size___init__ : Option Addr} {sl_Size___init__ : Array (Option Value)}
    {p_Size_coefficients : Addr} {rest_Size_coefficients : List Value}
    {f_Size_coefficients : Addr} {oc_Size_coefficients kV_Size_coefficients dc_Size_coefficients pm_Size_coefficients cd_Size_coefficients ct_Size_coefficients : Value} {od_Size_coefficients an_Size_coefficients : Option Addr} {sl_Size_coefficients : Array (Option Value)}
    {p_Size_degree : Addr} {rest_Size_degree : List Value}
    {f_Size_degree : Addr} {oc_Size_degree kV_Size_degree dc_Size_degree pm_Size_degree cd_Size_degree ct_Size_degree : Value} {od_Size_degree an_Size_degree : Option Addr} {sl_Size_degree : Array (Option Value)}
    {f_Size___add__ : Addr} {oc_Size___add__ kV_Size___add__ dc_Size___add__ pm_Size___add__ cd_Size___add__ ct_Size___add__ : Value} {od_Size___add__ an_Size___add__ : Option Addr} {sl_Size___add__ : Array (Option Value)}
    {f_Size___sub__ : Addr} {oc_Size___sub__ kV_Size___sub__ dc_Size___sub__ pm_Size___sub__ cd_Size___sub__ ct_Size___sub__ : Value} {od_Size___sub__ an_Size___sub__ : Option Addr} {sl_Size___sub__ : Array (Option Value)}
    {f_Size___mul__ : Addr} {oc_Size___mul__ kV_Size___mul__ dc_Size___mul__ pm_Size___mul__ cd_Size___mul__ ct_Size___mul__ : Value} {od_Size___mul__ an_Size___mul__ : Option Addr} {sl_Size___mul__ : Array (Option Value)}
    {f_Size___neg__ : Addr} {oc_Size___neg__ kV_Size___neg__ dc_Size___neg__ pm_Size___neg__ cd_Size___neg__ ct_Size___neg__ : Value} {od_Size___neg__ an_Size___neg__ : Option Addr} {sl_Size___neg__ : Array (Option Value)}
    {f_Size___call__ : Addr} {oc_Size___call__ kV_Size___call__ dc_Size___call__ pm_Size___call__ cd_Size___call__ ct_Size___call__ : Value} {od_Size___call__ an_Size___call__ : Option Addr} {sl_Size___call__ : Array (Option Value)}
    {f_Size___eq__ : Addr} {oc_Size___eq__ kV_Size___eq__ dc_Size___eq__ pm_Size___eq__ cd_Size___eq__ ct_Size___eq__ : Value} {od_Size___eq__ an_Size___eq__ : Option Addr} {sl_Size___eq__ : Array (Option Value)}
    {t_LETTERS : Tok}
    {t_DIGITS : Tok}
    {t_GAPS : Tok}
    {t_MOST_DIGITS : Tok}
    {f_is_word : Addr} {oc_is_word kV_is_word dc_is_word pm_is_word cd_is_word ct_is_word : Value} {od_is_word an_is_word : Option Addr} {sl_is_word : Array (Option Value)}
    {f_is_number : Addr} {oc_is_number kV_is_number dc_is_number pm_is_number cd_is_number ct_is_number : Value} {od_is_number an_is_number : Option Addr} {sl_is_number : Array (Option Value)}
    {f_end_of_run : Addr} {oc_end_of_run kV_end_of_run dc_end_of_run pm_end_of_run cd_end_of_run ct_end_of_run : Value} {od_end_of_run an_end_of_run : Option Addr} {sl_end_of_run : Array (Option Value)}
    {f_tokens_of : Addr} {oc_tokens_of kV_tokens_of dc_tokens_of pm_tokens_of cd_tokens_of ct_tokens_of : Value} {od_tokens_of an_tokens_of : Option Addr} {sl_tokens_of : Array (Option Value)}
    {C_Reader : Addr}
    {f_Reader___init__ : Addr} {oc_Reader___init__ kV_Reader___init__ dc_Reader___init__ pm_Reader___init__ cd_Reader___init__ ct_Reader___init__ : Value} {od_Reader___init__ an_Reader___init__ : Option Addr} {sl_Reader___init__ : Array (Option Value)}
    {f_Reader_token : Addr} {oc_Reader_token kV_Reader_token dc_Reader_token pm_Reader_token cd_Reader_token ct_Reader_token : Value} {od_Reader_token an_Reader_token : Option Addr} {sl_Reader_token : Array (Option Value)}
    {f_Reader_place : Addr} {oc_Reader_place kV_Reader_place dc_Reader_place pm_Reader_place cd_Reader_place ct_Reader_place : Value} {od_Reader_place an_Reader_place : Option Addr} {sl_Reader_place : Array (Option Value)}
    {f_Reader_pass_any : Addr} {oc_Reader_pass_any kV_Reader_pass_any dc_Reader_pass_any pm_Reader_pass_any cd_Reader_pass_any ct_Reader_pass_any : Value} {od_Reader_pass_any an_Reader_pass_any : Option Addr} {sl_Reader_pass_any : Array (Option Value)}
    {f_Reader_passes : Addr} {oc_Reader_passes kV_Reader_passes dc_Reader_passes pm_Reader_passes cd_Reader_passes ct_Reader_passes : Value} {od_Reader_passes an_Reader_passes : Option Addr} {sl_Reader_passes : Array (Option Value)}
    {f_Reader_pass_only : Addr} {oc_Reader_pass_only kV_Reader_pass_only dc_Reader_pass_only pm_Reader_pass_only cd_Reader_pass_only ct_Reader_pass_only : Value} {od_Reader_pass_only an_Reader_pass_only : Option Addr} {sl_Reader_pass_only : Array (Option Value)}
    {f_Reader_pass_one : Addr} {oc_Reader_pass_one kV_Reader_pass_one dc_Reader_pass_one pm_Reader_pass_one cd_Reader_pass_one ct_Reader_pass_one : Value} {od_Reader_pass_one an_Reader_pass_one : Option Addr} {sl_Reader_pass_one : Array (Option Value)}
    {f_Reader_pass_number : Addr} {oc_Reader_pass_number kV_Reader_pass_number dc_Reader_pass_number pm_Reader_pass_number cd_Reader_pass_number ct_Reader_pass_number : Value} {od_Reader_pass_number an_Reader_pass_number : Option Addr} {sl_Reader_pass_number : Array (Option Value)}
    {f_Reader_pass_end : Addr} {oc_Reader_pass_end kV_Reader_pass_end dc_Reader_pass_end pm_Reader_pass_end cd_Reader_pass_end ct_Reader_pass_end : Value} {od_Reader_pass_end an_Reader_pass_end : Option Addr} {sl_Reader_pass_end : Array (Option Value)}
    {t_KEYWORDS : Addr} {t_KEYWORDS0 t_KEYWORDS1 t_KEYWORDS2 t_KEYWORDS3 t_KEYWORDS4 t_KEYWORDS5 : Tok} {dd_KEYWORDS : Option Addr} {n_KEYWORDS : Nat} {ds_KEYWORDS : Array (Option Value)}
    {t_STATEMENTS : Addr} {t_STATEMENTS0 t_STATEMENTS1 t_STATEMENTS2 t_STATEMENTS3 : Tok} {dd_STATEMENTS : Option Addr} {n_STATEMENTS : Nat} {ds_STATEMENTS : Array (Option Value)}
    {t_MOST_POWER : Tok}
    {t_MOST_LOOPS : Tok}
    {f_is_name : Addr} {oc_is_name kV_is_name dc_is_name pm_is_name cd_is_name ct_is_name : Value} {od_is_name an_is_name : Option Addr} {sl_is_name : Array (Option Value)}
    {f_parse : Addr} {oc_parse kV_parse dc_parse pm_parse cd_parse ct_parse : Value} {od_parse an_parse : Option Addr} {sl_parse : Array (Option Value)}
    {f_parse_size : Addr} {oc_parse_size kV_parse_size dc_parse_size pm_parse_size cd_parse_size ct_parse_size : Value} {od_parse_size an_parse_size : Option Addr} {sl_parse_size : Array (Option Value)}
    {f_parse_block : Addr} {oc_parse_block kV_parse_block dc_parse_block pm_parse_block cd_parse_block ct_parse_block : Value} {od_parse_block an_parse_block : Option Addr} {sl_parse_block : Array (Option Value)}
    {f_reader : Addr} {oc_reader kV_reader dc_reader pm_reader cd_reader ct_reader : Value} {od_reader an_reader : Option Addr} {sl_reader : Array (Option Value)}
    {f_name : Addr} {oc_name kV_name dc_name pm_name cd_name ct_name : Value} {od_name an_name : Option Addr} {sl_name : Array (Option Value)}
    {f_block : Addr} {oc_block kV_block dc_block pm_block cd_block ct_block : Value} {od_block an_block : Option Addr} {sl_block : Array (Option Value)}
    {f_statement : Addr} {oc_statement kV_statement dc_statement pm_statement cd_statement ct_statement : Value} {od_statement an_statement : Option Addr} {sl_statement : Array (Option Value)}
    {f_loop : Addr} {oc_loop kV_loop dc_loop pm_loop cd_loop ct_loop : Value} {od_loop an_loop : Option Addr} {sl_loop : Array (Option Value)}
    {f_size : Addr} {oc_size kV_size dc_size pm_size cd_size ct_size : Value} {od_size an_size : Option Addr} {sl_size : Array (Option Value)}
    {f_index : Addr} {oc_index kV_index dc_index pm_index cd_index ct_index : Value} {od_index an_index : Option Addr} {sl_index : Array (Option Value)}
    {f_sums : Addr} {oc_sums kV_sums dc_sums pm_sums cd_sums ct_sums : Value} {od_sums an_sums : Option Addr} {sl_sums : Array (Option Value)}
    {f_part : Addr} {oc_part kV_part dc_part pm_part cd_part ct_part : Value} {od_part an_part : Option Addr} {sl_part : Array (Option Value)}
    {f_law_pool : Addr} {oc_law_pool kV_law_pool dc_law_pool pm_law_pool cd_law_pool ct_law_pool : Value} {od_law_pool an_law_pool : Option Addr} {sl_law_pool : Array (Option Value)}
    {f_law_take : Addr} {oc_law_take kV_law_take dc_law_take pm_law_take cd_law_take ct_law_take : Value} {od_law_take an_law_take : Option Addr} {sl_law_take : Array (Option Value)}
    {f_law_heard : Addr} {oc_law_heard kV_law_heard dc_law_heard pm_law_heard cd_law_heard ct_law_heard : Value} {od_law_heard an_law_heard : Option Addr} {sl_law_heard : Array (Option Value)}
    {f_law_loops : Addr} {oc_law_loops kV_law_loops dc_law_loops pm_law_loops cd_law_loops ct_law_loops : Value} {od_law_loops an_law_loops : Option Addr} {sl_law_loops : Array (Option Value)}
    {f_law_texts : Addr} {oc_law_texts kV_law_texts dc_law_texts pm_law_texts cd_law_texts ct_law_texts : Value} {od_law_texts an_law_texts : Option Addr} {sl_law_texts : Array (Option Value)}
    {f_law_due : Addr} {oc_law_due kV_law_due dc_law_due pm_law_due cd_law_due ct_law_due : Value} {od_law_due an_law_due : Option Addr} {sl_law_due : Array (Option Value)}
    {f_law : Addr} {oc_law kV_law dc_law pm_law cd_law ct_law : Value} {od_law an_law : Option Addr} {sl_law : Array (Option Value)}
    {ia1 ia2 : Option Value}
    {c0 T0 : Addr} {q0 : Program} {loose0 : List Str} {mean0 : ExcName → Option Value} {mb0 : Str → Option Value} {d0 : DefRec}
    {occ0 : Value} {odc0 : Option Addr} {vsc0 : Array Value} {slc0 : Array (Option Value)}
    (TT : PyProof.Rows.Top q0 loose0 mean0 mg mb0 h) (hr0 : (PyProof.Rows.recsOf q0).find? (fun e => e.name == ("law" : Str)) = some d0) (X : K.In h) (G : h.Ns mainGlobals mg) (hfa : mg "law" = some (.ref fa))
    (aC_FarError : PySem.W.nsIn K mainGlobals "FarError" = some (some (.ref C_FarError)))
    (aC_InvalidText : PySem.W.nsIn K mainGlobals "InvalidText" = some (some (.ref C_InvalidText)))
    (l_InvalidText : K.lookup C_InvalidText = some (excClassObj nm_InvalidText q_InvalidText C_InvalidText N_InvalidText bs_InvalidText (veM C_FarError) true sn_InvalidText sb_InvalidText ab_InvalidText co_InvalidText dd_InvalidText x_InvalidText y_InvalidText zz_InvalidText u_InvalidText v_InvalidText "ValueError.__new__"))
    (sa_InvalidText : PySem.W.findIn K (.ref C_InvalidText) "__setattr__" = some (some (.builtin "object.__setattr__")))
    (kC_InvalidText : PySem.W.keepIn K (.ref C_InvalidText) = true)
    (ga_InvalidText : PySem.W.findIn K (.ref C_InvalidText) "__getattribute__" = some (some (.builtin "BaseException.__getattribute__")))
    (gg_InvalidText : PySem.W.findIn K (.ref C_InvalidText) "__getattr__" = some none)
    (ex_InvalidText : PySem.W.subIn K (.ref C_InvalidText) (.type "BaseException") = some true)
    (ac_InvalidText : PySem.W.findIn K (.ref C_InvalidText) "__class__" = some (some (.builtin "object.__class__")))
    (mo_InvalidText : PySem.W.mroIn K C_InvalidText (.type "object") = some true)
    (no_InvalidText : PySem.W.findIn K (.ref C_InvalidText) "value" = some none)
    (i_InvalidText : PySem.W.findIn K (.ref C_InvalidText) "__init__" = some (some (.ref f_InvalidText___init__)))
    (t_InvalidText : PySem.W.isFn K (.ref f_InvalidText___init__) = true)
    (l_InvalidText___init__ : K.lookup f_InvalidText___init__ = some ⟨oc_InvalidText___init__, od_InvalidText___init__, .func (PySem.W.fnOf "__init__" "InvalidText.__init__" (defArgs S_InvalidText___init__) (defBody S_InvalidText___init__) (defScope S_InvalidText___init__) .none kV_InvalidText___init__ dc_InvalidText___init__ pm_InvalidText___init__ an_InvalidText___init__ cd_InvalidText___init__ ct_InvalidText___init__), sl_InvalidText___init__⟩)
    (c_InvalidText___init__ : PySem.W.codeIn K cd_InvalidText___init__ "InvalidText.__init__" = true)
    (k_InvalidText___init__ : PySem.W.keepIn K (.ref f_InvalidText___init__) = true)
    (aC_InvalidSyntax : PySem.W.nsIn K mainGlobals "InvalidSyntax" = some (some (.ref C_InvalidSyntax)))
    (l_InvalidSyntax : K.lookup C_InvalidSyntax = some (excClassObj nm_InvalidSyntax q_InvalidSyntax C_InvalidSyntax N_InvalidSyntax bs_InvalidSyntax (veM C_FarError) true sn_InvalidSyntax sb_InvalidSyntax ab_InvalidSyntax co_InvalidSyntax dd_InvalidSyntax x_InvalidSyntax y_InvalidSyntax zz_InvalidSyntax u_InvalidSyntax v_InvalidSyntax "ValueError.__new__"))
    (sa_InvalidSyntax : PySem.W.findIn K (.ref C_InvalidSyntax) "__setattr__" = some (some (.builtin "object.__setattr__")))
    (kC_InvalidSyntax : PySem.W.keepIn K (.ref C_InvalidSyntax) = true)
    (ga_InvalidSyntax : PySem.W.findIn K (.ref C_InvalidSyntax) "__getattribute__" = some (some (.builtin "BaseException.__getattribute__")))
    (gg_InvalidSyntax : PySem.W.findIn K (.ref C_InvalidSyntax) "__getattr__" = some none)
    (ex_InvalidSyntax : PySem.W.subIn K (.ref C_InvalidSyntax) (.type "BaseException") = some true)
    (ac_InvalidSyntax : PySem.W.findIn K (.ref C_InvalidSyntax) "__class__" = some (some (.builtin "object.__class__")))
    (mo_InvalidSyntax : PySem.W.mroIn K C_InvalidSyntax (.type "object") = some true)
    (no_InvalidSyntax : PySem.W.findIn K (.ref C_InvalidSyntax) "position" = some none)
    (i_InvalidSyntax : PySem.W.findIn K (.ref C_InvalidSyntax) "__init__" = some (some (.ref f_InvalidSyntax___init__)))
    (t_InvalidSyntax : PySem.W.isFn K (.ref f_InvalidSyntax___init__) = true)
    (l_InvalidSyntax___init__ : K.lookup f_InvalidSyntax___init__ = some ⟨oc_InvalidSyntax___init__, od_InvalidSyntax___init__, .func (PySem.W.fnOf "__init__" "InvalidSyntax.__init__" (defArgs S_InvalidSyntax___init__) (defBody S_InvalidSyntax___init__) (defScope S_InvalidSyntax___init__) .none kV_InvalidSyntax___init__ dc_InvalidSyntax___init__ pm_InvalidSyntax___init__ an_InvalidSyntax___init__ cd_InvalidSyntax___init__ ct_InvalidSyntax___init__), sl_InvalidSyntax___init__⟩)
    (c_InvalidSyntax___init__ : PySem.W.codeIn K cd_InvalidSyntax___init__ "InvalidSyntax.__init__" = true)
    (k_InvalidSyntax___init__ : PySem.W.keepIn K (.ref f_InvalidSyntax___init__) = true)
    (aC_TooLarge : PySem.W.nsIn K mainGlobals "TooLarge" = some (some (.ref C_TooLarge)))
    (l_TooLarge : K.lookup C_TooLarge = some (excClassObj nm_TooLarge q_TooLarge C_TooLarge N_TooLarge bs_TooLarge (veM C_FarError) true sn_TooLarge sb_TooLarge ab_TooLarge co_TooLarge dd_TooLarge x_TooLarge y_TooLarge zz_TooLarge u_TooLarge v_TooLarge "ValueError.__new__"))
    (sa_TooLarge : PySem.W.findIn K (.ref C_TooLarge) "__setattr__" = some (some (.builtin "object.__setattr__")))
    (kC_TooLarge : PySem.W.keepIn K (.ref C_TooLarge) = true)
    (ga_TooLarge : PySem.W.findIn K (.ref C_TooLarge) "__getattribute__" = some (some (.builtin "BaseException.__getattribute__")))
    (gg_TooLarge : PySem.W.findIn K (.ref C_TooLarge) "__getattr__" = some none)
    (ex_TooLarge : PySem.W.subIn K (.ref C_TooLarge) (.type "BaseException") = some true)
    (ac_TooLarge : PySem.W.findIn K (.ref C_TooLarge) "__class__" = some (some (.builtin "object.__class__")))
    (mo_TooLarge : PySem.W.mroIn K C_TooLarge (.type "object") = some true)
    (no_TooLarge : PySem.W.findIn K (.ref C_TooLarge) "word" = some none)
    (i_TooLarge : PySem.W.findIn K (.ref C_TooLarge) "__init__" = some (some (.ref f_TooLarge___init__)))
    (t_TooLarge : PySem.W.isFn K (.ref f_TooLarge___init__) = true)
    (l_TooLarge___init__ : K.lookup f_TooLarge___init__ = some ⟨oc_TooLarge___init__, od_TooLarge___init__, .func (PySem.W.fnOf "__init__" "TooLarge.__init__" (defArgs S_TooLarge___init__) (defBody S_TooLarge___init__) (defScope S_TooLarge___init__) .none kV_TooLarge___init__ dc_TooLarge___init__ pm_TooLarge___init__ an_TooLarge___init__ cd_TooLarge___init__ ct_TooLarge___init__), sl_TooLarge___init__⟩)
    (c_TooLarge___init__ : PySem.W.codeIn K cd_TooLarge___init__ "TooLarge.__init__" = true)
    (k_TooLarge___init__ : PySem.W.keepIn K (.ref f_TooLarge___init__) = true)
    (a_is_integer : PySem.W.nsIn K mainGlobals "is_integer" = some (some (.ref f_is_integer)))
    (l_is_integer : K.lookup f_is_integer = some ⟨oc_is_integer, od_is_integer, .func (PySem.W.fnOf "is_integer" "is_integer" (defArgs S_is_integer) (defBody S_is_integer) (defScope S_is_integer) .none kV_is_integer dc_is_integer pm_is_integer an_is_integer cd_is_integer ct_is_integer), sl_is_integer⟩)
    (c_is_integer : PySem.W.codeIn K cd_is_integer "is_integer" = true)
    (k_is_integer : PySem.W.keepIn K (.ref f_is_integer) = true)
    (a_trimmed : PySem.W.nsIn K mainGlobals "_trimmed" = some (some (.ref f_trimmed)))
    (l_trimmed : K.lookup f_trimmed = some ⟨oc_trimmed, od_trimmed, .func (PySem.W.fnOf "_trimmed" "_trimmed" (defArgs S_trimmed) (defBody S_trimmed) (defScope S_trimmed) .none kV_trimmed dc_trimmed pm_trimmed an_trimmed cd_trimmed ct_trimmed), sl_trimmed⟩)
    (c_trimmed : PySem.W.codeIn K cd_trimmed "_trimmed" = true)
    (k_trimmed : PySem.W.keepIn K (.ref f_trimmed) = true)
    (a_sum : PySem.W.nsIn K mainGlobals "_sum" = some (some (.ref f_sum)))
    (l_sum : K.lookup f_sum = some ⟨oc_sum, od_sum, .func (PySem.W.fnOf "_sum" "_sum" (defArgs S_sum) (defBody S_sum) (defScope S_sum) .none kV_sum dc_sum pm_sum an_sum cd_sum ct_sum), sl_sum⟩)
    (c_sum : PySem.W.codeIn K cd_sum "_sum" = true)
    (k_sum : PySem.W.keepIn K (.ref f_sum) = true)
    (a_product : PySem.W.nsIn K mainGlobals "_product" = some (some (.ref f_product)))
    (l_product : K.lookup f_product = some ⟨oc_product, od_product, .func (PySem.W.fnOf "_product" "_product" (defArgs S_product) (defBody S_product) (defScope S_product) .none kV_product dc_product pm_product an_product cd_product ct_product), sl_product⟩)
    (c_product : PySem.W.codeIn K cd_product "_product" = true)
    (k_product : PySem.W.keepIn K (.ref f_product) = true)
    (a_negative : PySem.W.nsIn K mainGlobals "_negative" = some (some (.ref f_negative)))
    (l_negative : K.lookup f_negative = some ⟨oc_negative, od_negative, .func (PySem.W.fnOf "_negative" "_negative" (defArgs S_negative) (defBody S_negative) (defScope S_negative) .none kV_negative dc_negative pm_negative an_negative cd_negative ct_negative), sl_negative⟩)
    (c_negative : PySem.W.codeIn K cd_negative "_negative" = true)
    (k_negative : PySem.W.keepIn K (.ref f_negative) = true)
    (a_is_operand : PySem.W.nsIn K mainGlobals "_is_operand" = some (some (.ref f_is_operand)))
    (l_is_operand : K.lookup f_is_operand = some ⟨oc_is_operand, od_is_operand, .func (PySem.W.fnOf "_is_operand" "_is_operand" (defArgs S_is_operand) (defBody S_is_operand) (defScope S_is_operand) .none kV_is_operand dc_is_operand pm_is_operand an_is_operand cd_is_operand ct_is_operand), sl_is_operand⟩)
    (c_is_operand : PySem.W.codeIn K cd_is_operand "_is_operand" = true)
    (k_is_operand : PySem.W.keepIn K (.ref f_is_operand) = true)
    (a_parts_of : PySem.W.nsIn K mainGlobals "_parts_of" = some (some (.ref f_parts_of)))
    (l_parts_of : K.lookup f_parts_of = some ⟨oc_parts_of, od_parts_of, .func (PySem.W.fnOf "_parts_of" "_parts_of" (defArgs S_parts_of) (defBody S_parts_of) (defScope S_parts_of) .none kV_parts_of dc_parts_of pm_parts_of an_parts_of cd_parts_of ct_parts_of), sl_parts_of⟩)
    (c_parts_of : PySem.W.codeIn K cd_parts_of "_parts_of" = true)
    (k_parts_of : PySem.W.keepIn K (.ref f_parts_of) = true)
    (aC_Size : PySem.W.nsIn K mainGlobals "Size" = some (some (.ref C_Size)))
    (pg_Size : PySem.W.plainGet K C_Size Str.empty = true)
    (hd_Size : PySem.W.hasDictIn K C_Size = true)
    (po_Size : PySem.W.plainOver K C_Size = true)
    (sa_Size : PySem.W.findIn K (.ref C_Size) "__setattr__" = some (some (.builtin "object.__setattr__")))
    (mk_Size : PySem.W.makesIn K C_Size = true)
    (kc_Size : PySem.W.keepIn K (.ref C_Size) = true)
    (cc_Size : PySem.W.findIn K (.ref C_Size) "__class__" = some (some (.builtin "object.__class__")))
    (cm_Size : PySem.W.mroIn K C_Size (.type "object") = some true)
    (ic_Size : PySem.W.isClsIn K C_Size = true)
    (tc_Size : PySem.W.typeIn K (.ref C_Size) = some (.type "type"))
    (cgO : PySem.W.specialIn K (.builtin "object.__class__") "__get__" = some (some (.builtin "getset_descriptor.__get__")))
    (ctO : PySem.W.takesIn K (.builtin "object.__class__") = some true)
    (np_Size_parts : PySem.W.findIn K (.ref C_Size) "_parts" = some none)
    (a_Size___init__ : PySem.W.findIn K (.ref C_Size) "__init__" = some (some (.ref f_Size___init__)))
    (i_Size___init__ : PySem.W.isFn K (.ref f_Size___init__) = true)
    (l_Size___init__ : K.lookup f_Size___init__ = some ⟨oc_Size___init__, od_Size___init__, .func (PySem.W.fnOf "__init__" "Size.__init__" (defArgs S_Size___init__) (defBody S_Size___init__) (defScope S_Size___init__) (.ref T1_Size___init__) kV_Size___init__ dc_Size___init__ pm_Size___init__ an_Size___init__ cd_Size___init__ ct_Size___init__), sl_Size___init__⟩)
    (c_Size___init__ : PySem.W.codeIn K cd_Size___init__ "Size.__init__" = true)
    (k_Size___init__ : PySem.W.keepIn K (.ref f_Size___init__) = true)
    (d1_Size___init__ : K.lookup T1_Size___init__ = some ⟨dc1_Size___init__, dd1_Size___init__, .seq #[.ref t0_Size___init__] n1_Size___init__, ds1_Size___init__⟩)
    (d2_Size___init__ : K.lookup t0_Size___init__ = some ⟨.type "tuple", dd2_Size___init__, .seq #[] n2_Size___init__, ds2_Size___init__⟩)
    (pa_Size_coefficients : PySem.W.findIn K (.ref C_Size) "coefficients" = some (some (.ref p_Size_coefficients)))
    (pg_Size_coefficients : PySem.W.specialIn K (.ref p_Size_coefficients) "__get__" = some (some (.builtin "property.__get__")))
    (pt_Size_coefficients : PySem.W.takesIn K (.ref p_Size_coefficients) = some true)
    (pr_Size_coefficients : PySem.W.recIn K p_Size_coefficients "property" = some (.ref f_Size_coefficients :: rest_Size_coefficients))
    (l_Size_coefficients : K.lookup f_Size_coefficients = some ⟨oc_Size_coefficients, od_Size_coefficients, .func (PySem.W.fnOf "coefficients" "Size.coefficients" (defArgs S_Size_coefficients) (defBody S_Size_coefficients) (defScope S_Size_coefficients) .none kV_Size_coefficients dc_Size_coefficients pm_Size_coefficients an_Size_coefficients cd_Size_coefficients ct_Size_coefficients), sl_Size_coefficients⟩)
    (c_Size_coefficients : PySem.W.codeIn K cd_Size_coefficients "Size.coefficients" = true)
    (k_Size_coefficients : PySem.W.keepIn K (.ref f_Size_coefficients) = true)
    (pa_Size_degree : PySem.W.findIn K (.ref C_Size) "degree" = some (some (.ref p_Size_degree)))
    (pg_Size_degree : PySem.W.specialIn K (.ref p_Size_degree) "__get__" = some (some (.builtin "property.__get__")))
    (pt_Size_degree : PySem.W.takesIn K (.ref p_Size_degree) = some true)
    (pr_Size_degree : PySem.W.recIn K p_Size_degree "property" = some (.ref f_Size_degree :: rest_Size_degree))
    (l_Size_degree : K.lookup f_Size_degree = some ⟨oc_Size_degree, od_Size_degree, .func (PySem.W.fnOf "degree" "Size.degree" (defArgs S_Size_degree) (defBody S_Size_degree) (defScope S_Size_degree) .none kV_Size_degree dc_Size_degree pm_Size_degree an_Size_degree cd_Size_degree ct_Size_degree), sl_Size_degree⟩)
    (c_Size_degree : PySem.W.codeIn K cd_Size_degree "Size.degree" = true)
    (k_Size_degree : PySem.W.keepIn K (.ref f_Size_degree) = true)
    (a_Size___add__ : PySem.W.findIn K (.ref C_Size) "__add__" = some (some (.ref f_Size___add__)))
    (i_Size___add__ : PySem.W.isFn K (.ref f_Size___add__) = true)
    (l_Size___add__ : K.lookup f_Size___add__ = some ⟨oc_Size___add__, od_Size___add__, .func (PySem.W.fnOf "__add__" "Size.__add__" (defArgs S_Size___add__) (defBody S_Size___add__) (defScope S_Size___add__) .none kV_Size___add__ dc_Size___add__ pm_Size___add__ an_Size___add__ cd_Size___add__ ct_Size___add__), sl_Size___add__⟩)
    (c_Size___add__ : PySem.W.codeIn K cd_Size___add__ "Size.__add__" = true)
    (k_Size___add__ : PySem.W.keepIn K (.ref f_Size___add__) = true)
    (a_Size___sub__ : PySem.W.findIn K (.ref C_Size) "__sub__" = some (some (.ref f_Size___sub__)))
    (i_Size___sub__ : PySem.W.isFn K (.ref f_Size___sub__) = true)
    (l_Size___sub__ : K.lookup f_Size___sub__ = some ⟨oc_Size___sub__, od_Size___sub__, .func (PySem.W.fnOf "__sub__" "Size.__sub__" (defArgs S_Size___sub__) (defBody S_Size___sub__) (defScope S_Size___sub__) .none kV_Size___sub__ dc_Size___sub__ pm_Size___sub__ an_Size___sub__ cd_Size___sub__ ct_Size___sub__), sl_Size___sub__⟩)
    (c_Size___sub__ : PySem.W.codeIn K cd_Size___sub__ "Size.__sub__" = true)
    (k_Size___sub__ : PySem.W.keepIn K (.ref f_Size___sub__) = true)
    (a_Size___mul__ : PySem.W.findIn K (.ref C_Size) "__mul__" = some (some (.ref f_Size___mul__)))
    (i_Size___mul__ : PySem.W.isFn K (.ref f_Size___mul__) = true)
    (l_Size___mul__ : K.lookup f_Size___mul__ = some ⟨oc_Size___mul__, od_Size___mul__, .func (PySem.W.fnOf "__mul__" "Size.__mul__" (defArgs S_Size___mul__) (defBody S_Size___mul__) (defScope S_Size___mul__) .none kV_Size___mul__ dc_Size___mul__ pm_Size___mul__ an_Size___mul__ cd_Size___mul__ ct_Size___mul__), sl_Size___mul__⟩)
    (c_Size___mul__ : PySem.W.codeIn K cd_Size___mul__ "Size.__mul__" = true)
    (k_Size___mul__ : PySem.W.keepIn K (.ref f_Size___mul__) = true)
    (a_Size___neg__ : PySem.W.findIn K (.ref C_Size) "__neg__" = some (some (.ref f_Size___neg__)))
    (i_Size___neg__ : PySem.W.isFn K (.ref f_Size___neg__) = true)
    (l_Size___neg__ : K.lookup f_Size___neg__ = some ⟨oc_Size___neg__, od_Size___neg__, .func (PySem.W.fnOf "__neg__" "Size.__neg__" (defArgs S_Size___neg__) (defBody S_Size___neg__) (defScope S_Size___neg__) .none kV_Size___neg__ dc_Size___neg__ pm_Size___neg__ an_Size___neg__ cd_Size___neg__ ct_Size___neg__), sl_Size___neg__⟩)
    (c_Size___neg__ : PySem.W.codeIn K cd_Size___neg__ "Size.__neg__" = true)
    (k_Size___neg__ : PySem.W.keepIn K (.ref f_Size___neg__) = true)
    (a_Size___call__ : PySem.W.findIn K (.ref C_Size) "__call__" = some (some (.ref f_Size___call__)))
    (i_Size___call__ : PySem.W.isFn K (.ref f_Size___call__) = true)
    (l_Size___call__ : K.lookup f_Size___call__ = some ⟨oc_Size___call__, od_Size___call__, .func (PySem.W.fnOf "__call__" "Size.__call__" (defArgs S_Size___call__) (defBody S_Size___call__) (defScope S_Size___call__) .none kV_Size___call__ dc_Size___call__ pm_Size___call__ an_Size___call__ cd_Size___call__ ct_Size___call__), sl_Size___call__⟩)
    (c_Size___call__ : PySem.W.codeIn K cd_Size___call__ "Size.__call__" = true)
    (k_Size___call__ : PySem.W.keepIn K (.ref f_Size___call__) = true)
    (a_Size___eq__ : PySem.W.findIn K (.ref C_Size) "__eq__" = some (some (.ref f_Size___eq__)))
    (i_Size___eq__ : PySem.W.isFn K (.ref f_Size___eq__) = true)
    (l_Size___eq__ : K.lookup f_Size___eq__ = some ⟨oc_Size___eq__, od_Size___eq__, .func (PySem.W.fnOf "__eq__" "Size.__eq__" (defArgs S_Size___eq__) (defBody S_Size___eq__) (defScope S_Size___eq__) .none kV_Size___eq__ dc_Size___eq__ pm_Size___eq__ an_Size___eq__ cd_Size___eq__ ct_Size___eq__), sl_Size___eq__⟩)
    (c_Size___eq__ : PySem.W.codeIn K cd_Size___eq__ "Size.__eq__" = true)
    (k_Size___eq__ : PySem.W.keepIn K (.ref f_Size___eq__) = true)
    (a_LETTERS : PySem.W.nsIn K mainGlobals "_LETTERS" = some (some (.str (Str.ofString "abcdefghijklmnopqrstuvwxyz") t_LETTERS)))
    (a_DIGITS : PySem.W.nsIn K mainGlobals "_DIGITS" = some (some (.str (Str.ofString "0123456789") t_DIGITS)))
    (a_GAPS : PySem.W.nsIn K mainGlobals "_GAPS" = some (some (.str (Str.ofString " \n") t_GAPS)))
    (a_MOST_DIGITS : PySem.W.nsIn K mainGlobals "_MOST_DIGITS" = some (some (.int 150 t_MOST_DIGITS)))
    (a_is_word : PySem.W.nsIn K mainGlobals "is_word" = some (some (.ref f_is_word)))
    (l_is_word : K.lookup f_is_word = some ⟨oc_is_word, od_is_word, .func (PySem.W.fnOf "is_word" "is_word" (defArgs S_is_word) (defBody S_is_word) (defScope S_is_word) .none kV_is_word dc_is_word pm_is_word an_is_word cd_is_word ct_is_word), sl_is_word⟩)
    (c_is_word : PySem.W.codeIn K cd_is_word "is_word" = true)
    (k_is_word : PySem.W.keepIn K (.ref f_is_word) = true)
    (a_is_number : PySem.W.nsIn K mainGlobals "is_number" = some (some (.ref f_is_number)))
    (l_is_number : K.lookup f_is_number = some ⟨oc_is_number, od_is_number, .func (PySem.W.fnOf "is_number" "is_number" (defArgs S_is_number) (defBody S_is_number) (defScope S_is_number) .none kV_is_number dc_is_number pm_is_number an_is_number cd_is_number ct_is_number), sl_is_number⟩)
    (c_is_number : PySem.W.codeIn K cd_is_number "is_number" = true)
    (k_is_number : PySem.W.keepIn K (.ref f_is_number) = true)
    (a_end_of_run : PySem.W.nsIn K mainGlobals "_end_of_run" = some (some (.ref f_end_of_run)))
    (l_end_of_run : K.lookup f_end_of_run = some ⟨oc_end_of_run, od_end_of_run, .func (PySem.W.fnOf "_end_of_run" "_end_of_run" (defArgs S_end_of_run) (defBody S_end_of_run) (defScope S_end_of_run) .none kV_end_of_run dc_end_of_run pm_end_of_run an_end_of_run cd_end_of_run ct_end_of_run), sl_end_of_run⟩)
    (c_end_of_run : PySem.W.codeIn K cd_end_of_run "_end_of_run" = true)
    (k_end_of_run : PySem.W.keepIn K (.ref f_end_of_run) = true)
    (a_tokens_of : PySem.W.nsIn K mainGlobals "tokens_of" = some (some (.ref f_tokens_of)))
    (l_tokens_of : K.lookup f_tokens_of = some ⟨oc_tokens_of, od_tokens_of, .func (PySem.W.fnOf "tokens_of" "tokens_of" (defArgs S_tokens_of) (defBody S_tokens_of) (defScope S_tokens_of) .none kV_tokens_of dc_tokens_of pm_tokens_of an_tokens_of cd_tokens_of ct_tokens_of), sl_tokens_of⟩)
    (c_tokens_of : PySem.W.codeIn K cd_tokens_of "tokens_of" = true)
    (k_tokens_of : PySem.W.keepIn K (.ref f_tokens_of) = true)
    (aC_Reader : PySem.W.nsIn K mainGlobals "Reader" = some (some (.ref C_Reader)))
    (pg_Reader : PySem.W.plainGet K C_Reader Str.empty = true)
    (hd_Reader : PySem.W.hasDictIn K C_Reader = true)
    (po_Reader : PySem.W.plainOver K C_Reader = true)
    (sa_Reader : PySem.W.findIn K (.ref C_Reader) "__setattr__" = some (some (.builtin "object.__setattr__")))
    (mk_Reader : PySem.W.makesIn K C_Reader = true)
    (kc_Reader : PySem.W.keepIn K (.ref C_Reader) = true)
    (cc_Reader : PySem.W.findIn K (.ref C_Reader) "__class__" = some (some (.builtin "object.__class__")))
    (cm_Reader : PySem.W.mroIn K C_Reader (.type "object") = some true)
    (ic_Reader : PySem.W.isClsIn K C_Reader = true)
    (tc_Reader : PySem.W.typeIn K (.ref C_Reader) = some (.type "type"))
    (np_Reader_tokens : PySem.W.findIn K (.ref C_Reader) "_tokens" = some none)
    (np_Reader_at : PySem.W.findIn K (.ref C_Reader) "_at" = some none)
    (a_Reader___init__ : PySem.W.findIn K (.ref C_Reader) "__init__" = some (some (.ref f_Reader___init__)))
    (i_Reader___init__ : PySem.W.isFn K (.ref f_Reader___init__) = true)
    (l_Reader___init__ : K.lookup f_Reader___init__ = some ⟨oc_Reader___init__, od_Reader___init__, .func (PySem.W.fnOf "__init__" "Reader.__init__" (defArgs S_Reader___init__) (defBody S_Reader___init__) (defScope S_Reader___init__) .none kV_Reader___init__ dc_Reader___init__ pm_Reader___init__ an_Reader___init__ cd_Reader___init__ ct_Reader___init__), sl_Reader___init__⟩)
    (c_Reader___init__ : PySem.W.codeIn K cd_Reader___init__ "Reader.__init__" = true)
    (k_Reader___init__ : PySem.W.keepIn K (.ref f_Reader___init__) = true)
    (a_Reader_token : PySem.W.findIn K (.ref C_Reader) "token" = some (some (.ref f_Reader_token)))
    (i_Reader_token : PySem.W.isFn K (.ref f_Reader_token) = true)
    (l_Reader_token : K.lookup f_Reader_token = some ⟨oc_Reader_token, od_Reader_token, .func (PySem.W.fnOf "token" "Reader.token" (defArgs S_Reader_token) (defBody S_Reader_token) (defScope S_Reader_token) .none kV_Reader_token dc_Reader_token pm_Reader_token an_Reader_token cd_Reader_token ct_Reader_token), sl_Reader_token⟩)
    (c_Reader_token : PySem.W.codeIn K cd_Reader_token "Reader.token" = true)
    (k_Reader_token : PySem.W.keepIn K (.ref f_Reader_token) = true)
    (a_Reader_place : PySem.W.findIn K (.ref C_Reader) "place" = some (some (.ref f_Reader_place)))
    (i_Reader_place : PySem.W.isFn K (.ref f_Reader_place) = true)
    (l_Reader_place : K.lookup f_Reader_place = some ⟨oc_Reader_place, od_Reader_place, .func (PySem.W.fnOf "place" "Reader.place" (defArgs S_Reader_place) (defBody S_Reader_place) (defScope S_Reader_place) .none kV_Reader_place dc_Reader_place pm_Reader_place an_Reader_place cd_Reader_place ct_Reader_place), sl_Reader_place⟩)
    (c_Reader_place : PySem.W.codeIn K cd_Reader_place "Reader.place" = true)
    (k_Reader_place : PySem.W.keepIn K (.ref f_Reader_place) = true)
    (a_Reader_pass_any : PySem.W.findIn K (.ref C_Reader) "pass_any" = some (some (.ref f_Reader_pass_any)))
    (i_Reader_pass_any : PySem.W.isFn K (.ref f_Reader_pass_any) = true)
    (l_Reader_pass_any : K.lookup f_Reader_pass_any = some ⟨oc_Reader_pass_any, od_Reader_pass_any, .func (PySem.W.fnOf "pass_any" "Reader.pass_any" (defArgs S_Reader_pass_any) (defBody S_Reader_pass_any) (defScope S_Reader_pass_any) .none kV_Reader_pass_any dc_Reader_pass_any pm_Reader_pass_any an_Reader_pass_any cd_Reader_pass_any ct_Reader_pass_any), sl_Reader_pass_any⟩)
    (c_Reader_pass_any : PySem.W.codeIn K cd_Reader_pass_any "Reader.pass_any" = true)
    (k_Reader_pass_any : PySem.W.keepIn K (.ref f_Reader_pass_any) = true)
    (a_Reader_passes : PySem.W.findIn K (.ref C_Reader) "passes" = some (some (.ref f_Reader_passes)))
    (i_Reader_passes : PySem.W.isFn K (.ref f_Reader_passes) = true)
    (l_Reader_passes : K.lookup f_Reader_passes = some ⟨oc_Reader_passes, od_Reader_passes, .func (PySem.W.fnOf "passes" "Reader.passes" (defArgs S_Reader_passes) (defBody S_Reader_passes) (defScope S_Reader_passes) .none kV_Reader_passes dc_Reader_passes pm_Reader_passes an_Reader_passes cd_Reader_passes ct_Reader_passes), sl_Reader_passes⟩)
    (c_Reader_passes : PySem.W.codeIn K cd_Reader_passes "Reader.passes" = true)
    (k_Reader_passes : PySem.W.keepIn K (.ref f_Reader_passes) = true)
    (a_Reader_pass_only : PySem.W.findIn K (.ref C_Reader) "pass_only" = some (some (.ref f_Reader_pass_only)))
    (i_Reader_pass_only : PySem.W.isFn K (.ref f_Reader_pass_only) = true)
    (l_Reader_pass_only : K.lookup f_Reader_pass_only = some ⟨oc_Reader_pass_only, od_Reader_pass_only, .func (PySem.W.fnOf "pass_only" "Reader.pass_only" (defArgs S_Reader_pass_only) (defBody S_Reader_pass_only) (defScope S_Reader_pass_only) .none kV_Reader_pass_only dc_Reader_pass_only pm_Reader_pass_only an_Reader_pass_only cd_Reader_pass_only ct_Reader_pass_only), sl_Reader_pass_only⟩)
    (c_Reader_pass_only : PySem.W.codeIn K cd_Reader_pass_only "Reader.pass_only" = true)
    (k_Reader_pass_only : PySem.W.keepIn K (.ref f_Reader_pass_only) = true)
    (a_Reader_pass_one : PySem.W.findIn K (.ref C_Reader) "pass_one" = some (some (.ref f_Reader_pass_one)))
    (i_Reader_pass_one : PySem.W.isFn K (.ref f_Reader_pass_one) = true)
    (l_Reader_pass_one : K.lookup f_Reader_pass_one = some ⟨oc_Reader_pass_one, od_Reader_pass_one, .func (PySem.W.fnOf "pass_one" "Reader.pass_one" (defArgs S_Reader_pass_one) (defBody S_Reader_pass_one) (defScope S_Reader_pass_one) .none kV_Reader_pass_one dc_Reader_pass_one pm_Reader_pass_one an_Reader_pass_one cd_Reader_pass_one ct_Reader_pass_one), sl_Reader_pass_one⟩)
    (c_Reader_pass_one : PySem.W.codeIn K cd_Reader_pass_one "Reader.pass_one" = true)
    (k_Reader_pass_one : PySem.W.keepIn K (.ref f_Reader_pass_one) = true)
    (a_Reader_pass_number : PySem.W.findIn K (.ref C_Reader) "pass_number" = some (some (.ref f_Reader_pass_number)))
    (i_Reader_pass_number : PySem.W.isFn K (.ref f_Reader_pass_number) = true)
    (l_Reader_pass_number : K.lookup f_Reader_pass_number = some ⟨oc_Reader_pass_number, od_Reader_pass_number, .func (PySem.W.fnOf "pass_number" "Reader.pass_number" (defArgs S_Reader_pass_number) (defBody S_Reader_pass_number) (defScope S_Reader_pass_number) .none kV_Reader_pass_number dc_Reader_pass_number pm_Reader_pass_number an_Reader_pass_number cd_Reader_pass_number ct_Reader_pass_number), sl_Reader_pass_number⟩)
    (c_Reader_pass_number : PySem.W.codeIn K cd_Reader_pass_number "Reader.pass_number" = true)
    (k_Reader_pass_number : PySem.W.keepIn K (.ref f_Reader_pass_number) = true)
    (a_Reader_pass_end : PySem.W.findIn K (.ref C_Reader) "pass_end" = some (some (.ref f_Reader_pass_end)))
    (i_Reader_pass_end : PySem.W.isFn K (.ref f_Reader_pass_end) = true)
    (l_Reader_pass_end : K.lookup f_Reader_pass_end = some ⟨oc_Reader_pass_end, od_Reader_pass_end, .func (PySem.W.fnOf "pass_end" "Reader.pass_end" (defArgs S_Reader_pass_end) (defBody S_Reader_pass_end) (defScope S_Reader_pass_end) .none kV_Reader_pass_end dc_Reader_pass_end pm_Reader_pass_end an_Reader_pass_end cd_Reader_pass_end ct_Reader_pass_end), sl_Reader_pass_end⟩)
    (c_Reader_pass_end : PySem.W.codeIn K cd_Reader_pass_end "Reader.pass_end" = true)
    (k_Reader_pass_end : PySem.W.keepIn K (.ref f_Reader_pass_end) = true)
    (a_KEYWORDS : PySem.W.nsIn K mainGlobals "_KEYWORDS" = some (some (.ref t_KEYWORDS)))
    (l_KEYWORDS : K.lookup t_KEYWORDS = some ⟨.type "tuple", dd_KEYWORDS, .seq #[.str (Str.ofString "array") t_KEYWORDS0, .str (Str.ofString "for") t_KEYWORDS1, .str (Str.ofString "read") t_KEYWORDS2, .str (Str.ofString "write") t_KEYWORDS3, .str (Str.ofString "flush") t_KEYWORDS4, .str (Str.ofString "n") t_KEYWORDS5] n_KEYWORDS, ds_KEYWORDS⟩)
    (a_STATEMENTS : PySem.W.nsIn K mainGlobals "_STATEMENTS" = some (some (.ref t_STATEMENTS)))
    (l_STATEMENTS : K.lookup t_STATEMENTS = some ⟨.type "tuple", dd_STATEMENTS, .seq #[.str (Str.ofString "for") t_STATEMENTS0, .str (Str.ofString "read") t_STATEMENTS1, .str (Str.ofString "write") t_STATEMENTS2, .str (Str.ofString "flush") t_STATEMENTS3] n_STATEMENTS, ds_STATEMENTS⟩)
    (a_MOST_POWER : PySem.W.nsIn K mainGlobals "_MOST_POWER" = some (some (.int 3 t_MOST_POWER)))
    (a_MOST_LOOPS : PySem.W.nsIn K mainGlobals "_MOST_LOOPS" = some (some (.int 5 t_MOST_LOOPS)))
    (a_is_name : PySem.W.nsIn K mainGlobals "is_name" = some (some (.ref f_is_name)))
    (l_is_name : K.lookup f_is_name = some ⟨oc_is_name, od_is_name, .func (PySem.W.fnOf "is_name" "is_name" (defArgs S_is_name) (defBody S_is_name) (defScope S_is_name) .none kV_is_name dc_is_name pm_is_name an_is_name cd_is_name ct_is_name), sl_is_name⟩)
    (c_is_name : PySem.W.codeIn K cd_is_name "is_name" = true)
    (k_is_name : PySem.W.keepIn K (.ref f_is_name) = true)
    (a_parse : PySem.W.nsIn K mainGlobals "parse" = some (some (.ref f_parse)))
    (l_parse : K.lookup f_parse = some ⟨oc_parse, od_parse, .func (PySem.W.fnOf "parse" "parse" (defArgs S_parse) (defBody S_parse) (defScope S_parse) .none kV_parse dc_parse pm_parse an_parse cd_parse ct_parse), sl_parse⟩)
    (c_parse : PySem.W.codeIn K cd_parse "parse" = true)
    (k_parse : PySem.W.keepIn K (.ref f_parse) = true)
    (a_parse_size : PySem.W.nsIn K mainGlobals "parse_size" = some (some (.ref f_parse_size)))
    (l_parse_size : K.lookup f_parse_size = some ⟨oc_parse_size, od_parse_size, .func (PySem.W.fnOf "parse_size" "parse_size" (defArgs S_parse_size) (defBody S_parse_size) (defScope S_parse_size) .none kV_parse_size dc_parse_size pm_parse_size an_parse_size cd_parse_size ct_parse_size), sl_parse_size⟩)
    (c_parse_size : PySem.W.codeIn K cd_parse_size "parse_size" = true)
    (k_parse_size : PySem.W.keepIn K (.ref f_parse_size) = true)
    (a_parse_block : PySem.W.nsIn K mainGlobals "parse_block" = some (some (.ref f_parse_block)))
    (l_parse_block : K.lookup f_parse_block = some ⟨oc_parse_block, od_parse_block, .func (PySem.W.fnOf "parse_block" "parse_block" (defArgs S_parse_block) (defBody S_parse_block) (defScope S_parse_block) .none kV_parse_block dc_parse_block pm_parse_block an_parse_block cd_parse_block ct_parse_block), sl_parse_block⟩)
    (c_parse_block : PySem.W.codeIn K cd_parse_block "parse_block" = true)
    (k_parse_block : PySem.W.keepIn K (.ref f_parse_block) = true)
    (a_reader : PySem.W.nsIn K mainGlobals "_reader" = some (some (.ref f_reader)))
    (l_reader : K.lookup f_reader = some ⟨oc_reader, od_reader, .func (PySem.W.fnOf "_reader" "_reader" (defArgs S_reader) (defBody S_reader) (defScope S_reader) .none kV_reader dc_reader pm_reader an_reader cd_reader ct_reader), sl_reader⟩)
    (c_reader : PySem.W.codeIn K cd_reader "_reader" = true)
    (k_reader : PySem.W.keepIn K (.ref f_reader) = true)
    (a_name : PySem.W.nsIn K mainGlobals "_name" = some (some (.ref f_name)))
    (l_name : K.lookup f_name = some ⟨oc_name, od_name, .func (PySem.W.fnOf "_name" "_name" (defArgs S_name) (defBody S_name) (defScope S_name) .none kV_name dc_name pm_name an_name cd_name ct_name), sl_name⟩)
    (c_name : PySem.W.codeIn K cd_name "_name" = true)
    (k_name : PySem.W.keepIn K (.ref f_name) = true)
    (a_block : PySem.W.nsIn K mainGlobals "_block" = some (some (.ref f_block)))
    (l_block : K.lookup f_block = some ⟨oc_block, od_block, .func (PySem.W.fnOf "_block" "_block" (defArgs S_block) (defBody S_block) (defScope S_block) .none kV_block dc_block pm_block an_block cd_block ct_block), sl_block⟩)
    (c_block : PySem.W.codeIn K cd_block "_block" = true)
    (k_block : PySem.W.keepIn K (.ref f_block) = true)
    (a_statement : PySem.W.nsIn K mainGlobals "_statement" = some (some (.ref f_statement)))
    (l_statement : K.lookup f_statement = some ⟨oc_statement, od_statement, .func (PySem.W.fnOf "_statement" "_statement" (defArgs S_statement) (defBody S_statement) (defScope S_statement) .none kV_statement dc_statement pm_statement an_statement cd_statement ct_statement), sl_statement⟩)
    (c_statement : PySem.W.codeIn K cd_statement "_statement" = true)
    (k_statement : PySem.W.keepIn K (.ref f_statement) = true)
    (a_loop : PySem.W.nsIn K mainGlobals "_loop" = some (some (.ref f_loop)))
    (l_loop : K.lookup f_loop = some ⟨oc_loop, od_loop, .func (PySem.W.fnOf "_loop" "_loop" (defArgs S_loop) (defBody S_loop) (defScope S_loop) .none kV_loop dc_loop pm_loop an_loop cd_loop ct_loop), sl_loop⟩)
    (c_loop : PySem.W.codeIn K cd_loop "_loop" = true)
    (k_loop : PySem.W.keepIn K (.ref f_loop) = true)
    (a_size : PySem.W.nsIn K mainGlobals "_size" = some (some (.ref f_size)))
    (l_size : K.lookup f_size = some ⟨oc_size, od_size, .func (PySem.W.fnOf "_size" "_size" (defArgs S_size) (defBody S_size) (defScope S_size) .none kV_size dc_size pm_size an_size cd_size ct_size), sl_size⟩)
    (c_size : PySem.W.codeIn K cd_size "_size" = true)
    (k_size : PySem.W.keepIn K (.ref f_size) = true)
    (a_index : PySem.W.nsIn K mainGlobals "_index" = some (some (.ref f_index)))
    (l_index : K.lookup f_index = some ⟨oc_index, od_index, .func (PySem.W.fnOf "_index" "_index" (defArgs S_index) (defBody S_index) (defScope S_index) .none kV_index dc_index pm_index an_index cd_index ct_index), sl_index⟩)
    (c_index : PySem.W.codeIn K cd_index "_index" = true)
    (k_index : PySem.W.keepIn K (.ref f_index) = true)
    (a_sums : PySem.W.nsIn K mainGlobals "_sums" = some (some (.ref f_sums)))
    (l_sums : K.lookup f_sums = some ⟨oc_sums, od_sums, .func (PySem.W.fnOf "_sums" "_sums" (defArgs S_sums) (defBody S_sums) (defScope S_sums) .none kV_sums dc_sums pm_sums an_sums cd_sums ct_sums), sl_sums⟩)
    (c_sums : PySem.W.codeIn K cd_sums "_sums" = true)
    (k_sums : PySem.W.keepIn K (.ref f_sums) = true)
    (a_part : PySem.W.nsIn K mainGlobals "_part" = some (some (.ref f_part)))
    (l_part : K.lookup f_part = some ⟨oc_part, od_part, .func (PySem.W.fnOf "_part" "_part" (defArgs S_part) (defBody S_part) (defScope S_part) .none kV_part dc_part pm_part an_part cd_part ct_part), sl_part⟩)
    (c_part : PySem.W.codeIn K cd_part "_part" = true)
    (k_part : PySem.W.keepIn K (.ref f_part) = true)
    (a_law_pool : PySem.W.nsIn K mainGlobals "_law_pool" = some (some (.ref f_law_pool)))
    (l_law_pool : K.lookup f_law_pool = some ⟨oc_law_pool, od_law_pool, .func (PySem.W.fnOf "_law_pool" "_law_pool" (defArgs S_law_pool) (defBody S_law_pool) (defScope S_law_pool) .none kV_law_pool dc_law_pool pm_law_pool an_law_pool cd_law_pool ct_law_pool), sl_law_pool⟩)
    (c_law_pool : PySem.W.codeIn K cd_law_pool "_law_pool" = true)
    (k_law_pool : PySem.W.keepIn K (.ref f_law_pool) = true)
    (a_law_take : PySem.W.nsIn K mainGlobals "_law_take" = some (some (.ref f_law_take)))
    (l_law_take : K.lookup f_law_take = some ⟨oc_law_take, od_law_take, .func (PySem.W.fnOf "_law_take" "_law_take" (defArgs S_law_take) (defBody S_law_take) (defScope S_law_take) .none kV_law_take dc_law_take pm_law_take an_law_take cd_law_take ct_law_take), sl_law_take⟩)
    (c_law_take : PySem.W.codeIn K cd_law_take "_law_take" = true)
    (k_law_take : PySem.W.keepIn K (.ref f_law_take) = true)
    (a_law_heard : PySem.W.nsIn K mainGlobals "_law_heard" = some (some (.ref f_law_heard)))
    (l_law_heard : K.lookup f_law_heard = some ⟨oc_law_heard, od_law_heard, .func (PySem.W.fnOf "_law_heard" "_law_heard" (defArgs S_law_heard) (defBody S_law_heard) (defScope S_law_heard) .none kV_law_heard dc_law_heard pm_law_heard an_law_heard cd_law_heard ct_law_heard), sl_law_heard⟩)
    (c_law_heard : PySem.W.codeIn K cd_law_heard "_law_heard" = true)
    (k_law_heard : PySem.W.keepIn K (.ref f_law_heard) = true)
    (a_law_loops : PySem.W.nsIn K mainGlobals "_law_loops" = some (some (.ref f_law_loops)))
    (l_law_loops : K.lookup f_law_loops = some ⟨oc_law_loops, od_law_loops, .func (PySem.W.fnOf "_law_loops" "_law_loops" (defArgs S_law_loops) (defBody S_law_loops) (defScope S_law_loops) .none kV_law_loops dc_law_loops pm_law_loops an_law_loops cd_law_loops ct_law_loops), sl_law_loops⟩)
    (c_law_loops : PySem.W.codeIn K cd_law_loops "_law_loops" = true)
    (k_law_loops : PySem.W.keepIn K (.ref f_law_loops) = true)
    (a_law_texts : PySem.W.nsIn K mainGlobals "_law_texts" = some (some (.ref f_law_texts)))
    (l_law_texts : K.lookup f_law_texts = some ⟨oc_law_texts, od_law_texts, .func (PySem.W.fnOf "_law_texts" "_law_texts" (defArgs S_law_texts) (defBody S_law_texts) (defScope S_law_texts) .none kV_law_texts dc_law_texts pm_law_texts an_law_texts cd_law_texts ct_law_texts), sl_law_texts⟩)
    (c_law_texts : PySem.W.codeIn K cd_law_texts "_law_texts" = true)
    (k_law_texts : PySem.W.keepIn K (.ref f_law_texts) = true)
    (a_law_due : PySem.W.nsIn K mainGlobals "_law_due" = some (some (.ref f_law_due)))
    (l_law_due : K.lookup f_law_due = some ⟨oc_law_due, od_law_due, .func (PySem.W.fnOf "_law_due" "_law_due" (defArgs S_law_due) (defBody S_law_due) (defScope S_law_due) .none kV_law_due dc_law_due pm_law_due an_law_due cd_law_due ct_law_due), sl_law_due⟩)
    (c_law_due : PySem.W.codeIn K cd_law_due "_law_due" = true)
    (k_law_due : PySem.W.keepIn K (.ref f_law_due) = true)
    (a_law : PySem.W.nsIn K mainGlobals "law" = some (some (.ref f_law)))
    (l_law : K.lookup f_law = some ⟨oc_law, od_law, .func (PySem.W.fnOf "law" "law" (defArgs S_law) (defBody S_law) (defScope S_law) .none kV_law dc_law pm_law an_law cd_law ct_law), sl_law⟩)
    (c_law : PySem.W.codeIn K cd_law "law" = true)
    (k_law : PySem.W.keepIn K (.ref f_law) = true)
    (z_len : PySem.W.nsIn K mainGlobals "len" = some none)
    (z_tuple : PySem.W.nsIn K mainGlobals "tuple" = some none)
    (z_max : PySem.W.nsIn K mainGlobals "max" = some none)
    (z_enumerate : PySem.W.nsIn K mainGlobals "enumerate" = some none)
    (z_reversed : PySem.W.nsIn K mainGlobals "reversed" = some none)
    (z_isinstance : PySem.W.nsIn K mainGlobals "isinstance" = some none)
    (z_int : PySem.W.nsIn K mainGlobals "int" = some none)
    (z_bool : PySem.W.nsIn K mainGlobals "bool" = some none)
    (z_abs : PySem.W.nsIn K mainGlobals "abs" = some none)
    (z_range : PySem.W.nsIn K mainGlobals "range" = some none)
    (z_list : PySem.W.nsIn K mainGlobals "list" = some none)
    (z_min : PySem.W.nsIn K mainGlobals "min" = some none)
    (z_all : PySem.W.nsIn K mainGlobals "all" = some none)
    (z_str : PySem.W.nsIn K mainGlobals "str" = some none)
    (z_sorted : PySem.W.nsIn K mainGlobals "sorted" = some none)
    (z_repr : PySem.W.nsIn K mainGlobals "repr" = some none)
    (anO : PySem.W.specialIn K (.builtin "object.__class__") "__get__" = some (some (.builtin "getset_descriptor.__get__")))
    (tkO : PySem.W.takesIn K (.builtin "object.__class__") = some true)
    (si : PySem.W.subIn K (.type "int") (.ref C_Size) = some false)
    (sf : PySem.W.selfFirst K C_Size = true)
    (ra : PySem.W.findIn K (.ref C_Size) "__radd__" = some none)
    (ia : PySem.W.findIn K (.type "int") "__add__" = some ia1)
    (ib : PySem.W.findIn K (.type "int") "__radd__" = some ia2)
    (nf : C_TooLarge ≠ C_FarError ∧ C_InvalidSyntax ≠ C_FarError ∧ C_InvalidText ≠ C_FarError ∧ C_TooLarge ≠ C_InvalidSyntax ∧ C_TooLarge ≠ C_InvalidText ∧ C_InvalidSyntax ≠ C_InvalidText)
    (hc0 : cd_law = .ref c0)
    (lc0 : K.lookup c0 = some ⟨occ0, odc0, .fields vsc0, slc0⟩)
    (vt0 : (vsc0[11]? : Option Value) = some (.ref T0))
    (nt0 : K.lookup T0 = none) :
    ∃ (fd : FuncData) (c T : Addr), h.get? T = some { cls := .none, data := .fields #[] } ∧ K.lookup T = none ∧ PySem.W.CodeHd h c T ∧ (∀ (s : Shared) (v : Value), BindsTo s fd ⟨[v], []⟩ [("_law_script", v)]) ∧ ∀ base : Heap, K.In base → base.Ns mainGlobals mg → LamX.TabB base mg c T → RunG l.prog w K mg base CX0 29 fa fd ["_law_script"] (spL K T) := by
  have e := hfa.symm.trans (PySem.W.mg_of X G a_law)
  cases e
  have F_InvalidText___init__ := fun_mk (x := "__init__") (qual := "InvalidText.__init__") (st := S_InvalidText___init__) l_InvalidText___init__ c_InvalidText___init__ k_InvalidText___init__
  have b_InvalidText___init__ := F_InvalidText___init__.binds (ps := ["self", "value"]) fun _ _ _ _ _ _ us hl => match us, hl with | [_, _], _ => rfl
  have F_InvalidSyntax___init__ := fun_mk (x := "__init__") (qual := "InvalidSyntax.__init__") (st := S_InvalidSyntax___init__) l_InvalidSyntax___init__ c_InvalidSyntax___init__ k_InvalidSyntax___init__
  have b_InvalidSyntax___init__ := F_InvalidSyntax___init__.binds (ps := ["self", "position"]) fun _ _ _ _ _ _ us hl => match us, hl with | [_, _], _ => rfl
  have F_TooLarge___init__ := fun_mk (x := "__init__") (qual := "TooLarge.__init__") (st := S_TooLarge___init__) l_TooLarge___init__ c_TooLarge___init__ k_TooLarge___init__
  have b_TooLarge___init__ := F_TooLarge___init__.binds (ps := ["self", "word"]) fun _ _ _ _ _ _ us hl => match us, hl with | [_, _], _ => rfl
  have F_is_integer := fun_mk (x := "is_integer") (qual := "is_integer") (st := S_is_integer) l_is_integer c_is_integer k_is_integer
  have b_is_integer := F_is_integer.binds (ps := ["value"]) fun _ _ _ _ _ _ us hl => match us, hl with | [_], _ => rfl
  have g_is_integer := PySem.W.mg_of X G a_is_integer
  have F_trimmed := fun_mk (x := "_trimmed") (qual := "_trimmed") (st := S_trimmed) l_trimmed c_trimmed k_trimmed
  have b_trimmed := F_trimmed.binds (ps := ["parts"]) fun _ _ _ _ _ _ us hl => match us, hl with | [_], _ => rfl
  have g_trimmed := PySem.W.mg_of X G a_trimmed
  have F_sum := fun_mk (x := "_sum") (qual := "_sum") (st := S_sum) l_sum c_sum k_sum
  have b_sum := F_sum.binds (ps := ["one", "other"]) fun _ _ _ _ _ _ us hl => match us, hl with | [_, _], _ => rfl
  have g_sum := PySem.W.mg_of X G a_sum
  have F_product := fun_mk (x := "_product") (qual := "_product") (st := S_product) l_product c_product k_product
  have b_product := F_product.binds (ps := ["one", "other"]) fun _ _ _ _ _ _ us hl => match us, hl with | [_, _], _ => rfl
  have g_product := PySem.W.mg_of X G a_product
  have F_negative := fun_mk (x := "_negative") (qual := "_negative") (st := S_negative) l_negative c_negative k_negative
  have b_negative := F_negative.binds (ps := ["parts"]) fun _ _ _ _ _ _ us hl => match us, hl with | [_], _ => rfl
  have g_negative := PySem.W.mg_of X G a_negative
  have F_is_operand := fun_mk (x := "_is_operand") (qual := "_is_operand") (st := S_is_operand) l_is_operand c_is_operand k_is_operand
  have b_is_operand := F_is_operand.binds (ps := ["value"]) fun _ _ _ _ _ _ us hl => match us, hl with | [_], _ => rfl
  have g_is_operand := PySem.W.mg_of X G a_is_operand
  have F_parts_of := fun_mk (x := "_parts_of") (qual := "_parts_of") (st := S_parts_of) l_parts_of c_parts_of k_parts_of
  have b_parts_of := F_parts_of.binds (ps := ["operand"]) fun _ _ _ _ _ _ us hl => match us, hl with | [_], _ => rfl
  have g_parts_of := PySem.W.mg_of X G a_parts_of
  have kit_Size : InsKit K C_Size := ⟨⟨pg_Size, hd_Size, po_Size, sa_Size⟩, cc_Size, cgO, ctO, cm_Size⟩
  have mC_Size := PySem.W.mg_of X G aC_Size
  have F_Size___init__ : FunD K "__init__" "Size.__init__" (defArgs S_Size___init__) (defBody S_Size___init__) (defScope S_Size___init__) [.ref t0_Size___init__] [] f_Size___init__ (PySem.W.fnOf "__init__" "Size.__init__" (defArgs S_Size___init__) (defBody S_Size___init__) (defScope S_Size___init__) (.ref T1_Size___init__) kV_Size___init__ dc_Size___init__ pm_Size___init__ an_Size___init__ cd_Size___init__ ct_Size___init__) :=
    ⟨⟨_, _, _, _, _, _, _, _, _, _, rfl, l_Size___init__, c_Size___init__, .inr ⟨by simp, T1_Size___init__, _, [.ref t0_Size___init__], _, rfl, d1_Size___init__, rfl, .cons rfl .nil⟩, .inl rfl⟩, k_Size___init__⟩
  obtain ⟨e1_Size___init__, r1_Size___init__, bM1_Size___init__⟩ := F_Size___init__.binds1 (ps := ["self", "parts"]) 1 0 (by simp) rfl (fun _ _ _ _ _ _ _ us its hl hi => match us, its, hl, hi with | [_], [_], _, _ => ⟨_, rfl, rfl⟩)
  obtain ⟨e2_Size___init__, r2_Size___init__, bM2_Size___init__⟩ := F_Size___init__.binds1 (ps := ["self", "parts"]) 2 1 (by simp) rfl (fun _ _ _ _ _ _ _ us its hl hi => match us, its, hl, hi with | [_, _], [_], _, _ => ⟨_, rfl, rfl⟩)
  cases r2_Size___init__
  have M_Size___init__ : Meth K C_Size "__init__" f_Size___init__ := ⟨a_Size___init__, i_Size___init__, k_Size___init__⟩
  have MK_Size : Mk K C_Size f_Size___init__ := ⟨mk_Size, a_Size___init__, i_Size___init__, kc_Size⟩
  have F_Size_coefficients := fun_mk (x := "coefficients") (qual := "Size.coefficients") (st := S_Size_coefficients) l_Size_coefficients c_Size_coefficients k_Size_coefficients
  have b_Size_coefficients := F_Size_coefficients.binds (ps := ["self"]) fun _ _ _ _ _ _ us hl => match us, hl with | [_], _ => rfl
  have P_Size_coefficients : PropOf K C_Size "coefficients" p_Size_coefficients f_Size_coefficients := ⟨pa_Size_coefficients, pg_Size_coefficients, pt_Size_coefficients, ⟨_, pr_Size_coefficients⟩⟩
  have F_Size_degree := fun_mk (x := "degree") (qual := "Size.degree") (st := S_Size_degree) l_Size_degree c_Size_degree k_Size_degree
  have b_Size_degree := F_Size_degree.binds (ps := ["self"]) fun _ _ _ _ _ _ us hl => match us, hl with | [_], _ => rfl
  have P_Size_degree : PropOf K C_Size "degree" p_Size_degree f_Size_degree := ⟨pa_Size_degree, pg_Size_degree, pt_Size_degree, ⟨_, pr_Size_degree⟩⟩
  have F_Size___add__ := fun_mk (x := "__add__") (qual := "Size.__add__") (st := S_Size___add__) l_Size___add__ c_Size___add__ k_Size___add__
  have b_Size___add__ := F_Size___add__.binds (ps := ["self", "other"]) fun _ _ _ _ _ _ us hl => match us, hl with | [_, _], _ => rfl
  have M_Size___add__ : Meth K C_Size "__add__" f_Size___add__ := ⟨a_Size___add__, i_Size___add__, k_Size___add__⟩
  have F_Size___sub__ := fun_mk (x := "__sub__") (qual := "Size.__sub__") (st := S_Size___sub__) l_Size___sub__ c_Size___sub__ k_Size___sub__
  have b_Size___sub__ := F_Size___sub__.binds (ps := ["self", "other"]) fun _ _ _ _ _ _ us hl => match us, hl with | [_, _], _ => rfl
  have M_Size___sub__ : Meth K C_Size "__sub__" f_Size___sub__ := ⟨a_Size___sub__, i_Size___sub__, k_Size___sub__⟩
  have F_Size___mul__ := fun_mk (x := "__mul__") (qual := "Size.__mul__") (st := S_Size___mul__) l_Size___mul__ c_Size___mul__ k_Size___mul__
  have b_Size___mul__ := F_Size___mul__.binds (ps := ["self", "other"]) fun _ _ _ _ _ _ us hl => match us, hl with | [_, _], _ => rfl
  have M_Size___mul__ : Meth K C_Size "__mul__" f_Size___mul__ := ⟨a_Size___mul__, i_Size___mul__, k_Size___mul__⟩
  have F_Size___neg__ := fun_mk (x := "__neg__") (qual := "Size.__neg__") (st := S_Size___neg__) l_Size___neg__ c_Size___neg__ k_Size___neg__
  have b_Size___neg__ := F_Size___neg__.binds (ps := ["self"]) fun _ _ _ _ _ _ us hl => match us, hl with | [_], _ => rfl
  have M_Size___neg__ : Meth K C_Size "__neg__" f_Size___neg__ := ⟨a_Size___neg__, i_Size___neg__, k_Size___neg__⟩
  have F_Size___call__ := fun_mk (x := "__call__") (qual := "Size.__call__") (st := S_Size___call__) l_Size___call__ c_Size___call__ k_Size___call__
  have b_Size___call__ := F_Size___call__.binds (ps := ["self", "n"]) fun _ _ _ _ _ _ us hl => match us, hl with | [_, _], _ => rfl
  have M_Size___call__ : Meth K C_Size "__call__" f_Size___call__ := ⟨a_Size___call__, i_Size___call__, k_Size___call__⟩
  have F_Size___eq__ := fun_mk (x := "__eq__") (qual := "Size.__eq__") (st := S_Size___eq__) l_Size___eq__ c_Size___eq__ k_Size___eq__
  have b_Size___eq__ := F_Size___eq__.binds (ps := ["self", "other"]) fun _ _ _ _ _ _ us hl => match us, hl with | [_, _], _ => rfl
  have M_Size___eq__ : Meth K C_Size "__eq__" f_Size___eq__ := ⟨a_Size___eq__, i_Size___eq__, k_Size___eq__⟩
  have g_LETTERS := PySem.W.mg_of X G a_LETTERS
  have g_DIGITS := PySem.W.mg_of X G a_DIGITS
  have g_GAPS := PySem.W.mg_of X G a_GAPS
  have g_MOST_DIGITS := PySem.W.mg_of X G a_MOST_DIGITS
  have F_is_word := fun_mk (x := "is_word") (qual := "is_word") (st := S_is_word) l_is_word c_is_word k_is_word
  have b_is_word := F_is_word.binds (ps := ["text"]) fun _ _ _ _ _ _ us hl => match us, hl with | [_], _ => rfl
  have g_is_word := PySem.W.mg_of X G a_is_word
  have F_is_number := fun_mk (x := "is_number") (qual := "is_number") (st := S_is_number) l_is_number c_is_number k_is_number
  have b_is_number := F_is_number.binds (ps := ["text"]) fun _ _ _ _ _ _ us hl => match us, hl with | [_], _ => rfl
  have g_is_number := PySem.W.mg_of X G a_is_number
  have F_end_of_run := fun_mk (x := "_end_of_run") (qual := "_end_of_run") (st := S_end_of_run) l_end_of_run c_end_of_run k_end_of_run
  have b_end_of_run := F_end_of_run.binds (ps := ["text", "begin"]) fun _ _ _ _ _ _ us hl => match us, hl with | [_, _], _ => rfl
  have g_end_of_run := PySem.W.mg_of X G a_end_of_run
  have F_tokens_of := fun_mk (x := "tokens_of") (qual := "tokens_of") (st := S_tokens_of) l_tokens_of c_tokens_of k_tokens_of
  have b_tokens_of := F_tokens_of.binds (ps := ["text"]) fun _ _ _ _ _ _ us hl => match us, hl with | [_], _ => rfl
  have g_tokens_of := PySem.W.mg_of X G a_tokens_of
  have kit_Reader : InsKit K C_Reader := ⟨⟨pg_Reader, hd_Reader, po_Reader, sa_Reader⟩, cc_Reader, cgO, ctO, cm_Reader⟩
  have mC_Reader := PySem.W.mg_of X G aC_Reader
  have F_Reader___init__ := fun_mk (x := "__init__") (qual := "Reader.__init__") (st := S_Reader___init__) l_Reader___init__ c_Reader___init__ k_Reader___init__
  have b_Reader___init__ := F_Reader___init__.binds (ps := ["self", "text"]) fun _ _ _ _ _ _ us hl => match us, hl with | [_, _], _ => rfl
  have M_Reader___init__ : Meth K C_Reader "__init__" f_Reader___init__ := ⟨a_Reader___init__, i_Reader___init__, k_Reader___init__⟩
  have MK_Reader : Mk K C_Reader f_Reader___init__ := ⟨mk_Reader, a_Reader___init__, i_Reader___init__, kc_Reader⟩
  have F_Reader_token := fun_mk (x := "token") (qual := "Reader.token") (st := S_Reader_token) l_Reader_token c_Reader_token k_Reader_token
  have b_Reader_token := F_Reader_token.binds (ps := ["self"]) fun _ _ _ _ _ _ us hl => match us, hl with | [_], _ => rfl
  have M_Reader_token : Meth K C_Reader "token" f_Reader_token := ⟨a_Reader_token, i_Reader_token, k_Reader_token⟩
  have F_Reader_place := fun_mk (x := "place") (qual := "Reader.place") (st := S_Reader_place) l_Reader_place c_Reader_place k_Reader_place
  have b_Reader_place := F_Reader_place.binds (ps := ["self"]) fun _ _ _ _ _ _ us hl => match us, hl with | [_], _ => rfl
  have M_Reader_place : Meth K C_Reader "place" f_Reader_place := ⟨a_Reader_place, i_Reader_place, k_Reader_place⟩
  have F_Reader_pass_any := fun_mk (x := "pass_any") (qual := "Reader.pass_any") (st := S_Reader_pass_any) l_Reader_pass_any c_Reader_pass_any k_Reader_pass_any
  have b_Reader_pass_any := F_Reader_pass_any.binds (ps := ["self"]) fun _ _ _ _ _ _ us hl => match us, hl with | [_], _ => rfl
  have M_Reader_pass_any : Meth K C_Reader "pass_any" f_Reader_pass_any := ⟨a_Reader_pass_any, i_Reader_pass_any, k_Reader_pass_any⟩
  have F_Reader_passes := fun_mk (x := "passes") (qual := "Reader.passes") (st := S_Reader_passes) l_Reader_passes c_Reader_passes k_Reader_passes
  have b_Reader_passes := F_Reader_passes.binds (ps := ["self", "token"]) fun _ _ _ _ _ _ us hl => match us, hl with | [_, _], _ => rfl
  have M_Reader_passes : Meth K C_Reader "passes" f_Reader_passes := ⟨a_Reader_passes, i_Reader_passes, k_Reader_passes⟩
  have F_Reader_pass_only := fun_mk (x := "pass_only") (qual := "Reader.pass_only") (st := S_Reader_pass_only) l_Reader_pass_only c_Reader_pass_only k_Reader_pass_only
  have b_Reader_pass_only := F_Reader_pass_only.binds (ps := ["self", "token"]) fun _ _ _ _ _ _ us hl => match us, hl with | [_, _], _ => rfl
  have M_Reader_pass_only : Meth K C_Reader "pass_only" f_Reader_pass_only := ⟨a_Reader_pass_only, i_Reader_pass_only, k_Reader_pass_only⟩
  have F_Reader_pass_one := fun_mk (x := "pass_one") (qual := "Reader.pass_one") (st := S_Reader_pass_one) l_Reader_pass_one c_Reader_pass_one k_Reader_pass_one
  have b_Reader_pass_one := F_Reader_pass_one.binds (ps := ["self", "tokens"]) fun _ _ _ _ _ _ us hl => match us, hl with | [_, _], _ => rfl
  have M_Reader_pass_one : Meth K C_Reader "pass_one" f_Reader_pass_one := ⟨a_Reader_pass_one, i_Reader_pass_one, k_Reader_pass_one⟩
  have F_Reader_pass_number := fun_mk (x := "pass_number") (qual := "Reader.pass_number") (st := S_Reader_pass_number) l_Reader_pass_number c_Reader_pass_number k_Reader_pass_number
  have b_Reader_pass_number := F_Reader_pass_number.binds (ps := ["self"]) fun _ _ _ _ _ _ us hl => match us, hl with | [_], _ => rfl
  have M_Reader_pass_number : Meth K C_Reader "pass_number" f_Reader_pass_number := ⟨a_Reader_pass_number, i_Reader_pass_number, k_Reader_pass_number⟩
  have F_Reader_pass_end := fun_mk (x := "pass_end") (qual := "Reader.pass_end") (st := S_Reader_pass_end) l_Reader_pass_end c_Reader_pass_end k_Reader_pass_end
  have b_Reader_pass_end := F_Reader_pass_end.binds (ps := ["self"]) fun _ _ _ _ _ _ us hl => match us, hl with | [_], _ => rfl
  have M_Reader_pass_end : Meth K C_Reader "pass_end" f_Reader_pass_end := ⟨a_Reader_pass_end, i_Reader_pass_end, k_Reader_pass_end⟩
  have g_KEYWORDS := PySem.W.mg_of X G a_KEYWORDS
  have q_KEYWORDS : ∀ H, SqT K H t_KEYWORDS ((["array", "for", "read", "write", "flush", "n"] : List Str).map V.str) := fun H => .inr ⟨_, _, _, l_KEYWORDS, rfl, rfl, (by show 6 ≤ sizeLine; decide), (.cons ⟨_, rfl⟩ (.cons ⟨_, rfl⟩ (.cons ⟨_, rfl⟩ (.cons ⟨_, rfl⟩ (.cons ⟨_, rfl⟩ (.cons ⟨_, rfl⟩ .nil))))))⟩
  have g_STATEMENTS := PySem.W.mg_of X G a_STATEMENTS
  have q_STATEMENTS : ∀ H, SqT K H t_STATEMENTS ((["for", "read", "write", "flush"] : List Str).map V.str) := fun H => .inr ⟨_, _, _, l_STATEMENTS, rfl, rfl, (by show 4 ≤ sizeLine; decide), (.cons ⟨_, rfl⟩ (.cons ⟨_, rfl⟩ (.cons ⟨_, rfl⟩ (.cons ⟨_, rfl⟩ .nil))))⟩
  have g_MOST_POWER := PySem.W.mg_of X G a_MOST_POWER
  have g_MOST_LOOPS := PySem.W.mg_of X G a_MOST_LOOPS
  have F_is_name := fun_mk (x := "is_name") (qual := "is_name") (st := S_is_name) l_is_name c_is_name k_is_name
  have b_is_name := F_is_name.binds (ps := ["value"]) fun _ _ _ _ _ _ us hl => match us, hl with | [_], _ => rfl
  have g_is_name := PySem.W.mg_of X G a_is_name
  have F_parse := fun_mk (x := "parse") (qual := "parse") (st := S_parse) l_parse c_parse k_parse
  have b_parse := F_parse.binds (ps := ["text"]) fun _ _ _ _ _ _ us hl => match us, hl with | [_], _ => rfl
  have g_parse := PySem.W.mg_of X G a_parse
  have F_parse_size := fun_mk (x := "parse_size") (qual := "parse_size") (st := S_parse_size) l_parse_size c_parse_size k_parse_size
  have b_parse_size := F_parse_size.binds (ps := ["text"]) fun _ _ _ _ _ _ us hl => match us, hl with | [_], _ => rfl
  have g_parse_size := PySem.W.mg_of X G a_parse_size
  have F_parse_block := fun_mk (x := "parse_block") (qual := "parse_block") (st := S_parse_block) l_parse_block c_parse_block k_parse_block
  have b_parse_block := F_parse_block.binds (ps := ["text"]) fun _ _ _ _ _ _ us hl => match us, hl with | [_], _ => rfl
  have g_parse_block := PySem.W.mg_of X G a_parse_block
  have F_reader := fun_mk (x := "_reader") (qual := "_reader") (st := S_reader) l_reader c_reader k_reader
  have b_reader := F_reader.binds (ps := ["text"]) fun _ _ _ _ _ _ us hl => match us, hl with | [_], _ => rfl
  have g_reader := PySem.W.mg_of X G a_reader
  have F_name := fun_mk (x := "_name") (qual := "_name") (st := S_name) l_name c_name k_name
  have b_name := F_name.binds (ps := ["reader"]) fun _ _ _ _ _ _ us hl => match us, hl with | [_], _ => rfl
  have g_name := PySem.W.mg_of X G a_name
  have F_block := fun_mk (x := "_block") (qual := "_block") (st := S_block) l_block c_block k_block
  have b_block := F_block.binds (ps := ["reader", "loops"]) fun _ _ _ _ _ _ us hl => match us, hl with | [_, _], _ => rfl
  have g_block := PySem.W.mg_of X G a_block
  have F_statement := fun_mk (x := "_statement") (qual := "_statement") (st := S_statement) l_statement c_statement k_statement
  have b_statement := F_statement.binds (ps := ["reader", "loops"]) fun _ _ _ _ _ _ us hl => match us, hl with | [_, _], _ => rfl
  have g_statement := PySem.W.mg_of X G a_statement
  have F_loop := fun_mk (x := "_loop") (qual := "_loop") (st := S_loop) l_loop c_loop k_loop
  have b_loop := F_loop.binds (ps := ["reader", "loops"]) fun _ _ _ _ _ _ us hl => match us, hl with | [_, _], _ => rfl
  have g_loop := PySem.W.mg_of X G a_loop
  have F_size := fun_mk (x := "_size") (qual := "_size") (st := S_size) l_size c_size k_size
  have b_size := F_size.binds (ps := ["reader"]) fun _ _ _ _ _ _ us hl => match us, hl with | [_], _ => rfl
  have g_size := PySem.W.mg_of X G a_size
  have F_index := fun_mk (x := "_index") (qual := "_index") (st := S_index) l_index c_index k_index
  have b_index := F_index.binds (ps := ["reader"]) fun _ _ _ _ _ _ us hl => match us, hl with | [_], _ => rfl
  have g_index := PySem.W.mg_of X G a_index
  have F_sums := fun_mk (x := "_sums") (qual := "_sums") (st := S_sums) l_sums c_sums k_sums
  have b_sums := F_sums.binds (ps := ["reader", "in_index"]) fun _ _ _ _ _ _ us hl => match us, hl with | [_, _], _ => rfl
  have g_sums := PySem.W.mg_of X G a_sums
  have F_part := fun_mk (x := "_part") (qual := "_part") (st := S_part) l_part c_part k_part
  have b_part := F_part.binds (ps := ["reader", "in_index"]) fun _ _ _ _ _ _ us hl => match us, hl with | [_, _], _ => rfl
  have g_part := PySem.W.mg_of X G a_part
  have F_law_pool := fun_mk (x := "_law_pool") (qual := "_law_pool") (st := S_law_pool) l_law_pool c_law_pool k_law_pool
  have b_law_pool := F_law_pool.binds (ps := ["_law_script", "_law_k"]) fun _ _ _ _ _ _ us hl => match us, hl with | [_, _], _ => rfl
  have g_law_pool := PySem.W.mg_of X G a_law_pool
  have F_law_take := fun_mk (x := "_law_take") (qual := "_law_take") (st := S_law_take) l_law_take c_law_take k_law_take
  have b_law_take := F_law_take.binds (ps := ["_law_pool_here", "_law_wide"]) fun _ _ _ _ _ _ us hl => match us, hl with | [_, _], _ => rfl
  have g_law_take := PySem.W.mg_of X G a_law_take
  have F_law_heard := fun_mk (x := "_law_heard") (qual := "_law_heard") (st := S_law_heard) l_law_heard c_law_heard k_law_heard
  have b_law_heard := F_law_heard.binds (ps := ["_law_call"]) fun _ _ _ _ _ _ us hl => match us, hl with | [_], _ => rfl
  have g_law_heard := PySem.W.mg_of X G a_law_heard
  have F_law_loops := fun_mk (x := "_law_loops") (qual := "_law_loops") (st := S_law_loops) l_law_loops c_law_loops k_law_loops
  have b_law_loops := F_law_loops.binds (ps := ["_law_deep", "_law_inside"]) fun _ _ _ _ _ _ us hl => match us, hl with | [_, _], _ => rfl
  have g_law_loops := PySem.W.mg_of X G a_law_loops
  have F_law_texts := fun_mk (x := "_law_texts") (qual := "_law_texts") (st := S_law_texts) l_law_texts c_law_texts k_law_texts
  have b_law_texts := F_law_texts.binds (ps := ["_law_number", "_law_powers", "_law_deep"]) fun _ _ _ _ _ _ us hl => match us, hl with | [_, _, _], _ => rfl
  have g_law_texts := PySem.W.mg_of X G a_law_texts
  have F_law_due := fun_mk (x := "_law_due") (qual := "_law_due") (st := S_law_due) l_law_due c_law_due k_law_due
  have b_law_due := F_law_due.binds (ps := ["_law_at", "_law_digits", "_law_powers", "_law_deep"]) fun _ _ _ _ _ _ us hl => match us, hl with | [_, _, _, _], _ => rfl
  have g_law_due := PySem.W.mg_of X G a_law_due
  have F_law := fun_mk (x := "law") (qual := "law") (st := S_law) l_law c_law k_law
  have b_law := F_law.binds (ps := ["_law_script"]) fun _ _ _ _ _ _ us hl => match us, hl with | [_], _ => rfl
  have g_law := PySem.W.mg_of X G a_law
  have X_InvalidText : ErX K mg "InvalidText" C_InvalidText C_FarError "value" := ⟨⟨_, _, _, _, _, _, _, _, _, _, _, _, _, _, l_InvalidText⟩, sa_InvalidText, kC_InvalidText, ga_InvalidText, gg_InvalidText, ex_InvalidText, ac_InvalidText, anO, tkO, mo_InvalidText, no_InvalidText, PySem.W.mg_of X G aC_InvalidText⟩
  have SX_InvalidText : ∀ base : Heap, SxC l.prog w K mg base "InvalidText" C_InvalidText "value" := fun base => ⟨X_InvalidText.oexc, X_InvalidText.m, _, _, i_InvalidText, beq_iff_eq.mp t_InvalidText, sx_InvalidText X_InvalidText.oxc X_InvalidText.no F_InvalidText___init__, b_InvalidText___init__⟩
  have X_InvalidSyntax : ErX K mg "InvalidSyntax" C_InvalidSyntax C_FarError "position" := ⟨⟨_, _, _, _, _, _, _, _, _, _, _, _, _, _, l_InvalidSyntax⟩, sa_InvalidSyntax, kC_InvalidSyntax, ga_InvalidSyntax, gg_InvalidSyntax, ex_InvalidSyntax, ac_InvalidSyntax, anO, tkO, mo_InvalidSyntax, no_InvalidSyntax, PySem.W.mg_of X G aC_InvalidSyntax⟩
  have SX_InvalidSyntax : ∀ base : Heap, SxC l.prog w K mg base "InvalidSyntax" C_InvalidSyntax "position" := fun base => ⟨X_InvalidSyntax.oexc, X_InvalidSyntax.m, _, _, i_InvalidSyntax, beq_iff_eq.mp t_InvalidSyntax, sx_InvalidSyntax X_InvalidSyntax.oxc X_InvalidSyntax.no F_InvalidSyntax___init__, b_InvalidSyntax___init__⟩
  have X_TooLarge : ErX K mg "TooLarge" C_TooLarge C_FarError "word" := ⟨⟨_, _, _, _, _, _, _, _, _, _, _, _, _, _, l_TooLarge⟩, sa_TooLarge, kC_TooLarge, ga_TooLarge, gg_TooLarge, ex_TooLarge, ac_TooLarge, anO, tkO, mo_TooLarge, no_TooLarge, PySem.W.mg_of X G aC_TooLarge⟩
  have SX_TooLarge : ∀ base : Heap, SxC l.prog w K mg base "TooLarge" C_TooLarge "word" := fun base => ⟨X_TooLarge.oexc, X_TooLarge.m, _, _, i_TooLarge, beq_iff_eq.mp t_TooLarge, sx_TooLarge X_TooLarge.oxc X_TooLarge.no F_TooLarge___init__, b_TooLarge___init__⟩
  have tb : TkB mg := ⟨⟨_, g_LETTERS⟩, ⟨_, g_DIGITS⟩, ⟨_, g_GAPS⟩, PySem.W.mg_none_of X G z_len, PySem.W.mg_none_of X G z_max, PySem.W.mg_none_of X G z_all⟩
  have tx : TxB K mg := ⟨⟨_, g_KEYWORDS, q_KEYWORDS⟩, PySem.W.mg_none_of X G z_isinstance, PySem.W.mg_none_of X G z_str⟩
  have Z : RdC K mg C_Reader := ⟨kit_Reader, np_Reader_tokens, np_Reader_at⟩
  have Bz : Bn mg := ⟨PySem.W.mg_none_of X G z_len, PySem.W.mg_none_of X G z_tuple, PySem.W.mg_none_of X G z_max, PySem.W.mg_none_of X G z_enumerate, PySem.W.mg_none_of X G z_reversed, PySem.W.mg_none_of X G z_isinstance, PySem.W.mg_none_of X G z_int, PySem.W.mg_none_of X G z_bool⟩
  have ZZ : SzC K mg C_Size _ _ _ _ _ _ _ := ⟨kit_Size, np_Size_parts, ic_Size, tc_Size, si, mC_Size, g_trimmed, g_sum, g_product, g_negative, g_is_integer, g_is_operand, g_parts_of⟩
  have D : SzDefs K mg C_Size _ _ _ _ _ _ _ _ _ _ _ _ _ _ _ _ _ p_Size_coefficients f_Size_coefficients [.ref t0_Size___init__] e1_Size___init__ := { Z := ZZ, B := Bz, T := F_trimmed, bT := b_trimmed, S := F_sum, bS := b_sum, P := F_product, bP := b_product, N := F_negative, bN := b_negative, I := F_is_integer, bI := b_is_integer, O := F_is_operand, bO := b_is_operand, A := F_parts_of, bA := b_parts_of, M := MK_Size, FM := F_Size___init__, bM := bM2_Size___init__, bM0 := bM1_Size___init__, hd := r1_Size___init__, dv := ⟨t0_Size___init__, rfl, fun H => .inr ⟨_, #[], _, d2_Size___init__, rfl, rfl, by decide, .nil⟩⟩, pc := P_Size_coefficients, G := F_Size_coefficients, bG := b_Size_coefficients }
  have bo : BinOwn K C_Size "add" f_Size___add__ := { sf := sf, hs := a_Size___add__, hf := i_Size___add__, hr := ra, ti := ⟨ia1, ia2, ia, ib⟩, su := si }
  have tb0 : PySem.W.tabIn K "law" = some (c0, T0) := by simp only [PySem.W.tabIn, a_law, l_law, PySem.W.fnOf, hc0, lc0, vt0]
  obtain ⟨CH, hT⟩ := PySem.W.tab_of TT X hr0 tb0
  refine ⟨PySem.W.fnOf "law" "law" (defArgs S_law) (defBody S_law) (defScope S_law) .none kV_law dc_law pm_law an_law cd_law ct_law, c0, T0, hT, nt0, CH, fun s v => .of_eq rfl, fun base _ _ TB => ?_⟩
  have GS := SX_InvalidSyntax base
  have GT := SX_TooLarge base
  have GV := SX_InvalidText base
  have Wz : SzS l.prog w K mg base C_Size := ⟨mC_Size, ⟨_, _, _, _, MK_Size, D.okI, bM2_Size___init__, bM1_Size___init__, r1_Size___init__, fun H => .inr ⟨_, #[], _, d2_Size___init__, rfl, rfl, by decide, .nil⟩⟩, ⟨_, _, bo, b_Size___add__, ok_add F_Size___add__ D⟩⟩
  have Y : RdS l.prog w K mg base C_Reader C_InvalidSyntax C_TooLarge := {
    Z := Z
    tok := ⟨_, _, M_Reader_token, b_Reader_token, ok_token F_Reader_token Z⟩
    place := ⟨_, _, M_Reader_place, b_Reader_place, ok_place F_Reader_place Z⟩
    any := ⟨_, _, M_Reader_pass_any, b_Reader_pass_any, ok_pass_any F_Reader_pass_any F_Reader_token b_Reader_token M_Reader_token Z⟩
    passes := ⟨_, _, M_Reader_passes, b_Reader_passes, ok_passes F_Reader_passes F_Reader_token b_Reader_token M_Reader_token Z⟩
    isn := ⟨_, _, g_is_number, F_is_number.kp, b_is_number, ok_is_number F_is_number tb⟩
    name := ⟨_, _, g_name, F_name.kp, b_name, ok_name F_name F_is_name b_is_name g_is_name F_Reader_pass_any b_Reader_pass_any M_Reader_pass_any F_Reader_token b_Reader_token M_Reader_token F_Reader_place b_Reader_place M_Reader_place F_is_word b_is_word g_is_word F_end_of_run b_end_of_run g_end_of_run tb tx Z GS⟩
    number := ⟨_, _, M_Reader_pass_number, b_Reader_pass_number, ok_number F_Reader_pass_number F_Reader_pass_any b_Reader_pass_any M_Reader_pass_any F_Reader_token b_Reader_token M_Reader_token F_Reader_place b_Reader_place M_Reader_place F_is_number b_is_number g_is_number tb (PySem.W.mg_none_of X G z_len) (PySem.W.mg_none_of X G z_int) ⟨_, g_MOST_DIGITS⟩ Z GS GT⟩
    GS := GS
    GT := GT }
  have pw : PtB mg := ⟨⟨_, g_MOST_POWER⟩⟩
  have GSums := ok_sums F_sums F_part b_part g_part Y pw Wz
  have GG := ok_coefficients (P := l.prog) (w := w) (base := base) F_Size_coefficients ZZ
  have V' : PsS l.prog w K mg base C_Reader C_InvalidSyntax C_TooLarge := {
    Y := Y
    only := ⟨_, _, M_Reader_pass_only, b_Reader_pass_only, ok_pass_only F_Reader_pass_only F_Reader_passes b_Reader_passes M_Reader_passes F_Reader_token b_Reader_token M_Reader_token F_Reader_place b_Reader_place M_Reader_place Z GS⟩
    size := ⟨_, _, g_size, F_size.kp, b_size, ok_size F_size GSums F_sums.kp b_sums g_sums P_Size_coefficients kit_Size.cl GG b_Size_coefficients⟩
    index := ⟨_, _, g_index, F_index.kp, b_index, ok_index F_index GSums F_sums.kp b_sums g_sums P_Size_coefficients kit_Size.cl GG b_Size_coefficients (PySem.W.mg_none_of X G z_sorted) (PySem.W.mg_none_of X G z_list) (PySem.W.mg_none_of X G z_tuple)⟩
    most := ⟨_, g_MOST_LOOPS⟩
    st := ⟨_, g_STATEMENTS, q_STATEMENTS⟩
    tup := PySem.W.mg_none_of X G z_tuple }
  have W : PzS l.prog w K mg base C_Reader C_InvalidText C_InvalidSyntax C_TooLarge := {
    V' := V'
    rd := ⟨_, _, g_reader, F_reader.kp, b_reader, ok_reader F_reader MK_Reader (ok_rd_init F_Reader___init__ F_tokens_of b_tokens_of g_tokens_of F_end_of_run b_end_of_run g_end_of_run tb Z) b_Reader___init__ mC_Reader (PySem.W.mg_none_of X G z_isinstance) (PySem.W.mg_none_of X G z_str) GV⟩
    fin := ⟨_, _, M_Reader_pass_end, b_Reader_pass_end, ok_pass_end F_Reader_pass_end F_Reader_token b_Reader_token M_Reader_token F_Reader_place b_Reader_place M_Reader_place Z GS⟩
    blk := ⟨_, _, g_block, F_block.kp, b_block, ok_blocks F_block b_block g_block F_statement b_statement g_statement F_loop b_loop g_loop V' 5 0 rfl⟩ }
  have B2 : Bn2 mg := ⟨PySem.W.mg_none_of X G z_len, PySem.W.mg_none_of X G z_int, PySem.W.mg_none_of X G z_abs⟩
  have TAKE : CalB l.prog w K mg base CX0 "_law_take" 1 PreT ResT := ⟨⟨_, _, _, take_B (ok_take F_law_take B2), g_law_take, F_law_take.kp, b_law_take⟩⟩
  have LOOPS : CalP l.prog w K mg base CX0 "_law_loops" 1 PreLo ResLo := ⟨⟨_, _, _, t_loops F_law_loops, g_law_loops, F_law_loops.kp, b_law_loops⟩⟩
  have ex : ∀ i j : Nat, i < 3 → j < 3 → PySem.W.exmOne K (.ref (([C_TooLarge, C_InvalidSyntax, C_InvalidText] : List Addr).getD i C_InvalidText)) (.ref (([C_TooLarge, C_InvalidSyntax, C_InvalidText] : List Addr).getD j C_InvalidText)) = some (decide (i = j)) := by
    obtain ⟨n1, n2, n3, n4, n5, n6⟩ := nf
    intro i j hi hj
    match i, j, hi, hj with
    | 0, 0, _, _ => show PySem.W.exmOne K (.ref C_TooLarge) (.ref C_TooLarge) = _; rw [X_TooLarge.exm X_TooLarge n1, decide_eq_true rfl]; rfl
    | 0, 1, _, _ => show PySem.W.exmOne K (.ref C_TooLarge) (.ref C_InvalidSyntax) = _; rw [X_TooLarge.exm X_InvalidSyntax n2, decide_eq_false n4]; rfl
    | 0, 2, _, _ => show PySem.W.exmOne K (.ref C_TooLarge) (.ref C_InvalidText) = _; rw [X_TooLarge.exm X_InvalidText n3, decide_eq_false n5]; rfl
    | 1, 0, _, _ => show PySem.W.exmOne K (.ref C_InvalidSyntax) (.ref C_TooLarge) = _; rw [X_InvalidSyntax.exm X_TooLarge n1, decide_eq_false fun z => n4 z.symm]; rfl
    | 1, 1, _, _ => show PySem.W.exmOne K (.ref C_InvalidSyntax) (.ref C_InvalidSyntax) = _; rw [X_InvalidSyntax.exm X_InvalidSyntax n2, decide_eq_true rfl]; rfl
    | 1, 2, _, _ => show PySem.W.exmOne K (.ref C_InvalidSyntax) (.ref C_InvalidText) = _; rw [X_InvalidSyntax.exm X_InvalidText n3, decide_eq_false n6]; rfl
    | 2, 0, _, _ => show PySem.W.exmOne K (.ref C_InvalidText) (.ref C_TooLarge) = _; rw [X_InvalidText.exm X_TooLarge n1, decide_eq_false fun z => n5 z.symm]; rfl
    | 2, 1, _, _ => show PySem.W.exmOne K (.ref C_InvalidText) (.ref C_InvalidSyntax) = _; rw [X_InvalidText.exm X_InvalidSyntax n2, decide_eq_false fun z => n6 z.symm]; rfl
    | 2, 2, _, _ => show PySem.W.exmOne K (.ref C_InvalidText) (.ref C_InvalidText) = _; rw [X_InvalidText.exm X_InvalidText n3, decide_eq_true rfl]; rfl
    | i + 3, _, h, _ => exact absurd h (by omega)
    | _, j + 3, _, h => exact absurd h (by omega)
  exact run_law F_law hc0 {
    Z := ⟨PySem.W.mg_none_of X G z_repr, X_InvalidText.m, X_InvalidSyntax.m, X_TooLarge.m, X_InvalidText.oxc, X_InvalidSyntax.oxc, X_TooLarge.oxc, no_InvalidText, no_InvalidSyntax, no_TooLarge, ex⟩
    TB := TB
    heard := ⟨_, _, F_law_heard, g_law_heard, b_law_heard⟩
    pool := ⟨⟨_, _, _, pool_P (ok_pool F_law_pool B2), g_law_pool, F_law_pool.kp, b_law_pool⟩⟩
    take := TAKE
    texts := ⟨⟨_, _, _, t_texts F_law_texts LOOPS, g_law_texts, F_law_texts.kp, b_law_texts⟩⟩
    due := ⟨⟨_, _, _, t_due F_law_due, g_law_due, F_law_due.kp, b_law_due⟩⟩
    parse := ⟨ok_parse F_parse W, g_parse, F_parse.kp, b_parse⟩
    size := ⟨ok_parse_size F_parse_size W, g_parse_size, F_parse_size.kp, b_parse_size⟩
    block := ⟨ok_parse_block F_parse_block W, g_parse_block, F_parse_block.kp, b_parse_block⟩
    rng := PySem.W.mg_none_of X G z_range
    enum := PySem.W.mg_none_of X G z_enumerate
    len := PySem.W.mg_none_of X G z_len
    max := PySem.W.mg_none_of X G z_max
    min := PySem.W.mg_none_of X G z_min
    rep := PySem.W.mg_none_of X G z_repr }


end K05

namespace K05
end K05
open PySem PySem.W PyProof.Rows
set_option maxRecDepth 100000 in
set_option maxHeartbeats 0 in
theorem PySem.Challenge.cw_farmisses_k05_sizes_in_texts_holds : PySem.Challenge.rw_farmisses_k05_sizes_in_texts.Holds := by
  w_on; o_law; k_head; (case hw => w_witness2)
  k_fill
  refine VX.walk_T (l := PySem.Challenge.rw_farmisses_k05_sizes_in_texts) (n := 63) (k := 29) (x := "_law_script") (CX := L2.CX0) (sp := DE.spL) rfl (by decide) rfl ⟨rfl, by decide, by decide⟩ (fun w h Y => PySem.W.km_in_of Y) ?F (fun _ _ _ a ns hl tT only hS => ⟨a, ns, rfl, hl, hS, tT, only, fun _ => rfl⟩) (fun _ _ _ _ z => z)
  case F =>
    intro w lo mean mg mb fa h TT Y KX G hmg
    refine' K05.all_mk TT rfl KX G hmg ?aC_FarError ?aC_InvalidText ?l_InvalidText ?sa_InvalidText ?kC_InvalidText ?ga_InvalidText ?gg_InvalidText ?ex_InvalidText ?ac_InvalidText ?mo_InvalidText ?no_InvalidText ?i_InvalidText ?t_InvalidText ?l_InvalidText___init__ ?c_InvalidText___init__ ?k_InvalidText___init__ ?aC_InvalidSyntax ?l_InvalidSyntax ?sa_InvalidSyntax ?kC_InvalidSyntax ?ga_InvalidSyntax ?gg_InvalidSyntax ?ex_InvalidSyntax ?ac_InvalidSyntax ?mo_InvalidSyntax ?no_InvalidSyntax ?i_InvalidSyntax ?t_InvalidSyntax ?l_InvalidSyntax___init__ ?c_InvalidSyntax___init__ ?k_InvalidSyntax___init__ ?aC_TooLarge ?l_TooLarge ?sa_TooLarge ?kC_TooLarge ?ga_TooLarge ?gg_TooLarge ?ex_TooLarge ?ac_TooLarge ?mo_TooLarge ?no_TooLarge ?i_TooLarge ?t_TooLarge ?l_TooLarge___init__ ?c_TooLarge___init__ ?k_TooLarge___init__ ?a_is_integer ?l_is_integer ?c_is_integer ?k_is_integer ?a_trimmed ?l_trimmed ?c_trimmed ?k_trimmed ?a_sum ?l_sum ?c_sum ?k_sum ?a_product ?l_product ?c_product ?k_product ?a_negative ?l_negative ?c_negative ?k_negative ?a_is_operand ?l_is_operand ?c_is_operand ?k_is_operand ?a_parts_of ?l_parts_of ?c_parts_of ?k_parts_of ?aC_Size ?pg_Size ?hd_Size ?po_Size ?sa_Size ?mk_Size ?kc_Size ?cc_Size ?cm_Size ?ic_Size ?tc_Size ?cgO ?ctO ?np_Size_parts ?a_Size___init__ ?i_Size___init__ ?l_Size___init__ ?c_Size___init__ ?k_Size___init__ ?d1_Size___init__ ?d2_Size___init__ ?pa_Size_coefficients ?pg_Size_coefficients ?pt_Size_coefficients ?pr_Size_coefficients ?l_Size_coefficients ?c_Size_coefficients ?k_Size_coefficients ?pa_Size_degree ?pg_Size_degree ?pt_Size_degree ?pr_Size_degree ?l_Size_degree ?c_Size_degree ?k_Size_degree ?a_Size___add__ ?i_Size___add__ ?l_Size___add__ ?c_Size___add__ ?k_Size___add__ ?a_Size___sub__ ?i_Size___sub__ ?l_Size___sub__ ?c_Size___sub__ ?k_Size___sub__ ?a_Size___mul__ ?i_Size___mul__ ?l_Size___mul__ ?c_Size___mul__ ?k_Size___mul__ ?a_Size___neg__ ?i_Size___neg__ ?l_Size___neg__ ?c_Size___neg__ ?k_Size___neg__ ?a_Size___call__ ?i_Size___call__ ?l_Size___call__ ?c_Size___call__ ?k_Size___call__ ?a_Size___eq__ ?i_Size___eq__ ?l_Size___eq__ ?c_Size___eq__ ?k_Size___eq__ ?a_LETTERS ?a_DIGITS ?a_GAPS ?a_MOST_DIGITS ?a_is_word ?l_is_word ?c_is_word ?k_is_word ?a_is_number ?l_is_number ?c_is_number ?k_is_number ?a_end_of_run ?l_end_of_run ?c_end_of_run ?k_end_of_run ?a_tokens_of ?l_tokens_of ?c_tokens_of ?k_tokens_of ?aC_Reader ?pg_Reader ?hd_Reader ?po_Reader ?sa_Reader ?mk_Reader ?kc_Reader ?cc_Reader ?cm_Reader ?ic_Reader ?tc_Reader ?np_Reader_tokens ?np_Reader_at ?a_Reader___init__ ?i_Reader___init__ ?l_Reader___init__ ?c_Reader___init__ ?k_Reader___init__ ?a_Reader_token ?i_Reader_token ?l_Reader_token ?c_Reader_token ?k_Reader_token ?a_Reader_place ?i_Reader_place ?l_Reader_place ?c_Reader_place ?k_Reader_place ?a_Reader_pass_any ?i_Reader_pass_any ?l_Reader_pass_any ?c_Reader_pass_any ?k_Reader_pass_any ?a_Reader_passes ?i_Reader_passes ?l_Reader_passes ?c_Reader_passes ?k_Reader_passes ?a_Reader_pass_only ?i_Reader_pass_only ?l_Reader_pass_only ?c_Reader_pass_only ?k_Reader_pass_only ?a_Reader_pass_one ?i_Reader_pass_one ?l_Reader_pass_one ?c_Reader_pass_one ?k_Reader_pass_one ?a_Reader_pass_number ?i_Reader_pass_number ?l_Reader_pass_number ?c_Reader_pass_number ?k_Reader_pass_number ?a_Reader_pass_end ?i_Reader_pass_end ?l_Reader_pass_end ?c_Reader_pass_end ?k_Reader_pass_end ?a_KEYWORDS ?l_KEYWORDS ?a_STATEMENTS ?l_STATEMENTS ?a_MOST_POWER ?a_MOST_LOOPS ?a_is_name ?l_is_name ?c_is_name ?k_is_name ?a_parse ?l_parse ?c_parse ?k_parse ?a_parse_size ?l_parse_size ?c_parse_size ?k_parse_size ?a_parse_block ?l_parse_block ?c_parse_block ?k_parse_block ?a_reader ?l_reader ?c_reader ?k_reader ?a_name ?l_name ?c_name ?k_name ?a_block ?l_block ?c_block ?k_block ?a_statement ?l_statement ?c_statement ?k_statement ?a_loop ?l_loop ?c_loop ?k_loop ?a_size ?l_size ?c_size ?k_size ?a_index ?l_index ?c_index ?k_index ?a_sums ?l_sums ?c_sums ?k_sums ?a_part ?l_part ?c_part ?k_part ?a_law_pool ?l_law_pool ?c_law_pool ?k_law_pool ?a_law_take ?l_law_take ?c_law_take ?k_law_take ?a_law_heard ?l_law_heard ?c_law_heard ?k_law_heard ?a_law_loops ?l_law_loops ?c_law_loops ?k_law_loops ?a_law_texts ?l_law_texts ?c_law_texts ?k_law_texts ?a_law_due ?l_law_due ?c_law_due ?k_law_due ?a_law ?l_law ?c_law ?k_law ?z_len ?z_tuple ?z_max ?z_enumerate ?z_reversed ?z_isinstance ?z_int ?z_bool ?z_abs ?z_range ?z_list ?z_min ?z_all ?z_str ?z_sorted ?z_repr ?anO ?tkO ?si ?sf ?ra ?ia ?ib ?nf ?hc0 ?lc0 ?vt0 ?nt0
    (case aC_FarError => k_is)
    (case aC_InvalidText => k_is)
    (case l_InvalidText => k_is)
    (case sa_InvalidText => k_is)
    (case kC_InvalidText => k_is)
    (case ga_InvalidText => k_is)
    (case gg_InvalidText => k_is)
    (case ex_InvalidText => k_is)
    (case ac_InvalidText => k_is)
    (case mo_InvalidText => k_is)
    (case no_InvalidText => k_is)
    (case i_InvalidText => k_is)
    (case t_InvalidText => k_is)
    (case l_InvalidText___init__ => k_is)
    (case c_InvalidText___init__ => k_is)
    (case k_InvalidText___init__ => k_is)
    (case aC_InvalidSyntax => k_is)
    (case l_InvalidSyntax => k_is)
    (case sa_InvalidSyntax => k_is)
    (case kC_InvalidSyntax => k_is)
    (case ga_InvalidSyntax => k_is)
    (case gg_InvalidSyntax => k_is)
    (case ex_InvalidSyntax => k_is)
    (case ac_InvalidSyntax => k_is)
    (case mo_InvalidSyntax => k_is)
    (case no_InvalidSyntax => k_is)
    (case i_InvalidSyntax => k_is)
    (case t_InvalidSyntax => k_is)
    (case l_InvalidSyntax___init__ => k_is)
    (case c_InvalidSyntax___init__ => k_is)
    (case k_InvalidSyntax___init__ => k_is)
    (case aC_TooLarge => k_is)
    (case l_TooLarge => k_is)
    (case sa_TooLarge => k_is)
    (case kC_TooLarge => k_is)
    (case ga_TooLarge => k_is)
    (case gg_TooLarge => k_is)
    (case ex_TooLarge => k_is)
    (case ac_TooLarge => k_is)
    (case mo_TooLarge => k_is)
    (case no_TooLarge => k_is)
    (case i_TooLarge => k_is)
    (case t_TooLarge => k_is)
    (case l_TooLarge___init__ => k_is)
    (case c_TooLarge___init__ => k_is)
    (case k_TooLarge___init__ => k_is)
    (case a_is_integer => k_is)
    (case l_is_integer => k_is)
    (case c_is_integer => k_is)
    (case k_is_integer => k_is)
    (case a_trimmed => k_is)
    (case l_trimmed => k_is)
    (case c_trimmed => k_is)
    (case k_trimmed => k_is)
    (case a_sum => k_is)
    (case l_sum => k_is)
    (case c_sum => k_is)
    (case k_sum => k_is)
    (case a_product => k_is)
    (case l_product => k_is)
    (case c_product => k_is)
    (case k_product => k_is)
    (case a_negative => k_is)
    (case l_negative => k_is)
    (case c_negative => k_is)
    (case k_negative => k_is)
    (case a_is_operand => k_is)
    (case l_is_operand => k_is)
    (case c_is_operand => k_is)
    (case k_is_operand => k_is)
    (case a_parts_of => k_is)
    (case l_parts_of => k_is)
    (case c_parts_of => k_is)
    (case k_parts_of => k_is)
    (case aC_Size => k_is)
    (case pg_Size => k_is)
    (case hd_Size => k_is)
    (case po_Size => k_is)
    (case sa_Size => k_is)
    (case mk_Size => k_is)
    (case kc_Size => k_is)
    (case cc_Size => k_is)
    (case cm_Size => k_is)
    (case ic_Size => k_is)
    (case tc_Size => k_is)
    (case cgO => k_is)
    (case ctO => k_is)
    (case np_Size_parts => k_is)
    (case a_Size___init__ => k_is)
    (case i_Size___init__ => k_is)
    (case l_Size___init__ => k_is)
    (case c_Size___init__ => k_is)
    (case k_Size___init__ => k_is)
    (case d1_Size___init__ => k_is)
    (case d2_Size___init__ => k_is)
    (case pa_Size_coefficients => k_is)
    (case pg_Size_coefficients => k_is)
    (case pt_Size_coefficients => k_is)
    (case pr_Size_coefficients => k_is)
    (case l_Size_coefficients => k_is)
    (case c_Size_coefficients => k_is)
    (case k_Size_coefficients => k_is)
    (case pa_Size_degree => k_is)
    (case pg_Size_degree => k_is)
    (case pt_Size_degree => k_is)
    (case pr_Size_degree => k_is)
    (case l_Size_degree => k_is)
    (case c_Size_degree => k_is)
    (case k_Size_degree => k_is)
    (case a_Size___add__ => k_is)
    (case i_Size___add__ => k_is)
    (case l_Size___add__ => k_is)
    (case c_Size___add__ => k_is)
    (case k_Size___add__ => k_is)
    (case a_Size___sub__ => k_is)
    (case i_Size___sub__ => k_is)
    (case l_Size___sub__ => k_is)
    (case c_Size___sub__ => k_is)
    (case k_Size___sub__ => k_is)
    (case a_Size___mul__ => k_is)
    (case i_Size___mul__ => k_is)
    (case l_Size___mul__ => k_is)
    (case c_Size___mul__ => k_is)
    (case k_Size___mul__ => k_is)
    (case a_Size___neg__ => k_is)
    (case i_Size___neg__ => k_is)
    (case l_Size___neg__ => k_is)
    (case c_Size___neg__ => k_is)
    (case k_Size___neg__ => k_is)
    (case a_Size___call__ => k_is)
    (case i_Size___call__ => k_is)
    (case l_Size___call__ => k_is)
    (case c_Size___call__ => k_is)
    (case k_Size___call__ => k_is)
    (case a_Size___eq__ => k_is)
    (case i_Size___eq__ => k_is)
    (case l_Size___eq__ => k_is)
    (case c_Size___eq__ => k_is)
    (case k_Size___eq__ => k_is)
    (case a_LETTERS => k_is)
    (case a_DIGITS => k_is)
    (case a_GAPS => k_is)
    (case a_MOST_DIGITS => k_is)
    (case a_is_word => k_is)
    (case l_is_word => k_is)
    (case c_is_word => k_is)
    (case k_is_word => k_is)
    (case a_is_number => k_is)
    (case l_is_number => k_is)
    (case c_is_number => k_is)
    (case k_is_number => k_is)
    (case a_end_of_run => k_is)
    (case l_end_of_run => k_is)
    (case c_end_of_run => k_is)
    (case k_end_of_run => k_is)
    (case a_tokens_of => k_is)
    (case l_tokens_of => k_is)
    (case c_tokens_of => k_is)
    (case k_tokens_of => k_is)
    (case aC_Reader => k_is)
    (case pg_Reader => k_is)
    (case hd_Reader => k_is)
    (case po_Reader => k_is)
    (case sa_Reader => k_is)
    (case mk_Reader => k_is)
    (case kc_Reader => k_is)
    (case cc_Reader => k_is)
    (case cm_Reader => k_is)
    (case ic_Reader => k_is)
    (case tc_Reader => k_is)
    (case np_Reader_tokens => k_is)
    (case np_Reader_at => k_is)
    (case a_Reader___init__ => k_is)
    (case i_Reader___init__ => k_is)
    (case l_Reader___init__ => k_is)
    (case c_Reader___init__ => k_is)
    (case k_Reader___init__ => k_is)
    (case a_Reader_token => k_is)
    (case i_Reader_token => k_is)
    (case l_Reader_token => k_is)
    (case c_Reader_token => k_is)
    (case k_Reader_token => k_is)
    (case a_Reader_place => k_is)
    (case i_Reader_place => k_is)
    (case l_Reader_place => k_is)
    (case c_Reader_place => k_is)
    (case k_Reader_place => k_is)
    (case a_Reader_pass_any => k_is)
    (case i_Reader_pass_any => k_is)
    (case l_Reader_pass_any => k_is)
    (case c_Reader_pass_any => k_is)
    (case k_Reader_pass_any => k_is)
    (case a_Reader_passes => k_is)
    (case i_Reader_passes => k_is)
    (case l_Reader_passes => k_is)
    (case c_Reader_passes => k_is)
    (case k_Reader_passes => k_is)
    (case a_Reader_pass_only => k_is)
    (case i_Reader_pass_only => k_is)
    (case l_Reader_pass_only => k_is)
    (case c_Reader_pass_only => k_is)
    (case k_Reader_pass_only => k_is)
    (case a_Reader_pass_one => k_is)
    (case i_Reader_pass_one => k_is)
    (case l_Reader_pass_one => k_is)
    (case c_Reader_pass_one => k_is)
    (case k_Reader_pass_one => k_is)
    (case a_Reader_pass_number => k_is)
    (case i_Reader_pass_number => k_is)
    (case l_Reader_pass_number => k_is)
    (case c_Reader_pass_number => k_is)
    (case k_Reader_pass_number => k_is)
    (case a_Reader_pass_end => k_is)
    (case i_Reader_pass_end => k_is)
    (case l_Reader_pass_end => k_is)
    (case c_Reader_pass_end => k_is)
    (case k_Reader_pass_end => k_is)
    (case a_KEYWORDS => k_is)
    (case l_KEYWORDS => k_is)
    (case a_STATEMENTS => k_is)
    (case l_STATEMENTS => k_is)
    (case a_MOST_POWER => k_is)
    (case a_MOST_LOOPS => k_is)
    (case a_is_name => k_is)
    (case l_is_name => k_is)
    (case c_is_name => k_is)
    (case k_is_name => k_is)
    (case a_parse => k_is)
    (case l_parse => k_is)
    (case c_parse => k_is)
    (case k_parse => k_is)
    (case a_parse_size => k_is)
    (case l_parse_size => k_is)
    (case c_parse_size => k_is)
    (case k_parse_size => k_is)
    (case a_parse_block => k_is)
    (case l_parse_block => k_is)
    (case c_parse_block => k_is)
    (case k_parse_block => k_is)
    (case a_reader => k_is)
    (case l_reader => k_is)
    (case c_reader => k_is)
    (case k_reader => k_is)
    (case a_name => k_is)
    (case l_name => k_is)
    (case c_name => k_is)
    (case k_name => k_is)
    (case a_block => k_is)
    (case l_block => k_is)
    (case c_block => k_is)
    (case k_block => k_is)
    (case a_statement => k_is)
    (case l_statement => k_is)
    (case c_statement => k_is)
    (case k_statement => k_is)
    (case a_loop => k_is)
    (case l_loop => k_is)
    (case c_loop => k_is)
    (case k_loop => k_is)
    (case a_size => k_is)
    (case l_size => k_is)
    (case c_size => k_is)
    (case k_size => k_is)
    (case a_index => k_is)
    (case l_index => k_is)
    (case c_index => k_is)
    (case k_index => k_is)
    (case a_sums => k_is)
    (case l_sums => k_is)
    (case c_sums => k_is)
    (case k_sums => k_is)
    (case a_part => k_is)
    (case l_part => k_is)
    (case c_part => k_is)
    (case k_part => k_is)
    (case a_law_pool => k_is)
    (case l_law_pool => k_is)
    (case c_law_pool => k_is)
    (case k_law_pool => k_is)
    (case a_law_take => k_is)
    (case l_law_take => k_is)
    (case c_law_take => k_is)
    (case k_law_take => k_is)
    (case a_law_heard => k_is)
    (case l_law_heard => k_is)
    (case c_law_heard => k_is)
    (case k_law_heard => k_is)
    (case a_law_loops => k_is)
    (case l_law_loops => k_is)
    (case c_law_loops => k_is)
    (case k_law_loops => k_is)
    (case a_law_texts => k_is)
    (case l_law_texts => k_is)
    (case c_law_texts => k_is)
    (case k_law_texts => k_is)
    (case a_law_due => k_is)
    (case l_law_due => k_is)
    (case c_law_due => k_is)
    (case k_law_due => k_is)
    (case a_law => k_is)
    (case l_law => k_is)
    (case c_law => k_is)
    (case k_law => k_is)
    (case z_len => k_is)
    (case z_tuple => k_is)
    (case z_max => k_is)
    (case z_enumerate => k_is)
    (case z_reversed => k_is)
    (case z_isinstance => k_is)
    (case z_int => k_is)
    (case z_bool => k_is)
    (case z_abs => k_is)
    (case z_range => k_is)
    (case z_list => k_is)
    (case z_min => k_is)
    (case z_all => k_is)
    (case z_str => k_is)
    (case z_sorted => k_is)
    (case z_repr => k_is)
    (case anO => k_is)
    (case tkO => k_is)
    (case si => k_is)
    (case sf => k_is)
    (case ra => k_is)
    (case ia => k_is)
    (case ib => k_is)
    (case nf => decide +kernel)
    (case hc0 => rfl)
    (case lc0 => k_is)
    (case vt0 => rfl)
    (case nt0 => first | kernel_rfl | exact rfl | k_is)

