import PyProof.Rows.All
import Wide.All
import OpenK.AllK
import Wide.FinOn
import HandS.ForMost
import HandS.IsInst
import HandS.Property
import HandS.Star
import HandS.Rev
import HandS.TupMul
import HandS.Wide
import HandS.Style
import HandS.Walk
import HandS.Defaults
import HandS.ForExc
import HandS.ExcInit
import HandS.ExcIs
import HandS.ExcField
import HandS.RaiseMore
import HandS.ExcValue
import KE.GoesEnum
import KE.GoesMore
import HandS.TupAny
import KE.KRevSl
import KE.KExcIs
import PyProof.ReprRoads
import HandS.TryMany
import HandS.Gcd
import KE.KMathGC
import HandS.ClsMeth
import HandS.Lambda
import HandS.EndTab
import KE.KParD
import KE.KNest
import HandS.OwnEq
import HandS.Steps
import HandS.Text
import HandS.FStr
import HandS.RevRange
import HandS.Conv
import HandS.Small
import HandS.Dict
import HandS.SetTxt0
import HandS.Set
import PyProof.Rows.SetFrom
import PyProof.Rows.SortStr
import HandS.Base
import HandS.Call
import HandS.List
import HandS.Strs
import KE.KDictList
import OpenK.KMeth
import PyProof.Rows.RowBridgeK
import HandS.CallLocal
import PySem.Challenge.RW_farmisses_k82_texts_of_conditions
import HandS.WordsExc
import HandS.ExcOwn
import HandS.Codes
import HandS.TryOnly
import KE.KExcInit
set_option Elab.async false
set_option linter.all false
set_option maxRecDepth 100000
set_option maxHeartbeats 4000000
/-! Rules of my own over the hand layer. -/
namespace VR
open PySem PySem.Spec PyProof.Rows L2

/-! ### an own binary operator whose right side is of the same class, or of a built-in type -/
section
open PySem.W
variable {prog : Program} {w : World} {A : Around} {E : Value → Shared → Prop} {s : Shared} {K : Frag} {x C L f y : Addr} {h₀ : Heap} {m : Str → Option Value} {ox : Obj} {od : Option Obj} {nm : String}
theorem binSame {op : Operator} {Q : Value → Shared → Prop} (X : K.In s.heap) (I : InstAt s.heap x ox C od) (hb : Looks (model prog w) s.heap (typeOf (.ref y)) (.ref C)) (hc : selfFirst K C = true)
    (hs : findIn K (.ref C) (PySem.dunder op.info.2) = some (some (.ref f))) (hf : isFn K (.ref f) = true)
    (h : wpAny (model prog w) A (call (.ref f) [.ref x, .ref y]) (PySem.W.CmpBack Q) E s) : wpAny (model prog w) A (binaryOp op (.ref x) (.ref y)) Q E s := by
  obtain ⟨cd, rest, hcd, hm⟩ := ksp_first hc
  rcases hi : op.info with ⟨sym, nm'⟩
  rw [hi] at hs
  dsimp only at hs
  have one := ksp_try X I hs hf h
  obtain ⟨hh, g, d, tt, os⟩ := s
  have L1 : Looks (model prog w) hh (typeOf (.ref x)) (.ref C) := I.type
  have L2 : Looks (model prog w) hh (typeOf (.ref y)) (.ref C) := hb
  have L3 : Looks (model prog w) hh (fillsNumberSlot (.ref C) nm') true := fills_K X hcd hm hs
  have he : (Value.ref C == Value.ref C) = true := by simp
  simp only [binaryOp, hi]
  refine wpAny_holding (wpAny_bind ?_)
  unfold binaryOp1
  refine wpAny_bind (L1.at (wpAny_bind (L2.at (wpAny_bind (L3.at ?_)))))
  simp only [he, if_true]
  ksp_lk
  refine wpAny_mono one (fun r s' hr' => ?_) fun _ _ e => e
  obtain ⟨v, rfl, hq⟩ := hr'
  ksp_lk
  exact hq
end

/-- what the class at C must say that its own operator f is asked -/
structure BinOwn (K : PySem.W.Frag) (C : Addr) (nm : String) (f : Addr) : Prop where
  sf : PySem.W.selfFirst K C = true
  hs : PySem.W.findIn K (.ref C) (PySem.dunder nm) = some (some (.ref f))
  hf : PySem.W.isFn K (.ref f) = true
  hr : PySem.W.findIn K (.ref C) (dunderR nm) = some none
  ti : ∃ fo ro, PySem.W.findIn K (.type "int") (PySem.dunder nm) = some fo ∧ PySem.W.findIn K (.type "int") (dunderR nm) = some ro
  su : PySem.W.subIn K (.type "int") (.ref C) = some false

theorem relV_back {v : V} {u : Value} (r : RelV v u) {Q : Value → Shared → Prop} {s : Shared} (q : Q u s) : PySem.W.CmpBack Q u s := by
  cases v with
  | non => cases (show u = Value.none from r); exact q
  | bl b => cases (show u = Value.bool b from r); exact q
  | int i => obtain ⟨t, e⟩ := (show ∃ t, u = Value.int i t from r); cases e; exact q
  | str i => obtain ⟨t, e⟩ := (show ∃ t, u = Value.str i t from r); cases e; exact q
  | byt i => obtain ⟨t, e⟩ := (show ∃ t, u = Value.bytes i t from r); cases e; exact q
  | flt i => obtain ⟨t, e⟩ := (show ∃ t, u = Value.float i t from r); cases e; exact q
  | ref a => cases (show u = Value.ref a from r); exact q
  | ty n => cases (show u = Value.type n from r); exact q

/-- one + other -/
def rOwn (C : Addr) (sp : Sp) (E : XK) : R2 := fun x y H Q => ∃ a dx fs, x = .ref a ∧ H a = some (.ins C dx fs) ∧ ((∃ b dy gs, y = .ref b ∧ H b = some (.ins C dy gs)) ∨ ∃ i, y = .int i) ∧ sp [x, y] H Q E
section
variable {X : Cx} {CX : CXT} {k : Nat} {C f : Addr} {fd : FuncData} {ps : List Str} {sp : Sp} {E : XK} {op : Operator}
theorem op_own (B : BinOwn X.K C op.info.2 f) (F : FnOk X.prog X.w X.K X.mg X.base CX k f fd ps sp) (hr : Room k X.A) (hb : Binds X.K fd ps []) (hx : Passes CX X E) : OpR X (binaryOp op) (rOwn C sp E) := by
  intro pins s σ H x y v u Q I rx ry h
  obtain ⟨a, dx, fs, rfl, ha, hy, q⟩ := h
  cases rx
  obtain ⟨mA, O, _⟩ := ins_get I.hok ha
  obtain ⟨od, J, _⟩ := O.look
  have call : ∀ {u : Value}, RelV y u → wpAny (model X.prog X.w) X.A (call (.ref f) [.ref a, u]) (PySem.W.CmpBack (EP X pins σ Q)) X.xe s := fun {u} ry =>
    wpAny_mono (run_fn (us := [.ref a, u]) (vs := [.ref a, y]) (dvs := []) F hr hb .nil hx I (.cons rfl (.cons ry .nil)) q) (fun r s' hq => by
      obtain ⟨z, H', I', rz, hz⟩ := hq
      exact relV_back rz ⟨z, H', I', rz, hz⟩) fun _ _ z => z
  rcases hy with ⟨b, dy, gs, rfl, hb'⟩ | ⟨i, rfl⟩
  · cases ry
    obtain ⟨mB, O', _⟩ := ins_get I.hok hb'
    obtain ⟨od', J', _⟩ := O'.look
    exact binSame I.kIn J J'.type B.sf B.hs B.hf (call rfl)
  · obtain ⟨t, rfl⟩ := (show ∃ t, u = Value.int i t from ry)
    obtain ⟨m, hF⟩ := I.fr
    obtain ⟨fo, ro, h1, h2⟩ := B.ti
    exact PySem.W.ksp_binT hF I.ok.mod.kin J rfl B.sf B.hs B.hf B.hr (.inl rfl) h1 h2 B.su (call ⟨t, rfl⟩)
/-- -one -/
def rOwnU (C : Addr) (sp : Sp) (E : XK) : V → Hp → VK → Prop := fun x H Q => ∃ a dx fs, x = .ref a ∧ H a = some (.ins C dx fs) ∧ sp [x] H Q E
theorem un_own (hs : PySem.W.findIn X.K (.ref C) "__neg__" = some (some (.ref f))) (hf : PySem.W.isFn X.K (.ref f) = true) (F : FnOk X.prog X.w X.K X.mg X.base CX k f fd ps sp) (hr : Room k X.A) (hb : Binds X.K fd ps []) (hx : Passes CX X E) :
    UnR X (unaryOp .USub) (rOwnU C sp E) := by
  intro pins s σ H x v Q I rx h
  obtain ⟨a, dx, fs, rfl, ha, q⟩ := h
  cases rx
  obtain ⟨mA, O, _⟩ := ins_get I.hok ha
  obtain ⟨od, J, _⟩ := O.look
  obtain ⟨m, hF⟩ := I.fr
  exact PySem.W.ksp_neg hF I.ok.mod.kin J hs hf (run_fn (us := [.ref a]) (vs := [.ref a]) (dvs := []) F hr hb .nil hx I (.cons rfl .nil) q)
end

/-! ### enumerate(tuple) -/
def IteT (K : PySem.W.Frag) (a : Addr) : It :=
  ⟨fun i H => ∃ (xs : List V) (x : V), SqT K H a xs ∧ xs[i]? = some x, fun i H v H' => ∃ T x, v = .ref T ∧ H T = none ∧ H' = upd H T (.tup [.int (i : Nat), x]) ∧ ∀ xs, SqT K H a xs → xs[i]? = some x, fun i H => ∃ xs : List V, SqT K H a xs ∧ xs.length = i⟩
theorem isTup_isTuple {h : Heap} {a : Addr} {its : Array Value} (x : IsTup h a its) : h.IsTuple a its := x
theorem turn_enumT {P : Program} {w : World} {K : PySem.W.Frag} {elts : List Expr} {kk : Nat} {tpos : Pos} (a e it : Addr) (hai : a ≠ it) (hae : a ≠ e) :
    Turn P w K (.Tuple elts kk tpos) (IteT K a) [e, it] e (fun i h => (∃ old, IsEnum h e it ((i : Nat) : Int) old) ∧ h.IsTupleIter it a i ∧ e ≠ it) where
  mem := by simp
  obj := fun i h st b hb => by
    obtain ⟨⟨old, he⟩, ⟨o, ho, hc, hd⟩, _⟩ := st
    have e' : b = e ∨ b = it := by simpa using hb
    rcases e' with z | z
    · rw [z]; exact ⟨_, he, fun v q => nomatch q⟩
    · rw [z]; exact ⟨o, ho, fun v q => by rw [hd] at q; cases q⟩
  keep := fun i h h' st k => let ⟨⟨old, he⟩, hi, hne⟩ := st; ⟨⟨old, k e (by simp) _ he⟩, hi.at fun o q => k it (by simp) o q, hne⟩
  item := by
    intro X hP hw hK hc i pins s σ H E I hf st hg
    subst hP hw hK
    obtain ⟨⟨old, he⟩, hit, hne⟩ := st
    obtain ⟨xs, x, hq, hx⟩ := hg
    obtain ⟨its, rv, p, hz⟩ := I.tuple hq
    obtain ⟨u, hu, ru⟩ := rv.get hx
    have hel : e < s.heap.objs.size := Heap.lt_size he
    have hil : it < s.heap.objs.size := by obtain ⟨_, q, _⟩ := hit; exact Heap.lt_size q
    have hlt : i < its.toArray.size := by
      have := (List.getElem?_eq_some_iff.mp hu).1
      simpa using this
    have D := Draws.tuple (prog := X.prog) (w := X.w) (A := X.A.in1) (show X.A.in1.handled = none from I.ok.hd hc) it a hai its.toArray
    refine wpAny_pyNext_enum_itemC (i := i) D he ⟨hit, isTup_isTuple p⟩ hlt hne (by simp [hne, Ne.symm hae]) fun y h' tk hy ho hst' hT hsz hk => ?_
    obtain ⟨hit', hit2⟩ := hst'
    have ey : y = u := by
      have q : its.toArray[i]? = some u := by simpa using hu
      have q2 : its.toArray[i]? = some y := hy
      rw [q] at q2
      exact (Option.some.inj q2).symm
    subst ey
    refine ⟨_, rfl, wpAny_letOwnedTupleGo_enum (s := { s with heap := h', toks := tk + 1 }) ho fun h'' he' sb => ?_⟩
    have hT2 : h''.get? s.heap.objs.size = some { cls := .type "tuple", data := .seq #[.int i tk, y] } := (sb.2 _ (Nat.ne_of_gt hel)).trans hT
    have new : ObjOk X.prog X.w (upd H s.heap.objs.size (.tup [.int (i : Nat), x])) h'' s.heap.objs.size (.tup [.int (i : Nat), x]) :=
      ⟨by show 2 ≤ sizeLine; decide, [.int i tk, y], .cons ⟨_, rfl⟩ (.cons ru .nil), ⟨_, hT2, rfl, _, rfl⟩⟩
    have I1 : Inv X pins σ (upd H s.heap.objs.size (.tup [.int (i : Nat), x])) { s with heap := h'', toks := tk + 1 } :=
      I.turnedNew (ch := [e, it]) (fun b ob hb q => (sb.2 b (fun z => hb (by simp [z]))).trans (hk b ob (fun z => hb (by simp [z])) (fun z => hb (by simp [z])) q)) hf (Nat.le_refl _) new
    refine ⟨.ref s.heap.objs.size, _, I1, rfl, ⟨_, x, rfl, I.hok.fresh (Nat.le_refl _), rfl, fun ys hy => by rw [I.tuple_inj hy hq]; exact hx⟩, ⟨⟨y, ?_⟩, hit'.at fun o q => (sb.2 it (Ne.symm hne)).trans q, hne⟩, fun b hb => ?_⟩
    · have e1 : ((i + 1 : Nat) : Int) = (i : Int) + 1 := by omega
      rw [e1]; exact he'
    · have hb' : b < s.heap.objs.size := by
        have e' : b = e ∨ b = it := by simpa using hb
        rcases e' with z | z
        · rw [z]; exact hel
        · rw [z]; exact hil
      rw [upd_ne (Nat.ne_of_lt hb')]
      exact (hf b hb).1
  done := by
    intro X hP hw hK hc i pins s σ H E I hf st hg
    subst hP hw hK
    obtain ⟨⟨old, he⟩, hit, hne⟩ := st
    obtain ⟨xs, hq, hx⟩ := hg
    obtain ⟨its, rv, p, hz⟩ := I.tuple hq
    obtain ⟨f0, f1, f2, f3, f4, f5⟩ := hf it (by simp)
    have hl := rv.length
    have D := Draws.tuple (prog := X.prog) (w := X.w) (A := X.A.in1) (show X.A.in1.handled = none from I.ok.hd hc) it a hai its.toArray
    have hz : its.toArray.size = i := by rw [List.size_toArray]; omega
    subst hz
    exact wpAny_pyNext_enum_endD D he ⟨hit, isTup_isTuple p⟩ fun h' eb => ⟨rfl, I.turned (t' := s.toks) (fun b o hb q => eb b o hb q) f0 f1 f3 f4 f5⟩
  self := fun A i s Q E st h => let ⟨⟨_, he⟩, _⟩ := st; wpAny_pyIter_enum he h
theorem meets_enumB1 {v : Value} {o : Obj} {H : Heap → Prop} (B : Begins v o H) :
    Meets (Builtin.«enumerate.__new__» ⟨[.type "enumerate", v], []⟩) (fun _ R s => H s.heap ∧
      R (.ok (.ret (.ref (s.heap.push o).objs.size))) { s with heap := (s.heap.push o).push { cls := .type "enumerate", data := .fields #[.none, .bool false, .ref s.heap.objs.size, rawInt 0, .none, .none] } }) :=
  .of_wp fun prog w A R s h => by
    obtain ⟨hp, g, d, tk, os⟩ := s; obtain ⟨h1, h⟩ := h
    have hsub := sub_enumerate
    have q1 : ∀ {A' : Around} {E : Value → Shared → Prop} {Q : Value → Shared → Prop}, Q (.ref hp.objs.size) ⟨hp.push o, g, d, tk, os⟩ → wpAny (model prog w) A' (pyIter v) Q E ⟨hp, g, d, tk, os⟩ :=
      fun q => B.iter prog w _ _ ⟨hp, g, d, tk, os⟩ _ h1 q
    wp_walk using q1
    refine wpAny_stack_any fun st => wpAny_pure ?_
    split
    · rename_i c _ _ _ _ _
      cases (c == Value.type "enumerate")
      · wp_walk using q1
        exact ⟨_, rfl, h⟩
      · wp_walk using q1
        exact ⟨_, rfl, h⟩
    · wp_walk using q1
      exact ⟨_, rfl, h⟩
theorem call_enumT {prog : Program} {w : World} {A : Around} {E : Value → Shared → Prop} {s : Shared} {l : Addr} {items : Array Value} {Q : Value → Shared → Prop} (hL : s.heap.IsTuple l items)
    (h : ∀ h', IsEnum h' (s.heap.objs.size + 1) s.heap.objs.size 0 .none → h'.IsTupleIter s.heap.objs.size l 0 → h'.objs.size = s.heap.objs.size + 2 →
      (∀ b o, s.heap.get? b = some o → h'.get? b = some o) → Q (.ref (s.heap.objs.size + 1)) { s with heap := h' }) :
    wpAny (model prog w) A (call (.type "enumerate") [.ref l]) Q E s := by
  refine callType_new F.called_enumerate (by decide) (F.typeCall_enumerate_1 _) (F.newCall_enumerate_1 _) (fun obj => F.args_object_init_2 obj _) F.entry_enumerate_new
    (meets_enumB1 (begins_tuple l items)) ⟨hL, ?_⟩
  have hz : (s.heap.push { cls := .type "tuple_iterator", data := .fields #[.ref l, .int 0 0] }).objs.size = s.heap.objs.size + 1 := Heap.size_push ..
  show _ ∧ _
  rw [hz]
  have he : IsEnum ((s.heap.push { cls := .type "tuple_iterator", data := .fields #[.ref l, .int 0 0] }).push
      { cls := .type "enumerate", data := .fields #[.none, .bool false, .ref s.heap.objs.size, rawInt 0, .none, .none] }) (s.heap.objs.size + 1) s.heap.objs.size 0 .none := by
    have := Heap.get?_push_size (s.heap.push { cls := .type "tuple_iterator", data := .fields #[.ref l, .int 0 0] })
      (o := { cls := .type "enumerate", data := .fields #[.none, .bool false, .ref s.heap.objs.size, rawInt 0, .none, .none] }) rfl
    rw [hz] at this; exact this
  refine ⟨⟨_, he, rfl⟩, h _ he ⟨_, Heap.get?_push_of_some _ (Heap.get?_push_size _ rfl), rfl, rfl⟩ (by rw [Heap.size_push, hz]) fun b o x => Heap.get?_push_of_some _ (Heap.get?_push_of_some _ x)⟩
def iEnumT (K : PySem.W.Frag) (ta : TA) : TI := fun σ H R => ta σ H fun vs H1 => ∃ a xs, vs = [.ref a] ∧ SqT K H1 a xs ∧ R (IteT K a) H1
theorem pi_enumT {X : Cx} {e : Expr} {ta : TA} {p pos tpos : Pos} {elts : List Expr} {kk : Nat} (hg : Gl X "enumerate") (hm : X.mg "enumerate" = none) (ha : PA X [e] ta) (hs : starEach [e] X.env = [(false, eval e X.env)] := by rfl) :
    PI X (.Tuple elts kk tpos) (.Call (.Name "enumerate" p) [e] [] pos) (iEnumT X.K ta) := by
  refine ⟨fun pins s σ H R I h => ?_⟩
  refine Call_ (ld_blt I hg hm boot_enumerate (PyProof.Rows.callWith_type1 (thn (ha.run pos pins s σ H _ I h) fun us s1 ⟨vs, H1, I1, r1, q1⟩ => ?_) hs rfl))
  obtain ⟨a, xs, ex, hq, q⟩ := q1
  subst ex
  cases r1 with
  | cons r rr =>
    cases rr
    cases r
    obtain ⟨its, rv, p', hz⟩ := I1.tuple hq
    have hal : a < s1.heap.objs.size := by obtain ⟨o, ho, _⟩ := id p'; exact Heap.lt_size ho
    refine call_enumT (isTup_isTuple p') fun h' he hit hsz hk => wpAny_pyIter_enum he ?_
    have I2 : Inv X pins σ H1 { s1 with heap := h' } := I1.kept (t' := s1.toks) hk
    refine ⟨s1.heap.objs.size + 1, [s1.heap.objs.size + 1, s1.heap.objs.size], _, _, H1, rfl, I2, turn_enumT a (s1.heap.objs.size + 1) s1.heap.objs.size (Nat.ne_of_lt hal) (Nat.ne_of_lt (Nat.lt_succ_of_lt hal)), ⟨⟨.none, he⟩, hit, Nat.succ_ne_self _⟩, fun b hb => ?_, q⟩
    have e' : b = s1.heap.objs.size + 1 ∨ b = s1.heap.objs.size := by simpa using hb
    have hle : s1.heap.objs.size ≤ b := by
      rcases e' with z | z
      · rw [z]; exact Nat.le_add_right _ _
      · rw [z]; exact Nat.le_refl _
    exact I1.fpOk hle (I1.hok.fresh hle)
theorem walk_enumT {K : PySem.W.Frag} {a : Addr} {xs : List V} : Walk (IteT K a) xs.length (fun H => SqT K H a xs) (YPair (fun i => some (.int (i : Nat))) (fun i => xs[i]?)) := by
  refine ⟨fun i _ hi q => ⟨xs, xs[i], q, by simp [hi]⟩, fun _ q => ⟨xs, q, rfl⟩, fun i H v H' _ q y => ?_⟩
  obtain ⟨T, x, h1, h2, h3, h4⟩ := y
  exact ⟨T, .int (i : Nat), x, h1, h2, h3, rfl, h4 xs q⟩
end VR

namespace VR
open PySem PySem.Spec PyProof.Rows L2
section
open PySem.W
variable {prog : Program} {w : World} {A : Around} {E : Value → Shared → Prop} {s : Shared} {K : Frag} {x C L f y : Addr} {h₀ : Heap} {m : Str → Option Value} {ox : Obj} {od : Option Obj} {nm : String} {b tb : Value}
/-- x != b, the class at C with an own __eq__ and no __ne__ -/
theorem ne_K {Q : Value → Shared → Prop} (hu : A.units + 1 < cLine) (X : K.In s.heap) (I : InstAt s.heap x ox C od) (hb : Looks (model prog w) s.heap (typeOf b) tb) (hn : notFirst K C tb = true)
    (hs : findIn K (.ref C) "__ne__" = some (some (.builtin "object.__ne__"))) (he : findIn K (.ref C) "__eq__" = some (some (.ref f))) (hf : isFn K (.ref f) = true) (hm : mroIn K C (.type "object") = some true)
    (h : wpAny (model prog w) A.in1 (call (.ref f) [.ref x, b]) (fun v s' => ∃ c, v = .bool c ∧ Q (.bool (!c)) s') E s) : wpAny (model prog w) A (richCompare .NotEq (.ref x) b) Q E s := by
  have sub : Looks (model prog w) s.heap (isInstance (.ref x) (.type "object")) true := I.type.andThen (looks_mroIn X hm)
  have one : wpAny (model prog w) A (tryCompare (.ref x) "__ne__" b) (fun r s' => ∃ v, r = some v ∧ Q v s') E s := by
    unfold tryCompare
    have inner : wpAny (model prog w) A (call (.builtin "object.__ne__") [.ref x, b]) (fun v s' => ∃ c, v = .bool (!c) ∧ Q (.bool (!c)) s') E s := by
      refine wpAny_call (codeAny_call_builtin PySem.F.slot_tuple_iterator_ne.plain PySem.F.cmpEntry_ne (check_slot PySem.F.cmpKind_ne PySem.F.cmpSplit_ne sub (PySem.F.cmpArgs_ne _ _) ?_))
      unfold Builtin.«object.__ne__»
      refine wpAny_bind (wpAny_of_eq (a := ((Value.ref x : Value), [b])) (by first | rfl | (simp only [slotArgs]; rfl)) ?_)
      dsimp only
      refine wpAny_bind (wpAny_cRoomFor hu ?_)
      refine wpAny_bind (ifBound_K X I he hf (wpAny_mono h (fun v s' hv => ?_) fun _ _ e => e))
      obtain ⟨c, rfl, hq⟩ := hv
      dsimp only
      refine wpAny_bind (wpAny_truthy_bool ?_)
      exact wpAny_pure ⟨c, rfl, hq⟩
    have two : wpAny (model prog w) A (callSpecialIfBound? (.ref x) "__ne__" [b]) (fun r s' => ∃ c, r = some (.bool (!c)) ∧ Q (.bool (!c)) s') E s := by
      simp only [callSpecialIfBound?, bindSpecialIfBound?]
      refine wpAny_holding (wpAny_bind (wpAny_bind (wpAny_bind (I.type.here ((looks_findIn X hs).here ?_)))))
      simp only [PySem.F.slot_tuple_iterator_ne.bind]
      refine wpAny_bind (wpAny_askSetting (wpAny_ite ?_))
      have fin : wpAny (model prog w) A (call (.builtin "object.__ne__") ([.ref x] ++ [b]) >>= fun v => pure (some v)) (fun r s' => ∃ c, r = some (.bool (!c)) ∧ Q (.bool (!c)) s') E s :=
        wpAny_bind (wpAny_mono inner (fun v s' ⟨c, e, q⟩ => wpAny_pure ⟨c, by rw [e], q⟩) fun _ _ h' => h')
      split
      · exact wpAny_bind (wpAny_pure (wpAny_pure fin))
      · exact wpAny_tryCatch (wpAny_bind (wpAny_pure (wpAny_pure fin)))
    refine wpAny_bind (wpAny_mono two (fun v s' hv => ?_) fun _ _ e => e)
    obtain ⟨c, rfl, hq⟩ := hv
    exact wpAny_pure ⟨_, rfl, hq⟩
  unfold richCompare
  simp only [oneThing_ref]
  refine wpAny_holding (wpAny_bind (wpAny_cRoomFor (Nat.lt_of_succ_lt hu) ?_))
  refine wpAny_bind (I.type.here (wpAny_bind (hb.here ?_)))
  split
  · rename_i q
    have e : subIn K tb (.ref C) = some false := by
      rcases Bool.or_eq_true_iff.mp hn with e | e
      · rw [beq_iff_eq.mp e] at q; simp at q
      · exact beq_iff_eq.mp e
    refine wpAny_bind ((looks_subIn X e).here ?_)
    simp only [Bool.false_eq_true, if_false]
    refine wpAny_bind (wpAny_mono one (fun r s' z => ?_) fun _ _ e => e)
    obtain ⟨v, rfl, hq⟩ := z
    exact wpAny_pure hq
  · refine wpAny_bind (wpAny_pure ?_)
    simp only [Bool.false_eq_true, if_false]
    refine wpAny_bind (wpAny_mono one (fun r s' z => ?_) fun _ _ e => e)
    obtain ⟨v, rfl, hq⟩ := z
    exact wpAny_pure hq
end

/-- what the class at C must say for type(x) and isinstance -/
structure InsKit (K : PySem.W.Frag) (C : Addr) : Prop where
  cl : Cls K C
  ha : PySem.W.findIn K (.ref C) "__class__" = some (some (.builtin "object.__class__"))
  hn : PySem.W.specialIn K (.builtin "object.__class__") "__get__" = some (some (.builtin "getset_descriptor.__get__"))
  ht : PySem.W.takesIn K (.builtin "object.__class__") = some true
  hm : PySem.W.mroIn K C (.type "object") = some true
theorem InsKit.ty {K : PySem.W.Frag} {C a dx : Addr} {H : Hp} {fs : List (Str × V)} (k : InsKit K C) (e : H a = some (.ins C dx fs)) : TyX K H (.ref a) (.ref C) := .base (.ins e k.cl k.ha k.hn k.ht k.hm)
theorem TyX.tupT {K : PySem.W.Frag} {H : Hp} {a : Addr} {xs : List V} (h : SqT K H a xs) : TyX K H (.ref a) (.type "tuple") := by
  rcases h with (h | ⟨o, h⟩) | h
  · exact .base (.tup h)
  · exact .fTuple h
  · obtain ⟨o, its, n, h1, h2, _⟩ := h
    exact .kTuple h1 h2
/-- one == other, one != other by an own __eq__ that tells a bool -/
def rOwnE (K : PySem.W.Frag) (C : Addr) (sp : Sp) (E : XK) (neg : Bool) : R2 := fun x y H Q => ∃ a dx fs t, x = .ref a ∧ H a = some (.ins C dx fs) ∧ TyX K H y t ∧ PySem.W.notFirst K C t = true ∧ sp [x, y] H (fun v H' => ∃ c, v = .bl c ∧ Q (.bl (if neg then !c else c)) H') E
section
variable {X : Cx} {CX : CXT} {k : Nat} {C f : Addr} {fd : FuncData} {ps : List Str} {sp : Sp} {E : XK}
theorem op_ownEq (he : PySem.W.findIn X.K (.ref C) "__eq__" = some (some (.ref f))) (hf : PySem.W.isFn X.K (.ref f) = true) (F : FnOk X.prog X.w X.K X.mg X.base CX k f fd ps sp) (hr : Room k X.A) (hb : Binds X.K fd ps []) (hx : Passes CX X E) :
    OpR X (compareOp .Eq) (rOwnE X.K C sp E false) := by
  intro pins s σ H x y v u Q I rx ry h
  obtain ⟨a, dx, fs, t, rfl, ha, ty, hn, q⟩ := h
  cases rx
  obtain ⟨mA, O, _⟩ := ins_get I.hok ha
  obtain ⟨od, J, _⟩ := O.look
  obtain ⟨m, hF⟩ := I.fr
  obtain ⟨P, Z, hp, _⟩ := kit_of I ry ty
  show wpAny (model X.prog X.w) X.A (richCompare .Eq (.ref a) u) (EP X pins σ Q) X.xe s
  refine PySem.W.cmp_K (op := .Eq) hr.units0 hF I.ok.mod.kin J (Z.ty _ _ I.kIn hp) hn he hf ?_
  refine wpAny_mono (run_fn (us := [.ref a, u]) (vs := [.ref a, y]) (dvs := []) F hr hb .nil hx I (.cons rfl (.cons ry .nil)) q) (fun r s' hq => ?_) fun _ _ z => z
  obtain ⟨z, H', I', rz, c, ez, hz⟩ := hq
  subst ez
  cases rz
  exact ⟨.bl c, H', I', rfl, hz⟩
theorem op_ownNe (h0 : PySem.W.findIn X.K (.ref C) "__ne__" = some (some (.builtin "object.__ne__"))) (hmo : PySem.W.mroIn X.K C (.type "object") = some true)
    (he : PySem.W.findIn X.K (.ref C) "__eq__" = some (some (.ref f))) (hf : PySem.W.isFn X.K (.ref f) = true) (F : FnOk X.prog X.w X.K X.mg X.base CX k f fd ps sp) (hr : Room (k + 1) X.A) (hb : Binds X.K fd ps []) (hx : Passes CX X E) :
    OpR X (compareOp .NotEq) (rOwnE X.K C sp E true) := by
  intro pins s σ H x y v u Q I rx ry h
  obtain ⟨a, dx, fs, t, rfl, ha, ty, hn, q⟩ := h
  cases rx
  obtain ⟨mA, O, _⟩ := ins_get I.hok ha
  obtain ⟨od, J, _⟩ := O.look
  obtain ⟨P, Z, hp, _⟩ := kit_of I ry ty
  show wpAny (model X.prog X.w) X.A (richCompare .NotEq (.ref a) u) (EP X pins σ Q) X.xe s
  refine ne_K (Nat.lt_of_le_of_lt (Nat.add_le_add_left (by decide : 1 ≤ 64) _) hr.units) I.kIn J (Z.ty _ _ I.kIn hp) hn h0 he hf hmo ?_
  have r2 : Vals [V.ref a, y] [Value.ref a, u] := .cons rfl (.cons ry .nil)
  have hl : ([Value.ref a, u] : List Value).length = ps.length := by rw [← r2.length]; exact F.len _ _ _ _ q
  refine wpAny_call (codeAny_mono (F.run X.A.in1 X.stack s H ⟨[.ref a, u], []⟩ [.ref a, u] [.ref a, y] _ E hr.in1 I.env0.in1 (by simpa using hb s [.ref a, u] I.kIn (by simpa using hl)) r2 q) fun r s' hq => ?_)
  cases r with
  | error e => exact hx pins σ H s e s' I hq
  | ok fl =>
    cases fl with
    | ret w =>
      obtain ⟨z, H', I', rz, c, ez, hz⟩ := I.after hq
      subst ez
      cases rz
      exact ⟨c, rfl, .bl (!c), H', I', rfl, hz⟩
    | next => exact False.elim hq
    | brk => exact False.elim hq
    | cont => exact False.elim hq
end
end VR

namespace VR
open PySem PySem.Spec PyProof.Rows L2
theorem filterMap_cong {α β : Type} {f g : α → Option β} : ∀ {l : List α}, (∀ a, a ∈ l → f a = g a) → l.filterMap f = l.filterMap g
  | [], _ => rfl
  | a :: l, h => by
    rw [List.filterMap_cons, List.filterMap_cons, h a (List.mem_cons_self ..), filterMap_cong (l := l) fun b hb => h b (List.mem_cons_of_mem _ hb)]
section
open HT
variable {prog : Program} {w : World} {A : Around} {E : Value → Shared → Prop} {s : Shared}
theorem sliceApplied_rev {sl : Addr} {vs : Value} {n : Nat} {Q : Int × Int × Nat → Shared → Prop} (hs : s.heap.IsSliceOf sl .none .none vs) (ps : IsPart vs (some (-1)))
    (h : Q ((n : Int) - 1, -1, n) s) : wpAny (model prog w) A (Builtin.Slice.sliceApplied (.ref sl) (pure (n : Int))) Q E s := by
  obtain ⟨os, hos, hcs, hds⟩ := id hs
  unfold Builtin.Slice.sliceApplied Builtin.Slice.sliceFields
  refine wpAny_bind (wpAny_bind (wpAny_field hos hds (x := .none) rfl (wpAny_bind (wpAny_field hos hds (x := .none) rfl (wpAny_bind (wpAny_field hos hds (x := vs) rfl (wpAny_pure ?_)))))))
  refine wpAny_bind (slicePart_ ps ?_)
  show wpAny _ _ (if ((-1 : Int) == 0) = true then _ else _) _ _ s
  rw [if_neg (by decide)]
  refine wpAny_bind (slicePart_ .none (wpAny_bind (slicePart_ .none (wpAny_bind (wpAny_pure ?_)))))
  show wpAny _ _ (match Builtin.Slice.sliceAdjust none none (-1) (n : Int) with | (lo, hi) => pure (lo, (-1 : Int), Builtin.Slice.slicePlaces lo hi (-1))) _ _ s
  have e1 : Builtin.Slice.sliceAdjust none none (-1) (n : Int) = ((n : Int) - 1, -1) := by
    unfold Builtin.Slice.sliceAdjust
    have h1 : ((-1 : Int) < 0) := by decide
    simp only [h1, if_true]
  have e2 : Builtin.Slice.slicePlaces ((n : Int) - 1) (-1) (-1) = n := by
    unfold Builtin.Slice.slicePlaces
    have h1 : ¬ ((-1 : Int) > 0) := by decide
    have h2 : (-(-1 : Int)) = 1 := by decide
    simp only [h1, if_false, h2, Int.ediv_one]
    split <;> omega
  rw [e1]
  show wpAny _ _ (pure ((n : Int) - 1, (-1 : Int), Builtin.Slice.slicePlaces ((n : Int) - 1) (-1) (-1))) _ _ s
  rw [e2]
  exact wpAny_pure h
theorem pick_rev (xs : Array Value) : ((List.range xs.size).filterMap fun (m : Nat) => xs[(((xs.size : Int) - 1) + (m : Int) * (-1)).toNat]?).toArray = xs.toList.reverse.toArray := by
  have e : ∀ m, m ∈ List.range xs.size → xs[(((xs.size : Int) - 1) + (m : Int) * (-1)).toNat]? = xs[xs.size - 1 - m]? := by
    intro m hm
    have := List.mem_range.mp hm
    have q : (((xs.size : Int) - 1) + (m : Int) * (-1)).toNat = xs.size - 1 - m := by omega
    rw [q]
  have e3 : ((List.range xs.size).filterMap fun (m : Nat) => xs[(((xs.size : Int) - 1) + (m : Int) * (-1)).toNat]?) = (List.range xs.size).filterMap fun m => xs[xs.size - 1 - m]? :=
    filterMap_cong e
  rw [e3]
  have e4 : ((List.range xs.size).filterMap fun m => xs[xs.size - 1 - m]?) = ((List.range xs.size).map fun k => xs.size - 1 - k).filterMap (xs[·]?) := by
    rw [List.filterMap_map]; rfl
  rw [e4, PySem.W.krv_range, List.filterMap_reverse, PySem.W.krv_all]
theorem getItem_tuple_rev {t sl : Addr} {items : Array Value} {vs : Value} {Q : Value → Shared → Prop} (ht : IsTup s.heap t items) (hs : s.heap.IsSliceOf sl .none .none vs) (ps : IsPart vs (some (-1)))
    (h : Q (.ref s.heap.objs.size) { s with heap := s.heap.push { cls := .type "tuple", data := .seq items.toList.reverse.toArray } })
    (hsz : items.size ≤ sizeLine) : wpAny (model prog w) A (getItem (.ref t) (.ref sl)) Q E s := by
  have htake : sizeOk (.seq items.toList.reverse.toArray) := by
    show items.toList.reverse.toArray.size ≤ sizeLine
    rw [List.size_toArray, List.length_reverse, Array.length_toList]
    exact hsz
  obtain ⟨os, hos, hcs, hds⟩ := id hs
  have hTs : s.TypeIs (.ref sl) "slice" := ⟨os, hos, hcs⟩
  unfold getItem
  try with_reducible refine wpAny_holding ?_
  first | refine wpAny_bind (wpAny_pure ?_) | skip
  refine wpAny_bind (wpAny_sequenceKey ht.typeIs (by decide) ?_)
  refine wpAny_bind (wpAny_callSpecial?_slot (name := Str.ofString "__getitem__") ht.typeIs PyProof.Rows.slot_tuple_getitem
    (wpAny_call_entry PyProof.Rows.slot_tuple_getitem ht.typeIs entry_tuple_getitem ?_ (args_tuple_getitem _ _)))
  show wpAny _ _ (Builtin.Tuple.tupleItemsOf (.ref t) >>= _) _ _ s
  refine wpAny_bind (tupleItemsOf_ ht ?_)
  refine wpAny_bind (wpAny_typeOf hTs ?_)
  rw [if_pos (by decide)]
  refine wpAny_bind (sliceApplied_rev hs ps ?_)
  have hno : ¬ ((((items.size : Int) - 1) == 0 && (-1 : Int) == 1 && items.size == items.size) = true) := by
    intro q
    rw [Bool.and_eq_true, Bool.and_eq_true] at q
    exact absurd q.1.2 (by decide)
  show wpAny _ _ (if (((items.size : Int) - 1) == 0 && (-1 : Int) == 1 && items.size == items.size) = true then _ else _) _ _ s
  rw [if_neg hno, pick_rev]
  first
    | exact wpAny_bind (m := Builtin.Tuple.tupleExact _) (wpAny_newObj_type (wpAny_pure ⟨_, rfl, wpAny_pure h⟩) htake)
    | exact wpAny_bind (m := Builtin.Tuple.tupleExact _) (wpAny_newObj_type (wpAny_bind (wpAny_pure (wpAny_pure ⟨_, rfl, wpAny_pure h⟩))) htake)
    | exact wpAny_bind (wpAny_bind (m := Builtin.Tuple.tupleExact _) (wpAny_newObj_type (wpAny_pure (wpAny_pure ⟨_, rfl, wpAny_pure h⟩)) htake))
    | exact wpAny_bind (wpAny_bind (m := Builtin.Tuple.tupleExact _) (wpAny_newObj_type (wpAny_pure ⟨_, rfl, wpAny_pure h⟩) htake))
end
/-- t[::-1], a tuple -/
def tRevT (K : PySem.W.Frag) (te : TE) : TE := fun σ H Q => te σ H fun x H1 => ∃ a xs, x = .ref a ∧ SqT K H1 a xs ∧ ∀ p, H1 p = none → Q (.ref p) (upd H1 p (.tup xs.reverse))
theorem pe_revT {X : Cx} {e : Expr} {te : TE} {k : Nat} {p1 p2 p3 pos : Pos} (he : PE X e te) : PE X (.Subscript e (.Slice none none (some (.UnaryOp .USub (.Constant (.int 1) k p1) p2)) p3) pos) (tRevT X.K te) := by
  refine ⟨fun pins s σ H Q I h => ?_⟩
  refine Subscript_ (thn (he.run pins s σ H _ I h) fun v s1 ⟨x, H1, I1, r1, q1⟩ => ?_)
  obtain ⟨a, xs, ex, hx, q⟩ := q1
  subst ex
  cases r1
  have hst : PO X (some (.UnaryOp .USub (.Constant (.int 1) k p1) p2)) (tPart (tUn (rU fun i => .int (-i)) (tC (.int 1)))) := po_some (pe_un un_neg pe_int)
  refine wpAny_Slice (thn (po_none.run pins s1 σ H1 (fun o H2 => o = none ∧ H2 = H1) I1 ⟨rfl, rfl⟩) fun vl s2 ⟨l, H2, I2, pl, el, e2⟩ => ?_)
  subst el e2
  refine thn (po_none.run pins s2 σ H2 (fun o H3 => o = none ∧ H3 = H2) I2 ⟨rfl, rfl⟩) fun vu s3 ⟨u, H3, I3, pu, eu, e3⟩ => ?_
  subst eu e3
  refine thn (hst.run pins s3 σ H3 (fun o H4 => o = some (-1) ∧ H4 = H3) I3 ⟨1, rfl, -1, rfl, rfl, rfl⟩) fun vs s4 ⟨o, H4, I4, ps, eo, e4⟩ => ?_
  subst eo e4
  have I5 : Inv X pins σ H4 { s4 with heap := s4.heap.push { cls := .type "slice", data := .fields #[vl, vu, vs] } } := I4.kept (t' := s4.toks) fun b ob q => Heap.get?_push_of_some _ q
  obtain ⟨its, r, ht, hz⟩ := I5.tuple hx
  have hlen := r.length
  cases pl
  cases pu
  show wpAny (model X.prog X.w) X.A (subscriptTail e (.Slice none none (some (.UnaryOp .USub (.Constant (.int 1) k p1) p2)) p3) (.ref a) (.ref s4.heap.objs.size)) (EP X pins σ Q) X.xe { s4 with heap := s4.heap.push { cls := .type "slice", data := .fields #[.none, .none, vs] } }
  refine tail_any (ops := [.ref a, .ref s4.heap.objs.size]) ht.typeIs (PyProof.Rows.slot_tuple_getitem.lookup) ?_ (by with_unfolding_all rfl)
  refine getItem_tuple_rev ht (Heap.IsSliceOf.new _ .none .none vs) ps ?_ (by rw [List.size_toArray]; omega)
  refine ⟨.ref _, _, I5.laid (t' := s4.toks) (o := .tup xs.reverse) (fun b ob q => Heap.get?_push_of_some _ q) (Nat.le_refl _) ?_, rfl, q _ (I5.hok.fresh (Nat.le_refl _))⟩
  exact ⟨by rw [List.length_reverse]; exact hz, _, r.reverse, IsTup.new _ _⟩
end VR

/-! Small words: lists of ints as values, heaps that grow. -/
namespace VR
open PySem PySem.Spec PyProof.Rows L2
def iz (xs : List Int) : List V := xs.map V.int
theorem iz_get {xs : List Int} {i : Nat} {x : Int} (h : xs[i]? = some x) : (iz xs)[i]? = some (V.int x) := by unfold iz; rw [List.getElem?_map, h]; rfl
theorem of_iz_get {xs : List Int} {i : Nat} {v : V} (h : (iz xs)[i]? = some v) : ∃ x, xs[i]? = some x ∧ v = V.int x := by
  unfold iz at h
  rw [List.getElem?_map] at h
  cases e : xs[i]? with
  | none => rw [e] at h; cases h
  | some x => rw [e] at h; exact ⟨x, rfl, (Option.some.inj h).symm⟩
theorem iz_len (xs : List Int) : (iz xs).length = xs.length := by simp [iz]
theorem iz_set (xs : List Int) (j : Nat) (x : Int) : (iz xs).set j (V.int x) = iz (xs.set j x) := by simp [iz, List.map_set]
theorem smallL {n : Nat} (h : n ≤ 10000) : n ≤ sizeLine := by rw [sizeLine_eq]; omega
theorem _root_.L2.Same.tup {K : PySem.W.Frag} {H H' : Hp} {a : Addr} {xs : List V} (e : Same H H') (h : SqT K H a xs) : SqT K H' a xs := by
  rcases h with (h | ⟨o, h⟩) | h
  · exact .inl (.inl (e _ _ h))
  · exact .inl (.inr ⟨o, e _ _ h⟩)
  · exact .inr h
theorem _root_.L2.Same.new {H : Hp} {p : Addr} {o : HO} (h : H p = none) : Same H (upd H p o) := fun b u e => by rw [upd_ne (ne_of_none e h)]; exact e
theorem _root_.L2.Same.upd0 {H H' : Hp} {l : Addr} {o : HO} (e : Same H H') (h : H l = none) : Same H (upd H' l o) := fun b u q => by rw [upd_ne (ne_of_none q h)]; exact e b u q
theorem _root_.L2.Same.upN {H H' : Hp} {l : Addr} {o : HO} (e : Same H H') (h : H' l = none) : Same H (upd H' l o) := e.trans (L2.Same.new h)
theorem ite_max (a b : Nat) : (if (b : Int) > (a : Int) then V.int (b : Int) else V.int (a : Int)) = V.int ((max a b : Nat) : Int) := by
  split <;> congr 1 <;> omega
theorem iz_rep (n : Nat) : (List.replicate n [V.int 0]).flatten = iz (List.replicate n 0) := by
  induction n with
  | zero => rfl
  | succ n ih => rw [List.replicate_succ, List.flatten_cons, ih, List.replicate_succ]; rfl
theorem ixN_nat {n k : Nat} (h : k < n) : ixN n (k : Int) = some k := by
  unfold ixN
  rw [if_pos (by omega), if_pos (by omega)]
  simp

/-- a store to an object that is no tuple leaves the tuples -/
theorem _root_.L2.SqT.updNT {K : PySem.W.Frag} {H : Hp} {a p : Addr} {xs : List V} {o u : HO} (h : SqT K H a xs) (hp : H p = some u) (nt : ∀ ys, u ≠ .tup ys) (nf : ∀ ob v, u ≠ .frz ob v) : SqT K (upd H p o) a xs := by
  rcases h with (h | ⟨ob, h⟩) | h
  · exact .inl (.inl (by rw [upd_ne (ne_of h hp fun e => nt _ e.symm)]; exact h))
  · exact .inl (.inr ⟨ob, by rw [upd_ne (ne_of h hp fun e => nf _ _ e.symm)]; exact h⟩)
  · exact .inr h
theorem _root_.L2.SqT.updIns {K : PySem.W.Frag} {H : Hp} {a p C dx : Addr} {xs : List V} {o : HO} {fs : List (Str × V)} (h : SqT K H a xs) (hp : H p = some (.ins C dx fs)) : SqT K (upd H p o) a xs := h.updNT hp (fun _ e => nomatch e) (fun _ _ e => nomatch e)
end VR

/-! Tuples of ints as data. -/
namespace VR
open PySem PySem.Spec PyProof.Rows L2
def dI (xs : List Int) : PyData := .tuple (xs.map PyData.int)
theorem eqvAll_ints : ∀ xs ys : List Int, PyData.eqvAll (xs.map PyData.int) (ys.map PyData.int) = decide (xs = ys)
  | [], [] => by simp [PyData.eqvAll]
  | [], _ :: _ => by simp [PyData.eqvAll]
  | _ :: _, [] => by simp [PyData.eqvAll]
  | x :: xs, y :: ys => by
    rw [List.map_cons, List.map_cons, PyData.eqvAll, eqvAll_ints xs ys, PyData.eqv]
    by_cases h : x = y <;> by_cases g : xs = ys <;> simp [h, g]
theorem eqv_ints (xs ys : List Int) : PyData.eqv (dI xs) (dI ys) = decide (xs = ys) := by
  unfold dI
  rw [PyData.eqv, eqvAll_ints]
theorem canAll_ints : ∀ xs : List Int, PyData.canLayAll0 (xs.map PyData.int) = true
  | [] => by simp [PyData.canLayAll0]
  | x :: xs => by rw [List.map_cons, PyData.canLayAll0, canAll_ints xs, PyData.canLay0]; rfl
theorem depth_ints : ∀ xs : List Int, PyData.depthAll (xs.map PyData.int) = 0
  | [] => by simp [PyData.depthAll]
  | x :: xs => by rw [List.map_cons, PyData.depthAll, depth_ints xs, PyData.depth]; rfl
theorem shaped_ints (xs : List Int) : SeqAt.shaped (dI xs) = true := by
  unfold SeqAt.shaped dI
  rw [PyData.canLay0, canAll_ints, PyData.depth, depth_ints]
  rfl
theorem dpAll_ints {K : PySem.W.Frag} {H : Hp} : ∀ xs : List Int, DpAll K H (iz xs) (xs.map PyData.int)
  | [] => .nil
  | x :: xs => .cons (.int x) (dpAll_ints xs)
theorem dp_ints {K : PySem.W.Frag} {H : Hp} {a : Addr} {xs : List Int} (h : SqT K H a (iz xs)) : Dp K H (.ref a) (dI xs) := .tup h (dpAll_ints xs)
/-- a term of types for isinstance -/
theorem kit_cls_ref {K : PySem.W.Frag} {C : Addr} {t : Value} {b : Bool} (h1 : PySem.W.isClsIn K C = true) (h2 : PySem.W.typeIn K (.ref C) = some (.type "type")) (h3 : (t == .ref C) = false) (h4 : PySem.W.subIn K t (.ref C) = some b) : PySem.W.kitOne K t (.ref C) = some b := by
  unfold PySem.W.kitOne PySem.W.kitCls
  have h1' : (PySem.W.clsIn K C).isSome = true := h1
  rw [h3, if_neg (by decide)]
  show (if ((PySem.W.clsIn K C).isSome && PySem.W.typeIn K (Value.ref C) == some (Value.type "type")) = true then PySem.W.subIn K t (Value.ref C) else none) = some b
  rw [h1', h2, if_pos (by rfl), h4]
theorem kit_self {K : PySem.W.Frag} {t : Value} (h : (t == t) = true) : PySem.W.kitOne K t t = some true := by
  unfold PySem.W.kitOne
  rw [if_pos h]
end VR

/-! Own exceptions with their own __init__, as values. -/
namespace VX
open PySem PySem.W PySem.Calls PyProof.Rows PySem.HandSPX Builtin Builtin.ObjectAttr
section
variable {prog : Program} {w : World} {M : Model} {A : Around} {E : Value → Shared → Prop} {R : Result → Shared → Prop} {h : Heap} {g : Array GenState} {d : Drawn} {t : Nat} {os : OsState}
variable {nm q : Str} {C N : Addr} {bs bm bmB : List Value} {hdct : Bool} {sn : List Str} {sub : List Value} {ab : Bool} {col : Option Bool} {dd : Option Addr} {k0 k1 k2 k3 k5 : Option Value} {B newId initId : String}
theorem newC (F : ExcBaseFacts B newId initId bmB) (hT : ∀ Y : String, bm.contains (.type Y) = bmB.contains (.type Y)) {us : List Value} {kw : List (Str × Value)} {Q : Unit → Shared → Prop}
    (hC : h.get? C = some (excClassObj nm q C N bs bm hdct sn sub ab col dd k0 k1 k2 k3 k5 newId)) (hq : Q () ⟨h, g, d, t, os⟩) : wpAny M A (checkBuiltinCall newId ⟨.ref C :: us, kw⟩) Q E ⟨h, g, d, t, os⟩ := by
  have z1 : (Value.ref C :: bm).contains (.type B) = true := by rw [List.contains_cons, hT, F.hasB, Bool.or_true]
  have z2 := F.noStar
  simp only [checkBuiltinCall, F.newKind, F.newSplit, F.newRow]
  repeat (first | refine wpAny_loadPart_at hC ?_ | (refine wpAny_isSubtype_exc hC ?_; rw [z1]) | refine wpAny_staticBase_exc hC ?_ | refine wpAny_madeBy_exc hC ?_ | simp only [bne_self_eq_false, Bool.false_eq_true, if_false] | wp_step)
  exact hq
end
section
variable {prog : Program} {w : World} {A : Around} {E : Value → Shared → Prop} {R : Result → Shared → Prop} {h : Heap} {g : Array GenState} {d : Drawn} {t : Nat} {os : OsState}
variable {nm q : Str} {C N : Addr} {bs bm bmB : List Value} {hdct : Bool} {sn : List Str} {sub : List Value} {ab : Bool} {col : Option Bool} {dd : Option Addr} {k0 k1 k2 k3 k5 : Option Value} {B newId initId : String}
theorem newR (F : ExcBaseFacts B newId initId bmB) (hT : ∀ Y : String, bm.contains (.type Y) = bmB.contains (.type Y)) {us : List Value} {kw : List (Str × Value)}
    (hC : h.get? C = some (excClassObj nm q C N bs bm hdct sn sub ab col dd k0 k1 k2 k3 k5 newId))
    (hq : R (.ok (.ret (.ref (h.objs.size + 1)))) ⟨(h.push { cls := .type "tuple", data := .seq us.toArray }).push (excO C h.objs.size), g, d, t, os⟩) (hz : us.length ≤ sizeLine) :
    codeAny (model prog w) A (.builtin newId ⟨.ref C :: us, kw⟩) R ⟨h, g, d, t, os⟩ := by
  have z0 := F.ends
  have z1 : (Value.ref C :: bm).contains (.type B) = true := by rw [List.contains_cons, hT, F.hasB, Bool.or_true]
  have z2 : (Value.ref C :: bm).contains (.type "AttributeError") = false := by rw [List.contains_cons, hT, F.noAttr]; rfl
  have z3 : (Value.ref C :: bm).contains (.type "NameError") = false := by rw [List.contains_cons, hT, F.noName]; rfl
  refine codeAny_builtinAt F.entry ?_
  unfold Builtin.«BaseException.__new__»
  refine PySem.wpAt_bind ?_
  show PySem.wpAt _ _ _ (stack >>= _) _ _ _
  refine PySem.wpAt_bind (PySem.wpAt_stack fun p below => PySem.wpAt_of_wpAny ?_)
  wp_walk
  refine PySem.wpAt_of_wpAny ?_
  rw [F.owner]
  repeat (first | with_reducible refine wpAny_madeHere_exc F.canon hC ?_ | with_reducible refine wpAny_loadPart_at hC ?_ | (with_reducible refine wpAny_isSubtype_exc hC ?_; first | rw [z1] | rw [z2] | rw [z3]) | wp_step)
  show R _ _
  rw [Heap.size_push]
  exact hq
theorem tcR (F : ExcBaseFacts B newId initId bmB) (hT : ∀ Y : String, bm.contains (.type Y) = bmB.contains (.type Y)) {us : List Value} {kw : List (Str × Value)} {fI : Addr} {Q : Fin → Shared → Prop}
    (hC : h.get? C = some (excClassObj nm q C N bs bm hdct sn sub ab col dd k0 k1 k2 k3 k5 newId))
    (hi : W.Looks (model prog w) h (typeLookup (.ref C) "__init__") (some (.ref fI))) (hb : ∀ self, W.Looks (model prog w) h (bindSpecial (.ref fI) self) (.ref fI, [self])) (hz : us.length ≤ sizeLine)
    (hq : codeAny (model prog w) A (.call (.ref fI) ⟨.ref (h.objs.size + 1) :: us, kw⟩)
      (fun r s' => match r with | .ok (.ret v) => v = .none ∧ Q (.done (.ret (.ref (h.objs.size + 1)))) s' | .ok _ => False | .error e => E e s')
      ⟨(h.push (W.kdv_tup us)).push (excO C h.objs.size), g, d, t, os⟩) :
    wpAny (model prog w) A (Builtin.«type.__call__» ⟨.ref C :: us, kw⟩) Q E ⟨h, g, d, t, os⟩ := by
  repeat (first | with_reducible refine wpAny_loadPart_at hC ?_ | with_reducible refine wpAny_madeBy_exc hC ?_ | wp_step)
  refine codeAny_call_builtin_code (Code.quiet_builtin _ F.quiet) (newC F hT hC ?_)
  refine newR F hT hC ?_ hz
  show wpAny _ _ _ _ _ _
  have k : ∀ b o, h.get? b = some o → ((h.push (W.kdv_tup us)).push (excO C h.objs.size)).get? b = some o := fun b o e => Heap.get?_push_of_some _ (Heap.get?_push_of_some _ e)
  have y1 := k _ _ hC
  have y2 : ((h.push (W.kdv_tup us)).push (excO C h.objs.size)).get? (h.objs.size + 1) = some (excO C h.objs.size) := by heap_get
  have y3 : (Value.ref C :: bm).contains (.ref C) = true := by simp
  have i1 := hi.keeps k
  have b1 := (hb (.ref (h.objs.size + 1))).keeps k
  unfold isInstance
  repeat (first | with_reducible refine wpAny_loadPart_at y2 ?_ | (with_reducible refine wpAny_isSubtype_exc y1 ?_; rw [y3]) | wp_step)
  show wpAny _ _ (typeLookup (.ref C) _) _ _ _
  refine i1.at ?_
  refine wpAny_holding (wpAny_bind (b1.at ?_))
  refine wpAny_bind (wpAny_call (codeAny_mono hq fun r s' z => ?_))
  rcases r with e | (v | _ | _ | _) <;> first | exact z | exact z.elim | skip
  obtain ⟨rfl, z⟩ := z
  first
    | exact wpAny_pure (wpAny_pure z)
    | (wp_walk; exact z)
theorem tcC {M : Model} {us : List Value} {kw : List (Str × Value)} {Q : Unit → Shared → Prop} (hC : h.get? C = some (excClassObj nm q C N bs bm hdct sn sub ab col dd k0 k1 k2 k3 k5 newId))
    (hq : Q () ⟨h, g, d, t, os⟩) : wpAny M A (checkBuiltinCall "type.__call__" ⟨.ref C :: us, kw⟩) Q E ⟨h, g, d, t, os⟩ := by
  have z1 := tc_sub
  have z2 : (⟨h, g, d, t, os⟩ : Shared).TypeIs (.ref C) "type" := ⟨_, hC, rfl⟩
  simp only [checkBuiltinCall, tc_kind, tc_split]
  repeat (any_goals (first | assumption | with_reducible refine wpAny_loadPart_at hC ?_ | with_reducible refine wpAny_onRaise ?_ | with_reducible refine wpAny_map ?_ | wp_step))
/-- C(.., k = v, ..): the exception's own __init__ is called with the same -/
theorem callX (F : ExcBaseFacts B newId initId bmB) (hT : ∀ Y : String, bm.contains (.type Y) = bmB.contains (.type Y)) {us : List Value} {kw : List (Str × Value)} {fI : Addr}
    (hC : h.get? C = some (excClassObj nm q C N bs bm hdct sn sub ab col dd k0 k1 k2 k3 k5 newId))
    (hi : W.Looks (model prog w) h (typeLookup (.ref C) "__init__") (some (.ref fI))) (hb : ∀ self, W.Looks (model prog w) h (bindSpecial (.ref fI) self) (.ref fI, [self])) (hz : us.length ≤ sizeLine)
    (hq : codeAny (model prog w) (A.under (.builtin "type.__call__" ⟨.ref C :: us, kw⟩)) (.call (.ref fI) ⟨.ref (h.objs.size + 1) :: us, kw⟩) (W.InitBack (h.objs.size + 1) R)
      ⟨(h.push (W.kdv_tup us)).push (excO C h.objs.size), g, d, t, os⟩) :
    codeAny (model prog w) A (.call (.ref C) ⟨us, kw⟩) R ⟨h, g, d, t, os⟩ := by
  have f1 := tc_lookup
  have f2 := tc_bind (.ref C)
  have z2 : (⟨h, g, d, t, os⟩ : Shared).TypeIs (.ref C) "type" := ⟨_, hC, rfl⟩
  refine codeAny_of_tree ?_
  show wpAny _ _ (callAny (.ref C) _) _ _ _
  repeat (any_goals (first | assumption | with_reducible refine wpAny_loadPart_at hC ?_ | wp_step))
  refine ⟨rfl, ?_⟩
  refine codeAny_call_builtin_at (Code.quiet_builtin _ (by decide +kernel)) entry_typeCall (tcC hC (tcR F hT hC hi hb hz ?_))
  refine codeAny_mono hq fun r s' z => ?_
  rcases r with e | (v | _ | _ | _) <;> exact z
end
end VX

namespace VX
open PySem PySem.W PySem.Calls PyProof.Rows PySem.HandSPX Builtin Builtin.ObjectAttr
section
variable {prog : Program} {w : World} {A : Around} {R : Result → Shared → Prop} {hp : Heap} {g : Array GenState} {d : Drawn} {t : Nat} {os : OsState}
/-- self.x = v on an exception without a dict, whatever its built-in base -/
theorem osaX {K : W.Frag} {name : Str} {tk : Tok} {v : Value} {x C : Addr} {fv : Array Value} {cd : ClassData}
    (X : K.In hp) (hx : hp.get? x = some { cls := .ref C, data := .fields fv }) (hcd : W.clsIn K C = some cd) (ne : cd.mro.isEmpty = false) (hob : cd.mro.contains (.type "object") = true)
    (hr : ∀ self, refuseLoop self "__setattr__" cd.mro = pure ()) (hh : cd.hasDict = true) (ha : W.findIn K (.ref C) name = some none)
    (hq : ∀ h' tk' dx, (∀ b o, b ≠ x → hp.get? b = some o → h'.get? b = some o) → hp.objs.size ≤ dx → dx ≠ x → h'.get? x = some { cls := .ref C, dict := some dx, data := .fields fv } →
      h'.Ns1 dx (fun y => if y = name then some v else none) → R (.ok (.ret .none)) ⟨h', g, d, tk', os⟩) :
    codeAny (model prog w) A (.call (.builtin "object.__setattr__") ⟨[.ref x, .str name tk, v], []⟩) R ⟨hp, g, d, t, os⟩ := by
  have I : W.InstAt hp x { cls := .ref C, data := .fields fv } C none := ⟨hx, rfl, rfl, trivial⟩
  have F := PySem.F.store_object
  have dif : hp.objs.size ≠ x := (Nat.ne_of_lt (Heap.lt_size hx)).symm
  have isob : W.Looks (model prog w) hp (isInstance (.ref x) (.type "object")) true := I.type.andThen (W.looks_mroIn X (by unfold W.mroIn; rw [hcd, Option.bind_some, if_neg (by rw [ne]; decide), hob]))
  refine codeAny_call_builtin F.slot.plain F.entry (@W.check_slot (model prog w) _ _ ⟨hp, g, d, t, os⟩ "object.__setattr__" "object" "__setattr__" (.ref x) [.str name tk, v] [] _ F.kind F.split isob (F.args (.ref x) (.str name tk) v) ?_)
  have lm : W.Looks (model prog w) hp (mroOf (.ref C)) cd.mro := (W.looks_clsIn X hcd).andThen .now
  have lt : W.Looks (model prog w) hp (storeTaker? none) none := .now
  have lc : W.Looks (model prog w) hp (classData C) cd := W.looks_clsIn X hcd
  rw [W.osa_eq, refuse_eq]
  refine wpAny_bind (wpAny_bind (I.type.at (wpAny_bind (lm.at ?_))))
  rw [hr]
  refine wpAny_pure (wpAny_bind (I.type.at (wpAny_bind ((W.looks_findIn X ha).at (wpAny_bind (lt.at ?_))))))
  show wpAny _ _ (storeInOwnDict (.ref x) (.ref C) (.str name tk) name v false) _ _ _
  obtain ⟨nm, bs, mro, ns, qn, hd, sn, sb, ab, col, del⟩ := cd
  dsimp only at hh
  subst hh
  unfold storeInOwnDict ownDictForStores
  repeat (first | with_reducible refine store_in_new ?_ ?_ | with_reducible refine wpAny_loadPart_at hx ?_ | with_reducible refine lc.at ?_ | wp_step)
  · exact ⟨_, #[], _, (Heap.get?_update_ne _ _ _ _ dif).trans (Heap.get?_push_at rfl rfl), rfl, fun e he => absurd he (by simp), fun _ => rfl⟩
  · intro h' tk' hn' hs
    have x1 : (hp.push { cls := .type "dict", data := .dict #[] }).get? x = some { cls := .ref C, data := .fields fv } := Heap.get?_push_of_some _ hx
    refine hq h' tk' hp.objs.size (fun b o hb ho => ?_) (Nat.le_refl _) dif ?_ hn'
    · exact (hs.2 b (Nat.ne_of_lt (Heap.lt_size ho))).trans ((Heap.get?_update_ne _ _ _ _ hb).trans (Heap.get?_push_of_some _ ho))
    · exact (hs.2 x dif.symm).trans (Heap.get?_update_self _ x1 rfl)
end
end VX
namespace VX
open PySem PySem.Spec PyProof.Rows L2 VR

/-- an own exception class with an own __init__, no matter which built-in class it hangs on -/
structure OxC (K : PySem.W.Frag) (C : Addr) : Prop where
  cls : ∃ nm q N bs bm sn sub ab col dd k0 k1 k2 k3 k5 B newId initId bmB, ExcBaseFacts B newId initId bmB ∧ K.lookup C = some (excClassObj nm q C N bs bm true sn sub ab col dd k0 k1 k2 k3 k5 newId) ∧
    (∀ Y : String, bm.contains (.type Y) = bmB.contains (.type Y)) ∧ (∀ self, refuseLoop self "__setattr__" (.ref C :: bm) = pure ()) ∧ bm.contains (.type "object") = true
  sa : PySem.W.findIn K (.ref C) "__setattr__" = some (some (.builtin "object.__setattr__"))
  kC : PySem.W.keepIn K (.ref C) = true
  ga : PySem.W.findIn K (.ref C) "__getattribute__" = some (some (.builtin "BaseException.__getattribute__"))
  gg : PySem.W.findIn K (.ref C) "__getattr__" = some none
  ex : PySem.W.subIn K (.ref C) (.type "BaseException") = some true
  ac : PySem.W.findIn K (.ref C) "__class__" = some (some (.builtin "object.__class__"))
  an : PySem.W.specialIn K (.builtin "object.__class__") "__get__" = some (some (.builtin "getset_descriptor.__get__"))
  tk : PySem.W.takesIn K (.builtin "object.__class__") = some true
  mo : PySem.W.mroIn K C (.type "object") = some true
theorem OxC.cin {K : PySem.W.Frag} {C : Addr} (T : OxC K C) : (PySem.W.clsIn K C).isSome = true := by
  obtain ⟨nm, q, N, bs, bm, sn, sub, ab, col, dd, k0, k1, k2, k3, k5, B, ni, ii, bmB, _, hC, _⟩ := T.cls
  unfold PySem.W.clsIn; rw [hC]; rfl
theorem OxC.hd {K : PySem.W.Frag} {C : Addr} (T : OxC K C) : PySem.W.hasDictIn K C = true := by
  obtain ⟨nm, q, N, bs, bm, sn, sub, ab, col, dd, k0, k1, k2, k3, k5, B, ni, ii, bmB, _, hC, _⟩ := T.cls
  unfold PySem.W.hasDictIn PySem.W.clsIn; rw [hC]; rfl
/-- an exception of the class at C, its one field f holding v -/
def ExAt (H : Hp) (x : V) (C : Addr) (f : Str) (v : V) : Prop := ∃ a dx : Addr, x = .ref a ∧ H a = some (exo a C (some dx)) ∧ H dx = some (exd dx [(f, v)])
theorem ExAt.same {H H' : Hp} {x v : V} {C : Addr} {f : Str} (h : ExAt H x C f v) (s : Same H H') : ExAt H' x C f v := by
  obtain ⟨a, dx, e, h1, h2⟩ := h
  exact ⟨a, dx, e, s _ _ h1, s _ _ h2⟩
/-- self.f = e in such an __init__ -/
def tOx (K : PySem.W.Frag) (f : Str) (to te : TE) : TS := fun D σ H => te σ H fun y H1 => to σ H1 fun x H2 => ∃ a C : Addr, x = .ref a ∧ OxC K C ∧ PySem.W.findIn K (.ref C) f = some none ∧
  H2 a = some (exo a C none) ∧ ∀ dx, H2 dx = none → dx ≠ a → D.nx σ (upd (upd H2 dx (exd dx [(f, y)])) a (exo a C (some dx)))
section
variable {X : Cx} {pins : List (Addr × Obj)} {σ : L2.St} {H : Hp} {s : Shared} {a C dx : Addr} {f : Str} {y : V} {u : Value} {E : Value → Shared → Prop} {A : Around}
theorem putX {Q : Unit → Shared → Prop} (T : OxC X.K C) (I : Inv X pins σ H s) (e : H a = some (exo a C none)) (hno : PySem.W.findIn X.K (.ref C) f = some none) (ry : RelV y u)
    (h : ∀ dx s', H dx = none → dx ≠ a → Inv X pins σ (upd (upd H dx (exd dx [(f, y)])) a (exo a C (some dx))) s' → Q () s') : wpAny (model X.prog X.w) A (setAttr (.ref a) f u) Q E s := by
  obtain ⟨nm, q, N, bs, bm, sn, sub, ab, col, dd, k0, k1, k2, k3, k5, B, ni, ii, bmB, _, hC, _, hr, hob⟩ := T.cls
  have hcl : PySem.W.clsIn X.K C = some { name := nm, bases := bs, mro := .ref C :: bm, ns := N, qualname := q, hasDict := true, slotNames := sn, subclasses := sub, abstract := ab, collection := col, hasDel := false } := by unfold PySem.W.clsIn; rw [hC] <;> rfl
  obtain ⟨t1, ho⟩ := exo_at I.hok e
  obtain ⟨hp, g, d, t, os⟩ := s
  refine PySem.W.set_plain I.kIn (ox := { cls := .ref C, dict := none, data := .fields #[.ref t1, .none, .none, .none, .bool false, .none] }) (od := none) ⟨ho, rfl, rfl, trivial⟩ T.sa ?_
  refine osaX I.kIn ho hcl rfl (by show (Value.ref C :: bm).contains (.type "object") = true; rw [List.contains_cons, hob, Bool.or_true]) hr rfl hno (fun h' tk' dx k dn dne hx hn => ?_)
  have gone : H dx = none := I.hok.fresh dn
  have low : ∀ {b : Addr} {o : Obj}, hp.get? b = some o → b ≠ dx := fun {b o} q => Nat.ne_of_lt (Nat.lt_of_lt_of_le (Heap.lt_size q) dn)
  have apart : ∀ {b : Addr}, H b = none → b ≠ a := fun {b} n z => by
    rw [z, e] at n
    cases n
  have U : Un X.fs [] H (upd (upd H dx (exd dx [(f, y)])) a (exo a C (some dx))) hp h' := {
    keep := fun b o q n _ _ => k b o (apart n) q
    slot := fun b o q n _ _ => ⟨o.slots, k b o (apart n) q⟩
    free := fun b o q n _ => by rw [upd_ne (apart n), upd_ne (low q)]; exact n
    there := fun b o q _ => by
      by_cases hb : b = a
      · exact ⟨_, by rw [hb]; exact hx⟩
      · exact ⟨o, k b o hb q⟩
    tups := fun b xs q => by rw [upd_ne (at_ne e q exo_tup), upd_ne (ne_of_none q gone)]; exact q
    frzs := fun b o v q => by rw [upd_ne (at_ne e q exo_frz), upd_ne (ne_of_none q gone)]; exact q
    tbls := fun b ps q => ⟨#[], by rw [upd_ne (at_ne e q exo_tbl), upd_ne (ne_of_none q gone), q]; simp⟩ }
  refine h dx _ gone dne (I.un (t' := tk') U fun b o q => ?_)
  by_cases hb : b = a
  · subst hb
    rw [upd_same] at q
    cases q
    exact exo_ok hx
  rw [upd_ne hb] at q
  by_cases hd : b = dx
  · subst hd
    rw [upd_same] at q
    cases q
    exact exd_ok hn (relO_put (fs := []) ry fun g => True.intro)
  rw [upd_ne hd] at q
  refine (I.hok b o q).stay (fun c v hc z => k c v ?_ z) (fun c hc => ?_) (fun c xs hc => ?_)
  · rcases hc with hc | hc
    · rw [hc]
      exact hb
    · exact at_ne e hc exo_own
  · rw [upd_ne (at_ne e hc exo_own), upd_ne (ne_of_none hc gone)]; exact hc
  · rw [upd_ne (at_ne e hc exo_tup), upd_ne (ne_of_none hc gone)]; exact hc
end
theorem ps_ox {X : Cx} {o e : Expr} {to te : TE} {f : Str} {p' pos : Pos} (ho : PE X o to) (he : PE X e te) (hs : swapsWith e (some (.Attribute o f p')) pos.line X.env = pure false := by rfl) : PS X (.Assign [.Attribute o f p'] e pos) (tOx X.K f to te) := by
  refine ⟨fun pins s σ H D I h => ?_⟩
  refine plainObj_wpAny_Assign_Attribute (thn (he.run pins s σ H _ I h) fun v s1 ⟨y, H1, I1, r1, q1⟩ => thn (ho.run pins s1 σ H1 _ I1 q1) fun u s2 ⟨x, H2, I2, r2, a, C, ex, T, hno, ea, q⟩ => ?_) hs
  subst ex
  obtain rfl : u = Value.ref a := r2
  exact putX T I2 ea hno r1 fun dx s' n ne J => ⟨σ, _, J, q dx n ne⟩
/-- what __init__(self, v) promises -/
def spOx (K : PySem.W.Frag) (C : Addr) (f : Str) : Sp := fun vs H Q E => ∃ (a : Addr) (v : V), vs = [.ref a, v] ∧ H a = some (exo a C none) ∧ ∀ dx, H dx = none → dx ≠ a → Q .non (upd (upd H dx (exd dx [(f, v)])) a (exo a C (some dx)))
section
variable {X : Cx} {CX : CXT} {k : Nat} {fI C : Addr} {fd : FuncData} {p1 p2 : Str} {f x : Str} {e : Expr} {te : TE} {p pos kpos : Pos}
/-- the class, its __init__ and what that keeps -/
structure OxI (X : Cx) (CX : CXT) (C fI : Addr) (fd : FuncData) (k : Nat) (f : Str) : Prop where
  T : OxC X.K C
  no : PySem.W.findIn X.K (.ref C) f = some none
  iC : PySem.W.findIn X.K (.ref C) "__init__" = some (some (.ref fI))
  tI : PySem.W.typeIn X.K (.ref fI) = some (.type "function")
  F : FnOk X.prog X.w X.K X.mg X.base CX k fI fd [("self" : Str), f] (spOx X.K C f)
theorem runX {pins : List (Addr × Obj)} {σ : L2.St} {H : Hp} {s : Shared} {Q : VK} {us : List Value} {kw : List (Str × Value)} {v : V} {u : Value} (O : OxI X CX C fI fd k f) (hr : Room (k + 1) X.A) (hx : Passes CX X (fun _ _ _ => False))
    (I : Inv X pins σ H s) (hl : us.length ≤ sizeLine) (hb : ∀ (s : Shared) (a : Addr), X.K.In s.heap → BindsTo s fd ⟨.ref a :: us, kw⟩ (([("self" : Str), f]).zip [.ref a, u])) (ru : RelV v u)
    (h : ∀ x H2, Same H H2 → ExAt H2 x C f v → Q x H2) : wpAny (model X.prog X.w) X.A (call (.ref C) us kw) (EP X pins σ Q) X.xe s := by
  obtain ⟨nm, q, N, bs, bm, sn, sub, ab, col, dd, k0, k1, k2, k3, k5, B, ni, ii, bmB, FB, hC, hT, _⟩ := O.T.cls
  obtain ⟨hp, g, dr, tk, os⟩ := s
  have hsz : hp.objs.size ≤ hp.objs.size + 1 := Nat.le_succ _
  have hn : H (hp.objs.size + 1) = none := I.hok.fresh hsz
  have kk : ∀ b o, hp.get? b = some o → ((hp.push (PySem.W.kdv_tup us)).push (PySem.HandSPX.excO C hp.objs.size)).get? b = some o := fun b o e => Heap.get?_push_of_some _ (Heap.get?_push_of_some _ e)
  have hget : ((hp.push (PySem.W.kdv_tup us)).push (PySem.HandSPX.excO C hp.objs.size)).get? (hp.objs.size + 1) = some (PySem.HandSPX.excO C hp.objs.size) := by heap_get
  have I2 : Inv X pins σ (upd H (hp.objs.size + 1) (exo (hp.objs.size + 1) C none)) ⟨(hp.push (PySem.W.kdv_tup us)).push (PySem.HandSPX.excO C hp.objs.size), g, dr, tk, os⟩ :=
    I.laid (t' := tk) (a := hp.objs.size + 1) (o := exo (hp.objs.size + 1) C none) (h' := (hp.push (PySem.W.kdv_tup us)).push (PySem.HandSPX.excO C hp.objs.size)) kk hsz (exo_ok hget)
  have sp : spOx X.K C f [.ref (hp.objs.size + 1), v] (upd H (hp.objs.size + 1) (exo (hp.objs.size + 1) C none)) (fun w H2 => w = .non ∧ Q (.ref (hp.objs.size + 1)) H2) (fun _ _ _ => False) := by
    refine ⟨_, v, rfl, upd_same, fun dx h1 h2 => ⟨rfl, h _ _ ?_ ⟨_, dx, rfl, upd_same, ?_⟩⟩⟩
    · have hd : H dx = none := by rw [upd_ne h2] at h1; exact h1
      intro b o eb
      have b1 : b ≠ hp.objs.size + 1 := ne_of_none eb hn
      have b2 : b ≠ dx := ne_of_none eb hd
      rw [upd_ne b1, upd_ne b2, upd_ne b1]
      exact eb
    · rw [upd_ne h2, upd_same]
  have r2 : Vals [V.ref (hp.objs.size + 1), v] [Value.ref (hp.objs.size + 1), u] := .cons rfl (.cons ru .nil)
  refine wpAny_call (callX FB hT (I.kIn _ _ hC) (PySem.W.looks_findIn I.kIn O.iC) (fun self => PySem.W.bind_fn I.kIn self O.tI) hl
    (codeAny_mono (O.F.run _ X.stack _ _ ⟨Value.ref (hp.objs.size + 1) :: us, kw⟩ [Value.ref (hp.objs.size + 1), u] _ _ (fun _ _ _ => False) (hr.make C us kw) (I2.env0.make C us kw) (hb _ _ I2.kIn) r2 sp) fun r s' hq' => ?_))
  cases r with
  | error er => exact hx pins σ _ _ er s' I2 hq'
  | ok fl =>
    cases fl with
    | ret u =>
      obtain ⟨w, H', I3, rv, ev, q3⟩ := I2.after hq'
      subst ev
      exact ⟨rv, ⟨V.ref (hp.objs.size + 1), H', I3, rfl, q3⟩⟩
    | next => exact False.elim hq'
    | brk => exact False.elim hq'
    | cont => exact False.elim hq'
/-- C(e) -/
def tOxV (C : Addr) (f : Str) (te : TE) : TE := fun σ H Q => te σ H fun v H1 => ∀ x H2, Same H1 H2 → ExAt H2 x C f v → Q x H2
theorem pe_oxP (O : OxI X CX C fI fd k f) (hr : Room (k + 1) X.A) (hx : Passes CX X (fun _ _ _ => False)) (hb : ∀ (s : Shared) (a : Addr) (u : Value), X.K.In s.heap → BindsTo s fd ⟨[.ref a, u], []⟩ (([("self" : Str), f]).zip [.ref a, u]))
    (hg : Gl X x) (hm : X.mg x = some (.ref C)) (he : PE X e te) (hdb : (x == ("__debug__" : Str)) = false := by decide) (hs : starEach [e] X.env = (false, eval e X.env) :: starEach [] X.env := by rfl) :
    PE X (.Call (.Name x p) [e] [] pos) (tOxV C f te) := by
  refine ⟨fun pins s σ H Q I h => ?_⟩
  refine wpAny_Call_Name_kw (ld_glob I hg hm ?_ hdb)
  refine PySem.W.callWith_K (h₀ := X.base) I.ok.mod.kin O.T.kC ?_ hs (by rfl)
  rw [hs]
  show wpAny _ _ (spliced ((false, eval e X.env) :: backTo pos (starEach [] X.env))) _ _ s
  refine Calls.spliced_cons (thn (he.run pins s σ H _ I h) fun u s1 ⟨v, H1, I1, r1, q1⟩ => ?_)
  refine Calls.spliced_nil ⟨I1.kIn, ?_⟩
  exact runX (us := [u]) (kw := []) O hr hx I1 (by show 1 ≤ sizeLine; rw [sizeLine_eq]; omega) (fun s a K => hb s a u K) r1 q1
/-- C(f=e) -/
theorem pe_oxK (O : OxI X CX C fI fd k f) (hr : Room (k + 1) X.A) (hx : Passes CX X (fun _ _ _ => False)) (hb : ∀ (s : Shared) (a : Addr) (u : Value), X.K.In s.heap → BindsTo s fd ⟨[.ref a], [(f, u)]⟩ (([("self" : Str), f]).zip [.ref a, u]))
    (hg : Gl X x) (hm : X.mg x = some (.ref C)) (he : PE X e te) (hdb : (x == ("__debug__" : Str)) = false := by decide) :
    PE X (.Call (.Name x p) [] [⟨some f, e, kpos⟩] pos) (tOxV C f te) := by
  refine ⟨fun pins s σ H Q I h => ?_⟩
  refine wpAny_Call_Name_kw (ld_glob I hg hm ?_ hdb)
  refine PySem.W.callWith_KW0 (h₀ := X.base) I.ok.mod.kin O.T.kC (by rfl) ?_ (by rfl)
  refine thn ((pk_cons (nm := some f) (kpos := kpos) he pk_nil).run pos pins s σ H (fun zs H2 => match zs with | [v] => ∀ x H3, Same H2 H3 → ExAt H3 x C f v → Q x H3 | _ => False) I h) fun ws s2 ⟨zs, H2, I2, rz, q2⟩ => ⟨I2.kIn, ?_⟩
  match zs, ws, rz, q2 with
  | [v], _, .cons r1 .nil, q2 => exact runX (us := []) (kw := [(f, _)]) O hr hx I2 (Nat.zero_le _) (fun s a K => hb s a _ K) r1 q2
end
end VX

namespace VX
open PySem PySem.Spec PyProof.Rows L2 VR
/-! ### fields, isinstance -/
def tOxF (K : PySem.W.Frag) (f : Str) (te : TE) : TE := fun σ H Q => te σ H fun x H1 => ∃ (C : Addr) (v : V), ExAt H1 x C f v ∧ OxC K C ∧ PySem.W.findIn K (.ref C) f = some none ∧ Q v H1
theorem pe_oxf {X : Cx} {e : Expr} {te : TE} {pos : Pos} {n : Str} (he : PE X e te) (hb : attributeBase e n X.env (eval e X.env) = eval e X.env := by rfl) : PE X (.Attribute e n pos) (tOxF X.K n te) := by
  refine ⟨fun pins s σ H Q I h => ?_⟩
  refine attr_of hb (thn (he.run pins s σ H _ I h) fun u s1 ⟨x, H1, I1, rx, C, v, hx, T, hno, q⟩ => ?_)
  obtain ⟨a, dx, rfl, ea, ed⟩ := hx
  obtain rfl : u = Value.ref a := rx
  obtain ⟨t1, ho⟩ := exo_at I1.hok ea
  obtain ⟨mA, hns, hr⟩ := exd_at I1.hok ed
  obtain ⟨od, hod, hl⟩ := lookIn_ns hns
  obtain ⟨u, hu, ru⟩ := RelO.some_of (v := v) (o := mA n) (by have := hr n; simpa [List.lookup] using this)
  have J : PySem.W.InstAt s1.heap a _ C (some od) := ⟨ho, rfl, rfl, hod⟩
  exact HandSPX.exc_get I1.kIn J T.ga T.gg T.ex (PySem.W.findObj_own T.hd hno rfl (by rw [hl, hu])) (handed_of ru) ⟨v, H1, I1.tok _, ru, q⟩
/-- isinstance(e, c), e such an exception -/
def rIsX (K : PySem.W.Frag) : List V → Hp → VK → Prop := fun xs H Q => ∃ (x c : V) (cv : Value) (C : Addr) (f : Str) (v : V) (b : Bool), xs = [x, c] ∧ ClsV c cv ∧ ExAt H x C f v ∧ OxC K C ∧ PySem.W.kitOne K (.ref C) cv = some b ∧ Q (.bl b) H
theorem call_isX {X : Cx} : CallR X (.builtin "isinstance") (rIsX X.K) := by
  intro pins s σ H xs us Q I r h
  obtain ⟨x, c, cv, C, f, v, b, rfl, hc, hx, T, e, q⟩ := h
  obtain ⟨a, dx, rfl, ea, ed⟩ := hx
  obtain ⟨u1, u2, rfl, r1, r2⟩ := vals2 r
  have e2 := hc.eq r2
  subst e2
  obtain rfl : u1 = Value.ref a := r1
  obtain ⟨t1, ho⟩ := exo_at I.hok ea
  obtain ⟨mA, hns, hr⟩ := exd_at I.hok ed
  obtain ⟨od, hod, hl⟩ := lookIn_ns hns
  have J : PySem.W.InstAt s.heap a _ C (some od) := ⟨ho, rfl, rfl, hod⟩
  exact PySem.W.kia_one (PySem.W.kitx_exc T.cin T.ga T.gg T.ex T.ac T.an T.tk T.mo) I.kIn J e (fun z => nomatch z) fun tk => ⟨.bl b, H, I.tok tk, rfl, q⟩
/-! ### repr of a list -/
/-- the items' data: no dict among them, or all the one empty dict -/
def Rpd (K : PySem.W.Frag) (H : Hp) (vs : List V) (ds : List PyData) : Prop :=
  (DpAll K H vs ds ∧ PyData.hasDictAll ds = false) ∨ ∃ (b : Addr) (n : Nat), H b = some (.dT []) ∧ vs = List.replicate n (.ref b) ∧ ds = List.replicate n (.dict [])
theorem reads_dicts {h : Heap} {b : Addr} {o : Obj} {ep : Nat} (e : h.get? b = some o) (c : o.cls = .type "dict") (d : o.data = .dict #[] ep) (nb : b ≠ sysModules) : ∀ (n : Nat) (us : List Value), Vals (List.replicate n (V.ref b)) us →
    ∃ as, ReadsAll h us (List.replicate n (.dict [])) as ∧ sysModules ∉ as
  | 0, _, r => by
    cases r
    exact ⟨[], .nil, fun z => nomatch z⟩
  | n + 1, _, r => by
    rw [List.replicate_succ] at r
    cases r with
    | cons r1 r2 =>
      obtain ⟨as, h1, h2⟩ := reads_dicts e c d nb n _ r2
      obtain rfl := (show _ = Value.ref b from r1)
      refine ⟨([b] ++ []) ++ as, ?_, ?_⟩
      · rw [List.replicate_succ]
        exact .cons (.dict (kvs := []) e c d .nil .nil) h1
      · intro z
        rcases List.mem_append.mp z with z | z
        · simp at z
          exact nb z.symm
        · exact h2 z
theorem Rpd.reads {X : Cx} {pins : List (Addr × Obj)} {σ : L2.St} {H : Hp} {s : Shared} {vs : List V} {ds : List PyData} {us : List Value} (I : L2.Inv X pins σ H s) (h : Rpd X.K H vs ds) (r : Vals vs us) :
    ∃ as, ReadsAll s.heap us ds as ∧ (PyData.hasDictAll ds = true → sysModules ∉ as) := by
  rcases h with ⟨h1, h2⟩ | ⟨b, n, hb, rfl, rfl⟩
  · obtain ⟨as, q⟩ := Dp.readsAll I ds vs us h1 r
    exact ⟨as, q, fun z => by rw [h2] at z; cases z⟩
  · obtain ⟨_, nb, xs, pr, o, es, ep, e1, e2, e3, e4, _⟩ := (show ObjOk X.prog X.w H s.heap b (.dT []) from I.hok b _ hb)
    cases pr
    have es0 : es = #[] := by
      have : es.toList = [] := by rw [e4]; rfl
      exact Array.toList_eq_nil_iff.mp this
    subst es0
    obtain ⟨as, q, z⟩ := reads_dicts e1 e2.1 e3 (beq_eq_false_iff_ne.mp nb) n us r
    exact ⟨as, q, fun _ => z⟩
def rReprL (K : PySem.W.Frag) : List V → Hp → VK → Prop := fun xs H Q => ∃ (a : Addr) (v : V) (vs : List V) (ds : List PyData), xs = [.ref a] ∧ SqL K H a (v :: vs) ∧ Rpd K H (v :: vs) ds ∧ PyData.showableAll ds = true ∧ PyData.depthAll ds ≤ 8 ∧
  (listText (PyData.shownAll ds)).length ≤ sizeLine ∧ Q (.str (listText (PyData.shownAll ds))) H
theorem call_reprL {X : Cx} {k : Nat} (hg : X.A.guards = some []) (hr : Room k X.A) : CallR X (.builtin "repr") (rReprL X.K) := by
  intro pins s σ H xs us Q I r h
  obtain ⟨a, v, vs, ds, rfl, hl, hd, hs, hdp, hz, q⟩ := h
  obtain ⟨u, rfl, r1⟩ := vals1 r
  obtain rfl : u = Value.ref a := r1
  obtain ⟨its, rv, ⟨o, n, ho, hc, _, hda⟩, _⟩ := I.list hl
  obtain ⟨as, ra, hsm⟩ := hd.reads I rv
  cases rv with
  | @cons _ u0 _ ur r1 r2 =>
    obtain ⟨bs, hb, hk⟩ := ReprAllK.of_readsAll (prog := X.prog) (w := X.w) ra hs hsm (fun t ht => Nat.le_trans (listText_mem_le ht) hz)
    have hna : a ∉ bs := not_mem_of_deeper (.list ho hc hda (by simpa using ra)) (by simp only [PyData.depth]; omega) hb
    have hu := hr.units
    refine call_repr_slot (by omega) ⟨o, ho, hc⟩ F.slot_list_repr.toG ?_
    exact call_list_reprK ho hc hda hna (by simpa using hk.length_eq) (fun i y e => hk.item i y (by simpa using e)) (g := []) (by exact hg) (fun b _ => Clear.nil b) (by show X.A.units + 1 + _ < cLine; omega) (fun _ _ e => e)
      (fun h' u tk hk' => ⟨_, _, rfl, .str _, H, I.kept hk', ⟨u, rfl⟩, q⟩) hz
end VX

/-! Sizes as lists of ints: plain mathematics. -/
namespace SZ
/-- without the zeros at the end -/
def trim : List Int → List Int
  | [] => []
  | x :: r => match trim r with
    | [] => if x = 0 then [] else [x]
    | y :: ys => x :: y :: ys
theorem trim_app0 : ∀ ys : List Int, trim (ys ++ [0]) = trim ys
  | [] => by simp [trim]
  | y :: ys => by
    show trim (y :: (ys ++ [0])) = trim (y :: ys)
    simp only [trim]
    rw [trim_app0 ys]
theorem trim_app : ∀ (ys : List Int) {z : Int}, z ≠ 0 → trim (ys ++ [z]) = ys ++ [z]
  | [], z, h => by simp [trim, h]
  | y :: ys, z, h => by
    show trim (y :: (ys ++ [z])) = y :: (ys ++ [z])
    simp only [trim]
    rw [trim_app ys h]
    cases e : ys ++ [z] with
    | nil => simp at e
    | cons a b => rfl
theorem trim_len : ∀ xs : List Int, (trim xs).length ≤ xs.length
  | [] => Nat.le_refl _
  | x :: r => by
    have ih := trim_len r
    simp only [trim]
    cases e : trim r with
    | nil => dsimp only; split <;> simp
    | cons y ys => rw [e] at ih; simp only [List.length_cons] at ih ⊢; omega
theorem trim_mem : ∀ {xs : List Int} {c : Int}, c ∈ trim xs → c ∈ xs
  | [], _, h => h
  | x :: r, c, h => by
    have ih := @trim_mem r c
    simp only [trim] at h
    cases e : trim r with
    | nil =>
      rw [e] at h
      dsimp only at h
      split at h
      · cases h
      · exact List.mem_cons.mpr (.inl (by simpa using h))
    | cons y ys =>
      rw [e] at h ih
      rcases List.mem_cons.mp h with h | h
      · exact List.mem_cons.mpr (.inl h)
      · exact List.mem_cons.mpr (.inr (ih h))
theorem trim_trim : ∀ xs : List Int, trim (trim xs) = trim xs
  | [] => rfl
  | x :: r => by
    have ih := trim_trim r
    simp only [trim]
    cases e : trim r with
    | nil => dsimp only; split <;> simp [trim, *]
    | cons y ys =>
      rw [e] at ih
      show trim (x :: (y :: ys)) = x :: (y :: ys)
      rw [trim, ih]
/-- the value at n -/
def ev : List Int → Int → Int
  | [], _ => 0
  | c :: r, n => ev r n * n + c
theorem ev_trim : ∀ (xs : List Int) (n : Int), ev (trim xs) n = ev xs n
  | [], _ => rfl
  | x :: r, n => by
    have ih := ev_trim r n
    simp only [trim]
    cases e : trim r with
    | nil =>
      rw [e] at ih
      have h0 : ev r n = 0 := ih.symm
      dsimp only
      split
      · rename_i hx
        simp [ev, h0, hx]
      · simp [ev, h0]
    | cons y ys =>
      rw [e] at ih
      show ev (y :: ys) n * n + x = ev r n * n + x
      rw [ih]
/-- item by item -/
def sumL : List Int → List Int → List Int
  | [], ys => ys
  | x :: xs, [] => x :: xs
  | x :: xs, y :: ys => (x + y) :: sumL xs ys
theorem sumL_nil (xs : List Int) : sumL xs [] = xs := by cases xs <;> rfl
theorem ev_sumL : ∀ (xs ys : List Int) (n : Int), ev (sumL xs ys) n = ev xs n + ev ys n
  | [], ys, n => by simp [sumL, ev]
  | x :: xs, [], n => by simp [sumL, ev]
  | x :: xs, y :: ys, n => by
    simp only [sumL, ev, ev_sumL xs ys n, Int.add_mul]
    omega
theorem len_sumL : ∀ xs ys : List Int, (sumL xs ys).length = max xs.length ys.length
  | [], ys => by simp [sumL]
  | x :: xs, [] => by simp [sumL]
  | x :: xs, y :: ys => by simp only [sumL, List.length_cons, len_sumL xs ys]; omega
theorem get_sumL : ∀ (xs ys : List Int) (i : Nat), (sumL xs ys).getD i 0 = xs.getD i 0 + ys.getD i 0
  | [], ys, i => by simp [sumL]
  | x :: xs, [], i => by simp [sumL]
  | x :: xs, y :: ys, 0 => by simp [sumL]
  | x :: xs, y :: ys, i + 1 => by simpa [sumL] using get_sumL xs ys i
def negL (xs : List Int) : List Int := xs.map fun x => -x
theorem ev_negL : ∀ (xs : List Int) (n : Int), ev (negL xs) n = - ev xs n
  | [], n => by simp [negL, ev]
  | x :: xs, n => by
    have ih := ev_negL xs n
    show ev (negL xs) n * n + -x = -(ev xs n * n + x)
    rw [ih, Int.neg_mul]
    omega
/-- c times ys, added to zs from place k on -/
def addAt (zs : List Int) (k : Nat) (d : Int) : List Int := zs.set k (zs.getD k 0 + d)
theorem len_addAt (zs : List Int) (k : Nat) (d : Int) : (addAt zs k d).length = zs.length := by simp [addAt]
def rowAt (zs : List Int) (k : Nat) (c : Int) (ys : List Int) : List Int := ys.zipIdx.foldl (fun z p => addAt z (k + p.2) (c * p.1)) zs
/-- powers of n -/
theorem ev_addAt : ∀ (zs : List Int) (k : Nat) (d n : Int), k < zs.length → ev (addAt zs k d) n = ev zs n + d * n ^ k
  | [], k, d, n, h => by simp at h
  | z :: zs, 0, d, n, h => by simp [addAt, ev]; omega
  | z :: zs, k + 1, d, n, h => by
    have ih := ev_addAt zs k d n (by simpa using h)
    have e : addAt (z :: zs) (k + 1) d = z :: addAt zs k d := by simp [addAt]
    rw [e]
    show ev (addAt zs k d) n * n + z = ev zs n * n + z + d * n ^ (k + 1)
    rw [ih, Int.add_mul, Int.pow_succ, Int.mul_assoc]
    omega
/-- the product, as the two loops make it: the first i of xs whole, the first j of ys with the next one -/
def mulL : List Int → List Int → List Int
  | [], ys => List.replicate ys.length 0
  | x :: xs, ys => sumL (ys.map (x * ·)) (0 :: mulL xs ys)
theorem ev_map_mul : ∀ (x : Int) (ys : List Int) (n : Int), ev (ys.map (x * ·)) n = x * ev ys n
  | x, [], n => by simp [ev]
  | x, y :: ys, n => by
    show ev (ys.map (x * ·)) n * n + x * y = x * (ev ys n * n + y)
    rw [ev_map_mul x ys n, Int.mul_add, Int.mul_assoc]
theorem ev_rep0 : ∀ (k : Nat) (n : Int), ev (List.replicate k 0) n = 0
  | 0, _ => rfl
  | k + 1, n => by rw [List.replicate_succ]; simp [ev, ev_rep0 k n]
theorem ev_mulL : ∀ (xs ys : List Int) (n : Int), ev (mulL xs ys) n = ev xs n * ev ys n
  | [], ys, n => by simp [mulL, ev_rep0, ev]
  | x :: xs, ys, n => by
    rw [mulL, ev_sumL, ev_map_mul]
    show x * ev ys n + (ev (mulL xs ys) n * n + 0) = (ev xs n * n + x) * ev ys n
    rw [ev_mulL xs ys n, Int.add_mul, Int.add_zero, Int.add_comm, Int.mul_assoc, Int.mul_assoc, Int.mul_comm (ev ys n) n]
theorem len_mulL : ∀ xs ys : List Int, (mulL xs ys).length = xs.length + ys.length
  | [], ys => by simp [mulL]
  | x :: xs, ys => by rw [mulL, len_sumL, List.length_map, List.length_cons, len_mulL xs ys, List.length_cons]; omega
/-- all below 2 ^ k in size -/
def Bd (k : Nat) (xs : List Int) : Prop := ∀ c ∈ xs, c.natAbs < 2 ^ k
theorem Bd.mono {j k : Nat} {xs : List Int} (h : Bd j xs) (hk : j ≤ k) : Bd k xs := fun c hc => Nat.lt_of_lt_of_le (h c hc) (Nat.pow_le_pow_right (by decide) hk)
theorem Bd.trim {k : Nat} {xs : List Int} (h : Bd k xs) : Bd k (trim xs) := fun c hc => h c (trim_mem hc)
theorem Bd.nil {k : Nat} : Bd k [] := fun _ h => nomatch h
theorem Bd.cons {k : Nat} {x : Int} {xs : List Int} (h : x.natAbs < 2 ^ k) (t : Bd k xs) : Bd k (x :: xs) := fun c hc => by
  rcases List.mem_cons.mp hc with e | e
  · rw [e]; exact h
  · exact t c e
theorem natAbs_add_lt {a b : Int} {k : Nat} (ha : a.natAbs < 2 ^ k) (hb : b.natAbs < 2 ^ k) : (a + b).natAbs < 2 ^ (k + 1) := by
  have : (2 : Nat) ^ (k + 1) = 2 ^ k + 2 ^ k := by rw [Nat.pow_succ]; omega
  omega
theorem natAbs_mul_lt {a b : Int} {j k : Nat} (ha : a.natAbs < 2 ^ j) (hb : b.natAbs < 2 ^ k) : (a * b).natAbs < 2 ^ (j + k) := by
  rw [Int.natAbs_mul, Nat.pow_add]
  exact Nat.mul_lt_mul'' ha hb
theorem two_pos (k : Nat) : 0 < 2 ^ k := Nat.pow_pos (by decide)
theorem Bd.sumL : ∀ {k : Nat} {xs ys : List Int}, Bd k xs → Bd k ys → Bd (k + 1) (sumL xs ys)
  | k, [], ys, _, h => h.mono (Nat.le_succ _)
  | k, x :: xs, [], h, _ => h.mono (Nat.le_succ _)
  | k, x :: xs, y :: ys, h, g => by
    refine Bd.cons (natAbs_add_lt (h x (List.mem_cons_self ..)) (g y (List.mem_cons_self ..))) (Bd.sumL (fun c hc => h c (List.mem_cons_of_mem _ hc)) fun c hc => g c (List.mem_cons_of_mem _ hc))
theorem Bd.negL {k : Nat} {xs : List Int} (h : Bd k xs) : Bd k (negL xs) := fun c hc => by
  obtain ⟨x, hx, e⟩ := List.mem_map.mp hc
  rw [← e, Int.natAbs_neg]
  exact h x hx
theorem Bd.mulL : ∀ {j k : Nat} {xs ys : List Int}, Bd j xs → Bd k ys → Bd (j + k + xs.length) (mulL xs ys)
  | j, k, [], ys, _, h => fun c hc => by
    have : c = 0 := (List.mem_replicate.mp hc).2
    rw [this]; exact two_pos _
  | j, k, x :: xs, ys, h, g => by
    have ih := Bd.mulL (fun c hc => h c (List.mem_cons_of_mem _ hc) : Bd j xs) g
    have e : j + k + (x :: xs).length = (j + k + xs.length) + 1 := by rw [List.length_cons]; omega
    rw [e]
    refine Bd.sumL (fun c hc => ?_) (Bd.cons (two_pos _) ih)
    obtain ⟨y, hy, e2⟩ := List.mem_map.mp hc
    rw [← e2]
    exact Nat.lt_of_lt_of_le (natAbs_mul_lt (h x (List.mem_cons_self ..)) (g y hy)) (Nat.pow_le_pow_right (by decide) (Nat.le_add_right _ _))
/-- how great a value is -/
theorem ev_lt : ∀ {b m : Nat} {xs : List Int} {n : Int}, Bd b xs → n.natAbs < 2 ^ m → (ev xs n).natAbs < 2 ^ (b + xs.length * (m + 1))
  | b, m, [], n, _, _ => two_pos _
  | b, m, x :: xs, n, h, hn => by
    have ih := ev_lt (fun c hc => h c (List.mem_cons_of_mem _ hc) : Bd b xs) hn
    have e : b + (x :: xs).length * (m + 1) = (b + xs.length * (m + 1) + m) + 1 := by rw [List.length_cons, Nat.succ_mul]; omega
    rw [e]
    show (ev xs n * n + x).natAbs < _
    refine natAbs_add_lt (natAbs_mul_lt ih hn) (Nat.lt_of_lt_of_le (h x (List.mem_cons_self ..)) (Nat.pow_le_pow_right (by decide) (by omega)))
/-- ys in place of n: as the loop makes it, from the last one on -/
def cmp : List Int → List Int → List Int
  | [], _ => []
  | c :: r, ys => trim (sumL (trim (mulL (cmp r ys) ys)) [c])
theorem ev_cmp : ∀ (xs ys : List Int) (n : Int), ev (cmp xs ys) n = ev xs (ev ys n)
  | [], _, _ => rfl
  | c :: r, ys, n => by
    rw [cmp, ev_trim, ev_sumL, ev_trim, ev_mulL, ev_cmp r ys n]
    simp [ev]
end SZ

namespace SZ
theorem ext_getD {xs ys : List Int} (hl : xs.length = ys.length) (h : ∀ k, xs.getD k 0 = ys.getD k 0) : xs = ys := by
  apply List.ext_getElem hl
  intro k h1 h2
  have := h k
  rw [List.getD_eq_getElem?_getD, List.getD_eq_getElem?_getD, List.getElem?_eq_getElem h1, List.getElem?_eq_getElem h2] at this
  simpa using this
theorem getD_set (zs : List Int) (j k : Nat) (d : Int) : (zs.set j d).getD k 0 = if k = j ∧ j < zs.length then d else zs.getD k 0 := by
  rw [List.getD_eq_getElem?_getD, List.getD_eq_getElem?_getD, List.getElem?_set]
  by_cases e : j = k
  · subst e
    by_cases hl : j < zs.length
    · simp [hl]
    · simp [hl]
  · simp [e, Ne.symm e]
theorem getD_rep (n k : Nat) : (List.replicate n (0 : Int)).getD k 0 = 0 := by
  rw [List.getD_eq_getElem?_getD, List.getElem?_replicate]
  split <;> rfl
theorem getD_of_ge {xs : List Int} {k : Nat} (h : xs.length ≤ k) : xs.getD k 0 = 0 := by
  rw [List.getD_eq_getElem?_getD, List.getElem?_eq_none h]
  rfl
/-- the k-th coefficient of the product -/
def cf : List Int → List Int → Nat → Int
  | [], _, _ => 0
  | x :: xs, ys, k => x * ys.getD k 0 + (match k with | 0 => 0 | k + 1 => cf xs ys k)
theorem get_map_mul (x : Int) (ys : List Int) (k : Nat) : (ys.map (x * ·)).getD k 0 = x * ys.getD k 0 := by
  rw [List.getD_eq_getElem?_getD, List.getD_eq_getElem?_getD, List.getElem?_map]
  cases ys[k]? <;> simp
theorem get_mulL : ∀ (xs ys : List Int) (k : Nat), (mulL xs ys).getD k 0 = cf xs ys k
  | [], ys, k => by rw [mulL, getD_rep]; rfl
  | x :: xs, ys, 0 => by rw [mulL, get_sumL, get_map_mul]; simp [cf]
  | x :: xs, ys, k + 1 => by
    rw [mulL, get_sumL, get_map_mul]
    show x * ys.getD (k + 1) 0 + (mulL xs ys).getD k 0 = _
    rw [get_mulL xs ys k]
    rfl
theorem cf_app : ∀ (xs : List Int) (x : Int) (ys : List Int) (k : Nat), cf (xs ++ [x]) ys k = cf xs ys k + if xs.length ≤ k then x * ys.getD (k - xs.length) 0 else 0
  | [], x, ys, k => by
    show cf [x] ys k = 0 + if 0 ≤ k then x * ys.getD (k - 0) 0 else 0
    cases k <;> simp [cf]
  | z :: xs, x, ys, 0 => by simp [cf]
  | z :: xs, x, ys, k + 1 => by
    show z * ys.getD (k + 1) 0 + cf (xs ++ [x]) ys k = z * ys.getD (k + 1) 0 + cf xs ys k + if xs.length + 1 ≤ k + 1 then x * ys.getD (k + 1 - (xs.length + 1)) 0 else 0
    rw [cf_app xs x ys k]
    have e : k + 1 - (xs.length + 1) = k - xs.length := by omega
    rw [e, Int.add_assoc]
    congr 2
    by_cases h : xs.length ≤ k
    · rw [if_pos h, if_pos (by omega)]
    · rw [if_neg h, if_neg (by omega)]
theorem cf_take {xs ys : List Int} {i : Nat} {x : Int} (h : xs[i]? = some x) (k : Nat) : cf (xs.take (i + 1)) ys k = cf (xs.take i) ys k + if i ≤ k then x * ys.getD (k - i) 0 else 0 := by
  have hi : i < xs.length := (List.getElem?_eq_some_iff.mp h).1
  have e : xs.take (i + 1) = xs.take i ++ [x] := by rw [List.take_add_one, h]; rfl
  rw [e, cf_app, List.length_take, Nat.min_eq_left (Nat.le_of_lt hi)]
/-- the loops' lists, by their coefficients -/
structure Is (zs : List Int) (n : Nat) (F : Nat → Int) : Prop where
  len : zs.length = n
  get : ∀ k, zs.getD k 0 = F k
theorem Is.set {zs : List Int} {n : Nat} {F : Nat → Int} (h : Is zs n F) {j : Nat} (hj : j < n) {d : Int} {G : Nat → Int} (hg : ∀ k, G k = if k = j then d else F k) : Is (zs.set j d) n G :=
  ⟨by rw [List.length_set, h.len], fun k => by
    rw [getD_set, hg, h.get, h.len]
    by_cases e : k = j
    · rw [if_pos ⟨e, hj⟩, if_pos e]
    · rw [if_neg (fun q => e q.1), if_neg e]⟩
theorem Is.eq {zs ys : List Int} {n : Nat} {F : Nat → Int} (h : Is zs n F) (hl : ys.length = n) (hy : ∀ k, ys.getD k 0 = F k) : zs = ys := ext_getD (h.len.trans hl.symm) fun k => (h.get k).trans (hy k).symm
theorem getD_some {xs : List Int} {i : Nat} {x : Int} (h : xs[i]? = some x) : xs.getD i 0 = x := by rw [List.getD_eq_getElem?_getD, h]; rfl
end SZ

/-! t * k for a tuple t and k = 0 or 1 (HandS.TupMul has k from 2 on). -/
namespace VX
open PySem PySem.Spec PyProof.Rows L2 VR
theorem mul0 (l : Addr) (items : Array Value) (n : Nat) (dd : Option Addr) (sl : Array (Option Value)) (u : Tok) (c1 : (items.isEmpty || (0 : Int) == 1) = false) :
    Meets (Builtin.«tuple.__mul__» ⟨[.ref l, .int 0 u], []⟩) (fun _ R s => s.heap.get? l = some { cls := .type "tuple", dict := dd, data := .seq items n, slots := sl } ∧
      R (.ok (.ret (Value.ref s.heap.objs.size))) { s with heap := s.heap.push { cls := Value.type "tuple", data := Data.seq #[] }, toks := s.toks }) :=
  .of_wp fun prog w A R s h => by
    obtain ⟨hp, g, d, tk, os⟩ := s
    obtain ⟨hl, h⟩ := h
    have f1 := AutoSeq1.idx_int
    wp_walk using wpAny_loadPart' hl
    repeat (first
      | (refine wpAny_ite_false (decide_eq_false (by decide)) ?_; wp_walk using wpAny_loadPart' hl)
      | (refine wpAny_ite_false (decide_eq_false (by rw [c1]; exact Bool.false_ne_true)) ?_; wp_walk using wpAny_loadPart' hl)
      | (refine wpAny_ite_true (decide_eq_true (by decide)) ?_; wp_walk using wpAny_loadPart' hl))
    exact ⟨_, rfl, h⟩
theorem mul1 (l : Addr) (items : Array Value) (n : Nat) (dd : Option Addr) (sl : Array (Option Value)) (u : Tok) :
    Meets (Builtin.«tuple.__mul__» ⟨[.ref l, .int 1 u], []⟩) (fun _ R s => s.heap.get? l = some { cls := .type "tuple", dict := dd, data := .seq items n, slots := sl } ∧ R (.ok (.ret (Value.ref l))) s) :=
  .of_wp fun prog w A R s h => by
    obtain ⟨hp, g, d, tk, os⟩ := s
    obtain ⟨hl, h⟩ := h
    have f1 := AutoSeq1.idx_int
    have c1 : (items.isEmpty || (1 : Int) == 1) = true := by simp
    wp_walk using wpAny_loadPart' hl
    repeat (first
      | (refine wpAny_ite_false (decide_eq_false (by decide)) ?_; wp_walk using wpAny_loadPart' hl)
      | (refine wpAny_ite_true (decide_eq_true (by rw [c1])) ?_; wp_walk using wpAny_loadPart' hl))
    exact ⟨_, rfl, h⟩
/-- t * k, t not empty, 0 ≤ k -/
def rRepA (K : PySem.W.Frag) : R2 := fun x y H Q => ∃ (l : Addr) (k : Nat) (xs : List V), x = .ref l ∧ y = .int (k : Int) ∧ SqT K H l xs ∧ xs ≠ [] ∧ k ≤ 1000 ∧ xs.length ≤ 1000 ∧
  ((k = 1 ∧ Q (.ref l) H) ∨ (k ≠ 1 ∧ ∀ p, H p = none → Q (.ref p) (upd H p (.tup (List.replicate k xs).flatten))))
theorem op_repA {X : Cx} : OpR X (binaryOp .Mult) (rRepA X.K) := by
  intro pins s σ H x y v u Q I rx ry h
  obtain ⟨l, k, xs, rfl, rfl, hT, hne, hk, hz, q⟩ := h
  by_cases h2 : 2 ≤ k
  · rcases q with ⟨e, _⟩ | ⟨_, q⟩
    · omega
    · exact op_repT pins s σ H _ _ v u Q I rx ry ⟨l, (k : Int), xs, rfl, rfl, hT, hne, by omega, by omega, hz, fun p hp => q p hp⟩
  cases rx
  obtain ⟨t, rfl⟩ := ry
  obtain ⟨its, r, ⟨⟨cls, dd, data, sl⟩, ho, hc, n, hd⟩, hs⟩ := I.tuple hT
  simp only at hc hd
  subst hc hd
  have hn : its ≠ [] := fun e => hne (by
    rw [e] at r
    cases r
    rfl)
  have hi : its.toArray.isEmpty = false := by
    cases its with
    | nil => exact absurd rfl hn
    | cons a b => rfl
  rcases q with ⟨rfl, q⟩ | ⟨n1, q⟩
  · exact wpAny_binaryOp_repeat_ref (T := "tuple") (U := "int") (by decide) ⟨_, ho, rfl⟩ (fun s' => typeIs_int s' _ t) noFill_tuple_mul F.fills_int_mul F.slot_int_rmul repeat_tuple F.slot_int_index.lookup
      (call_meets F.slot_int_rmul (typeIs_int s _ t) F.entry_int_rmul (F.args_int_rmul_2 _ _) (int_rmul_tuple _ t l its.toArray n dd sl)
        ⟨ho, rfl, ⟨_, ho, rfl⟩, call_meets F.slot_tuple_mul ⟨_, ho, rfl⟩ F.entry_tuple_mul (F.args_tuple_mul_2 _ _) (mul1 l its.toArray n dd sl t) ⟨ho, ⟨.ref l, H, I, rfl, q⟩⟩⟩)
  · have k0 : k = 0 := by omega
    subst k0
    have c1 : (its.toArray.isEmpty || (0 : Int) == 1) = false := by rw [hi]; rfl
    refine wpAny_binaryOp_repeat_ref (T := "tuple") (U := "int") (by decide) ⟨_, ho, rfl⟩ (fun s' => typeIs_int s' _ t) noFill_tuple_mul F.fills_int_mul F.slot_int_rmul repeat_tuple F.slot_int_index.lookup
      (call_meets F.slot_int_rmul (typeIs_int s _ t) F.entry_int_rmul (F.args_int_rmul_2 _ _) (int_rmul_tuple _ t l its.toArray n dd sl)
        ⟨ho, rfl, ⟨_, ho, rfl⟩, call_meets F.slot_tuple_mul ⟨_, ho, rfl⟩ F.entry_tuple_mul (F.args_tuple_mul_2 _ _) (mul0 l its.toArray n dd sl t c1) ⟨ho, ?_⟩⟩)
    refine ⟨.ref s.heap.objs.size, _, I.laid (t' := s.toks) (o := .tup []) (fun b ob q => Heap.get?_push_of_some _ q) (Nat.le_refl _) ?_, rfl, q _ (I.hok.fresh (Nat.le_refl _))⟩
    exact ⟨Nat.zero_le _, [], .nil, IsTup.new _ _⟩
/-- t * k, one answer for all k -/
def rRepW (K : PySem.W.Frag) : R2 := fun x y H Q => ∃ (l : Addr) (k : Nat) (xs : List V), x = .ref l ∧ y = .int (k : Int) ∧ SqT K H l xs ∧ xs ≠ [] ∧ k ≤ 1000 ∧ xs.length ≤ 1000 ∧
  ∀ (tz : Addr) (Hz : Hp), Same H Hz → SqT K Hz tz (List.replicate k xs).flatten → Q (.ref tz) Hz
theorem op_repW {X : Cx} : OpR X (binaryOp .Mult) (rRepW X.K) := by
  intro pins s σ H x y v u Q I rx ry h
  obtain ⟨l, k, xs, e1, e2, hT, hne, hk, hz, q⟩ := h
  refine op_repA pins s σ H x y v u Q I rx ry ⟨l, k, xs, e1, e2, hT, hne, hk, hz, ?_⟩
  by_cases h : k = 1
  · refine .inl ⟨h, q l H (Same.refl _) ?_⟩
    rw [h]
    simpa using hT
  · exact .inr ⟨h, fun p hp => q p _ (Same.new hp) (.of upd_same)⟩
/-- t + u of tuples, one answer for all -/
def rCatW (K : PySem.W.Frag) : R2 := fun x y H Q => ∃ (a b : Addr) (xs ys : List V), x = .ref a ∧ y = .ref b ∧ SqT K H a xs ∧ SqT K H b ys ∧ xs.length + ys.length ≤ sizeLine ∧
  ∀ (tz : Addr) (Hz : Hp), Same H Hz → SqT K Hz tz (xs ++ ys) → Q (.ref tz) Hz
theorem op_catW {X : Cx} : OpR X (binaryOp .Add) (rCatW X.K) := by
  intro pins s σ H x y v u Q I rx ry h
  obtain ⟨a, b, xs, ys, e1, e2, ha, hb, hz, q⟩ := h
  refine op_catA pins s σ H x y v u Q I rx ry ⟨a, b, xs, ys, e1, e2, ha, hb, hz, fun e => q b H (Same.refl _) (by rw [e]; exact hb), fun _ e => q a H (Same.refl _) (by rw [e, List.append_nil]; exact ha), fun _ _ p hp => q p _ (Same.new hp) (.of upd_same)⟩
end VX

/-! A law whose def shows lists: its call where nothing is being shown yet. -/
namespace VX
open PySem PySem.Spec PyProof.Rows L2 VR
/-- the call keeps sp wherever nothing is being shown -/
def RunG (P : Program) (w : World) (K : PySem.W.Frag) (mg : Str → Option Value) (base : Heap) (CX : CXT) (k : Nat) (f : Addr) (fd : FuncData) (ps : List Str) (sp : Sp) : Prop :=
  ∀ (A : Around) (outer : List Env) (s : Shared) (H : Hp) (args : Args) (us : List Value) (vs : List V) (Q : VK) (E : XK), A.guards = some [] → Room k A → Env0 P w K mg base A outer s H → BindsTo s fd args (ps.zip us) → Vals vs us → sp vs H Q E →
    codeAny (model P w) A (.call (.ref f) args) (CR CX outer P w H s Q E) s
theorem runG_of {CX : CXT} {P : Program} {w : World} {K : PySem.W.Frag} {mg : Str → Option Value} {base : Heap} {k : Nat} {f : Addr} {name qual : Str} {params : Arguments} {body : List Stmt} {scope : Scope} {dV kV doc pm cdv ct oc : Value} {an od : Option Addr}
    {osl : Array (Option Value)} {N ps : List Str} {sp : Sp} (lk : K.lookup f = some ⟨oc, od, .func (PySem.W.fnOf name qual params body scope dV kV doc pm an cdv ct), osl⟩) (cdK : PySem.W.codeIn K cdv qual = true) (S : FnScope N ps scope)
    (len : ∀ vs H Q E, sp vs H Q E → vs.length = ps.length)
    (bd : ∀ (A : Around) (outer : List Env) (s : Shared) (H : Hp) (vs : List V) (Q : VK) (E : XK), A.guards = some [] → Room k (A.deeper (envOfC qual scope s.heap.objs.size f cdv)) → sp vs H Q E →
      ∃ t, PSs (cxOf CX P w K mg base N qual scope f cdv A outer s H E) body t ∧ t { nx := fun _ H' => Q .non H', rt := Q } (start N vs) H) :
    RunG P w K mg base CX (k + 1) f (PySem.W.fnOf name qual params body scope dV kV doc pm an cdv ct) ps sp := by
  intro A outer s H args us vs Q E hg room e0 hb r hsp
  have ln := len _ _ _ _ hsp
  have up : ∀ b o, base.get? b = some o → s.heap.get? b = some o := fun b o e => (e0.bs b o e).1
  have kinds : ∀ y ∈ ps.zip us, scope.names.lookup y.1 = some .local ∨ (scope.names.lookup y.1 = some .cell ∧ ((cellsFrom (s.heap.objs.size + 1) scope.names []).lookup y.1).isSome = true) := fun ⟨n, v⟩ hy =>
    (S.par n (List.of_mem_zip hy).1).imp id fun q => ⟨q, PySem.W.cellsFrom_some _ _ _ (.inl q)⟩
  have KX : K.In s.heap := e0.mod.kin.keeps up
  refine codeAny_call_function room.depth (KX _ _ lk) rfl S.co S.gen rfl (PySem.W.codeRec_of KX cdK) (hb _ _ _ _ (wpAny_newFunctionEnv_cells S.kind kinds fun env he s1 x => ?_))
  subst he
  refine ⟨(e0.mod.nolimit.keeps up).keeps x.toInCall.keep, codeAny_func ?_⟩
  obtain ⟨t, ht, hq⟩ := bd A outer s H vs Q E hg (room.deeper _) hsp
  refine wpAny_mono (ht.run [] s1 (start N vs) H _ (inv_start S room.hd e0 ln r x) hq) (fun fl s' hs => ?_) fun e s' hs => hs
  match fl, hs with
  | .ret u, ⟨v, σ', H', J, rv, q⟩ => exact ⟨v, H', J.os, J.bare, J.base, J.hok, rv, q⟩
  | .next, ⟨σ', H', J, q⟩ => exact ⟨V.non, H', J.os, J.bare, J.base, J.hok, rfl, q⟩
  | .brk, ⟨_, _, _, q⟩ => exact q.elim
  | .cont, ⟨_, _, _, q⟩ => exact q.elim
theorem okG {P : Program} {w : World} {K : PySem.W.Frag} {mg : Str → Option Value} {base : Heap} {x qual : Str} {st : Stmt} {f : Addr} {fd : FuncData} {N ps : List Str} {k : Nat} {sp : Sp} (F : Fun K x qual st f fd) (S : FnScope N ps (defScope st)) (len : ∀ vs H Q E, sp vs H Q E → vs.length = ps.length)
    (bd : ∀ (cdv : Value) (A : Around) (outer : List Env) (s : Shared) (H : Hp) (vs : List V) (Q : VK) (E : XK), A.guards = some [] → Room k (A.deeper (envOfC qual (defScope st) s.heap.objs.size f cdv)) → sp vs H Q E →
      ∃ t, PSs (cxOf CX0 P w K mg base N qual (defScope st) f cdv A outer s H E).nox (defBody st) t ∧ t { nx := fun _ H' => Q .non H', rt := Q } (start N vs) H) : RunG P w K mg base CX0 (k + 1) f fd ps sp := by
  obtain ⟨oc, od, kV, doc, pm, an, cdv, ct, osl, rfl, lk, hcd⟩ := F.ex
  refine runG_of lk hcd S len fun A outer s H vs Q E hg hr hsp => ?_
  obtain ⟨t, h, q⟩ := bd cdv A outer s H vs Q E hg hr hsp
  exact ⟨t, h.nox, q⟩
/-- the law's call -/
theorem callG {P : Program} {w : World} {K : PySem.W.Frag} {mg mb : Str → Option Value} {CX : CXT} {k : Nat} {fa a : Addr} {fd : FuncData} {x : Str} {sp : Sp} {s₁ : Shared} {vs : List Value} {ns : List Int}
    (KX : K.In s₁.heap) (hns : s₁.heap.Ns mainGlobals mg) (hb : s₁.heap.Ns builtinsNs mb) (hbb : ∀ x : Str, x ≠ "__name__" → mb x = bootBuiltins x) (lim : s₁.heap.NoLimit) (hg : s₁.gens = #[])
    (ha : s₁.heap.get? a = some { cls := .type "list", data := .seq vs.toArray }) (hi : IntsAre vs ns) (hl : ns.length ≤ sizeLine) (room : Room k callerA)
    (F : ∀ base : Heap, K.In base → base.Ns mainGlobals mg → RunG P w K mg base CX k fa fd [x] sp) (bind : ∀ (s : Shared) (u : Value), BindsTo s fd ⟨[u], []⟩ [(x, u)])
    (hsp : ∀ H : Hp, Only H → SqL K H a (ns.map V.int) → sp [.ref a] H (fun v _ => v = .bl true) fun _ _ _ => False)
    (hCX : ∀ H e s', CX [] H s₁ (fun _ _ _ => False) e s' → False) :
    codeAny (model P w) callerA (.call (.ref fa) ⟨[.ref a], []⟩) (fun r s' => r = .ok (.ret (.bool true)) ∧ OldK s₁.heap s'.heap ∧ s'.os = s₁.os ∧ AllBare s'.gens) s₁ := by
  have rv := vals_ints hi
  have lv := hi.length
  suffices main : ∀ H : Hp, Only H → SqL K H a (ns.map V.int) → HOk P w H s₁.heap → (∀ b, H b ≠ none → b = a ∧ K.lookup a = none) →
      codeAny (model P w) callerA (.call (.ref fa) ⟨[.ref a], []⟩) (fun r s' => r = .ok (.ret (.bool true)) ∧ OldK s₁.heap s'.heap ∧ s'.os = s₁.os ∧ AllBare s'.gens) s₁ by
    cases hk : K.lookup a with
    | some o =>
      have e := KX a o hk
      rw [ha] at e
      cases e
      exact main (fun _ => none) (fun _ => .inl rfl) (.inr ⟨_, vs.toArray, _, hk, rfl, rfl, rfl, by rw [List.size_toArray, lv]; exact hl, by simpa using rv⟩) (fun b u z => nomatch (show (none : Option HO) = some u from z)) fun b z => absurd rfl z
    | none =>
      refine main (fun b => if b = a then some (.frz { cls := .type "list", data := .seq vs.toArray } (.lst (ns.map V.int))) else none) (fun b => ?_) (.inl (.inr ⟨{ cls := .type "list", data := .seq vs.toArray }, if_pos rfl⟩)) (fun b u z => ?_) (fun b z => ?_)
      · by_cases hb : b = a
        · exact .inr ⟨_, _, if_pos hb⟩
        · exact .inl (if_neg hb)
      · by_cases hb : b = a
        · cases (if_pos hb).symm.trans z
          subst hb
          exact ⟨ha, by rw [List.length_map]; exact hl, vs, _, rv, ha⟩
        · cases (if_neg hb).symm.trans z
      · by_cases hb : b = a
        · exact ⟨hb, hk⟩
        · exact absurd (if_neg hb) z
  intro H only hS hok hA
  have free : ∀ {b : Addr} {o : Obj} {es : Array DictEntry} {ep : Nat}, s₁.heap.get? b = some o → o.data = .dict es ep → H b = none := fun {b o es ep} e d => by
    cases q : H b with
    | none => rfl
    | some u =>
      obtain ⟨rfl, _⟩ := hA b (by rw [q]; simp)
      rw [ha] at e
      cases e
      exact nomatch (show Data.seq vs.toArray _ = Data.dict es ep from d)
  have nsK : ∀ {b : Addr} {m : Str → Option Value}, s₁.heap.Ns b m → (hidT s₁.heap H).Ns b m := fun {b m} ⟨o, es, ep, e, d, r⟩ => ⟨o, es, ep, hidT_get e (free e d), d, r⟩
  have KB : K.In (hidT s₁.heap H) := fun b o e => hidT_get (KX b o e) (by
    cases q : H b with
    | none => rfl
    | some u =>
      obtain ⟨rfl, z⟩ := hA b (by rw [q]; simp)
      rw [z] at e
      cases e)
  obtain ⟨mc, m1, m2⟩ := lim
  have e0 : Env0 P w K mg (hidT s₁.heap H) callerA [] s₁ H :=
    ⟨rfl, ⟨KB, nsK hns, ⟨mb, nsK hb, hbb⟩, ⟨mc, nsK m1, m2⟩⟩, fun b o e => of_hidT e, Nat.le_of_eq (hidT_size _ _), trivial, fun b hb => absurd (show b ∈ ([] : List Addr) from hb) (by simp), hok, .of_eq hg⟩
  refine codeAny_mono (F _ KB (nsK hns) callerA [] s₁ H ⟨[.ref a], []⟩ [.ref a] [.ref a] _ _ rfl room e0 (bind s₁ (.ref a)) (.cons rfl .nil) (hsp H only hS)) fun r s' h => ?_
  match r, h with
  | .error e, h => exact (hCX H e s' h).elim
  | .ok .next, h => exact h.elim
  | .ok .brk, h => exact h.elim
  | .ok .cont, h => exact h.elim
  | .ok (.ret u), ⟨v, H', os, bare, un, hok', r', q⟩ =>
    obtain rfl : v = .bl true := q
    obtain rfl : u = Value.bool true := r'
    refine ⟨rfl, OldK.of_keep fun b o e => ?_, os, bare⟩
    rcases only b with z | ⟨ob, xs, z⟩
    · exact un.keep b o e z (fun z => nomatch (show b ∈ ([] : List Addr) from z)) (by simp)
    · obtain ⟨e1, _⟩ := hok b _ z
      obtain ⟨e2, _⟩ := hok' b _ (un.frzs b ob _ z)
      rw [e] at e1
      cases e1
      exact e2
theorem walk_G {l : PySem.W.OpenLaw} {n k : Nat} {q : Program} {loose : List Str} {XP : (Str → Option Value) → Heap → Prop} {YP : World → Heap → Prop} {d : DefRec} {K : Params → PySem.W.Frag} {CX : CXT} {sp : PySem.W.Frag → Sp} {x : Str}
    (hn : l.most = some n) (hn2 : n ≤ sizeLine) (hdf : d.params.defaults = []) (hr : Room k callerA)
    (hY : ∀ (w : World) (h : Heap), YP w h → (K w.params).In h)
    (F : ∀ (w : World) (mg : Str → Option Value) (fa : Addr) (h : Heap), (K w.params).In h → h.Ns mainGlobals mg → mg d.name = some (.ref fa) →
      ∃ fd : FuncData, (∀ (s : Shared) (u : Value), BindsTo s fd ⟨[u], []⟩ [(x, u)]) ∧
        ∀ base : Heap, (K w.params).In base → base.Ns mainGlobals mg → RunG l.prog w (K w.params) mg base CX k fa fd [x] (sp (K w.params)))
    (hsp : ∀ (K : PySem.W.Frag) (H : Hp) (a : Addr) (ns : List Int), ns.length ≤ n → Only H → SqL K H a (ns.map V.int) → sp K [.ref a] H (fun v _ => v = .bl true) fun _ _ _ => False)
    (hCX : ∀ (H : Hp) (s : Shared) (e : Value) (s' : Shared), CX [] H s (fun _ _ _ => False) e s' → False) :
    PySem.W.WalkO q loose XP YP l.row.toRowW d [] (fun f vs => PySem.call f vs) := by
  refine Att.attach_call hn hdf fun w s₀ s₁ mg mb fa o pm cd doc a vs ns G Y ho hd hcd hmg hobj hints hlen hg => ?_
  have KX := hY w _ Y
  obtain ⟨fd, bind, FF⟩ := F w mg fa _ KX G.T.g hmg
  exact callG KX G.T.g G.T.b G.T.builtins G.T.nolimit hg hobj hints (Nat.le_trans hlen hn2) hr FF bind (fun H only hS => hsp _ H a ns hlen only hS) fun H e s' => hCX H s₁ e s'
end VX

/-! repr of data that hold no dict. -/
namespace VX
open PySem PySem.Spec PyProof.Rows L2 VR
def rReprB : List V → Hp → VK → Prop := fun xs H Q => ∃ b : Bool, xs = [.bl b] ∧ Q (.str (if b then "True" else "False")) H
theorem call_reprB {X : Cx} : CallR X (.builtin "repr") rReprB := by
  intro pins s σ H xs us Q I r h
  obtain ⟨b, rfl, q⟩ := h
  obtain ⟨u, rfl, r1⟩ := vals1 r
  obtain rfl : u = Value.bool b := r1
  exact PySem.P.repr_of_bool ⟨.str _, H, I.tok _, ⟨_, rfl⟩, q⟩
/-- repr of any data without dicts -/
def rReprD (K : PySem.W.Frag) : List V → Hp → VK → Prop := fun xs H Q => ∃ (v : V) (d : PyData), xs = [v] ∧ Dp K H v d ∧ d.showable = true ∧ d.hasDict = false ∧ d.depth ≤ 8 ∧ d.shown.length ≤ sizeLine ∧ Q (.str d.shown) H
theorem call_reprD {X : Cx} (hg : X.A.guards = some []) (hu : X.A.units + 64 < cLine) : CallR X (.builtin "repr") (rReprD X.K) := by
  intro pins s σ H xs us Q I r h
  obtain ⟨v, d, rfl, hd, hs, hn, hp, hz, q⟩ := h
  obtain ⟨u, rfl, r1⟩ := vals1 r
  cases hd with
  | non =>
    obtain rfl : u = Value.none := r1
    exact PySem.P.repr_of_none ⟨.str _, H, I.tok _, ⟨_, rfl⟩, by simpa [PyData.shown] using q⟩
  | bl b =>
    obtain rfl : u = Value.bool b := r1
    exact PySem.P.repr_of_bool ⟨.str _, H, I.tok _, ⟨_, rfl⟩, by simpa [PyData.shown] using q⟩
  | int i =>
    obtain ⟨t, rfl⟩ := r1
    exact PySem.P.repr_of_int (by simpa [PyData.showable] using hs) ⟨.str _, H, I.tok _, ⟨_, rfl⟩, by simpa [PyData.shown] using q⟩
  | str x =>
    obtain ⟨t, rfl⟩ := r1
    exact PySem.P.repr_of_str ⟨.str _, H, I.tok _, ⟨_, rfl⟩, by simpa [PyData.shown] using q⟩ (by simpa [PyData.shown] using hz)
  | @lst a xs ds h1 h2 =>
    obtain rfl : u = Value.ref a := r1
    obtain ⟨as, ra⟩ := Dp.reads I _ _ _ (Dp.lst h1 h2) rfl
    exact repr_of_reads' ra hs (fun z => by rw [hn] at z; cases z) hg (by omega) (fun _ _ e => e) (fun h' u tk hk => ⟨.str _, H, I.kept hk, ⟨_, rfl⟩, q⟩) hz
  | @tup a xs ds h1 h2 =>
    obtain rfl : u = Value.ref a := r1
    obtain ⟨as, ra⟩ := Dp.reads I _ _ _ (Dp.tup h1 h2) rfl
    exact repr_of_reads' ra hs (fun z => by rw [hn] at z; cases z) hg (by omega) (fun _ _ e => e) (fun h' u tk hk => ⟨.str _, H, I.kept hk, ⟨_, rfl⟩, q⟩) hz
end VX

/-! Several except clauses with names; a def that shows lists, called; len by an own __len__; lcm. -/
namespace VX
open PySem PySem.Spec PyProof.Rows L2 VR
/-- the wishes of clauses that name the error, one behind the other -/
def wAsMany (K : PySem.W.Frag) (Wo : WX) (D : Ends) : List (Value × Nat × (Addr → Value → Option Addr → TS)) → WX
  | [] => Wo
  | (c, i, ts) :: r => wAs K c i ts (wAsMany K Wo D r) D
inductive HdAs (Y : Cx) : List ExceptHandler → List (Value × Nat × (Addr → Value → Option Addr → TS)) → Prop
  | nil : HdAs Y [] []
  | cons {x n : Str} {c : Value} {i : Nat} {ts : Addr → Value → Option Addr → TS} {b1 : Stmt} {bs : List Stmt} {p1 p2 : Pos} {hs : List ExceptHandler} {l : List (Value × Nat × (Addr → Value → Option Addr → TS))} (hn : Y.N[i]? = some n) (hk : Y.env.kindOf n = some .local) (hc : Names Y x c)
      (hq : ∀ (e : Addr) (o : Obj) (k : Value) (d : Option Addr) (w : List (Addr × Obj)), Zc k d o → (∃ vs, o.data = .fields vs) → PSs (Y.suite e ((e, o) :: w)) (b1 :: bs) (ts e k d)) (r : HdAs Y hs l) :
      HdAs Y (.ExceptHandler (some (.Name x p1)) (some n) (b1 :: bs) p2 :: hs) ((c, i, ts) :: l)
section
variable {Y : Cx} {body : List Stmt} {h1 : ExceptHandler} {hs : List ExceptHandler} {l : List (Value × Nat × (Addr → Value → Option Addr → TS))} {pos : Pos} {tb : WX → TS} {Wo : WX}
theorem ps_try_asMany (st : Y.stack = Y.env :: Y.outer) (fr : Y.env.frame = some Y.env.locals) (nd : Y.N.Nodup) (tk : Takes Y Wo)
    (hb : ∀ (W : WX) (w : List (Addr × Obj)) (xe : Value → Shared → Prop), Takes (Y.tr w xe) W → PassesOwn (model Y.prog Y.w) Y.A Y.env xe → PSs (Y.tr w xe) body (tb W)) (hh : HdAs Y (h1 :: hs) l) :
    PS Y (.Try body (h1 :: hs) [] [] pos) (fun D σ H => tb (wAsMany Y.K Wo D l) D σ H) := by
  refine ⟨fun pins s σ H D I0 rd => ?_⟩
  have okY := I0.ok
  have frm : Y.A.frames = some (Y.env :: Y.outer) := by rw [okY.frames, st]
  refine wpAny_Try_except (wpAny_mono ((hb (wAsMany Y.K Wo D l) (Y.pn ++ pins) (fun e t1 => wpAny (model Y.prog Y.w) Y.A (noteFrame e Y.env) (fun _ t2 => wpAny (model Y.prog Y.w) Y.A (setFlight e none) (fun _ t3 =>
    wpAny (model Y.prog Y.w) Y.A (handleBy e Y.env (h1 :: hs)) (SP Y pins D) Y.xe t3) Y.xe t2) Y.xe t1) (fun u t0 caught => ?_) PassesOwn.looking).run [] s σ H D (I0.toTry _) rd) (fun f t1 done => ?_) (fun _ _ z => z))
  · obtain ⟨e, B, sI, pins1, σ1, H1, cls, d, rfl, J1, nb, up1, sky, free, eqO, eqG, wish⟩ := caught
    have J2 : Inv Y pins σ1 H1 sI := J1.ofTry okY
    refine Sky.land Zc.steady frm fr (by rw [← st]; exact sky) fun g3 fl3 up3 => ?_
    have J3 : Inv Y pins σ1 H1 { t0 with heap := g3 } := J2.landed nb fl3.1 (up1.trans up3) eqO eqG
    obtain ⟨o3, w3, at3, zc3, dt3⟩ := fl3.there
    have off : e ∉ frs (Y.env :: Y.outer) := fun hm => by
      obtain ⟨_, o, eo, no⟩ := fl3.2.2.1.mem hm
      rw [at3] at eo
      cases eo
      exact no _ dt3
    have offL : e ≠ Y.env.locals := fun z => off (List.mem_filterMap.mpr ⟨Y.env, List.mem_cons_self, by rw [fr, z]⟩)
    have offF : e ∉ Y.fs := fun hm => by
      obtain ⟨v, hv, q⟩ := List.mem_filterMap.mp hm
      exact off (List.mem_filterMap.mpr ⟨v, List.mem_cons_of_mem _ hv, q⟩)
    have T3 := J3.suite at3 dt3 free offL offF
    have all : ∀ {hs' : List ExceptHandler} {l' : List (Value × Nat × (Addr → Value → Option Addr → TS))}, HdAs Y hs' l' → wAsMany Y.K Wo D l' cls d σ1 H1 → wpAny (model Y.prog Y.w) Y.A (handleBy (.ref e) Y.env hs') (SP Y pins D) Y.xe { t0 with heap := g3 } := by
      intro hs' l' hk
      induction hk with
      | nil =>
        intro wi
        obtain ⟨_, _, _, oe, vs, T, oT, tr, he, hz, hd, hf1, hr⟩ := id fl3
        refine wpAny_handleBy_nil ?_
        unfold PySem.passOn
        refine wpAny_bind (wpAny_field he hd hf1 ?_)
        rw [if_neg (show ¬ ((Value.ref T == Value.none) = true) by simp)]
        have out : wpAny (model Y.prog Y.w) Y.A (setFlight (.ref e) Y.env.frame) (fun _ t4 => wpAny (model Y.prog Y.w) Y.A (throw (.ref e) : Sem Flow) (SP Y pins D) Y.xe t4) Y.xe { t0 with heap := g3 } := by
          rw [fr]
          exact HandSPX.setFlight_upZ fl3 fun g4 hh4 up4 => wpAny_throw (tk _ _ ⟨e, B, sI, pins, σ1, H1, cls, d, rfl, J2, nb, (up1.trans up3).trans up4, .inr (.inr (by rw [st]; exact hh4)), free, eqO, eqG, wi⟩)
        first
          | exact wpAny_bind (wpAny_pure (wpAny_bind out))
          | exact wpAny_bind out
      | @cons x n c i ts b1 bs p1 p2 hs2 l2 hn hl hc hq r ih =>
        intro wi
        obtain ⟨b, eb, yes, no⟩ := wi
        refine wpAny_handleBy_cons (codeAny_handlers_test ?_) (by intro q; cases q)
        have tyE : PySem.W.Looks (model Y.prog Y.w) g3 (typeOf (.ref e)) cls := fun A Q E t k q => wpAny_typeOf_ref (k _ _ at3) (by rw [zc3.1]; exact q)
        have asks := PySem.W.exm_one (M := model Y.prog Y.w) (J3.kIn) tyE eb
        have named : ∀ {Q : Value → Shared → Prop} {E : Value → Shared → Prop}, Q c { t0 with heap := g3 } → wpAny (model Y.prog Y.w) (Y.A.mark (some (.ref e))) (eval (.Name x p1) Y.env) Q E { t0 with heap := g3 } := fun {Q E} q => by
          obtain ⟨hg, hb, hm | ⟨hm, hv, hx⟩⟩ := hc
          · exact ld_glob (X := Y.suite e ((e, o3) :: (Y.pn ++ pins))) T3 hg hm q hb
          · exact ld_blt (X := Y.suite e ((e, o3) :: (Y.pn ++ pins))) T3 hg hm hv q hx hb
        refine named (asks.here ?_)
        cases b with
        | false => exact ih (no rfl)
        | true =>
          refine codeAny_handlers_suite_as (HandSPX.lands_againZ fl3 fun g4 fl4 up4 => ?_)
          have J4 : Inv Y pins σ1 H1 { t0 with heap := g4 } := J2.landed nb fl4.1 ((up1.trans up3).trans up4) eqO eqG
          obtain ⟨o4, w4, at4, zc4, dt4⟩ := fl4.there
          have T4 := J4.suite at4 dt4 free offL offF
          refine store_ok (X := Y.suite e ((e, o4) :: (Y.pn ++ pins))) (v := .ref e) T4 nd hn (.inl hl) rfl (fun t5 T5 => ?_) (.inr hl)
          refine wpAny_mono ((hq e o4 cls d (Y.pn ++ pins) zc4 ⟨_, dt4⟩).run [] t5 _ H1 _ T5 (yes rfl e free)) (fun f t6 done => ?_) (fun _ _ z => z.elim)
          have close : ∀ {σ6 : L2.St} {H6 : Hp} {Q : Shared → Prop}, Inv (Y.suite e ((e, o4) :: (Y.pn ++ pins))) [] σ6 H6 t6 → (∀ t7, Inv Y pins (σ6.set i none) H6 t7 → Q t7) →
              wpAny (model Y.prog Y.w) Y.A (do bindName Y.env n .none; unbindBehindTheSuite Y.env n p2) (fun _ t7 => Q t7) Y.xe t6 := fun {σ6 H6 Q} T6 hq => gone_ok (T6.unsuite okY) nd hn hl hq
          match f, done with
          | .next, ⟨_, _, T6, q6⟩ => exact close T6 fun t7 J7 => ⟨_, _, J7, q6⟩
          | .brk, ⟨_, _, T6, q6⟩ => exact close T6 fun t7 J7 => ⟨_, _, J7, q6⟩
          | .cont, ⟨_, _, T6, q6⟩ => exact close T6 fun t7 J7 => ⟨_, _, J7, q6⟩
          | .ret u, ⟨_, _, _, T6, r6, q6⟩ => exact close T6 fun t7 J7 => ⟨_, _, _, J7, r6, q6⟩
    exact all hh wish
  · match f, done with
    | .next, ⟨_, _, J', q⟩ => exact wpAny_execs_nil ⟨_, _, J'.ofTry okY, q⟩
    | .brk, ⟨_, _, J', q⟩ => exact ⟨_, _, J'.ofTry okY, q⟩
    | .cont, ⟨_, _, J', q⟩ => exact ⟨_, _, J'.ofTry okY, q⟩
    | .ret u, ⟨_, _, _, J', r, q⟩ => exact ⟨_, _, _, J'.ofTry okY, r, q⟩
end
/-! ### a def that shows lists, called where nothing is being shown -/
section
variable {X : Cx} {CX : CXT} {k : Nat} {f : Addr} {fd : FuncData} {ps : List Str} {sp : Sp} {E : XK} {x : Str} {e : Expr} {es : List Expr} {t : TA} {p pos : Pos}
theorem pe_callSh (F : RunG X.prog X.w X.K X.mg X.base CX k f fd ps sp) (gd : X.A.guards = some []) (hr : Room k X.A) (ln : ∀ vs H Q E, sp vs H Q E → vs.length = ps.length) (hg : Gl X x) (hm : X.mg x = some (.ref f)) (hk : PySem.W.keepIn X.K (.ref f) = true) (hb : Binds X.K fd ps []) (hx : Passes CX X E)
    (ha : PA X (e :: es) t) (hdb : (x == ("__debug__" : Str)) = false := by decide) (he : starEach (e :: es) X.env = (false, eval e X.env) :: starEach es X.env := by rfl) (hpl : (backTo pos (starEach es X.env)).any (·.1) = false := by rfl) :
    PE X (.Call (.Name x p) (e :: es) [] pos) (tCall sp [] E t) := by
  refine ⟨fun pins s σ H Q I0 rd => wpAny_Call_Name_kw (ld_glob I0 hg hm ?_ hdb)⟩
  refine PySem.W.callWith_K (h₀ := X.base) I0.ok.mod.kin hk (thn (ha.run pos pins s σ H _ I0 rd) fun us t1 ⟨vs, H1, I1, rv, q⟩ => ⟨I1.kIn, ?_⟩) he hpl
  have q : sp vs H1 Q E := by
    have q' : sp (vs ++ []) H1 Q E := q
    rw [List.append_nil] at q'
    exact q'
  have hl : us.length = ps.length := by rw [← rv.length]; exact ln _ _ _ _ q
  have b := hb t1 us I1.kIn (by rw [List.append_nil]; exact hl)
  rw [List.append_nil] at b
  refine wpAny_call (codeAny_mono (F X.A X.stack t1 H1 ⟨us, []⟩ us vs Q E gd hr I1.env0 b rv q) fun r t2 hq => ?_)
  match r, hq with
  | .error e, hq => exact hx pins σ H1 t1 e t2 I1 hq
  | .ok (.ret u), hq => exact I1.after hq
  | .ok .next, hq => exact False.elim hq
  | .ok .brk, hq => exact False.elim hq
  | .ok .cont, hq => exact False.elim hq
end
def rLcm : List V → Hp → VK → Prop := fun vs H Q => ∃ a b : Int, vs = [.int a, .int b] ∧ a.natAbs < 2 ^ 64 ∧ b.natAbs < 2 ^ 64 ∧ Q (.int ((Nat.lcm a.natAbs b.natAbs : Nat) : Int)) H
theorem cr_lcm {X : Cx} : CallR X (.builtin "math.lcm") rLcm := by
  intro pins s σ H vs us Q I r h
  obtain ⟨a, b, rfl, ha, hb, q⟩ := h
  obtain ⟨t, u, rfl⟩ := Vals.int2 r
  exact PySem.W.mc_lcm ha hb fun _ => ⟨.int _, H, I.tok _, ⟨_, rfl⟩, q⟩
/-! ### len by an own __len__ -/
def rLenO (C : Addr) (sp : Sp) (E : XK) : List V → Hp → VK → Prop := fun xs H Q => ∃ a dx fs, xs = [.ref a] ∧ H a = some (.ins C dx fs) ∧ sp [.ref a] H (fun v H' => ∃ n : Nat, v = .int (n : Int) ∧ n < 2 ^ 62 ∧ Q v H') E
theorem call_lenO {X : Cx} {CX : CXT} {k : Nat} {C f : Addr} {fd : FuncData} {ps : List Str} {sp : Sp} {E : XK} (hl : PySem.W.findIn X.K (.ref C) "__len__" = some (some (.ref f))) (hf : PySem.W.isFn X.K (.ref f) = true) (F : FnOk X.prog X.w X.K X.mg X.base CX k f fd ps sp) (hr : Room (k + 1) X.A) (hb : Binds X.K fd ps []) (hx : Passes CX X E) :
    CallR X (.builtin "len") (rLenO C sp E) := by
  intro pins s σ H xs us Q I r h
  obtain ⟨a, dx, fs, rfl, ha, q⟩ := h
  obtain ⟨u, rfl, r1⟩ := vals1 r
  cases r1
  obtain ⟨mA, O, _⟩ := ins_get I.hok ha
  obtain ⟨od, J, _⟩ := O.look
  obtain ⟨m, hF⟩ := I.fr
  refine PySem.W.len_K hF I.ok.mod.kin J hl hf ?_
  have ln : ([Value.ref a] : List Value).length = ps.length := F.len _ _ _ _ q
  refine wpAny_call (codeAny_mono (F.run X.A.in1 X.stack s H ⟨[.ref a], []⟩ [.ref a] [.ref a] _ E hr.in1 I.env0.in1 (by simpa using hb s [.ref a] I.kIn (by simpa using ln)) (.cons rfl .nil) q) fun r s' hq => ?_)
  match r, hq with
  | .error e, hq => exact hx pins σ H s e s' I hq
  | .ok .next, hq => exact False.elim hq
  | .ok .brk, hq => exact False.elim hq
  | .ok .cont, hq => exact False.elim hq
  | .ok (.ret w), hq =>
    obtain ⟨z, H', I', rz, n, ez, hn, hz⟩ := I.after hq
    subst ez
    obtain ⟨t, rfl⟩ := rz
    exact ⟨⟨by omega, by omega⟩, .int n, H', I'.tok _, ⟨_, rfl⟩, hz⟩
end VX

/-! A class held by a local name, called (cls(..) in a classmethod). -/
namespace VX
open PySem PySem.Spec PyProof.Rows L2 VR
/-- the i-th slot holds the class at C, which is called -/
def tMakeL (i : Nat) (C : Addr) (sp : Sp) (dvs : List V) (E : XK) (t : TA) : TE := fun σ H Q => σ[i]? = some (some (.ref C)) ∧ tMake C sp dvs E t σ H Q
theorem pe_makeL {X : Cx} {CX : CXT} {k i : Nat} {f C : Addr} {fd : FuncData} {ps : List Str} {sp : Sp} {dvs : List V} {ds : List Value} {E : XK} {x : Str} {p pos : Pos} {e : Expr} {es : List Expr} {t : TA} (M : Mk X.K C f) (F : FnOk X.prog X.w X.K X.mg X.base CX k f fd ps sp) (hr : Room (k + 1) X.A) (hN : X.N[i]? = some x) (hv : Vis X.env.scope x)
    (hb : Binds X.K fd ps ds) (hd : Vals dvs ds) (hx : Passes CX X E) (ha : PA X (e :: es) t) (hdb : (x == ("__debug__" : Str)) = false := by decide) (hcd : (x == ("__classdict__" : Str)) = false := by decide)
    (he : starEach (e :: es) X.env = (false, eval e X.env) :: starEach es X.env := by rfl) (hpl : (backTo pos (starEach es X.env)).any (·.1) = false := by rfl) : PE X (.Call (.Name x p) (e :: es) [] pos) (tMakeL i C sp dvs E t) := by
  refine ⟨fun pins s σ H Q I h => ?_⟩
  obtain ⟨hs, ht⟩ := h
  refine wpAny_Call_Name_kw (thn ((pe_var (pos := p) hN hv hdb hcd).run pins s σ H (fun v H1 => v = .ref C ∧ H1 = H) I ⟨.ref C, hs, rfl, rfl⟩) fun u s1 ⟨v, H1, I1, r1, q1⟩ => ?_)
  obtain ⟨rfl, rfl⟩ := q1
  cases r1
  refine PySem.W.callWith_K (h₀ := X.base) I.ok.mod.kin M.kp (thn (ha.run pos pins s1 σ _ _ I1 ht) fun us s2 ⟨vs, H2, I2, r, q⟩ => ⟨I2.kIn, ?_⟩) he hpl
  exact run_make M F hr hb hd hx I2 r q
end VX

namespace VX
open PySem PySem.Spec PyProof.Rows L2 VR
/-- the call of a law that makes lambdas (its table of code objects at T) where nothing is being shown -/
theorem callT {P : Program} {w : World} {K : PySem.W.Frag} {mg mb : Str → Option Value} {CX : CXT} {k : Nat} {fa a c T : Addr} {fd : FuncData} {x : Str} {sp : Sp} {s₁ : Shared} {vs : List Value} {ns : List Int}
    (KX : K.In s₁.heap) (hns : s₁.heap.Ns mainGlobals mg) (hb : s₁.heap.Ns builtinsNs mb) (hbb : ∀ x : Str, x ≠ "__name__" → mb x = bootBuiltins x) (lim : s₁.heap.NoLimit) (hg : s₁.gens = #[])
    (hT : s₁.heap.get? T = some { cls := .none, data := .fields #[] }) (nT : K.lookup T = none) (C : PySem.W.CodeHd s₁.heap c T)
    (bmod : ∃ (bm : Addr) (ob : Obj), mg "__builtins__" = some (.ref bm) ∧ bm ≠ builtinsNs ∧ s₁.heap.get? bm = some ob ∧ ob.cls = .type "module" ∧ ob.dict = some builtinsNs ∧ ob.data = .plain)
    (ha : s₁.heap.get? a = some { cls := .type "list", data := .seq vs.toArray }) (hi : IntsAre vs ns) (hl : ns.length ≤ sizeLine) (room : Room k callerA)
    (F : ∀ base : Heap, K.In base → base.Ns mainGlobals mg → LamX.TabB base mg c T → RunG P w K mg base CX k fa fd [x] sp) (bind : ∀ (s : Shared) (u : Value), BindsTo s fd ⟨[u], []⟩ [(x, u)])
    (hsp : ∀ H : Hp, H T = some (.tbl #[]) → (∀ b, H b = none ∨ b = T ∨ ∃ o xs, H b = some (.frz o (.lst xs))) → SqL K H a (ns.map V.int) → sp [.ref a] H (fun v _ => v = .bl true) fun _ _ _ => False)
    (hCX : ∀ H e s', CX [] H s₁ (fun _ _ _ => False) e s' → False) :
    codeAny (model P w) callerA (.call (.ref fa) ⟨[.ref a], []⟩) (fun r s' => r = .ok (.ret (.bool true)) ∧ OldK s₁.heap s'.heap ∧ s'.os = s₁.os ∧ AllBare s'.gens) s₁ := by
  have rv := vals_ints hi
  have lv := hi.length
  have aT : a ≠ T := fun z => by
    rw [z, hT] at ha
    exact nomatch (show Data.fields #[] = Data.seq vs.toArray _ from congrArg Obj.data (Option.some.inj ha))
  suffices main : ∀ H : Hp, H T = some (.tbl #[]) → (∀ b, H b = none ∨ b = T ∨ ∃ o xs, H b = some (.frz o (.lst xs))) → SqL K H a (ns.map V.int) → HOk P w H s₁.heap → (∀ b, H b ≠ none → b = T ∨ (b = a ∧ K.lookup a = none)) →
      codeAny (model P w) callerA (.call (.ref fa) ⟨[.ref a], []⟩) (fun r s' => r = .ok (.ret (.bool true)) ∧ OldK s₁.heap s'.heap ∧ s'.os = s₁.os ∧ AllBare s'.gens) s₁ by
    cases hk : K.lookup a with
    | some o =>
      have e := KX a o hk
      rw [ha] at e
      cases e
      refine main (fun b => if b = T then some (.tbl #[]) else none) (if_pos rfl) (fun b => ?_) (.inr ⟨_, vs.toArray, _, hk, rfl, rfl, rfl, by rw [List.size_toArray, lv]; exact hl, by simpa using rv⟩) (fun b u z => ?_) (fun b z => ?_)
      · by_cases h : b = T
        · exact .inr (.inl h)
        · exact .inl (if_neg h)
      · by_cases h : b = T
        · cases (if_pos h).symm.trans z
          rw [h]
          exact hT
        · cases (if_neg h).symm.trans z
      · by_cases h : b = T
        · exact .inl h
        · exact absurd (if_neg h) z
    | none =>
      refine main (fun b => if b = T then some (.tbl #[]) else if b = a then some (.frz { cls := .type "list", data := .seq vs.toArray } (.lst (ns.map V.int))) else none) (if_pos rfl) (fun b => ?_) (.inl (.inr ⟨{ cls := .type "list", data := .seq vs.toArray }, (if_neg aT).trans (if_pos rfl)⟩)) (fun b u z => ?_) (fun b z => ?_)
      · by_cases h : b = T
        · exact .inr (.inl h)
        · by_cases h2 : b = a
          · exact .inr (.inr ⟨_, _, (if_neg h).trans (if_pos h2)⟩)
          · exact .inl ((if_neg h).trans (if_neg h2))
      · by_cases h : b = T
        · cases (if_pos h).symm.trans z
          rw [h]
          exact hT
        · have z := (if_neg h).symm.trans z
          by_cases h2 : b = a
          · cases (if_pos h2).symm.trans z
            subst h2
            exact ⟨ha, by rw [List.length_map]; exact hl, vs, _, rv, ha⟩
          · cases (if_neg h2).symm.trans z
      · by_cases h : b = T
        · exact .inl h
        · by_cases h2 : b = a
          · exact .inr ⟨h2, hk⟩
          · exact absurd ((if_neg h).trans (if_neg h2)) z
  intro H tT only hS hok hA
  have free : ∀ {b : Addr} {o : Obj}, s₁.heap.get? b = some o → (∀ us n, o.data ≠ .seq us n) → o.data ≠ .fields #[] → H b = none := fun {b o} e d1 d2 => by
    cases q : H b with
    | none => rfl
    | some u =>
      rcases hA b (by rw [q]; simp) with rfl | ⟨rfl, _⟩
      · rw [hT] at e
        cases e
        exact absurd rfl d2
      · rw [ha] at e
        cases e
        exact absurd rfl (d1 _ _)
  have nsK : ∀ {b : Addr} {m : Str → Option Value}, s₁.heap.Ns b m → (hidT s₁.heap H).Ns b m := fun {b m} ⟨o, es, ep, e, d, r⟩ => ⟨o, es, ep, hidT_get e (free e (fun us n z => by rw [d] at z; cases z) fun z => by rw [d] at z; cases z), d, r⟩
  have KB : K.In (hidT s₁.heap H) := fun b o e => hidT_get (KX b o e) (by
    cases q : H b with
    | none => rfl
    | some u =>
      rcases hA b (by rw [q]; simp) with rfl | ⟨rfl, z⟩
      · rw [nT] at e
        cases e
      · rw [z] at e
        cases e)
  have TB : LamX.TabB (hidT s₁.heap H) mg c T := by
    refine ⟨?_, ?_, fun z => ?_⟩
    · obtain ⟨o, us, file, tf, flags, tg, inF, text, tt, e1, r1, r2, r3, r4⟩ := C
      refine ⟨o, us, file, tf, flags, tg, inF, text, tt, hidT_get e1 (free e1 (fun ws n z => ?_) fun z => ?_), r1, r2, r3, r4⟩
      · rw [r2] at z
        cases z
      · rw [r2] at z
        cases z
        simp at r3
    · obtain ⟨bm, ob, b1, b2, b3, b4, b5, b6⟩ := bmod
      refine ⟨bm, ob, b1, b2, fun q => ?_, fun q => ?_, hidT_get b3 (free b3 (fun ws n z => ?_) fun z => ?_), b4, b5, b6⟩
      · obtain ⟨o, es, ep, e, hd, _⟩ := hns
        rw [q, e] at b3
        cases b3
        rw [hd] at b6
        cases b6
      · rw [q, hT] at b3
        cases b3
        cases b6
      · rw [b6] at z
        cases z
      · rw [b6] at z
        cases z
    · obtain ⟨o, es, ep, e, hd, _⟩ := hns
      rw [z, hT] at e
      cases e
      cases hd
  obtain ⟨mc, m1, m2⟩ := lim
  have e0 : Env0 P w K mg (hidT s₁.heap H) callerA [] s₁ H :=
    ⟨rfl, ⟨KB, nsK hns, ⟨mb, nsK hb, hbb⟩, ⟨mc, nsK m1, m2⟩⟩, fun b o e => of_hidT e, Nat.le_of_eq (hidT_size _ _), trivial, fun b hb => absurd (show b ∈ ([] : List Addr) from hb) (by simp), hok, .of_eq hg⟩
  refine codeAny_mono (F _ KB (nsK hns) TB callerA [] s₁ H ⟨[.ref a], []⟩ [.ref a] [.ref a] _ _ rfl room e0 (bind s₁ (.ref a)) (.cons rfl .nil) (hsp H tT only hS)) fun r s' h => ?_
  match r, h with
  | .error e, h => exact (hCX H e s' h).elim
  | .ok .next, h => exact h.elim
  | .ok .brk, h => exact h.elim
  | .ok .cont, h => exact h.elim
  | .ok (.ret u), ⟨v, H', os, bare, un, hok', r', q⟩ =>
    obtain rfl : v = .bl true := q
    obtain rfl : u = Value.bool true := r'
    obtain ⟨more, z⟩ := un.tbls T #[] tT
    have grown : s'.heap.get? T = some { cls := .none, data := .fields more } := by
      have g : s'.heap.get? T = some { cls := .none, data := .fields (#[] ++ more) } := hok' T _ z
      rw [Array.empty_append] at g
      exact g
    have kept : ∀ b o, b ≠ T → s₁.heap.get? b = some o → s'.heap.get? b = some o := fun b o n e => by
      rcases only b with z | z | ⟨ob, xs, z⟩
      · exact un.keep b o e z (fun z => nomatch (show b ∈ ([] : List Addr) from z)) (by simp)
      · exact absurd z n
      · obtain ⟨e1, _⟩ := hok b _ z
        obtain ⟨e2, _⟩ := hok' b _ (un.frzs b ob _ z)
        rw [e] at e1
        cases e1
        exact e2
    refine ⟨rfl, ⟨fun b o e => ?_, fun b o e => ?_⟩, os, bare⟩
    · by_cases n : b = T
      · subst n
        rw [hT] at e
        cases e
        exact .inr (.inl ⟨(C.tab hT).isCodeTable, rfl, #[], more, rfl, by rw [Array.empty_append]; exact grown⟩)
      · exact .inl (kept b o n e)
    · by_cases n : b = T
      · subst n
        exact ⟨_, grown⟩
      · exact ⟨o, kept b o n e⟩
theorem walk_T {l : PySem.W.OpenLaw} {n k : Nat} {q : Program} {loose : List Str} {XP : (Str → Option Value) → Heap → Prop} {YP : World → Heap → Prop} {d : DefRec} {K : Params → PySem.W.Frag} {CX : CXT} {sp : PySem.W.Frag → Addr → Sp} {x : Str}
    (hn : l.most = some n) (hn2 : n ≤ sizeLine) (hdf : d.params.defaults = []) (hr : Room k callerA)
    (hY : ∀ (w : World) (h : Heap), YP w h → (K w.params).In h)
    (F : ∀ (w : World) (lo : List Str) (mean : ExcName → Option Value) (mg mb : Str → Option Value) (fa : Addr) (h : Heap), PyProof.Rows.Top q lo mean mg mb h → YP w h → (K w.params).In h → h.Ns mainGlobals mg → mg d.name = some (.ref fa) →
      ∃ (fd : FuncData) (c T : Addr), h.get? T = some { cls := .none, data := .fields #[] } ∧ (K w.params).lookup T = none ∧ PySem.W.CodeHd h c T ∧ (∀ (s : Shared) (u : Value), BindsTo s fd ⟨[u], []⟩ [(x, u)]) ∧
        (∀ base : Heap, (K w.params).In base → base.Ns mainGlobals mg → LamX.TabB base mg c T → RunG l.prog w (K w.params) mg base CX k fa fd [x] (sp (K w.params) T)))
    (hsp : ∀ (K : PySem.W.Frag) (T : Addr) (H : Hp) (a : Addr) (ns : List Int), ns.length ≤ n → H T = some (.tbl #[]) → (∀ b, H b = none ∨ b = T ∨ ∃ o xs, H b = some (.frz o (.lst xs))) → SqL K H a (ns.map V.int) → sp K T [.ref a] H (fun v _ => v = .bl true) fun _ _ _ => False)
    (hCX : ∀ (H : Hp) (s : Shared) (e : Value) (s' : Shared), CX [] H s (fun _ _ _ => False) e s' → False) :
    PySem.W.WalkO q loose XP YP l.row.toRowW d [] (fun f vs => PySem.call f vs) := by
  refine Att.attach_callB hn hdf fun w s₀ s₁ mg mb fa o pm cd doc a vs ns G Y ho hd hcd hmg hobj hints hlen hbits hg => ?_
  have KX := hY w _ Y
  obtain ⟨fd, c, T, hT, nT, C, bind, FF⟩ := F w _ _ mg mb fa _ G.T Y KX G.T.g hmg
  exact callT KX G.T.g G.T.b G.T.builtins G.T.nolimit hg hT nT C G.T.bmain hobj hints (Nat.le_trans hlen hn2) hr FF bind (fun H tT only hS => hsp _ T H a ns hlen tT only hS) fun H e s' => hCX H s₁ e s'

end VX

namespace VX
open PySem PySem.Spec PyProof.Rows L2 VR
/-! ### def f(**d), called with keywords alone -/
open StX
section
variable {P : Program} {w : World} {A : Around} {E : Value → Shared → Prop}
theorem nsSet_new {s : Shared} {D : Addr} {es : List DictEntry} {n : Nat} {k : Str} {v : Value} {Q : Unit → Shared → Prop} (hD : s.heap.get? D = some (PySem.W.dictOf es n))
    (hs : ∀ e ∈ es, e.key.isStr k = false) (hr : ∀ e ∈ es, e.refKey = false)
    (h : ∀ h', h'.get? D = some (PySem.W.dictOf (es ++ [⟨PyData.keyHash w.params k, .str k s.toks, v⟩]) (n + 1)) → (∀ b, b ≠ D → h'.get? b = s.heap.get? b) → h'.objs.size = s.heap.objs.size → Q () { s with heap := h', toks := s.toks + 1 }) :
    wpAny (model P w) A (nsSet D k v) Q E s := by
  have e1 : es.any (·.key.isStr k) = false := by
    cases q : es.any (·.key.isStr k) with
    | false => rfl
    | true => obtain ⟨e, he, z⟩ := List.any_eq_true.mp q; rw [hs e he] at z; cases z
  have e2 : es.any (·.refKey) = false := by
    cases q : es.any (·.refKey) with
    | false => rfl
    | true => obtain ⟨e, he, z⟩ := List.any_eq_true.mp q; rw [hr e he] at z; cases z
  have e : Obj.putName k (PyData.keyHash w.params k) (.str k s.toks) v (PySem.W.dictOf es n) = PySem.W.dictOf (es ++ [⟨PyData.keyHash w.params k, .str k s.toks, v⟩]) (n + 1) := by
    rw [PySem.W.putName_dict, PySem.W.putL_new hs]
    show PySem.W.dictOf _ (if es.any (·.key.isStr k) then n else n + 1) = _
    rw [e1, if_neg Bool.false_ne_true]
  have c : aRefKeyMayBeTheName k es.toArray = false := by
    rw [aRefKeyMayBeTheName_at, ← Array.any_toList, ← Array.any_toList]
    show (!es.any (·.key.isStr k) && es.any (·.refKey)) = false
    rw [e2, Bool.and_false]
  unfold nsSet
  refine wpAny_bind (wpAny_bind (wpAny_askSetting (wpAny_pure (wpAny_bind (wpAny_mkText (wpAny_bind (wpAny_loadPart hD ?_)))))))
  show wpAny _ _ (if aRefKeyMayBeTheName k es.toArray = true then _ else _) _ _ _
  rw [c]
  refine wpAny_updatePart hD (h _ ?_ (fun b hb => Heap.get?_update_other _ _ (Ne.symm hb)) (Heap.size_update _ _ _))
  rw [Heap.get?_update_self _ hD (by
    show (Obj.putName k (PyData.keyHash w.params k) (.str k s.toks) v (PySem.W.dictOf es n)).isFreed = false
    rw [e]
    rfl)]
  show some (Obj.putName k (PyData.keyHash w.params k) (.str k s.toks) v (PySem.W.dictOf es n)) = _
  rw [e]
theorem ns_fill {D : Addr} {Q : PUnit → Shared → Prop} : ∀ (ex : List (Str × Value)) (s : Shared) (es : List DictEntry) (n : Nat), s.heap.get? D = some (PySem.W.dictOf es n) →
    (∀ e ∈ es, ∀ x ∈ ex, e.key.isStr x.1 = false) → (∀ e ∈ es, e.refKey = false) → (ex.map (·.1)).Nodup →
    (∀ h' tk, h'.get? D = some (PySem.W.dictOf (es ++ PySem.W.kwEs w.params s.toks ex) (n + ex.length)) → (∀ b, b ≠ D → h'.get? b = s.heap.get? b) → h'.objs.size = s.heap.objs.size → Q ⟨⟩ { s with heap := h', toks := tk }) →
    wpAny (model P w) A (forIn ex PUnit.unit fun x _ => (nsSet D x.1 x.2 >>= fun _ => pure (ForInStep.yield PUnit.unit))) Q E s
  | [], s, es, n, hD, _, _, _, h => by
    rw [List.forIn_nil]
    refine wpAny_pure (h s.heap s.toks ?_ (fun _ _ => rfl) rfl)
    show s.heap.get? D = some (PySem.W.dictOf (es ++ []) n)
    rw [List.append_nil]
    exact hD
  | x :: r, s, es, n, hD, hs, hr, hn, h => by
    obtain ⟨hn1, hn2⟩ := List.nodup_cons.mp (show (x.1 :: r.map (·.1)).Nodup from hn)
    rw [List.forIn_cons]
    refine wpAny_bind (wpAny_bind (nsSet_new hD (fun e he => hs e he x (.head _)) hr fun h' d1 d2 d3 => wpAny_pure ?_))
    show wpAny (model P w) A (forIn r PUnit.unit fun x _ => (nsSet D x.1 x.2 >>= fun _ => pure (ForInStep.yield PUnit.unit))) Q E { s with heap := h', toks := s.toks + 1 }
    refine ns_fill r { s with heap := h', toks := s.toks + 1 } _ _ d1 (fun e he y hy => ?_) (fun e he => ?_) hn2 fun h'' tk f1 f2 f3 => ?_
    · rcases List.mem_append.mp he with he | he
      · exact hs e he y (.tail _ hy)
      · obtain rfl := List.mem_singleton.mp he
        show (x.1 == y.1) = false
        exact beq_eq_false_iff_ne.mpr fun q => hn1 (by rw [q]; exact List.mem_map_of_mem hy)
    · rcases List.mem_append.mp he with he | he
      · exact hr e he
      · obtain rfl := List.mem_singleton.mp he
        rfl
    · refine h h'' tk ?_ (fun b hb => (f2 b hb).trans (d2 b hb)) (f3.trans d3)
      have t2 : n + 1 + r.length = n + (r.length + 1) := by omega
      rw [t2, List.append_assoc] at f1
      exact f1
def kwK (ex : List (Str × Value)) : List (Key × Value) := ex.map fun x => (.inr x.1, x.2)
theorem kw_pairs : ∀ (ex : List (Str × Value)) (t : Tok), Pairs (mixKind P w) (PySem.W.kwEs w.params t ex) (kwK ex)
  | [], _ => Pairs.nil
  | x :: r, t => Pairs.cons (mixKind_str P w x.1 t) rfl (kw_pairs r (t + 1))
theorem kw_dict {h : Heap} {D : Addr} {ex : List (Str × Value)} {t : Tok} {n : Nat} (hD : h.get? D = some (PySem.W.dictOf (PySem.W.kwEs w.params t ex) n)) (hn : (ex.map (·.1)).Nodup) : h.DictOf (mixKind P w) D (kwK ex) := by
  refine ⟨_, _, _, hD, ⟨rfl, rfl, rfl⟩, rfl, fun e he => ?_, kw_pairs ex t, ?_⟩
  · obtain ⟨k, u, hk, hh⟩ := PySem.W.kwEs_key ex t e (List.mem_toArray.mp he)
    exact ⟨.inr k, by rw [hk]; exact mixKind_str P w k u, hh.trans rfl⟩
  · have e : (kwK ex).map (·.1) = (ex.map (·.1)).map (fun k => (Sum.inr k : Key)) := by simp [kwK]
    rw [e]
    exact List.pairwise_map.mpr (hn.imp fun h q => h (Sum.inr.inj q))
end
def FnW (P : Program) (w : World) (K : PySem.W.Frag) (mg : Str → Option Value) (base : Heap) (CX : CXT) (k : Nat) (f : Addr) (ks : List Str) (sp : Sp) : Prop :=
  ∀ (A : Around) (outer : List Env) (s : Shared) (H : Hp) (us : List Value) (vs : List V) (Q : VK) (E : XK), Room k A → Env0 P w K mg base A outer s H → Vals vs us → vs.length = ks.length → sp vs H Q E →
    codeAny (model P w) A (.call (.ref f) ⟨[], ks.zip us⟩) (CR CX outer P w H s Q E) s
def kwV (ks : List Str) (vs : List V) : List (Key × V) := (ks.zip vs).map fun x => (.inr x.1, x.2)
theorem kwV_rel : ∀ {ks : List Str} {vs : List V} {us : List Value}, Vals vs us → KV (kwV ks vs) (kwK (ks.zip us))
  | [], _, _, _ => by simp [kwV, kwK]; exact .nil
  | _ :: _, _, _, .nil => by simp [kwV, kwK]; exact .nil
  | k :: ks, _, _, .cons a r => .cons ⟨rfl, a⟩ (kwV_rel r)
section
variable {CX : CXT} {P : Program} {w : World} {K : PySem.W.Frag} {mg : Str → Option Value} {base : Heap} {k : Nat} {f : Addr} {name qual : Str} {params : Arguments} {body : List Stmt} {scope : Scope} {dV kV doc pm cdv ct oc : Value} {an od : Option Addr}
  {osl : Array (Option Value)} {N ks : List Str} {sp : Sp}
theorem fn_kw {pd : Str} (lk : K.lookup f = some ⟨oc, od, .func (PySem.W.fnOf name qual params body scope dV kV doc pm an cdv ct), osl⟩) (hcd : PySem.W.codeIn K cdv qual = true) (S : FnScope N [pd] scope) (hCX : CXUp CX) (hks : ks.Nodup) (hz : ks.length ≤ 100)
    (hb : ∀ us : List Value, us.length = ks.length → bindArgs (PySem.W.fnOf name qual params body scope dV kV doc pm an cdv ct) ⟨[], ks.zip us⟩ =
      ((alloc ({ cls := .type "dict", data := .dict #[] } : Obj) : Sem Addr) >>= fun d => (forIn (ks.zip us) PUnit.unit fun x _ => (nsSet d x.1 x.2 >>= fun _ => pure (ForInStep.yield PUnit.unit))) >>= fun _ => pure [(pd, Value.ref d)]))
    (hbody : ∀ (A : Around) (outer : List Env) (s : Shared) (H : Hp) (vs : List V) (Q : VK) (E : XK), Room k (A.deeper (envOfC qual scope s.heap.objs.size f cdv)) → sp vs H Q E →
      ∃ t, PSs (cxOf CX P w K mg base N qual scope f cdv A outer s H E) body t ∧ t { nx := fun _ H' => Q .non H', rt := Q } (start N vs) H) :
    FnW P w K mg base CX (k + 1) f ks (fun vs H Q E => ∀ d o, H d = Option.none → sp [V.ref d] (upd H d (.frz o (.dK (kwV ks vs)))) Q E) := by
  intro A outer s H us vs Q E hr e0 r hl hsp
  have hn : H s.heap.objs.size = Option.none := e0.hok.fresh (Nat.le_refl _)
  have hlu : us.length = ks.length := by rw [← r.length]; exact hl
  refine run_bnd lk hcd S hr e0 (G := fun xs H2 => ∃ d o, H d = Option.none ∧ xs = [V.ref d] ∧ H2 = upd H d (.frz o (.dK (kwV ks vs)))) (fun A' Ex Q' h => ?_) fun s2 H2 xs ⟨d, o, hd, ex, eH⟩ hr' => ?_
  · rw [hb us hlu]
    have nd : ((ks.zip us).map (·.1)).Nodup := by
      rw [List.map_fst_zip (by omega)]
      exact hks
    have hD : (s.heap.push ({ cls := .type "dict", data := .dict #[] } : Obj)).get? s.heap.objs.size = some (PySem.W.dictOf [] 0) := Heap.get?_push_size _ rfl
    refine wpAny_bind (wpAny_alloc (wpAny_bind (ns_fill (ks.zip us) _ [] 0 hD (fun _ he => nomatch he) (fun _ he => nomatch he) nd fun h' tk d1 d2 d3 => wpAny_pure ?_)))
    have d1 : h'.get? s.heap.objs.size = some (PySem.W.dictOf (PySem.W.kwEs w.params s.toks (ks.zip us)) (0 + (ks.zip us).length)) := d1
    have kp : ∀ b x, s.heap.get? b = some x → h'.get? b = some x := fun b x e => by
      rw [d2 b (Nat.ne_of_lt (Heap.lt_size e))]
      exact Heap.get?_push_of_some _ e
    have lz : (kwV ks vs).length ≤ sizeLine := by
      have h1 : (kwV ks vs).length ≤ 100 := by
        unfold kwV
        rw [List.length_map, List.length_zip]
        omega
      rw [sizeLine_eq]
      omega
    have big : sysModules < s.heap.objs.size := env0_big e0
    generalize hob : PySem.W.dictOf (PySem.W.kwEs w.params s.toks (ks.zip us)) (0 + (ks.zip us).length) = ob at d1
    have new : ObjOk P w (upd H s.heap.objs.size (.frz ob (.dK (kwV ks vs)))) h' s.heap.objs.size (.frz ob (.dK (kwV ks vs))) :=
      ⟨d1, lz, beq_eq_false_iff_ne.mpr (Nat.ne_of_gt big), _, kwV_rel r, kw_dict (hob ▸ d1) nd⟩
    have sz : s.heap.objs.size ≤ h'.objs.size := by
      rw [d3]
      show _ ≤ (s.heap.push _).objs.size
      rw [Heap.size_push]
      exact Nat.le_succ _
    have e2 : Env0 P w K mg base A outer { s with heap := h', toks := tk } (upd H s.heap.objs.size (.frz ob (.dK (kwV ks vs)))) := by
      refine ⟨e0.frames, e0.mod, fun b x e => ⟨kp b x (e0.bs b x e).1, ?_⟩, Nat.le_trans e0.bsz sz, Heap.FunFrames.of_keeps (fun b x e _ => ⟨x, kp b x e, rfl⟩) e0.funs, fun b hb => ?_, e0.hok.laid kp (Nat.le_refl _) new, e0.bare⟩
      · rw [upd_ne (Nat.ne_of_lt (Heap.lt_size (e0.bs b x e).1))]
        exact (e0.bs b x e).2
      · obtain ⟨_, x, hx, _⟩ := e0.funs.mem hb
        rw [upd_ne (Nat.ne_of_lt (Heap.lt_size hx))]
        exact e0.frf b hb
    have un : Un (frs outer) [] H (upd H s.heap.objs.size (.frz ob (.dK (kwV ks vs)))) s.heap h' := Un.laid kp (Nat.le_refl _) hn
    exact h _ _ [V.ref s.heap.objs.size] [Value.ref s.heap.objs.size] e2 un rfl (fun e s' => hCX outer s H _ _ E e s' un kp rfl) (.cons rfl .nil) rfl ⟨_, ob, hn, rfl, rfl⟩
  · subst ex eH
    exact hbody A outer s2 _ _ Q E hr' (hsp d o hd)
end
/-- x(k = v, ..) -/
def tCallW (m : Nat) (sp : Sp) (E : XK) (tk : TA) : TE := fun σ H Q => tk σ H fun zs H2 => zs.length = m ∧ sp zs H2 Q E
section
variable {X : Cx} {CX : CXT} {k : Nat} {f : Addr} {ks : List Str} {sp : Sp} {E : XK} {x : Str} {p pos : Pos} {kws : List Keyword} {tk : TA}
theorem run_fnW {pins : List (Addr × Obj)} {σ : L2.St} {H : Hp} {s : Shared} {us : List Value} {vs : List V} {Q : VK} (F : FnW X.prog X.w X.K X.mg X.base CX k f ks sp) (hr : Room k X.A) (hx : Passes CX X E) (I : Inv X pins σ H s) (r : Vals vs us) (hl : vs.length = ks.length)
    (h : sp vs H Q E) : wpAny (model X.prog X.w) X.A (call (.ref f) [] (ks.zip us)) (EP X pins σ Q) X.xe s := by
  refine wpAny_call (codeAny_mono (F _ X.stack _ _ us _ _ E hr I.env0 r hl h) fun r s' hq' => ?_)
  cases r with
  | error e => exact hx pins σ _ _ e s' I hq'
  | ok fl =>
    cases fl with
    | ret u =>
      obtain ⟨v, H', I3, rv, q3⟩ := I.after hq'
      exact ⟨v, H', I3, rv, q3⟩
    | next => exact False.elim hq'
    | brk => exact False.elim hq'
    | cont => exact False.elim hq'
theorem pe_callW (F : FnW X.prog X.w X.K X.mg X.base CX k f ks sp) (hr : Room k X.A) (hk : PySem.W.keepIn X.K (.ref f) = true) (hg : Gl X x) (hm : X.mg x = some (.ref f)) (hx : Passes CX X E) (hkw : PK X kws tk)
    (hall : (backToKw pos (keywordEach kws X.env)).all (·.1.isSome) = true := by rfl) (hks : (backToKw pos (keywordEach kws X.env)).filterMap (·.1) = ks := by rfl) (hdb : (x == ("__debug__" : Str)) = false := by decide)
    (hpl : ((backTo pos (starEach [] X.env)).any (·.1) || (backToKw pos (keywordEach kws X.env)).any (·.1.isNone)) = false := by rfl) :
    PE X (.Call (.Name x p) [] kws pos) (tCallW ks.length sp E tk) := by
  refine ⟨fun pins s σ H Q I h => ?_⟩
  refine wpAny_Call_Name_kw (ld_glob I hg hm ?_ hdb)
  refine PySem.W.callWith_KW0 (h₀ := X.base) I.ok.mod.kin hk hall ?_ hpl
  refine thn (hkw.run pos pins s σ H _ I h) fun ws s2 ⟨zs, H2, I2, rz, l2, q2⟩ => ⟨I2.kIn, ?_⟩
  rw [hks]
  exact run_fnW F hr hx I2 rz l2 q2
end

end VX

namespace VX
open PySem PySem.Spec PyProof.Rows L2 VR
/-! ### a lambda without captured names as a value: made, kept, called -/
open LamX StX
/-- the lambda stands at f, its code object at c' -/
def LamO (q : Str) (params : Arguments) (body : Expr) (scope : Scope) (f c' : Addr) : HO := .ext fun h => ∃ pm ctv, h.get? f = some (PySem.W.kla_obj "<lambda>" q params body scope [] pm c' ctv)
/-- its names are globals -/
structure Lam0 (scope : Scope) : Prop where
  kind : scope.kind = .function
  co : scope.isCoroutine = false
  gen : scope.isGenerator = false
  own : ∀ y ∈ scope.names, y.2 ≠ .local ∧ y.2 ≠ .cell ∧ y.2 ≠ .free
def lam0B (scope : Scope) : Bool := decide (scope.kind = .function) && !scope.isCoroutine && !scope.isGenerator && scope.names.all fun y => !decide (y.2 = .local) && !decide (y.2 = .cell) && !decide (y.2 = .free)
theorem lam0_by {scope : Scope} (h : lam0B scope = true) : Lam0 scope := by
  unfold lam0B at h
  simp only [Bool.and_eq_true, Bool.not_eq_true', decide_eq_true_eq, decide_eq_false_iff_not, List.all_eq_true] at h
  obtain ⟨⟨⟨h1, h2⟩, h3⟩, h4⟩ := h
  exact ⟨h1, h2, h3, fun y hy => ⟨(h4 y hy).1.1, (h4 y hy).1.2, (h4 y hy).2⟩⟩
theorem clo_nil {cells : List (Str × Addr)} : ∀ {ns : List (Str × NameKind)} {acc : List (Str × Addr)}, (∀ y ∈ ns, y.2 ≠ .free) → cloFrom cells ns acc = acc
  | [], _, _ => rfl
  | (n, k) :: r, acc, h => by
    unfold cloFrom
    rw [if_neg (by simpa using h (n, k) List.mem_cons_self)]
    exact clo_nil fun y hy => h y (List.mem_cons_of_mem _ hy)
section
variable {X : Cx} {pins : List (Addr × Obj)} {σ : L2.St} {H : Hp} {s : Shared}
theorem lamO_ok {P : Program} {w : World} {q : Str} {params : Arguments} {body : Expr} {scope : Scope} {f c' : Addr} {H : Hp} {h : Heap} {pm ctv : Value} (e : h.get? f = some (PySem.W.kla_obj "<lambda>" q params body scope [] pm c' ctv)) : ObjOk P w H h f (LamO q params body scope f c') :=
  ⟨⟨pm, ctv, e⟩, ⟨_, e⟩, fun h1 h2 ⟨pm, ctv, e⟩ st => ⟨pm, ctv, st _ e⟩⟩
/-- lambda: body -/
def tLamV (P : Addr) (q : Str) (params : Arguments) (body : Expr) (scope : Scope) : TE := fun σ H Q => TabS H P q ∧ ∀ (f c' : Addr) (H1 : Hp), ExtN H H1 → TabS H1 P q → H1 f = none → H1 c' = some (CodeO c' q) → Q (.ref f) (upd H1 f (LamO q params body scope f c'))
theorem pe_lamV {c P : Addr} {params : Arguments} {body : Expr} {scope : Scope} {pos : Pos} (TB : TabB X.base X.mg c P) (hcode : X.env.code = .ref c) (L : Lam0 scope) (hdef : defaultsOf params X.env = ([], [])) :
    PE X (.Lambda params body scope pos) (tLamV P (X.env.qual ++ "<lambda>") params body scope) := by
  refine ⟨fun pins s σ H Q I ⟨hT, h⟩ => ?_⟩
  obtain ⟨ps, hP, ht, ha⟩ := hT
  have hcl : closureFor scope X.env = pure [] := by
    rw [closure_ok (fun y hy e => absurd e (L.own y hy).2.2), clo_nil fun y hy => (L.own y hy).2.2]
  refine PySem.W.kla_eval hdef ?_
  have bP : s.heap.BuiltinsAt X.mg P := TB.bm.keeps I.bk
  have hP' : s.heap.get? P = some { cls := .none, data := .fields ps } := I.hok P _ hP
  cases hc : codeAmong pos ps.toList with
  | none =>
    refine PySem.W.kla_makeFunction (mg := X.mg) (c := c) (P := P) (ps := ps) hcl I.ok.glob (I.mod.glob.keeps I.bk) hcode (TB.code.keeps I.bk) hP' ht hc TB.gP bP fun c' ctv h' tk hx hge hlt hrec htb => ?_
    obtain ⟨c2, oc, vs, t, e2, hoc, hd, hv⟩ := hrec
    cases e2
    have hsz : s.heap.objs.size ≤ h'.objs.size := Nat.le_trans hge (Nat.le_of_lt hlt)
    have nC : H c' = none := I.hok.fresh hge
    have I1 := inv_table (t' := tk) (q := X.env.qual ++ "<lambda>") (more := #[rawInt pos.line, rawInt pos.col, .ref c']) (h' := h') I hP (fun b o hb e => hx b o hb e) htb hge ⟨oc, vs, t, hoc, hd, hv⟩
    have hE : ExtN H (upd (upd H P (.tbl (ps ++ #[rawInt pos.line, rawInt pos.col, .ref c']))) c' (CodeO c' (X.env.qual ++ "<lambda>"))) := fun b o e n => by
      rw [upd_ne (ne_of_none e nC), upd_ne (fun z => n ps (Option.some.inj (e.symm.trans (by rw [z]; exact hP))))]
      exact e
    have eL : (ps ++ #[rawInt pos.line, rawInt pos.col, .ref c']).toList = ps.toList ++ [rawInt pos.line, rawInt pos.col, .ref c'] := by simp
    have nf : (upd (upd H P (.tbl (ps ++ #[rawInt pos.line, rawInt pos.col, .ref c']))) c' (CodeO c' (X.env.qual ++ "<lambda>"))) h'.objs.size = none := by
      have n1 : h'.objs.size ≠ c' := Nat.ne_of_gt hlt
      have n2 : h'.objs.size ≠ P := Nat.ne_of_gt (Nat.lt_of_lt_of_le (Heap.lt_size hP') hsz)
      rw [upd_ne n1, upd_ne n2]
      exact I.hok.fresh hsz
    have I2 := I1.laid (a := h'.objs.size) (o := LamO (X.env.qual ++ "<lambda>") params body scope h'.objs.size c') (h' := h'.push (PySem.W.kla_obj "<lambda>" (X.env.qual ++ "<lambda>") params body scope [] ((X.mg "__name__").getD .none) c' ctv)) (t' := tk) (fun b o e => Heap.get?_push_of_some _ e) (Nat.le_refl _) (lamO_ok (Heap.get?_push_size _ rfl))
    refine ⟨.ref h'.objs.size, _, I2, rfl, h h'.objs.size c' _ hE ⟨_, by rw [upd_ne (ne_of_none hP nC), upd_same], by rw [eL]; exact PySem.TriplesOk_snoc _ _ _ _ ht, fun p' cv hcv => ?_⟩ nf upd_same⟩
    rw [eL] at hcv
    rcases among_app _ ht hcv with z | z
    · obtain ⟨c0, e1, e2⟩ := ha p' cv z
      exact ⟨c0, e1, hE _ _ e2 codeO_ne⟩
    · exact ⟨c', z, upd_same⟩
  | some cv =>
    obtain ⟨c', e, hco⟩ := ha pos cv hc
    subst e
    refine PySem.W.kla_makeFunctionHit (mg := X.mg) (c := c) (P := P) (ps := ps) hcl I.ok.glob (I.mod.glob.keeps I.bk) hcode (TB.code.keeps I.bk) hP' ht hc bP fun ctv h' tk hx hsz => ?_
    have I2 := I.laid (a := h'.objs.size) (o := LamO (X.env.qual ++ "<lambda>") params body scope h'.objs.size c') (h' := h'.push (PySem.W.kla_obj "<lambda>" (X.env.qual ++ "<lambda>") params body scope [] ((X.mg "__name__").getD .none) c' ctv)) (t' := tk) (fun b o e => Heap.get?_push_of_some _ (hx b o e)) hsz (lamO_ok (Heap.get?_push_size _ rfl))
    exact ⟨.ref h'.objs.size, _, I2, rfl, h h'.objs.size c' H (ExtN.refl H) ⟨ps, hP, ht, ha⟩ (I.hok.fresh hsz) hco⟩
/-- the context of the lambda's body -/
def lamCxP (P : Program) (w : World) (K : PySem.W.Frag) (mg : Str → Option Value) (base : Heap) (A : Around) (outer : List Env) (s : Shared) (H : Hp) (E : XK) (q : Str) (scope : Scope) (f c' : Addr) : Cx where
  prog := P
  w := w
  K := K
  mg := mg
  base := base
  A := A.deeper (PySem.W.envX q scope s.heap.objs.size f (.ref c') [])
  N := []
  s_0 := s
  H_0 := H
  env := PySem.W.envX q scope s.heap.objs.size f (.ref c') []
  outer := outer
  stack := PySem.W.envX q scope s.heap.objs.size f (.ref c') [] :: outer
  ex := []
  fn := fun _ => false
  calm := true
  pn := []
  xe := fun e s' => wpAny (model P w) (A.deeper (PySem.W.envX q scope s.heap.objs.size f (.ref c') [])) (leaving (PySem.W.envX q scope s.heap.objs.size f (.ref c') []) e) (fun _ s'' => L2.CX P w outer H s E e s'') (fun e' s'' => L2.CX P w outer H s E e' s'') s'
abbrev lamCx0 (X : Cx) (A : Around) (outer : List Env) (s : Shared) (H : Hp) (E : XK) (q : Str) (scope : Scope) (f c' : Addr) : Cx := lamCxP X.prog X.w X.K X.mg X.base A outer s H E q scope f c'
theorem lam_start0 {A : Around} {outer : List Env} {s1 : Shared} {HZ : Hp} {E : XK} {q : Str} {scope : Scope} {f c' : Addr} {h₁ : Heap} {tk : Nat} (L : Lam0 scope) (e0 : Env0 X.prog X.w X.K X.mg X.base A outer s1 HZ) (hd : A.handled = none)
    (hns : h₁.Ns s1.heap.objs.size fun y => ([] : List (Str × Value)).reverse.lookup y) (kp : ∀ b o, s1.heap.get? b = some o → h₁.get? b = some o) :
    Inv (lamCx0 X A outer s1 HZ E q scope f c') [] [] HZ { s1 with heap := h₁, toks := tk } := by
  have noA : ∀ b : Addr, b ∉ (lamCx0 X A outer s1 HZ E q scope f c').ex := fun b z => absurd (show b ∈ ([] : List Addr) from z) (by simp)
  refine ⟨⟨e0.mod, L.kind, rfl, rfl, Nat.le_refl _, fun y z c e1 e2 => ?_, fun y hy => ?_, fun y c z _ => ?_, fun _ => hd, Around.frames_deeper e0.frames, .inr ⟨rfl, rfl⟩, fun b z => absurd z (noA b), e0.bs, e0.bsz, fun b _ _ => noA b,
      fun b z => absurd z (noA b), e0.funs, e0.frf⟩,
    rfl, e0.bare, Un.kept kp, ⟨_, hns, fun i y v e1 e2 e3 => ?_⟩, fun y c e => ?_, e0.hok.fresh (Nat.le_refl _), fun y c e => ?_, fun q hq => absurd (show q ∈ ([] : List (Addr × Obj)) ++ [] from hq) (by simp), e0.hok.kept kp, rfl⟩
  · have e1 : ([] : List (Str × Addr)).lookup y = some c := e1
    cases e1
  · have hy : scope.names.lookup y = some .cell ∨ scope.names.lookup y = some .free := hy
    rcases hy with hy | hy
    · exact absurd rfl (L.own _ (PySem.mem_of_lookup hy)).2.1
    · exact absurd rfl (L.own _ (PySem.mem_of_lookup hy)).2.2
  · have z : false = true := z
    cases z
  · have e1 : ([] : List Str)[i]? = some y := e1
    simp at e1
  · have e : ([] : List (Str × Addr)).lookup y = some c := e
    cases e
  · have e : ([] : List (Str × Addr)).lookup y = some c := e
    cases e
/-- x(), the name at slot i holds the lambda -/
theorem pe_act0 {CXg : CXT} {Eg : XK} {Ng : List Str} {qg q : Str} {sg : Scope} {g f c' : Addr} {cdg : Value} {params : Arguments} {body : Expr} {scope : Scope} {k i : Nat} {a : Str} {pn : List (Addr × Obj)} {xe : Value → Shared → Prop} {W : WX} {E : XK} {tb : TE} {p1 p2 : Pos} {stk : List Env} {A0 : Around}
    (L : Lam0 scope) (hbind : ∀ pm ctv, bindArgs (PySem.W.kla_fn "<lambda>" q params body scope [] pm (.ref c') ctv) ⟨[], []⟩ = pure [])
    (tk : Takes ((cxOf CXg X.prog X.w X.K X.mg X.base Ng qg sg g cdg A0 stk s H Eg).tr pn xe) W) (hW : ∀ cls d σ' H', E cls d H' → W cls d σ' H') (hr : Room (k + 1) (A0.deeper (PyProof.Rows.envOfC qg sg s.heap.objs.size g cdg)))
    (hbody : ∀ (A : Around) (outer : List Env) (s : Shared) (H : Hp), Room k (A.deeper (PySem.W.envX q scope s.heap.objs.size f (.ref c') [])) → PE (lamCx0 X A outer s H E q scope f c') body tb)
    (hN : Ng[i]? = some a) (hv : Vis sg a) (hd : (a == ("__debug__" : Str)) = false := by decide) (hcd : (a == ("__classdict__" : Str)) = false := by decide) :
    PE ((cxOf CXg X.prog X.w X.K X.mg X.base Ng qg sg g cdg A0 stk s H Eg).tr pn xe) (.Call (.Name a p1) [] [] p2)
      (fun σZ HZ Q => σZ[i]? = some (some (.ref f)) ∧ HZ f = some (LamO q params body scope f c') ∧ HZ c' = some (CodeO c' q) ∧ tb [] HZ Q) := by
  refine ⟨fun pinsZ sZ σZ HZ Q IZ h => ?_⟩
  obtain ⟨hs, hf, hc, ht⟩ := h
  refine wpAny_Call_Name_kw (thn ((pe_var (pos := p1) (i := i) hN hv hd hcd).run pinsZ sZ σZ HZ (fun v H1 => v = .ref f ∧ H1 = HZ) IZ ⟨.ref f, hs, rfl, rfl⟩) fun u s1 ⟨v, H1, I1, r1, q1⟩ => ?_)
  obtain ⟨ev, eH⟩ := q1
  subst ev
  rw [eH] at I1
  obtain rfl : u = Value.ref f := r1
  obtain ⟨⟨pm, ctv, of1⟩, _, _⟩ := I1.hok f _ hf
  refine PySem.W.callWith_F0 ⟨_, _, _, _, of1⟩ ?_
  obtain ⟨⟨oc, vs, t, hoc, hdc, hvc⟩, _, _⟩ := I1.hok c' _ hc
  have rc : codeAny (model X.prog X.w) (A0.deeper (PyProof.Rows.envOfC qg sg s.heap.objs.size g cdg)) (.call (.ref f) ⟨[], []⟩) (CR (L2.CX X.prog X.w) (PyProof.Rows.envOfC qg sg s.heap.objs.size g cdg :: stk) X.prog X.w HZ s1 Q E) s1 := by
    refine PySem.W.kla_callFunE hr.depth of1 rfl L.co L.gen rfl ⟨c', oc, vs, t, rfl, hoc, hdc, hvc⟩ ?_
    rw [hbind]
    refine wpAny_pure (wpAny_newFunctionEnv (fun y hy => (L.own y hy).2.1) (fun y hy => absurd hy (by simp)) (fun h₁ hns hsb => ⟨I1.nolimit.fresh _ hsb, ?_⟩) L.kind)
    show codeAny _ _ (.expr body (PySem.W.envX q scope s1.heap.objs.size f (.ref c') [])) _ _
    have kp : ∀ b o, s1.heap.get? b = some o → h₁.get? b = some o := fun b o e => hsb.extBut b o (Nat.ne_of_lt (Heap.lt_size e)) (Heap.get?_push_of_some _ e)
    have J : Inv (lamCx0 X (A0.deeper (PyProof.Rows.envOfC qg sg s.heap.objs.size g cdg)) (PyProof.Rows.envOfC qg sg s.heap.objs.size g cdg :: stk) s1 HZ E q scope f c') [] [] HZ { s1 with heap := h₁, toks := s1.toks + ([] : List (Str × Value)).length } :=
      lam_start0 L I1.env0 hr.hd hns kp
    refine PySem.W.kla_codeExpr (wpAny_mono ((hbody _ _ s1 HZ (hr.deeper _)).run [] _ _ HZ Q J ht) (fun v s' hq => ?_) fun e s' hq => hq)
    obtain ⟨w', H', J', rv, q⟩ := hq
    exact ⟨w', H', J'.os, J'.bare, J'.base, J'.hok, rv, q⟩
  have hx : Passes (L2.CX X.prog X.w) ((cxOf CXg X.prog X.w X.K X.mg X.base Ng qg sg g cdg A0 stk s H Eg).tr pn xe) E := passes_call tk hW
  refine wpAny_call (codeAny_mono rc fun r s' hq => ?_)
  cases r with
  | error e => exact hx pinsZ σZ HZ s1 e s' I1 hq
  | ok fl =>
    cases fl with
    | ret u => exact I1.after hq
    | next => exact False.elim hq
    | brk => exact False.elim hq
    | cont => exact False.elim hq
end

end VX

namespace VX
open PySem PySem.Spec PyProof.Rows L2 VR
/-! ### == of tuples whose items have an own __eq__, with its answer -/
section
open PySem.SeqAt
open AutoSeq1 (wpAny_loadPart')
open MeetsSeq MeetsSeq2 MeetsSeq3 SeqRoads2
variable {prog : Program} {w : World} {A : Around} {R : Result → Shared → Prop}
theorem tuple_eqB (l b : Addr) (items items2 : Array Value) (n n2 : Nat) (dd dd2 : Option Addr) (sl sl2 : Array (Option Value)) (e : Nat → Bool) (I : Shared → Prop)
    (turn : ∀ i (h1 : i < items.size) (h2 : i < items2.size) s, (∀ j, j < i → e j = true) → I s → wpAny (model prog w) A.in1 (eqBool items[i] items2[i]) (fun r s' => r = e i ∧ I s') (fun er s' => R (.error er) s') s)
    (fin : ∀ s, I s → R (.ok (.ret (.bool ((List.range (min items.size items2.size)).all e && items.size == items2.size)))) s) {s : Shared} (hl1 : s.heap.get? l = some { cls := .type "tuple", dict := dd, data := .seq items n, slots := sl }) (hb1 : s.heap.get? b = some { cls := .type "tuple", dict := dd2, data := .seq items2 n2, slots := sl2 }) (h : I s) :
    wpAny (model prog w) A.in1 (Builtin.«tuple.__eq__» ⟨[.ref l, .ref b], []⟩) (GQ.FinOf prog w A R) (fun e s' => R (.error e) s') s := by
  have f2 := AutoSeq1.sub_tuple_tuple
  have hZ : (items.toList.zip items2.toList).length = min items.size items2.size := by simp
  have h0 := h
  obtain ⟨hp, g, d, tk, os⟩ := s
  wp_walk using wpAny_loadPart' hl1, wpAny_loadPart' hb1, wpAny_forIn_list _ (fun rest b s' => b.1 = none ∧ ∃ i, rest = (items.toList.zip items2.toList).drop i ∧ i ≤ min items.size items2.size ∧ (∀ j, j < i → e j = true) ∧ I s') _
  case turn =>
    rintro ⟨y, x⟩ rest b s' ⟨hb', i, hz, hi, he, hI⟩
    have hlt : i < (items.toList.zip items2.toList).length := by
      rcases Nat.lt_or_ge i (items.toList.zip items2.toList).length with h' | h'
      · exact h'
      · rw [List.drop_of_length_le h'] at hz; cases hz
    have hm : i < min items.size items2.size := hZ ▸ hlt
    have h1 : i < items.size := Nat.lt_of_lt_of_le hm (Nat.min_le_left _ _)
    have h2 : i < items2.size := Nat.lt_of_lt_of_le hm (Nat.min_le_right _ _)
    rw [List.drop_eq_getElem_cons hlt] at hz
    injection hz with hyx hrest
    have hy : y = items[i] := by have := congrArg Prod.fst hyx; simpa using this
    have hx : x = items2[i] := by have := congrArg Prod.snd hyx; simpa using this
    subst hy hx
    refine wpAny_bind (wpAny_mono (turn i h1 h2 s' he hI) (fun r s2 q2 => ?_) fun _ _ x => x)
    obtain ⟨hr, q2⟩ := q2
    subst hr
    cases hy : e i with
    | true =>
      wp_walk
      refine ⟨rfl, i + 1, hrest, hm, fun j hj => ?_, q2⟩
      rcases Nat.lt_succ_iff_lt_or_eq.mp hj with hj | hj
      · exact he j hj
      · rw [hj]; exact hy
    | false =>
      have hf := fin s2 q2
      have ha : (List.range (min items.size items2.size)).all e = false := by
        rw [Bool.eq_false_iff]
        intro ha
        have := List.all_eq_true.mp ha i (List.mem_range.mpr hm)
        rw [hy] at this
        cases this
      rw [ha, Bool.false_and] at hf
      wp_walk
      exact hf
  case fin =>
    rintro ⟨b1, b2⟩ s' ⟨hb', i, hz, hi, he, hI⟩
    simp only at hb'
    subst hb'
    have hge : min items.size items2.size ≤ i := by
      rcases Nat.lt_or_ge i (items.toList.zip items2.toList).length with h' | h'
      · rw [List.drop_eq_getElem_cons h'] at hz; cases hz
      · exact hZ ▸ h'
    have hR := fin s' hI
    have ha : (List.range (min items.size items2.size)).all e = true := List.all_eq_true.mpr fun j hj => he j (Nat.lt_of_lt_of_le (List.mem_range.mp hj) hge)
    rw [ha, Bool.true_and] at hR
    wp_walk
    simpa [Builtin.Tuple.tupleCompareSizes] using hR
  case h =>
    exact ⟨rfl, 0, rfl, Nat.zero_le _, (fun j hj => absurd hj (Nat.not_lt_zero _)), h0⟩
variable {E : Value → Shared → Prop}
theorem rc_tupB {l b : Addr} {items items2 : Array Value} {Q : Value → Shared → Prop} (hu : A.units < cLine) (e : Nat → Bool) (I : Shared → Prop)
    {s : Shared} (hl : s.heap.IsTuple l items) (hb : s.heap.IsTuple b items2)
    (turn : ∀ i (h1 : i < items.size) (h2 : i < items2.size) s, (∀ j, j < i → e j = true) → I s → wpAny (model prog w) A.in1 (eqBool items[i] items2[i]) (fun r s' => r = e i ∧ I s') E s)
    (fin : ∀ s, I s → Q (.bool ((List.range (min items.size items2.size)).all e && items.size == items2.size)) s) (h : I s) : wpAny (model prog w) A (richCompare .Eq (.ref l) (.ref b)) Q E s := by
  obtain ⟨⟨cls, dd, data, sl⟩, ho, hc, n, hd⟩ := id hl
  obtain ⟨⟨cls2, dd2, data2, sl2⟩, ho2, hc2, n2, hd2⟩ := id hb
  simp only at hc hd hc2 hd2
  subst hc hd hc2 hd2
  refine wpAny_richCompare_same_room (op := .Eq) ⟨_, ho, rfl⟩ ⟨_, ho2, rfl⟩ F.slot_tuple_eq (GQ.call_here F.slot_tuple_eq ⟨_, ho, rfl⟩ F.entry_tuple_eq (F.args_tuple_eq_2 _ _) ?_) hu
  exact tuple_eqB (R := wants (fun v s' => v ≠ .notImplemented ∧ Q v s') E) l b items items2 n n2 dd dd2 sl sl2 e I turn (fun s' q => ⟨(fun x => nomatch x), fin s' q⟩) ho ho2 h
end
abbrev EqvB := V → V → Bool → Hp → Prop
def EqB (X : Cx) (n : Nat) (D : EqvB) : Prop :=
  ∀ (A : Around) (pins : List (Addr × Obj)) (s : Shared) (σ : L2.St) (H : Hp) (x y : V) (c : Bool) (u v : Value), Sub X n A → Inv X pins σ H s → RelV x u → RelV y v → D x y c H →
    wpAny (model X.prog X.w) A (eqBool u v) (fun r s' => r = c ∧ Inv X pins σ H s') X.xe s
def RcB (X : Cx) (n : Nat) (D : EqvB) : Prop :=
  ∀ (A : Around) (pins : List (Addr × Obj)) (s : Shared) (σ : L2.St) (H : Hp) (x y : V) (c : Bool) (u v : Value), Sub X n A → Inv X pins σ H s → RelV x u → RelV y v → D x y c H →
    wpAny (model X.prog X.w) A (richCompare .Eq u v) (fun r s' => r = .bool c ∧ Inv X pins σ H s') X.xe s
section
variable {X : Cx} {n m : Nat} {D D' : EqvB}
theorem EqB.mono (h : EqB X n D) (hn : n ≤ m) : EqB X m D := fun A pins s σ H x y c u v sb => h A pins s σ H x y c u v (sb.mono hn)
theorem EqB.or (h : EqB X n D) (h' : EqB X n D') : EqB X n (fun x y c H => D x y c H ∨ D' x y c H) := fun A pins s σ H x y c u v sb I rx ry d => by
  rcases d with d | d
  · exact h A pins s σ H x y c u v sb I rx ry d
  · exact h' A pins s σ H x y c u v sb I rx ry d
def DFlatB : EqvB := fun x y c _ => flatV x = true ∧ flatV y = true ∧ eqV x y = c
theorem eqB_flat : EqB X 0 DFlatB := by
  intro A pins s σ H x y c u v sb I rx ry d
  obtain ⟨fx, fy, e⟩ := d
  have q := eqAt_V (A := A) (s := s) rx ry fx fy
  rw [e] at q
  exact q X.prog X.w X.xe _ ⟨rfl, I⟩
def DTupB (K : PySem.W.Frag) (D : EqvB) : EqvB := fun x y c H => ∃ a b xs ys, ∃ e : Nat → Bool, x = .ref a ∧ y = .ref b ∧ SqT K H a xs ∧ SqT K H b ys ∧ (∀ i x y, xs[i]? = some x → ys[i]? = some y → (∀ j, j < i → e j = true) → D x y (e i) H) ∧ c = ((List.range (min xs.length ys.length)).all e && xs.length == ys.length)
theorem rcB_tup (h : EqB X n D) : RcB X (n + 1) (DTupB X.K D) := by
  intro A pins s σ H x y c u v sb I rx ry d
  obtain ⟨a, b, xs, ys, e, rfl, rfl, ha, hb, p, rfl⟩ := d
  cases rx
  cases ry
  obtain ⟨its, r, e1, z⟩ := I.tuple ha
  obtain ⟨its2, r2, e2, z2⟩ := I.tuple hb
  refine rc_tupB sb.room.units0 e (fun s' => Inv X pins σ H s') e1 e2 (fun i h1 h2 s' he I' => ?_) (fun s' q => ⟨?_, q⟩) I
  · have g1 : its[i]? = some its.toArray[i] := by
      have h1' : i < its.length := by simpa using h1
      rw [List.getElem?_eq_getElem h1'] <;> simp
    have g2 : its2[i]? = some its2.toArray[i] := by
      have h2' : i < its2.length := by simpa using h2
      rw [List.getElem?_eq_getElem h2'] <;> simp
    have k1 : i < xs.length := by rw [r.length]; simpa using h1
    have k2 : i < ys.length := by rw [r2.length]; simpa using h2
    obtain ⟨u, hu, ru⟩ := r.get (List.getElem?_eq_getElem k1)
    obtain ⟨v, hv, rv⟩ := r2.get (List.getElem?_eq_getElem k2)
    rw [g1] at hu
    rw [g2] at hv
    rw [Option.some.inj hu, Option.some.inj hv]
    exact h A.in1 pins s' σ H _ _ _ u v sb.in1 I' ru rv (p i _ _ (List.getElem?_eq_getElem k1) (List.getElem?_eq_getElem k2) he)
  · rw [List.size_toArray, List.size_toArray, ← r.length, ← r2.length]
/-- what the own == promises -/
def spEqB (R : Addr → Addr → Bool → Hp → Prop) : Sp := fun vs H Q _ => ∃ a b c, vs = [.ref a, .ref b] ∧ R a b c H ∧ Q (.bl c) H
def DInsB (C : Addr) (R : Addr → Addr → Bool → Hp → Prop) : EqvB := fun x y c H => ∃ a b dx dy fs gs, x = .ref a ∧ y = .ref b ∧ H a = some (.ins C dx fs) ∧ H b = some (.ins C dy gs) ∧ R a b c H
theorem rcB_ins {CX : CXT} {C f : Addr} {fd : FuncData} {ps : List Str} {sp : Sp} {R : Addr → Addr → Bool → Hp → Prop} {E : XK} (F : FnOk X.prog X.w X.K X.mg X.base CX n f fd ps sp) (imp : ∀ vs H Q E, spEqB R vs H Q E → sp vs H Q E)
    (hs : PySem.W.findIn X.K (.ref C) "__eq__" = some (some (.ref f))) (hf : PySem.W.isFn X.K (.ref f) = true) (hb : Binds X.K fd ps []) (hx : Passes CX X E) : RcB X n (DInsB C R) := by
  intro A pins s σ H x y c u v sb I rx ry d
  obtain ⟨a, b, dx, dy, fs, gs, rfl, rfl, ha, hb', hr⟩ := d
  cases rx
  cases ry
  obtain ⟨mA, J, _⟩ := ins_get I.hok ha
  obtain ⟨mB, J', _⟩ := ins_get I.hok hb'
  obtain ⟨od, J, _⟩ := J.look
  obtain ⟨od', J', _⟩ := J'.look
  obtain ⟨m, hF⟩ := I.fr
  refine PySem.W.cmp_K (op := .Eq) (tb := .ref C) sb.room.units0 hF I.ok.mod.kin J J'.type (by simp [PySem.W.notFirst]) hs hf ?_
  have hsp : sp [.ref a, .ref b] H (fun v H' => v = .bl c ∧ H' = H) E := imp _ _ _ _ ⟨a, b, c, rfl, hr, rfl, rfl⟩
  have e0 : Env0 X.prog X.w X.K X.mg X.base A X.stack s H := by
    have e := I.env0
    exact ⟨by rw [sb.fr]; exact e.frames, e.mod, e.bs, e.bsz, e.funs, e.frf, e.hok, e.bare⟩
  have hl := F.len _ _ _ _ hsp
  have r2 : Vals [V.ref a, V.ref b] [Value.ref a, Value.ref b] := .cons rfl (.cons rfl .nil)
  refine wpAny_call (codeAny_mono (F.run A X.stack s H ⟨[.ref a, .ref b], []⟩ [.ref a, .ref b] [.ref a, .ref b] _ E sb.room e0 (by
    have := hb s [.ref a, .ref b] I.kIn (by simpa using hl)
    simpa using this) r2 hsp) fun r s' hq => ?_)
  cases r with
  | error e => exact hx pins σ H s e s' I hq
  | ok fl =>
    cases fl with
    | ret w =>
      obtain ⟨z, H', I', rz, ez, eH⟩ := I.after hq
      subst ez eH
      cases rz
      exact ⟨rfl, I'⟩
    | next => exact False.elim hq
    | brk => exact False.elim hq
    | cont => exact False.elim hq
theorem RcB.eqB (h : RcB X n D) (hr : ∀ x y c H, D x y c H → ∃ a b, x = .ref a ∧ y = .ref b ∧ (a = b → ∀ pins σ s, Inv X pins σ H s → c = true)) : EqB X n D := by
  intro A pins s σ H x y c u v sb I rx ry d
  obtain ⟨a, b, rfl, rfl, hid⟩ := hr _ _ _ _ d
  cases rx
  cases ry
  by_cases hab : a = b
  · have := hid hab pins σ s I
    subst hab this
    exact SeqAt.EqAt.same (A := A) (s := s) (.ref a) X.prog X.w X.xe _ ⟨rfl, I⟩
  · refine GQ.eqBool_refG hab (wpAny_mono (h A pins s σ H (.ref a) (.ref b) _ _ _ sb I rfl rfl d) (fun r s' q => ?_) fun _ _ x => x)
    obtain ⟨hr', q⟩ := q
    exact ⟨c, hr', rfl, q⟩
def rEqB (D : EqvB) : R2 := fun x y H Q => ∃ c, D x y c H ∧ Q (.bl c) H
theorem op_eqB (h : RcB X n D) (hr : Room n X.A) : OpR X (compareOp .Eq) (rEqB D) := by
  intro pins s σ H x y v u Q I rx ry hq
  obtain ⟨c, d, q⟩ := hq
  show wpAny (model X.prog X.w) X.A (richCompare .Eq v u) (EP X pins σ Q) X.xe s
  refine wpAny_mono (h X.A pins s σ H x y c v u ⟨hr, rfl⟩ I rx ry d) (fun r s' z => ?_) fun _ _ x => x
  obtain ⟨hr', I'⟩ := z
  subst hr'
  exact ⟨.bl c, H, I', rfl, q⟩
end

end VX

namespace DE
open PySem PySem.Spec PyProof.Rows L2 SZ VR VX StX RT
def tyD : PyData → String
  | .none => "NoneType"
  | .bool _ => "bool"
  | .int _ => "int"
  | .str _ => "str"
  | .list _ => "list"
  | .tuple _ => "tuple"
  | .dict _ => "dict"
theorem TyX.lstT {K : PySem.W.Frag} {H : Hp} {a : Addr} {xs : List V} (h : SqL K H a xs) : TyX K H (.ref a) (.type "list") := by
  rcases h with (h | ⟨o, h⟩) | h
  · exact .base (.lst h)
  · exact .base (.frz h)
  · obtain ⟨o, its, n, h1, h2, _⟩ := h
    exact .kList h1 h2
theorem dp_ty {K : PySem.W.Frag} {H : Hp} {v : V} {d : PyData} (h : Dp K H v d) : TyX K H v (.type (tyD d)) := by
  cases h with
  | non => exact .base .non
  | bl b => exact .base (.bl b)
  | int i => exact .base (.int i)
  | str x => exact .base (.str x)
  | lst h1 h2 => exact TyX.lstT h1
  | tup h1 h2 => exact TyX.tupT h1
mutual
theorem Dp.keep {K : PySem.W.Frag} {H H' : Hp} (s : Same H H') : ∀ {v : V} {d : PyData}, Dp K H v d → Dp K H' v d
  | _, _, .non => .non
  | _, _, .bl b => .bl b
  | _, _, .int i => .int i
  | _, _, .str x => .str x
  | _, _, .lst h1 h2 => .lst (s.seq h1) (DpAll.keep s h2)
  | _, _, .tup h1 h2 => .tup (s.tup h1) (DpAll.keep s h2)
theorem DpAll.keep {K : PySem.W.Frag} {H H' : Hp} (s : Same H H') : ∀ {vs : List V} {ds : List PyData}, DpAll K H vs ds → DpAll K H' vs ds
  | _, _, .nil => .nil
  | _, _, .cons h1 h2 => .cons (Dp.keep s h1) (DpAll.keep s h2)
end
theorem DpAll.len {K : PySem.W.Frag} {H : Hp} : ∀ {vs : List V} {ds : List PyData}, DpAll K H vs ds → vs.length = ds.length
  | _, _, .nil => rfl
  | _, _, .cons _ h2 => by rw [List.length_cons, List.length_cons, DpAll.len h2]
theorem DpAll.at {K : PySem.W.Frag} {H : Hp} : ∀ {vs : List V} {ds : List PyData} {i : Nat} {v : V}, DpAll K H vs ds → vs[i]? = some v → ∃ d, ds[i]? = some d ∧ Dp K H v d
  | _, _, _, _, .nil, h => by simp at h
  | _, _, 0, _, .cons h1 _, h => by
    simp at h
    subst h
    exact ⟨_, rfl, h1⟩
  | _, _, i + 1, _, .cons _ h2, h => by
    obtain ⟨d, e, g⟩ := DpAll.at h2 (by simpa using h)
    exact ⟨d, by simpa using e, g⟩
def isI : PyData → Bool
  | .int _ => true
  | _ => false
theorem strIn (z : Str) : ∀ l : List Str, inV (.str z) (l.map V.str) = l.contains z
  | [] => rfl
  | x :: l => by
    have ih := strIn z l
    unfold inV at ih ⊢
    rw [List.map_cons, List.any_cons, ih, List.contains_cons]
    congr 1
    simp only [eqV]
    first | rfl | exact Bool.beq_comm .. | (rw [Bool.eq_iff_iff]; simp [eq_comm])
theorem strFlat (l : List Str) : (l.map V.str).all flatV = true := by
  rw [List.all_map]
  exact List.all_eq_true.mpr fun _ _ => rfl
def isS : PyData → Bool
  | .str _ => true
  | _ => false
theorem kitS {K : PySem.W.Frag} : ∀ {d : PyData}, PySem.W.kitOne K (.type (tyD d)) (.type "str") = some (isS d)
  | .none => kit_ty (a := "NoneType") (r := false) (by decide +kernel)
  | .bool _ => kit_ty (a := "bool") (r := false) (by decide +kernel)
  | .int _ => kit_ty (a := "int") (r := false) (by decide +kernel)
  | .str _ => kit_ty (a := "str") (r := true) (by decide +kernel)
  | .list _ => kit_ty (a := "list") (r := false) (by decide +kernel)
  | .tuple _ => kit_ty (a := "tuple") (r := false) (by decide +kernel)
  | .dict _ => kit_ty (a := "dict") (r := false) (by decide +kernel)
def isT : PyData → Bool
  | .tuple _ => true
  | _ => false
theorem kitT {K : PySem.W.Frag} : ∀ {d : PyData}, PySem.W.kitOne K (.type (tyD d)) (.type "tuple") = some (isT d)
  | .none => kit_ty (a := "NoneType") (r := false) (by decide +kernel)
  | .bool _ => kit_ty (a := "bool") (r := false) (by decide +kernel)
  | .int _ => kit_ty (a := "int") (r := false) (by decide +kernel)
  | .str _ => kit_ty (a := "str") (r := false) (by decide +kernel)
  | .list _ => kit_ty (a := "list") (r := false) (by decide +kernel)
  | .tuple _ => kit_ty (a := "tuple") (r := true) (by decide +kernel)
  | .dict _ => kit_ty (a := "dict") (r := false) (by decide +kernel)
theorem small_line {n : Nat} (h : n ≤ 100) : n ≤ sizeLine := by rw [sizeLine_eq]; omega
theorem DpAll.app {K : PySem.W.Frag} {H : Hp} : ∀ {xs ys : List V} {ds es : List PyData}, DpAll K H xs ds → DpAll K H ys es → DpAll K H (xs ++ ys) (ds ++ es)
  | _, _, _, _, .nil, h => h
  | _, _, _, _, .cons h1 h2, h => .cons h1 (DpAll.app h2 h)

theorem atN {α : Type} {xs : List α} {j : Nat} {x : α} (h : xs[j]? = some x) : atI xs (j : Int) = some x := by
  have hl : j < xs.length := (List.getElem?_eq_some_iff.mp h).1
  unfold atI
  rw [ixN_nat hl]
  exact h

/-! ### what is held: data that stays, lists held alone -/
inductive Sl where
  | un
  | d (x : PyData)
  | own (xs : List PyData)
  | bor (xs : List PyData)
  | fact (φ : V → Hp → Prop) (st : ∀ v G G', Same G G' → φ v G → φ v G')
  | dct (o : Bool) (kvs : List (Str × PyData))
structure Bs where
  G : Hp
  H : Hp
  B : List Addr
abbrev Cl := Option V × Sl
/-- a dict of texts holds this data -/
def DpK (K : PySem.W.Frag) (G : Hp) : List (Key × V) → List (Str × PyData) → Prop
  | [], [] => True
  | u :: us, p :: ps => u.1 = .inr p.1 ∧ Dp K G u.2 p.2 ∧ DpK K G us ps
  | _, _ => False
theorem DpK.keep {K : PySem.W.Frag} {G G' : Hp} (s : Same G G') : ∀ {us : List (Key × V)} {ps : List (Str × PyData)}, DpK K G us ps → DpK K G' us ps
  | [], [], _ => trivial
  | _ :: _, _ :: _, ⟨h1, h2, h3⟩ => ⟨h1, Dp.keep s h2, DpK.keep s h3⟩
  | [], _ :: _, h => h
  | _ :: _, [], h => h
def SlOk (K : PySem.W.Frag) (b : Bs) (G H : Hp) : Cl → Prop
  | (_, .un) => True
  | (x, .d y) => ∃ v, x = some v ∧ Dp K G v y
  | (x, .own ys) => ∃ p vs, x = some (.ref p) ∧ b.H p = none ∧ G p = none ∧ H p = some (.lst vs) ∧ DpAll K G vs ys
  | (x, .bor ys) => ∃ p vs, x = some (.ref p) ∧ p ∈ b.B ∧ G p = none ∧ H p = some (.lst vs) ∧ DpAll K G vs ys
  | (x, .fact φ _) => ∃ v, x = some v ∧ φ v G
  | (x, .dct o kvs) => ∃ p us, x = some (.ref p) ∧ ((o = true ∧ b.H p = none) ∨ (o = false ∧ p ∈ b.B ∧ ∃ u0, b.H p = some (.dK u0))) ∧ G p = none ∧ H p = some (.dK us) ∧ DpK K G us kvs
/-- the lists that are held alone -/
def ads : List Cl → List Addr
  | [] => []
  | (some (.ref p), .own _) :: L => p :: ads L
  | (some (.ref p), .bor _) :: L => p :: ads L
  | (some (.ref p), .dct _ _) :: L => p :: ads L
  | _ :: L => ads L
/-- what leans on nothing but itself -/
def flatO : HO → Bool
  | .ins _ _ _ => false
  | .own _ => false
  | .dT _ => false
  | .frz _ u => flatO u
  | .tbl _ => false
  | _ => true
def FlO (G : Hp) : Prop := ∀ a o, G a = some o → (∃ C dx fs, o = .ins C dx fs ∧ G dx = some (.own a)) ∨ (∃ x, o = .own x ∧ (G x).isSome = true) ∨ flatO o = true
theorem FlO.upd {G : Hp} {p : Addr} {o : HO} (h : FlO G) (hp : G p = none) (ho : flatO o = true) : FlO (upd G p o) := fun a u e => by
  by_cases ha : a = p
  · subst ha; rw [upd_same] at e; cases e; exact .inr (.inr ho)
  · rw [upd_ne ha] at e
    rcases h a u e with ⟨C, dx, fs, e1, e2⟩ | ⟨x, e1, e2⟩ | h
    · exact .inl ⟨C, dx, fs, e1, by rw [upd_ne (ne_of_none e2 hp)]; exact e2⟩
    · refine .inr (.inl ⟨x, e1, ?_⟩)
      by_cases hx : x = p
      · subst hx; rw [upd_same]; rfl
      · rw [upd_ne hx]; exact e2
    · exact .inr (.inr h)
/-- the table of the law's own code objects -/
def lamQ : Str := "law.<locals>.<lambda>"
/-- a table of code objects stays one -/
def TbOk (H H' : Hp) (a : Addr) : Prop := LamX.TabS H a lamQ → LamX.TabS H' a lamQ
theorem TbOk.refl (H : Hp) (a : Addr) : TbOk H H a := fun h => h
theorem TbOk.of {H H' H2 : Hp} {a : Addr} (h : TbOk H H' a) (k : ∀ b o, H' b = some o → (∀ xs, o ≠ .lst xs) → (∀ us, o ≠ .dK us) → H2 b = some o) : TbOk H H2 a := fun t => by
  obtain ⟨ps, h1, h2, h3⟩ := h t
  refine ⟨ps, k _ _ h1 nofun nofun, h2, fun pos cv hc => ?_⟩
  obtain ⟨c, e1, e2⟩ := h3 pos cv hc
  exact ⟨c, e1, k _ _ e2 (fun xs z => by unfold LamX.CodeO at z; cases z) (fun xs z => by unfold LamX.CodeO at z; cases z)⟩
structure HoldG (K : PySem.W.Frag) (b : Bs) (G H : Hp) (L : List Cl) : Prop where
  old : Same b.G G
  up : Same G H
  new : ∀ a o, G a = some o → b.G a = some o ∨ b.H a = none
  rest : ∀ a o, b.H a = some o → a ∉ b.B → H a = some o
  bs : ∀ a ∈ b.B, (H a).isSome = true ∧ TbOk b.H H a
  ok : ∀ c ∈ L, SlOk K b G H c
  nd : (ads L).Nodup
  fl : FlO G
def Hold (K : PySem.W.Frag) (b : Bs) (H : Hp) (L : List Cl) : Prop := ∃ G, HoldG K b G H L
theorem ads_append : ∀ L L' : List Cl, ads (L ++ L') = ads L ++ ads L'
  | [], _ => rfl
  | c :: L, L' => by
    have ih := ads_append L L'
    rcases c with ⟨_ | v, s⟩
    · cases s <;> simpa [ads] using ih
    · cases v <;> cases s <;> simp [ads, ih]
theorem ads_cons (c : Cl) (L : List Cl) : ads (c :: L) = ads [c] ++ ads L := ads_append [c] L
theorem ads_mem {q : Addr} {s : Sl} (h : (∃ ys, s = .own ys) ∨ ∃ ys, s = .bor ys) {L : List Cl} (hc : (some (V.ref q), s) ∈ L) : q ∈ ads L := by
  obtain ⟨l1, l2, e⟩ := List.append_of_mem hc
  rw [e, ads_append]
  rcases h with ⟨ys, rfl⟩ | ⟨ys, rfl⟩ <;> exact List.mem_append_right _ List.mem_cons_self
theorem ads_memD {q : Addr} {o : Bool} {kvs : List (Str × PyData)} {L : List Cl} (hc : (some (V.ref q), Sl.dct o kvs) ∈ L) : q ∈ ads L := by
  obtain ⟨l1, l2, e⟩ := List.append_of_mem hc
  rw [e, ads_append]
  exact List.mem_append_right _ List.mem_cons_self
theorem ads_perm {L L' : List Cl} (h : L.Perm L') : (ads L).Perm (ads L') := by
  induction h with
  | nil => exact .refl _
  | cons c _ ih => 
    rename_i l1 l2 _
    rw [ads_cons c l1, ads_cons c l2]; exact ih.append_left _
  | swap c d L => 
    rw [ads_cons d (c :: L), ads_cons c L, ads_cons c (d :: L), ads_cons d L, ← List.append_assoc, ← List.append_assoc]
    exact List.Perm.append_right _ List.perm_append_comm
  | trans _ _ i1 i2 => exact i1.trans i2
section
variable {K : PySem.W.Frag} {b : Bs} {G H : Hp} {L L' : List Cl} {c : Cl}
theorem HoldG.perm (h : HoldG K b G H L) (p : L'.Perm L) : HoldG K b G H L' := ⟨h.old, h.up, h.new, h.rest, h.bs, fun c hc => h.ok c (p.mem_iff.mp hc), (ads_perm p).nodup_iff.mpr h.nd, h.fl⟩
theorem Hold.perm (h : Hold K b H L) (p : L'.Perm L) : Hold K b H L' := let ⟨G, h⟩ := h; ⟨G, h.perm p⟩
theorem HoldG.drop (h : HoldG K b G H (c :: L)) : HoldG K b G H L := ⟨h.old, h.up, h.new, h.rest, h.bs, fun c hc => h.ok c (List.mem_cons_of_mem _ hc), by have := h.nd; rw [ads_cons] at this; exact (List.nodup_append.mp this).2.1, h.fl⟩
theorem Hold.drop (h : Hold K b H (c :: L)) : Hold K b H L := let ⟨G, h⟩ := h; ⟨G, h.drop⟩
theorem Hold.dropL : ∀ {M : List Cl}, Hold K b H (M ++ L) → Hold K b H L
  | [], h => h
  | _ :: _, h => Hold.dropL h.drop
/-- a cell is known no more -/
theorem HoldG.un (h : HoldG K b G H L) {x : Option V} : HoldG K b G H ((x, .un) :: L) := ⟨h.old, h.up, h.new, h.rest, h.bs, fun c hc => by
  rcases List.mem_cons.mp hc with rfl | hc
  · trivial
  · exact h.ok c hc, by cases x with | none => simpa [ads] using h.nd | some v => cases v <;> simpa [ads] using h.nd, h.fl⟩
/-- one more cell of data -/
theorem HoldG.add (h : HoldG K b G H L) {v : V} {y : PyData} (hv : Dp K G v y) : HoldG K b G H ((some v, .d y) :: L) := ⟨h.old, h.up, h.new, h.rest, h.bs, fun c hc => by
  rcases List.mem_cons.mp hc with rfl | hc
  · exact ⟨v, rfl, hv⟩
  · exact h.ok c hc, by cases v <;> simpa [ads] using h.nd, h.fl⟩
theorem HoldG.addF (h : HoldG K b G H L) {v : V} {φ : V → Hp → Prop} {st} (hv : φ v G) : HoldG K b G H ((some v, .fact φ st) :: L) := ⟨h.old, h.up, h.new, h.rest, h.bs, fun c hc => by
  rcases List.mem_cons.mp hc with rfl | hc
  · exact ⟨v, rfl, hv⟩
  · exact h.ok c hc, by cases v <;> simpa [ads] using h.nd, h.fl⟩
theorem Hold.un (h : Hold K b H L) {x : Option V} : Hold K b H ((x, .un) :: L) := let ⟨G, h⟩ := h; ⟨G, h.un⟩
theorem Hold.int (h : Hold K b H L) (i : Int) : Hold K b H ((some (.int i), .d (.int i)) :: L) := let ⟨G, h⟩ := h; ⟨G, h.add (.int i)⟩
theorem Hold.bl (h : Hold K b H L) (i : Bool) : Hold K b H ((some (.bl i), .d (.bool i)) :: L) := let ⟨G, h⟩ := h; ⟨G, h.add (.bl i)⟩
theorem Hold.str (h : Hold K b H L) (i : Str) : Hold K b H ((some (.str i), .d (.str i)) :: L) := let ⟨G, h⟩ := h; ⟨G, h.add (.str i)⟩
theorem Hold.non (h : Hold K b H L) : Hold K b H ((some .non, .d .none) :: L) := let ⟨G, h⟩ := h; ⟨G, h.add .non⟩
/-- the head says what the value is -/
theorem HoldG.data {x : Option V} {y : PyData} (h : HoldG K b G H ((x, .d y) :: L)) : ∃ v, x = some v ∧ Dp K G v y := h.ok _ List.mem_cons_self
theorem HoldG.inH {v : V} {y : PyData} (h : HoldG K b G H L) (d : Dp K G v y) : Dp K H v y := Dp.keep h.up d
/-- the frozen part and the heap grow -/
theorem HoldG.grow (h : HoldG K b G H L) {p : Addr} {o : HO} (hp : H p = none) (ho : flatO o = true) : HoldG K b (upd G p o) (upd H p o) L := by
  have gp : G p = none := h.up.free hp
  have bp : b.H p = none := by
    cases e : b.H p with
    | none => rfl
    | some u =>
      by_cases hb : p ∈ b.B
      · have := (h.bs p hb).1; rw [hp] at this; cases this
      · have := h.rest p u e hb; rw [hp] at this; cases this
  have sG : Same G (upd G p o) := Same.new gp
  refine ⟨h.old.trans sG, fun a u e => ?_, fun a u e => ?_, fun a u e n => ?_, fun a ha => ?_, fun c hc => ?_, h.nd, h.fl.upd gp ho⟩
  · by_cases ha : a = p
    · subst ha; rw [upd_same] at e ⊢; exact e
    · rw [upd_ne ha] at e ⊢; exact h.up a u e
  · by_cases ha : a = p
    · subst ha; exact .inr bp
    · rw [upd_ne ha] at e; exact h.new a u e
  · have := h.rest a u e n
    rw [upd_ne (ne_of_none this hp)]; exact this
  · refine ⟨?_, (h.bs a ha).2.of fun c u e _ _ => by rw [upd_ne (ne_of_none e hp)]; exact e⟩
    by_cases e : a = p
    · subst e; rw [upd_same]; rfl
    · rw [upd_ne e]; exact (h.bs a ha).1
  · have ok := h.ok c hc
    rcases c with ⟨x, s⟩
    cases s with
    | un => trivial
    | d y => obtain ⟨v, e, k⟩ := ok; exact ⟨v, e, Dp.keep sG k⟩
    | fact φ st => obtain ⟨v, e, k⟩ := ok; exact ⟨v, e, st _ _ _ sG k⟩
    | dct o kvs =>
      obtain ⟨q, vs, e, h1, h2, h3, h4⟩ := ok
      have n : q ≠ p := ne_of_none h3 hp
      exact ⟨q, vs, e, h1, by rw [upd_ne n]; exact h2, by rw [upd_ne n]; exact h3, DpK.keep sG h4⟩
    | own ys =>
      obtain ⟨q, vs, e, h1, h2, h3, h4⟩ := ok
      have n : q ≠ p := ne_of_none h3 hp
      exact ⟨q, vs, e, h1, by rw [upd_ne n]; exact h2, by rw [upd_ne n]; exact h3, DpAll.keep sG h4⟩
    | bor ys =>
      obtain ⟨q, vs, e, h1, h2, h3, h4⟩ := ok
      have n : q ≠ p := ne_of_none h3 hp
      exact ⟨q, vs, e, h1, by rw [upd_ne n]; exact h2, by rw [upd_ne n]; exact h3, DpAll.keep sG h4⟩
/-- the heap alone grows -/
theorem HoldG.growH (h : HoldG K b G H L) {p : Addr} {o : HO} (hp : H p = none) : HoldG K b G (upd H p o) L := by
  refine ⟨h.old, h.up.trans (Same.new hp), h.new, fun a u e n => ?_, fun a ha => ?_, fun c hc => ?_, h.nd, h.fl⟩
  · have := h.rest a u e n
    rw [upd_ne (ne_of_none this hp)]; exact this
  · refine ⟨?_, (h.bs a ha).2.of fun c u e _ _ => by rw [upd_ne (ne_of_none e hp)]; exact e⟩
    by_cases e : a = p
    · subst e; rw [upd_same]; rfl
    · rw [upd_ne e]; exact (h.bs a ha).1
  · have ok := h.ok c hc
    rcases c with ⟨x, s⟩
    cases s with
    | un => trivial
    | d y => exact ok
    | fact φ st => exact ok
    | dct o kvs =>
      obtain ⟨q, vs, e, h1, h2, h3, h4⟩ := ok
      exact ⟨q, vs, e, h1, h2, by rw [upd_ne (ne_of_none h3 hp)]; exact h3, h4⟩
    | own ys =>
      obtain ⟨q, vs, e, h1, h2, h3, h4⟩ := ok
      exact ⟨q, vs, e, h1, h2, by rw [upd_ne (ne_of_none h3 hp)]; exact h3, h4⟩
    | bor ys =>
      obtain ⟨q, vs, e, h1, h2, h3, h4⟩ := ok
      exact ⟨q, vs, e, h1, h2, by rw [upd_ne (ne_of_none h3 hp)]; exact h3, h4⟩
theorem HoldG.fresh (h : HoldG K b G H L) {p : Addr} (hp : H p = none) : b.H p = none := by
  cases e : b.H p with
  | none => rfl
  | some u =>
    by_cases hb : p ∈ b.B
    · have := (h.bs p hb).1; rw [hp] at this; cases this
    · have := h.rest p u e hb; rw [hp] at this; cases this
theorem ads_in {p : Addr} : ∀ {L : List Cl}, p ∈ ads L → ∃ s, (some (.ref p), s) ∈ L ∧ ((∃ ys, s = .own ys) ∨ (∃ ys, s = .bor ys) ∨ ∃ o kvs, s = .dct o kvs)
  | [], h => by cases h
  | c :: L, h => by
    rw [ads_cons] at h
    rcases List.mem_append.mp h with h | h
    · rcases c with ⟨_ | v, s⟩
      · cases s <;> simp [ads] at h
      · cases v <;> cases s <;> simp [ads] at h
        · subst h; exact ⟨_, List.mem_cons_self, .inl ⟨_, rfl⟩⟩
        · subst h; exact ⟨_, List.mem_cons_self, .inr (.inl ⟨_, rfl⟩)⟩
        · subst h; exact ⟨_, List.mem_cons_self, .inr (.inr ⟨_, _, rfl⟩)⟩
    · obtain ⟨s, h1, h2⟩ := ads_in h
      exact ⟨s, List.mem_cons_of_mem _ h1, h2⟩
theorem HoldG.adsH (h : HoldG K b G H L) {p : Addr} (hp : p ∈ ads L) : G p = none ∧ ∃ o, H p = some o := by
  obtain ⟨s, hm, hs⟩ := ads_in hp
  have ok := h.ok _ hm
  rcases hs with ⟨ys, rfl⟩ | ⟨ys, rfl⟩ | ⟨o, ys, rfl⟩
  · obtain ⟨q, vs, e, _, h2, h3, _⟩ := ok; cases e; exact ⟨h2, _, h3⟩
  · obtain ⟨q, vs, e, _, h2, h3, _⟩ := ok; cases e; exact ⟨h2, _, h3⟩
  · obtain ⟨q, vs, e, _, h2, h3, _⟩ := ok; cases e; exact ⟨h2, _, h3⟩
/-- a new list, held alone -/
theorem HoldG.newL (h : HoldG K b G H L) {p : Addr} {vs : List V} {ys : List PyData} (hp : H p = none) (hv : DpAll K G vs ys) : HoldG K b G (upd H p (.lst vs)) ((some (.ref p), .own ys) :: L) := by
  have g := h.growH (o := .lst vs) hp
  refine ⟨g.old, g.up, g.new, g.rest, g.bs, fun c hc => ?_, ?_, g.fl⟩
  · rcases List.mem_cons.mp hc with rfl | hc
    · exact ⟨p, vs, rfl, h.fresh hp, h.up.free hp, upd_same, hv⟩
    · exact g.ok c hc
  · show (p :: ads L).Nodup
    refine List.nodup_cons.mpr ⟨fun hm => ?_, h.nd⟩
    obtain ⟨_, vs', e⟩ := h.adsH hm
    rw [hp] at e; cases e
/-- a new tuple -/
theorem HoldG.newT (h : HoldG K b G H L) {p : Addr} {vs : List V} {ys : List PyData} (hp : H p = none) (hv : DpAll K G vs ys) : HoldG K b (upd G p (.tup vs)) (upd H p (.tup vs)) ((some (.ref p), .d (.tuple ys)) :: L) :=
  (h.grow (o := .tup vs) hp rfl).add (.tup (.of upd_same) (DpAll.keep (Same.new (h.up.free hp)) hv))
/-- a list that was held alone is changed no more -/
theorem HoldG.freeze {x : Option V} {ys : List PyData} (h : HoldG K b G H ((x, .own ys) :: L)) : Hold K b H ((x, .d (.list ys)) :: L) := by
  obtain ⟨p, vs, rfl, h1, h2, h3, h4⟩ := h.ok _ List.mem_cons_self
  have nd := h.nd
  have nd' : p ∉ ads L := (List.nodup_cons.mp (show (p :: ads L).Nodup from nd)).1
  have sG : Same G (upd G p (.lst vs)) := Same.new h2
  refine ⟨upd G p (.lst vs), h.old.trans sG, fun a u e => ?_, fun a u e => ?_, h.rest, h.bs, fun c hc => ?_, ?_, h.fl.upd h2 rfl⟩
  · by_cases ha : a = p
    · subst ha; rw [upd_same] at e; rw [h3]; exact e
    · rw [upd_ne ha] at e; exact h.up a u e
  · by_cases ha : a = p
    · subst ha; exact .inr h1
    · rw [upd_ne ha] at e; exact h.new a u e
  · rcases List.mem_cons.mp hc with rfl | hm
    · exact ⟨_, rfl, .lst (.of upd_same) (DpAll.keep sG h4)⟩
    · have ok := h.ok c (List.mem_cons_of_mem _ hm)
      rcases c with ⟨x, s⟩
      cases s with
      | un => trivial
      | d y => obtain ⟨v, e, k⟩ := ok; exact ⟨v, e, Dp.keep sG k⟩
      | fact φ st => obtain ⟨v, e, k⟩ := ok; exact ⟨v, e, st _ _ _ sG k⟩
      | dct o kvs =>
        obtain ⟨q, vs', e, k1, k2, k3, k4⟩ := ok
        have n : q ≠ p := fun n => by
          subst n; subst e
          exact nd' (ads_memD hm)
        exact ⟨q, vs', e, k1, by rw [upd_ne n]; exact k2, k3, DpK.keep sG k4⟩
      | own ys' =>
        obtain ⟨q, vs', e, k1, k2, k3, k4⟩ := ok
        have n : q ≠ p := fun n => by
          subst n; subst e
          exact nd' (ads_mem (.inl ⟨_, rfl⟩) hm)
        exact ⟨q, vs', e, k1, by rw [upd_ne n]; exact k2, k3, DpAll.keep sG k4⟩
      | bor ys' =>
        obtain ⟨q, vs', e, k1, k2, k3, k4⟩ := ok
        have n : q ≠ p := fun n => by
          subst n; subst e
          exact nd' (ads_mem (.inr ⟨_, rfl⟩) hm)
        exact ⟨q, vs', e, k1, by rw [upd_ne n]; exact k2, k3, DpAll.keep sG k4⟩
  · exact (List.nodup_cons.mp (show (p :: ads L).Nodup from nd)).2
theorem Hold.freeze {x : Option V} {ys : List PyData} (h : Hold K b H ((x, .own ys) :: L)) : Hold K b H ((x, .d (.list ys)) :: L) := let ⟨_, h⟩ := h; h.freeze
/-- a list held alone is written anew -/
theorem HoldG.put {p : Addr} {s s' : Sl} {ys ys' : List PyData} {vs : List V} (h : HoldG K b G H ((some (.ref p), s) :: L)) (hs : (s = .own ys ∧ s' = .own ys') ∨ (s = .bor ys ∧ s' = .bor ys')) (hv : DpAll K G vs ys') : HoldG K b G (upd H p (.lst vs)) ((some (.ref p), s') :: L) := by
  have hG : G p = none := by
    have ok := h.ok _ List.mem_cons_self
    rcases hs with ⟨rfl, _⟩ | ⟨rfl, _⟩
    · obtain ⟨q, _, e, _, h2, _⟩ := ok; cases e; exact h2
    · obtain ⟨q, _, e, _, h2, _⟩ := ok; cases e; exact h2
  have nd : (p :: ads L).Nodup := by rcases hs with ⟨rfl, _⟩ | ⟨rfl, _⟩ <;> exact h.nd
  have nd' := (List.nodup_cons.mp nd).1
  refine ⟨h.old, fun a u e => ?_, h.new, fun a u e n => ?_, fun a ha => ?_, fun c hc => ?_, ?_, h.fl⟩
  · have := h.up a u e
    rw [upd_ne (ne_of_none e hG)]; exact this
  · by_cases ha : a = p
    · subst ha
      have ok := h.ok _ List.mem_cons_self
      rcases hs with ⟨rfl, _⟩ | ⟨rfl, _⟩
      · obtain ⟨q, _, e2, h1, _⟩ := ok; cases e2; rw [h1] at e; cases e
      · obtain ⟨q, _, e2, h1, _⟩ := ok; cases e2; exact absurd h1 n
    · rw [upd_ne ha]; exact h.rest a u e n
  · refine ⟨?_, (h.bs a ha).2.of fun c u e n1 _ => ?_⟩
    · by_cases e : a = p
      · subst e; rw [upd_same]; rfl
      · rw [upd_ne e]; exact (h.bs a ha).1
    · have n : c ≠ p := fun z => by
        subst z
        have ok := h.ok _ List.mem_cons_self
        rcases hs with ⟨rfl, _⟩ | ⟨rfl, _⟩
        · obtain ⟨q, us, e2, _, _, h3, _⟩ := ok; cases e2; rw [h3] at e; cases e; exact n1 _ rfl
        · obtain ⟨q, us, e2, _, _, h3, _⟩ := ok; cases e2; rw [h3] at e; cases e; exact n1 _ rfl
      rw [upd_ne n]
      exact e
  · rcases List.mem_cons.mp hc with rfl | hm
    · have ok := h.ok _ List.mem_cons_self
      rcases hs with ⟨rfl, rfl⟩ | ⟨rfl, rfl⟩
      · obtain ⟨q, _, e2, h1, _⟩ := ok; cases e2; exact ⟨p, vs, rfl, h1, hG, upd_same, hv⟩
      · obtain ⟨q, _, e2, h1, _⟩ := ok; cases e2; exact ⟨p, vs, rfl, h1, hG, upd_same, hv⟩
    · have ok := h.ok c (List.mem_cons_of_mem _ hm)
      rcases c with ⟨x, t⟩
      cases t with
      | un => trivial
      | d y => exact ok
      | fact φ st => exact ok
      | dct o kvs =>
        obtain ⟨q, vs', e, k1, k2, k3, k4⟩ := ok
        have n : q ≠ p := fun n => by
          subst n; subst e
          exact nd' (ads_memD hm)
        exact ⟨q, vs', e, k1, k2, by rw [upd_ne n]; exact k3, k4⟩
      | own ys2 =>
        obtain ⟨q, vs', e, k1, k2, k3, k4⟩ := ok
        have n : q ≠ p := fun n => by
          subst n; subst e
          exact nd' (ads_mem (.inl ⟨_, rfl⟩) hm)
        exact ⟨q, vs', e, k1, k2, by rw [upd_ne n]; exact k3, k4⟩
      | bor ys2 =>
        obtain ⟨q, vs', e, k1, k2, k3, k4⟩ := ok
        have n : q ≠ p := fun n => by
          subst n; subst e
          exact nd' (ads_mem (.inr ⟨_, rfl⟩) hm)
        exact ⟨q, vs', e, k1, k2, by rw [upd_ne n]; exact k3, k4⟩
  · rcases hs with ⟨rfl, rfl⟩ | ⟨rfl, rfl⟩ <;> exact nd
end

end DE

namespace DE
open PySem PySem.Spec PyProof.Rows L2 SZ VR VX StX RT
/-! ### what holds in a frame: expressions -/
def WE (X : Cx) (e : Expr) (σ : L2.St) (H : Hp) (Q : VK) : Prop := ∃ t, PE X e t ∧ t σ H Q
def WT (X : Cx) (e : Expr) (σ : L2.St) (H : Hp) (Q : Bool → Hp → Prop) : Prop := ∃ t, PT X e t ∧ t σ H Q
def WW (X : Cx) (e : Expr) (σ : L2.St) (H : Hp) (Q : Bool → Hp → Prop) : Prop := ∃ t, PW X e t ∧ t σ H Q
def WA (X : Cx) (es : List Expr) (σ : L2.St) (H : Hp) (Q : List V → Hp → Prop) : Prop := ∃ t, PA X es t ∧ t σ H Q
def WG (X : Cx) (tg : Expr) (v : V) (σ : L2.St) (H : Hp) (Q : L2.St → Hp → Prop) : Prop := ∃ t, PG X tg t ∧ t v σ H Q
def WGs (X : Cx) (tg : List Expr) (v : List V) (σ : L2.St) (H : Hp) (Q : L2.St → Hp → Prop) : Prop := ∃ t, PGs X tg t ∧ t v σ H Q
def WS (X : Cx) (s : Stmt) (D : Ends) (σ : L2.St) (H : Hp) : Prop := ∃ t, PS X s t ∧ t D σ H
def WSs (X : Cx) (s : List Stmt) (D : Ends) (σ : L2.St) (H : Hp) : Prop := ∃ t, PSs X s t ∧ t D σ H
section
variable {X : Cx}
theorem we_pe (e : Expr) : PE X e (WE X e) := ⟨fun pins s σ H Q I ⟨_, h, q⟩ => h.run pins s σ H Q I q⟩
theorem wt_pt (e : Expr) : PT X e (WT X e) := ⟨fun pins s σ H Q I ⟨_, h, q⟩ => h.run pins s σ H Q I q⟩
theorem ww_pw (e : Expr) : PW X e (WW X e) := ⟨fun w pins s σ H Q I ⟨_, h, q⟩ => h.run w pins s σ H Q I q⟩
theorem wa_pa (e : List Expr) : PA X e (WA X e) := ⟨fun pos pins s σ H Q I ⟨_, h, q⟩ => h.run pos pins s σ H Q I q⟩
theorem wg_pg (e : Expr) : PG X e (WG X e) := ⟨fun pins s σ H v u Q I r ⟨_, h, q⟩ => h.run pins s σ H v u Q I r q⟩
theorem wgs_pgs (e : List Expr) : PGs X e (WGs X e) := ⟨fun pins s σ H v u Q I r ⟨_, h, q⟩ => h.run pins s σ H v u Q I r q⟩
theorem ws_ps (s : Stmt) : PS X s (WS X s) := ⟨fun pins t σ H D I ⟨_, h, q⟩ => h.run pins t σ H D I q⟩
theorem wss_pss (s : List Stmt) : PSs X s (WSs X s) := ⟨fun pins t σ H D I ⟨_, h, q⟩ => h.run pins t σ H D I q⟩
end
/-- an expression in a frame that holds ρ gives what p wants -/
def EV (X : Cx) (b : Bs) (ρ : List Sl) (e : Expr) (p : Sl → List Sl → Prop) : Prop := ∀ σ H L Q, σ.length = ρ.length → Hold X.K b H (σ.zip ρ ++ L) →
  (∀ r ρ' v H', p r ρ' → σ.length = ρ'.length → Hold X.K b H' ((some v, r) :: (σ.zip ρ' ++ L)) → Q v H') → WE X e σ H Q
def ET (X : Cx) (b : Bs) (ρ : List Sl) (e : Expr) (p : Bool → List Sl → Prop) : Prop := ∀ σ H L Q, σ.length = ρ.length → Hold X.K b H (σ.zip ρ ++ L) →
  (∀ c ρ' H', p c ρ' → σ.length = ρ'.length → Hold X.K b H' (σ.zip ρ' ++ L) → Q c H') → WT X e σ H Q
def EW (X : Cx) (b : Bs) (ρ : List Sl) (e : Expr) (p : Bool → List Sl → Prop) : Prop := ∀ σ H L Q, σ.length = ρ.length → Hold X.K b H (σ.zip ρ ++ L) →
  (∀ c ρ' H', p c ρ' → σ.length = ρ'.length → Hold X.K b H' (σ.zip ρ' ++ L) → Q c H') → WW X e σ H Q
def EA (X : Cx) (b : Bs) (ρ : List Sl) (es : List Expr) (p : List Sl → List Sl → Prop) : Prop := ∀ σ H L Q, σ.length = ρ.length → Hold X.K b H (σ.zip ρ ++ L) →
  (∀ rs ρ' vs H', p rs ρ' → σ.length = ρ'.length → vs.length = rs.length → Hold X.K b H' ((vs.map some).zip rs ++ (σ.zip ρ' ++ L)) → Q vs H') → WA X es σ H Q
/-- an operation on two values -/
def OV (X : Cx) (b : Bs) (f : Value → Value → Sem Value) (r1 r2 : Sl) (p : Sl → Prop) : Prop := ∃ rr : R2, OpR X f rr ∧ ∀ v1 v2 H L Q, Hold X.K b H ((some v1, r1) :: (some v2, r2) :: L) →
  (∀ r v H', p r → Hold X.K b H' ((some v, r) :: L) → Q v H') → rr v1 v2 H Q
def IV (X : Cx) (b : Bs) (r1 r2 : Sl) (p : Sl → Prop) : Prop := ∃ rr : R2, IxR X rr ∧ ∀ v1 v2 H L Q, Hold X.K b H ((some v1, r1) :: (some v2, r2) :: L) →
  (∀ r v H', p r → Hold X.K b H' ((some v, r) :: L) → Q v H') → rr v1 v2 H Q
/-- an operation on one value -/
def UV (X : Cx) (b : Bs) (f : Value → Sem Value) (r1 : Sl) (p : Sl → Prop) : Prop := ∃ rr : V → Hp → VK → Prop, UnR X f rr ∧ ∀ v1 H L Q, Hold X.K b H ((some v1, r1) :: L) →
  (∀ r v H', p r → Hold X.K b H' ((some v, r) :: L) → Q v H') → rr v1 H Q
/-- a built-in's call -/
def CV (X : Cx) (b : Bs) (f : Value) (rs : List Sl) (p : Sl → Prop) : Prop := ∃ rr : List V → Hp → VK → Prop, CallR X f rr ∧ ∀ vs H L Q, vs.length = rs.length → Hold X.K b H ((vs.map some).zip rs ++ L) →
  (∀ r v H', p r → Hold X.K b H' ((some v, r) :: L) → Q v H') → rr vs H Q
section
variable {X : Cx} {b : Bs} {ρ : List Sl} {p : Sl → List Sl → Prop} {e e1 e2 : Expr}
theorem perm_in {A M : List Cl} {c : Cl} : (c :: (A ++ M)).Perm (A ++ c :: M) := List.perm_middle.symm
theorem EV.imp {p' : Sl → List Sl → Prop} (h : EV X b ρ e p) (k : ∀ r ρ', p r ρ' → p' r ρ') : EV X b ρ e p' := fun σ H L Q l hh q => h σ H L Q l hh fun r ρ' v H' z => q r ρ' v H' (k r ρ' z)
theorem ET.imp {p p' : Bool → List Sl → Prop} (h : ET X b ρ e p) (k : ∀ r ρ', p r ρ' → p' r ρ') : ET X b ρ e p' := fun σ H L Q l hh q => h σ H L Q l hh fun r ρ' H' z => q r ρ' H' (k r ρ' z)
theorem zip_mem {σ : L2.St} {ρ : List Sl} {i : Nat} {s : Sl} (l : σ.length = ρ.length) (h : ρ[i]? = some s) : ∃ x, σ[i]? = some x ∧ (x, s) ∈ σ.zip ρ := by
  have hi : i < ρ.length := (List.getElem?_eq_some_iff.mp h).1
  have hs : σ[i]? = some σ[i] := List.getElem?_eq_getElem (by omega)
  refine ⟨_, hs, List.mem_of_getElem? (i := i) ?_⟩
  rw [List.getElem?_zip_eq_some]
  exact ⟨hs, h⟩
theorem ev_int {i : Int} {j pos} (h : p (.d (.int i)) ρ) : EV X b ρ (.Constant (.int i) j pos) p := fun σ H L Q l hh q => ⟨_, pe_int, q _ _ _ H h l (hh.int i)⟩
theorem ev_bl {i : Bool} {j pos} (h : p (.d (.bool i)) ρ) : EV X b ρ (.Constant (.bool i) j pos) p := fun σ H L Q l hh q => ⟨_, pe_bl, q _ _ _ H h l (hh.bl i)⟩
theorem ev_str {i : Str} {j pos} (h : p (.d (.str i)) ρ) : EV X b ρ (.Constant (.str i) j pos) p := fun σ H L Q l hh q => ⟨_, pe_str, q _ _ _ H h l (hh.str i)⟩
theorem ev_non {j pos} (h : p (.d .none) ρ) : EV X b ρ (.Constant .none j pos) p := fun σ H L Q l hh q => ⟨_, pe_non, q _ _ _ H h l hh.non⟩
/-- a local name that holds data -/
theorem ev_var (i : Nat) {y : PyData} {x : Str} {pos : Pos} (hN : X.N[i]? = some x) (hv : Vis X.env.scope x) (hr : ρ[i]? = some (.d y)) (h : p (.d y) ρ) (hd : (x == ("__debug__" : Str)) = false := by decide) (hcd : (x == ("__classdict__" : Str)) = false := by decide) : EV X b ρ (.Name x pos) p := fun σ H L Q l hh q => by
  obtain ⟨x', hx, hm⟩ := zip_mem l hr
  obtain ⟨G, hg⟩ := hh
  obtain ⟨v, e, hv'⟩ := hg.ok _ (List.mem_append_left _ hm)
  subst e
  exact ⟨_, pe_var hN hv hd hcd, v, hx, q _ _ _ H h l ⟨G, hg.add hv'⟩⟩
/-- .. or something that stays -/
theorem ev_varF (i : Nat) {φ : V → Hp → Prop} {st} {x : Str} {pos : Pos} (hN : X.N[i]? = some x) (hv : Vis X.env.scope x) (hr : ρ[i]? = some (.fact φ st)) (h : p (.fact φ st) ρ) (hd : (x == ("__debug__" : Str)) = false := by decide) (hcd : (x == ("__classdict__" : Str)) = false := by decide) : EV X b ρ (.Name x pos) p := fun σ H L Q l hh q => by
  obtain ⟨x', hx, hm⟩ := zip_mem l hr
  obtain ⟨G, hg⟩ := hh
  obtain ⟨v, e, hv'⟩ := hg.ok _ (List.mem_append_left _ hm)
  subst e
  exact ⟨_, pe_var hN hv hd hcd, v, hx, q _ _ _ H h l ⟨G, hg.addF hv'⟩⟩
theorem set_perm {σ : L2.St} : ∀ {ρ : List Sl} {i : Nat} {s s' : Sl} {x : Option V}, ρ[i]? = some s → σ[i]? = some x → ∃ M, (σ.zip ρ).Perm ((x, s) :: M) ∧ (σ.zip (ρ.set i s')).Perm ((x, s') :: M) := by
  intro ρ
  induction ρ generalizing σ with
  | nil => intro i s s' x h; simp at h
  | cons r ρ ih =>
    intro i s s' x h hx
    cases σ with
    | nil => simp at hx
    | cons y σ =>
      cases i with
      | zero =>
        simp at h hx
        subst h hx
        exact ⟨σ.zip ρ, .refl _, .refl _⟩
      | succ i =>
        simp at h hx
        obtain ⟨M, h1, h2⟩ := ih (s' := s') h hx
        refine ⟨(y, r) :: M, ?_, ?_⟩
        · exact (h1.cons _).trans (.swap ..)
        · exact (h2.cons _).trans (.swap ..)
/-- a list held alone is read for good: the name keeps it -/
theorem ev_frz (i : Nat) {ys : List PyData} (hr : ρ[i]? = some (.own ys)) (h : EV X b (ρ.set i (.d (.list ys))) e p) : EV X b ρ e p := fun σ H L Q l hh q => by
  obtain ⟨x, hx, _⟩ := zip_mem l hr
  obtain ⟨M, p1, p2⟩ := set_perm (s' := .d (.list ys)) hr hx
  exact h σ H L Q (by rw [List.length_set]; exact l) (((hh.perm ((p1.append_right L).symm)).freeze).perm (p2.append_right L)) q
/-- any rule for an operation -/
def sOp (X : Cx) (f : Value → Value → Sem Value) : R2 := fun x y H Q => ∃ rr : R2, OpR X f rr ∧ rr x y H Q
theorem sop_ok (f : Value → Value → Sem Value) : OpR X f (sOp X f) := fun pins s σ H x y v u Q I rx ry ⟨_, h, q⟩ => h pins s σ H x y v u Q I rx ry q
def sIx (X : Cx) : R2 := fun x y H Q => ∃ rr : R2, IxR X rr ∧ rr x y H Q
theorem six_ok : IxR X (sIx X) := fun a b pins s σ H x y v u Q I rx ry ⟨_, h, q⟩ hs => h a b pins s σ H x y v u Q I rx ry q hs
def sUn (X : Cx) (f : Value → Sem Value) : V → Hp → VK → Prop := fun x H Q => ∃ rr : V → Hp → VK → Prop, UnR X f rr ∧ rr x H Q
theorem sun_ok (f : Value → Sem Value) : UnR X f (sUn X f) := fun pins s σ H x v Q I rx ⟨_, h, q⟩ => h pins s σ H x v Q I rx q
def sCl (X : Cx) (f : Value) : List V → Hp → VK → Prop := fun x H Q => ∃ rr : List V → Hp → VK → Prop, CallR X f rr ∧ rr x H Q
theorem scl_ok (f : Value) : CallR X f (sCl X f) := fun pins s σ H x v Q I rx ⟨_, h, q⟩ => h pins s σ H x v Q I rx q
theorem OV.go {f : Value → Value → Sem Value} {σ : L2.St} {ρ2 : List Sl} {L : List Cl} {r1 r2 : Sl} {v1 v2 : V} {H2 : Hp} {Q : VK} {p : Sl → Prop} (h2 : OV X b f r1 r2 p) (hh2 : Hold X.K b H2 ((some v2, r2) :: (σ.zip ρ2 ++ (some v1, r1) :: L))) (k : ∀ r v H', p r → Hold X.K b H' ((some v, r) :: (σ.zip ρ2 ++ L)) → Q v H') : sOp X f v1 v2 H2 Q := by
  obtain ⟨rr, ho, hk⟩ := h2
  exact ⟨rr, ho, hk v1 v2 H2 (σ.zip ρ2 ++ L) Q (hh2.perm ((List.Perm.swap ..).trans (perm_in.cons _))) fun r v H' hp hh' => k r v H' hp hh'⟩
theorem IV.go {σ : L2.St} {ρ2 : List Sl} {L : List Cl} {r1 r2 : Sl} {v1 v2 : V} {H2 : Hp} {Q : VK} {p : Sl → Prop} (h2 : IV X b r1 r2 p) (hh2 : Hold X.K b H2 ((some v2, r2) :: (σ.zip ρ2 ++ (some v1, r1) :: L))) (k : ∀ r v H', p r → Hold X.K b H' ((some v, r) :: (σ.zip ρ2 ++ L)) → Q v H') : sIx X v1 v2 H2 Q := by
  obtain ⟨rr, ho, hk⟩ := h2
  exact ⟨rr, ho, hk v1 v2 H2 (σ.zip ρ2 ++ L) Q (hh2.perm ((List.Perm.swap ..).trans (perm_in.cons _))) fun r v H' hp hh' => k r v H' hp hh'⟩
theorem ev_bin {op : Operator} {pos} (h : EV X b ρ e1 fun r1 ρ1 => EV X b ρ1 e2 fun r2 ρ2 => OV X b (binaryOp op) r1 r2 fun r => p r ρ2) : EV X b ρ (.BinOp e1 op e2 pos) p := fun σ H L Q l hh q =>
  ⟨_, pe_op (sop_ok _) (we_pe e1) (we_pe e2), h σ H L _ l hh fun r1 ρ1 v1 H1 h1 l1 hh1 => h1 σ H1 ((some v1, r1) :: L) _ l1 (hh1.perm perm_in.symm) fun r2 ρ2 v2 H2 h2 l2 hh2 => h2.go hh2 fun r v H' hp hh' => q r ρ2 v H' hp l2 hh'⟩
theorem ev_cmp {op : CmpOp} {pos} (hm : behindInMarks op e2 = false) (h : EV X b ρ e1 fun r1 ρ1 => EV X b ρ1 e2 fun r2 ρ2 => OV X b (compareOp op) r1 r2 fun r => p r ρ2) : EV X b ρ (.Compare e1 [op] [e2] pos) p := fun σ H L Q l hh q =>
  ⟨_, pe_cmpR (sop_ok _) (we_pe e1) (we_pe e2) hm, h σ H L _ l hh fun r1 ρ1 v1 H1 h1 l1 hh1 => h1 σ H1 ((some v1, r1) :: L) _ l1 (hh1.perm perm_in.symm) fun r2 ρ2 v2 H2 h2 l2 hh2 => h2.go hh2 fun r v H' hp hh' => q r ρ2 v H' hp l2 hh'⟩
theorem Hold.isB {K : PySem.W.Frag} {H : Hp} {v : V} {c : Bool} {L : List Cl} (h : Hold K b H ((some v, .d (.bool c)) :: L)) : v = .bl c := by
  obtain ⟨G, h⟩ := h
  obtain ⟨v', e, hd⟩ := h.data
  cases e
  cases hd
  rfl
theorem Hold.isI {K : PySem.W.Frag} {H : Hp} {v : V} {c : Int} {L : List Cl} (h : Hold K b H ((some v, .d (.int c)) :: L)) : v = .int c := by
  obtain ⟨G, h⟩ := h
  obtain ⟨v', e, hd⟩ := h.data
  cases e
  cases hd
  rfl
theorem Hold.isS {K : PySem.W.Frag} {H : Hp} {v : V} {c : Str} {L : List Cl} (h : Hold K b H ((some v, .d (.str c)) :: L)) : v = .str c := by
  obtain ⟨G, h⟩ := h
  obtain ⟨v', e, hd⟩ := h.data
  cases e
  cases hd
  rfl
theorem Hold.isN {K : PySem.W.Frag} {H : Hp} {v : V} {L : List Cl} (h : Hold K b H ((some v, .d .none) :: L)) : v = .non := by
  obtain ⟨G, h⟩ := h
  obtain ⟨v', e, hd⟩ := h.data
  cases e
  cases hd
  rfl
/-- the head's datum, in the heap -/
theorem Hold.dp {K : PySem.W.Frag} {H : Hp} {v : V} {y : PyData} {L : List Cl} (h : Hold K b H ((some v, .d y) :: L)) : Dp K H v y := by
  obtain ⟨G, h⟩ := h
  obtain ⟨v', e, hd⟩ := h.data
  cases e
  exact h.inH hd
theorem Hold.dp2 {K : PySem.W.Frag} {H : Hp} {v : V} {y : PyData} {c : Cl} {L : List Cl} (h : Hold K b H (c :: (some v, .d y) :: L)) : Dp K H v y := h.drop.dp
/-- two expressions in a row, whatever joins them -/
theorem ev_chain {o1 o2 : CmpOp} {e3 : Expr} {pos} (hm : lastMarks [o1, o2] [e2, e3] = false) (h : EV X b ρ e1 fun r1 ρ1 => EV X b ρ1 e2 fun r2 ρ2 => ∃ y2, r2 = .d y2 ∧ OV X b (compareOp o1) r1 r2 fun r => ∃ c, r = .d (.bool c) ∧ (c = false → p (.d (.bool false)) ρ2) ∧ (c = true → EV X b ρ2 e3 fun r3 ρ3 => OV X b (compareOp o2) r2 r3 fun r => p r ρ3)) :
    EV X b ρ (.Compare e1 [o1, o2] [e2, e3] pos) p := fun σ H L Q l hh q =>
  ⟨_, pe_chain (sop_ok _) (sop_ok _) (we_pe e1) (we_pe e2) (we_pe e3) hm, h σ H L _ l hh fun r1 ρ1 v1 H1 h1 l1 hh1 => h1 σ H1 ((some v1, r1) :: L) _ l1 (hh1.perm perm_in.symm) fun r2 ρ2 v2 H2 ⟨y2, e2, h2⟩ l2 hh2 => by
    subst e2
    have hh3 : Hold X.K b H2 ((some v2, .d y2) :: (σ.zip ρ2 ++ (some v1, r1) :: (some v2, .d y2) :: L)) := by
      obtain ⟨G, hg⟩ := hh2
      obtain ⟨v', ev, hd⟩ := hg.data
      cases ev
      exact ⟨G, (hg.add hd).perm (List.Perm.cons _ (perm_in.trans (List.Perm.append_left _ (List.Perm.swap ..))).symm)⟩
    refine h2.go (L := (some v2, .d y2) :: L) hh3 fun r v H' ⟨c, er, c0, c1⟩ hh' => ?_
    subst er
    have hv := hh'.isB
    subst hv
    refine ⟨c, rfl, ?_⟩
    cases c with
    | false => exact q _ ρ2 _ H' (c0 rfl) l2 ((hh'.drop.perm perm_in.symm.symm).drop.bl false)
    | true =>
      refine c1 rfl σ H' ((some v2, .d y2) :: L) _ l2 hh'.drop fun r3 ρ3 v3 H3 h3 l3 hh4 => h3.go hh4 fun r v H' hp hh' => q r ρ3 v H' hp l3 hh'⟩
end

end DE

namespace DE
open PySem PySem.Spec PyProof.Rows L2 SZ VR VX StX RT
section
variable {X : Cx} {b : Bs} {ρ : List Sl} {p : Sl → List Sl → Prop} {q : Bool → List Sl → Prop} {e e1 e2 : Expr} {es rest : List Expr} {pos : Pos}
/-! ### truth -/
theorem et_val (he : ∀ whole, isTrue e X.env whole = (do let v ← whole; standAt e.pos; holding [v] (truthy v)) := by intro _; rfl) (h : EV X b ρ e fun r ρ' => ∃ c, r = .d (.bool c) ∧ q c ρ') : ET X b ρ e q := fun σ H L Q l hh k =>
  ⟨_, pt_val (we_pe e) he, h σ H L _ l hh fun r ρ' v H' ⟨c, er, hq⟩ l' hh' => by
    subst er
    have := hh'.isB
    subst this
    exact ⟨c, rfl, k c ρ' H' hq l' hh'.drop⟩⟩
theorem et_cmp {op : CmpOp} (hm : behindInMarks op e2 = false) (h : EV X b ρ e1 fun r1 ρ1 => EV X b ρ1 e2 fun r2 ρ2 => OV X b (compareOp op) r1 r2 fun r => ∃ c, r = .d (.bool c) ∧ q c ρ2) : ET X b ρ (.Compare e1 [op] [e2] pos) q := fun σ H L Q l hh k =>
  ⟨_, pt_cmpR (sop_ok _) (we_pe e1) (we_pe e2) hm, h σ H L _ l hh fun r1 ρ1 v1 H1 h1 l1 hh1 => h1 σ H1 ((some v1, r1) :: L) _ l1 (hh1.perm perm_in.symm) fun r2 ρ2 v2 H2 h2 l2 hh2 => h2.go hh2 fun r v H' ⟨c, er, hq⟩ hh' => by
    subst er
    have := hh'.isB
    subst this
    exact ⟨c, rfl, k c ρ2 H' hq l2 hh'.drop⟩⟩
theorem et_chain {o1 o2 : CmpOp} {e3 : Expr} (hm : lastMarks [o1, o2] [e2, e3] = false) (h : EV X b ρ e1 fun r1 ρ1 => EV X b ρ1 e2 fun r2 ρ2 => ∃ y2, r2 = .d y2 ∧ OV X b (compareOp o1) r1 r2 fun r => ∃ c, r = .d (.bool c) ∧ (c = false → q false ρ2) ∧ (c = true → EV X b ρ2 e3 fun r3 ρ3 => OV X b (compareOp o2) r2 r3 fun r => ∃ c', r = .d (.bool c') ∧ q c' ρ3)) :
    ET X b ρ (.Compare e1 [o1, o2] [e2, e3] pos) q := fun σ H L Q l hh k =>
  ⟨_, pt_chain (sop_ok _) (sop_ok _) (we_pe e1) (we_pe e2) (we_pe e3) hm, h σ H L _ l hh fun r1 ρ1 v1 H1 h1 l1 hh1 => h1 σ H1 ((some v1, r1) :: L) _ l1 (hh1.perm perm_in.symm) fun r2 ρ2 v2 H2 ⟨y2, e2, h2⟩ l2 hh2 => by
    subst e2
    have hh3 : Hold X.K b H2 ((some v2, .d y2) :: (σ.zip ρ2 ++ (some v1, r1) :: (some v2, .d y2) :: L)) := by
      obtain ⟨G, hg⟩ := hh2
      obtain ⟨v', ev, hd⟩ := hg.data
      cases ev
      exact ⟨G, (hg.add hd).perm (List.Perm.cons _ (perm_in.trans (List.Perm.append_left _ (List.Perm.swap ..))).symm)⟩
    refine h2.go (L := (some v2, .d y2) :: L) hh3 fun r v H' ⟨c, er, c0, c1⟩ hh' => ?_
    subst er
    have hv := hh'.isB
    subst hv
    refine ⟨c, rfl, ?_⟩
    cases c with
    | false => exact ⟨false, rfl, k _ ρ2 H' (c0 rfl) l2 (hh'.drop.perm perm_in.symm.symm).drop⟩
    | true =>
      refine c1 rfl σ H' ((some v2, .d y2) :: L) _ l2 hh'.drop fun r3 ρ3 v3 H3 h3 l3 hh4 => h3.go hh4 fun r v H' ⟨c', er, hq⟩ hh' => ?_
      subst er
      have := hh'.isB
      subst this
      exact ⟨c', rfl, k c' ρ3 H' hq l3 hh'.drop⟩⟩
theorem et_not (h : ET X b ρ e fun c ρ' => q (!c) ρ') : ET X b ρ (.UnaryOp .Not e pos) q := fun σ H L Q l hh k => ⟨_, pt_not (wt_pt e), h σ H L _ l hh fun c ρ' H' hq l' hh' => k _ ρ' H' hq l' hh'⟩
theorem et_w (h : EW X b ρ e q) : ET X b ρ e q := fun σ H L Q l hh k => by
  obtain ⟨t, ht, hq⟩ := h σ H L Q l hh k
  exact ⟨t, ht.pt, hq⟩
theorem ew_and1 (h : ET X b ρ e q) : EW X b ρ (.BoolOp .And [e] pos) q := fun σ H L Q l hh k => ⟨_, pw_and1 (wt_pt e), h σ H L _ l hh k⟩
theorem ew_or1 (h : ET X b ρ e q) : EW X b ρ (.BoolOp .Or [e] pos) q := fun σ H L Q l hh k => ⟨_, pw_or1 (wt_pt e), h σ H L _ l hh k⟩
theorem ew_and (h : ET X b ρ e1 fun c ρ' => (c = false → q false ρ') ∧ (c = true → EW X b ρ' (.BoolOp .And (e2 :: rest) pos) q)) : EW X b ρ (.BoolOp .And (e1 :: e2 :: rest) pos) q := fun σ H L Q l hh k =>
  ⟨_, pw_and (wt_pt e1) (ww_pw _), h σ H L _ l hh fun c ρ' H' ⟨h0, h1⟩ l' hh' => by
    cases c with
    | false => exact k _ ρ' H' (h0 rfl) l' hh'
    | true => exact h1 rfl σ H' L _ l' hh' k⟩
theorem ew_or (h : ET X b ρ e1 fun c ρ' => (c = true → q true ρ') ∧ (c = false → EW X b ρ' (.BoolOp .Or (e2 :: rest) pos) q)) : EW X b ρ (.BoolOp .Or (e1 :: e2 :: rest) pos) q := fun σ H L Q l hh k =>
  ⟨_, pw_or (wt_pt e1) (ww_pw _), h σ H L _ l hh fun c ρ' H' ⟨h0, h1⟩ l' hh' => by
    cases c with
    | true => exact k _ ρ' H' (h0 rfl) l' hh'
    | false => exact h1 rfl σ H' L _ l' hh' k⟩
theorem ev_one {op : BoolOp} (h : EV X b ρ e p) : EV X b ρ (.BoolOp op [e] pos) p := fun σ H L Q l hh k => ⟨_, pe_one (we_pe e), h σ H L _ l hh k⟩
theorem ev_and (h : EV X b ρ e1 fun r ρ' => ∃ c, r = .d (.bool c) ∧ (c = false → p (.d (.bool false)) ρ') ∧ (c = true → EV X b ρ' (.BoolOp .And (e2 :: rest) pos) p)) : EV X b ρ (.BoolOp .And (e1 :: e2 :: rest) pos) p := fun σ H L Q l hh k =>
  ⟨_, pe_and (we_pe e1) (we_pe _), h σ H L _ l hh fun r ρ' v H' ⟨c, er, h0, h1⟩ l' hh' => by
    subst er
    have := hh'.isB
    subst this
    refine ⟨c, rfl, ?_⟩
    cases c with
    | false => exact k _ ρ' _ H' (h0 rfl) l' hh'
    | true => exact h1 rfl σ H' L _ l' hh'.drop k⟩
theorem ev_or (h : EV X b ρ e1 fun r ρ' => ∃ c, r = .d (.bool c) ∧ (c = true → p (.d (.bool true)) ρ') ∧ (c = false → EV X b ρ' (.BoolOp .Or (e2 :: rest) pos) p)) : EV X b ρ (.BoolOp .Or (e1 :: e2 :: rest) pos) p := fun σ H L Q l hh k =>
  ⟨_, pe_or (we_pe e1) (we_pe _), h σ H L _ l hh fun r ρ' v H' ⟨c, er, h0, h1⟩ l' hh' => by
    subst er
    have := hh'.isB
    subst this
    refine ⟨c, rfl, ?_⟩
    cases c with
    | true => exact k _ ρ' _ H' (h0 rfl) l' hh'
    | false => exact h1 rfl σ H' L _ l' hh'.drop k⟩
theorem ev_not (h : EV X b ρ e fun r ρ' => ∃ c, r = .d (.bool c) ∧ p (.d (.bool (!c))) ρ') : EV X b ρ (.UnaryOp .Not e pos) p := fun σ H L Q l hh k =>
  ⟨_, pe_not (we_pe e), h σ H L _ l hh fun r ρ' v H' ⟨c, er, h0⟩ l' hh' => by
    subst er
    have := hh'.isB
    subst this
    exact ⟨c, rfl, k _ ρ' _ H' h0 l' (hh'.drop.bl _)⟩⟩
theorem ev_if {c : Expr} (h : ET X b ρ c fun t ρ' => (t = true → EV X b ρ' e1 p) ∧ (t = false → EV X b ρ' e2 p)) : EV X b ρ (.IfExp c e1 e2 pos) p := fun σ H L Q l hh k =>
  ⟨_, pe_ifExp (wt_pt c) (we_pe e1) (we_pe e2), h σ H L _ l hh fun t ρ' H' ⟨h1, h2⟩ l' hh' => by
    cases t with
    | true => exact h1 rfl σ H' L _ l' hh' k
    | false => exact h2 rfl σ H' L _ l' hh' k⟩
theorem ev_un {op : UnaryOp} (h : EV X b ρ e fun r ρ' => UV X b (unaryOp op) r fun r' => p r' ρ') : EV X b ρ (.UnaryOp op e pos) p := fun σ H L Q l hh k =>
  ⟨_, pe_un (sun_ok _) (we_pe e), h σ H L _ l hh fun r ρ' v H' ⟨rr, ho, hk⟩ l' hh' => ⟨rr, ho, hk v H' _ _ hh' fun r' v' H2 hp hh2 => k r' ρ' v' H2 hp l' hh2⟩⟩
/-! ### displays, calls -/
theorem ea_nil {p : List Sl → List Sl → Prop} (h : p [] ρ) : EA X b ρ [] p := fun σ H L Q l hh k => ⟨_, pa_nil, k [] ρ [] H h l rfl hh⟩
theorem ea_cons {p : List Sl → List Sl → Prop} (hs : starEach (e :: es) X.env = (false, eval e X.env) :: starEach es X.env := by rfl) (h : EV X b ρ e fun r ρ' => EA X b ρ' es fun rs ρ2 => p (r :: rs) ρ2) : EA X b ρ (e :: es) p := fun σ H L Q l hh k =>
  ⟨_, pa_cons (we_pe e) (wa_pa es) hs, h σ H L _ l hh fun r ρ' v H' h2 l' hh' => h2 σ H' ((some v, r) :: L) _ l' (hh'.perm perm_in.symm) fun rs ρ2 vs H2 hp l2 lv hh2 =>
    k (r :: rs) ρ2 (v :: vs) H2 hp l2 (by simp [lv]) (by
      rw [List.map_cons, List.zip_cons_cons, List.cons_append]
      refine hh2.perm ?_
      rw [← List.append_assoc, ← List.append_assoc]
      exact perm_in)⟩
/-- cells of data are data of the frozen part -/
theorem HoldG.all {K : PySem.W.Frag} {G H : Hp} {L : List Cl} : ∀ {vs : List V} {ys : List PyData}, vs.length = ys.length → HoldG K b G H ((vs.map some).zip (ys.map .d) ++ L) → DpAll K G vs ys
  | [], [], _, _ => .nil
  | v :: vs, y :: ys, l, h => by
    obtain ⟨v', e, hd⟩ := HoldG.data (show HoldG K b G H ((some v, .d y) :: ((vs.map some).zip (ys.map .d) ++ L)) from h)
    cases e
    exact .cons hd (HoldG.all (by simpa using l) (HoldG.drop (show HoldG K b G H ((some v, .d y) :: ((vs.map some).zip (ys.map .d) ++ L)) from h)))
theorem HoldG.dropM {K : PySem.W.Frag} {G H : Hp} {L : List Cl} : ∀ {M : List Cl}, HoldG K b G H (M ++ L) → HoldG K b G H L
  | [], h => h
  | _ :: _, h => HoldG.dropM (HoldG.drop h)
theorem ev_tup {k : Nat} (h : EA X b ρ es fun rs ρ' => ∃ ys : List PyData, rs = ys.map .d ∧ ys.length ≤ sizeLine ∧ p (.d (.tuple ys)) ρ') : EV X b ρ (.Tuple es k pos) p := fun σ H L Q l hh k =>
  ⟨_, pe_tup (wa_pa es), h σ H L _ l hh fun rs ρ' vs H' ⟨ys, e, n, hp⟩ l' lv hh' => by
    subst e
    rw [List.length_map] at lv
    refine ⟨by rw [lv]; exact n, fun a ha => ?_⟩
    obtain ⟨G, hg⟩ := hh'
    exact k _ ρ' _ _ hp l' ⟨_, hg.dropM.newT ha (HoldG.all lv hg)⟩⟩
theorem ev_lst (h : EA X b ρ es fun rs ρ' => ∃ ys : List PyData, rs = ys.map .d ∧ ys.length ≤ sizeLine ∧ p (.own ys) ρ') : EV X b ρ (.List es pos) p := fun σ H L Q l hh k =>
  ⟨_, pe_lst (wa_pa es), h σ H L _ l hh fun rs ρ' vs H' ⟨ys, e, n, hp⟩ l' lv hh' => by
    subst e
    rw [List.length_map] at lv
    refine ⟨by rw [lv]; exact n, fun a ha => ?_⟩
    obtain ⟨G, hg⟩ := hh'
    exact k _ ρ' _ _ hp l' ⟨_, hg.dropM.newL ha (HoldG.all lv hg)⟩⟩
theorem ev_callB {id : String} {x : Str} {ps cp : Pos} (hg : Gl X x) (hm : X.mg x = none) (hv : bootBuiltins x = some (.builtin id)) (h : EA X b ρ (e :: es) fun rs ρ' => CV X b (.builtin id) rs fun r => p r ρ') (hn : x ≠ "__name__" := by decide) (hdb : (x == ("__debug__" : Str)) = false := by decide)
    (he : starEach (e :: es) X.env = (false, eval e X.env) :: starEach es X.env := by rfl) (hpl : (backTo cp (starEach es X.env)).any (·.1) = false := by rfl) : EV X b ρ (.Call (.Name x ps) (e :: es) [] cp) p := fun σ H L Q l hh k =>
  ⟨_, pe_callB (scl_ok _) hg hm hv (wa_pa _) hn hdb he hpl, h σ H L _ l hh fun rs ρ' vs H' ⟨rr, ho, hk⟩ l' lv hh' => ⟨rr, ho, hk vs H' _ _ lv hh' fun r v H2 hp hh2 => k r ρ' v H2 hp l' hh2⟩⟩
theorem ev_callTy {T : String} {x : Str} {ps cp : Pos} (hg : Gl X x) (hm : X.mg x = none) (hv : bootBuiltins x = some (.type T)) (h : EA X b ρ (e :: es) fun rs ρ' => CV X b (.type T) rs fun r => p r ρ') (hn : x ≠ "__name__" := by decide) (hdb : (x == ("__debug__" : Str)) = false := by decide)
    (he : starEach (e :: es) X.env = (false, eval e X.env) :: starEach es X.env := by rfl) (hpl : (backTo cp (starEach es X.env)).any (·.1) = false := by rfl) : EV X b ρ (.Call (.Name x ps) (e :: es) [] cp) p := fun σ H L Q l hh k =>
  ⟨_, pe_callTy (scl_ok _) hg hm hv (wa_pa _) hn hdb he hpl, h σ H L _ l hh fun rs ρ' vs H' ⟨rr, ho, hk⟩ l' lv hh' => ⟨rr, ho, hk vs H' _ _ lv hh' fun r v H2 hp hh2 => k r ρ' v H2 hp l' hh2⟩⟩
theorem ev_ix (hs : PlainIx e2) (h : EV X b ρ e1 fun r1 ρ1 => EV X b ρ1 e2 fun r2 ρ2 => IV X b r1 r2 fun r => p r ρ2) : EV X b ρ (.Subscript e1 e2 pos) p := fun σ H L Q l hh q =>
  ⟨_, pe_ix six_ok (we_pe e1) (we_pe e2) hs, h σ H L _ l hh fun r1 ρ1 v1 H1 h1 l1 hh1 => h1 σ H1 ((some v1, r1) :: L) _ l1 (hh1.perm perm_in.symm) fun r2 ρ2 v2 H2 h2 l2 hh2 => h2.go hh2 fun r v H' hp hh' => q r ρ2 v H' hp l2 hh'⟩
end

end DE

namespace DE
open PySem PySem.Spec PyProof.Rows L2 SZ VR VX StX RT
section
variable {X : Cx} {b : Bs} {ρ : List Sl} {p : Sl → Prop}
/-! ### operations on data -/
theorem ov_int {f : Value → Value → Sem Value} {g : Int → Int → Int} {i j : Int} (ho : OpR X f (rI0 fun i j => .int (g i j))) (h : p (.d (.int (g i j)))) : OV X b f (.d (.int i)) (.d (.int j)) p := ⟨_, ho, fun v1 v2 H L Q hh k => by
  have e1 := hh.isI
  have e2 := hh.drop.isI
  subst e1 e2
  exact ⟨i, j, rfl, rfl, k _ _ H h (hh.drop.drop.int _)⟩⟩
theorem ov_intC {f : Value → Value → Sem Value} {C : Int → Int → Prop} {g : Int → Int → Int} {i j : Int} (ho : OpR X f (rI C fun i j => .int (g i j))) (hc : C i j) (h : p (.d (.int (g i j)))) : OV X b f (.d (.int i)) (.d (.int j)) p := ⟨_, ho, fun v1 v2 H L Q hh k => by
  have e1 := hh.isI
  have e2 := hh.drop.isI
  subst e1 e2
  exact ⟨i, j, rfl, rfl, hc, k _ _ H h (hh.drop.drop.int _)⟩⟩
theorem ov_intB {f : Value → Value → Sem Value} {g : Int → Int → Bool} {i j : Int} (ho : OpR X f (rI0 fun i j => .bl (g i j))) (h : p (.d (.bool (g i j)))) : OV X b f (.d (.int i)) (.d (.int j)) p := ⟨_, ho, fun v1 v2 H L Q hh k => by
  have e1 := hh.isI
  have e2 := hh.drop.isI
  subst e1 e2
  exact ⟨i, j, rfl, rfl, k _ _ H h (hh.drop.drop.bl _)⟩⟩
theorem ov_add {i j : Int} (h : p (.d (.int (i + j)))) : OV X b (binaryOp .Add) (.d (.int i)) (.d (.int j)) p := ov_int (g := fun i j => i + j) op_add h
theorem ov_sub {i j : Int} (h : p (.d (.int (i - j)))) : OV X b (binaryOp .Sub) (.d (.int i)) (.d (.int j)) p := ov_int (g := fun i j => i - j) op_sub h
theorem ov_mul {i j : Int} (hc : CMul i j) (h : p (.d (.int (i * j)))) : OV X b (binaryOp .Mult) (.d (.int i)) (.d (.int j)) p := ov_intC (g := fun i j => i * j) op_mul hc h
theorem ov_mod {i j : Int} (hc : 0 < j) (h : p (.d (.int (i % j)))) : OV X b (binaryOp .Mod) (.d (.int i)) (.d (.int j)) p := ov_intC (g := fun i j => i % j) op_mod hc h
theorem ov_fdiv {i j : Int} (hc : CDiv i j) (h : p (.d (.int (i / j)))) : OV X b (binaryOp .FloorDiv) (.d (.int i)) (.d (.int j)) p := ov_intC (g := fun i j => i / j) op_fdiv hc h
theorem ov_lt {i j : Int} (h : p (.d (.bool (decide (i < j))))) : OV X b (compareOp .Lt) (.d (.int i)) (.d (.int j)) p := ov_intB (g := fun i j => decide (i < j)) op_lt h
theorem ov_le {i j : Int} (h : p (.d (.bool (decide (i ≤ j))))) : OV X b (compareOp .LtE) (.d (.int i)) (.d (.int j)) p := ov_intB (g := fun i j => decide (i ≤ j)) op_le h
theorem ov_gt {i j : Int} (h : p (.d (.bool (decide (j < i))))) : OV X b (compareOp .Gt) (.d (.int i)) (.d (.int j)) p := ov_intB (g := fun i j => decide (j < i)) op_gt h
theorem ov_ge {i j : Int} (h : p (.d (.bool (decide (j ≤ i))))) : OV X b (compareOp .GtE) (.d (.int i)) (.d (.int j)) p := ov_intB (g := fun i j => decide (j ≤ i)) op_ge h
def sdat : PyData → Option V
  | .none => some .non
  | .bool c => some (.bl c)
  | .int i => some (.int i)
  | .str x => some (.str x)
  | _ => none
theorem dp_sdat {K : PySem.W.Frag} {H : Hp} {v u : V} {y : PyData} (h : Dp K H v y) (e : sdat y = some u) : v = u := by
  cases h <;> simp [sdat] at e <;> exact e
theorem ov_eqS {y z : PyData} {u w : V} (hy : sdat y = some u) (hz : sdat z = some w) (hs : scal u w = true) (h : p (.d (.bool (decide (u = w))))) : OV X b (compareOp .Eq) (.d y) (.d z) p := ⟨_, op_eq, fun v1 v2 H L Q hh k => by
  have e1 := dp_sdat hh.dp hy
  have e2 := dp_sdat hh.drop.dp hz
  subst e1 e2
  exact ⟨hs, k _ _ H h (hh.drop.drop.bl _)⟩⟩
theorem ov_neS {y z : PyData} {u w : V} (hy : sdat y = some u) (hz : sdat z = some w) (hs : scal u w = true) (h : p (.d (.bool (!decide (u = w))))) : OV X b (compareOp .NotEq) (.d y) (.d z) p := ⟨_, op_ne, fun v1 v2 H L Q hh k => by
  have e1 := dp_sdat hh.dp hy
  have e2 := dp_sdat hh.drop.dp hz
  subst e1 e2
  exact ⟨hs, k _ _ H h (hh.drop.drop.bl _)⟩⟩
theorem dec_vstr {x y : Str} : decide (V.str x = V.str y) = decide (x = y) := by
  by_cases h : x = y
  · subst h; simp
  · rw [decide_eq_false h]; exact decide_eq_false fun e => h (V.str.inj e)
theorem dec_vint {x y : Int} : decide (V.int x = V.int y) = decide (x = y) := by
  by_cases h : x = y
  · subst h; simp
  · rw [decide_eq_false h]; exact decide_eq_false fun e => h (V.int.inj e)
theorem ov_eqStr {x y : Str} (h : p (.d (.bool (decide (x = y))))) : OV X b (compareOp .Eq) (.d (.str x)) (.d (.str y)) p := ov_eqS rfl rfl rfl (by rw [dec_vstr]; exact h)
theorem ov_neStr {x y : Str} (h : p (.d (.bool (!decide (x = y))))) : OV X b (compareOp .NotEq) (.d (.str x)) (.d (.str y)) p := ov_neS rfl rfl rfl (by rw [dec_vstr]; exact h)
theorem ov_eqInt {x y : Int} (h : p (.d (.bool (decide (x = y))))) : OV X b (compareOp .Eq) (.d (.int x)) (.d (.int y)) p := ov_eqS rfl rfl rfl (by rw [dec_vint]; exact h)
theorem ov_neInt {x y : Int} (h : p (.d (.bool (!decide (x = y))))) : OV X b (compareOp .NotEq) (.d (.int x)) (.d (.int y)) p := ov_neS rfl rfl rfl (by rw [dec_vint]; exact h)
/-- == of data at any depth -/
theorem ov_eqD {y z : PyData} (hu : X.A.units + 64 < cLine) (hy : SeqAt.shaped y = true) (hz : SeqAt.shaped z = true) (h : p (.d (.bool (PyData.eqv y z)))) : OV X b (compareOp .Eq) (.d y) (.d z) p := ⟨_, op_eqD hu, fun v1 v2 H L Q hh k => ⟨y, z, hh.dp, hh.drop.dp, hy, hz, k _ _ H h (hh.drop.drop.bl _)⟩⟩
theorem ov_neD {y z : PyData} (hu : X.A.units + 64 < cLine) (hy : SeqAt.shaped y = true) (hz : SeqAt.shaped z = true) (h : p (.d (.bool (!PyData.eqv y z)))) : OV X b (compareOp .NotEq) (.d y) (.d z) p := ⟨_, op_neD hu, fun v1 v2 H L Q hh k => ⟨y, z, hh.dp, hh.drop.dp, hy, hz, k _ _ H h (hh.drop.drop.bl _)⟩⟩
def isNon : PyData → Bool
  | .none => true
  | _ => false
theorem dp_non {K : PySem.W.Frag} {H : Hp} {v : V} {y : PyData} (h : Dp K H v y) : decide (v = .non) = isNon y := by
  cases h <;> simp [isNon]
theorem ov_isN {y : PyData} (h : p (.d (.bool (isNon y)))) : OV X b (compareOp .Is) (.d y) (.d .none) p := ⟨_, op_isN, fun v1 v2 H L Q hh k => by
  refine ⟨hh.drop.isN, ?_⟩
  rw [dp_non hh.dp]
  exact k _ _ H h (hh.drop.drop.bl _)⟩
theorem ov_notN {y : PyData} (h : p (.d (.bool (!isNon y)))) : OV X b (compareOp .IsNot) (.d y) (.d .none) p := ⟨_, op_notN, fun v1 v2 H L Q hh k => by
  refine ⟨hh.drop.isN, ?_⟩
  rw [dp_non hh.dp]
  exact k _ _ H h (hh.drop.drop.bl _)⟩
theorem ov_addS {x y : Str} (hz : x.length + y.length ≤ sizeLine) (h : p (.d (.str (x ++ y)))) : OV X b (binaryOp .Add) (.d (.str x)) (.d (.str y)) p := ⟨_, op_add_str, fun v1 v2 H L Q hh k => by
  have e1 := hh.isS
  have e2 := hh.drop.isS
  subst e1 e2
  exact ⟨x, y, rfl, rfl, hz, k _ _ H h (hh.drop.drop.str _)⟩⟩
/-- texts among texts -/
theorem dp_strs {K : PySem.W.Frag} {G : Hp} : ∀ {xs : List V} {ys : List Str}, DpAll K G xs (ys.map .str) → xs = ys.map .str
  | [], [], _ => rfl
  | [], _ :: _, h => by cases h
  | _ :: _, [], h => by cases h
  | x :: xs, y :: ys, h => by
    cases h with
    | cons h1 h2 =>
      cases h1
      rw [dp_strs h2, List.map_cons]
theorem HoldG.seq {K : PySem.W.Frag} {G H : Hp} {v : V} {y : PyData} {L : List Cl} (h : HoldG K b G H ((some v, .d y) :: L)) : Dp K G v y := by
  obtain ⟨v', e, hd⟩ := h.data
  cases e
  exact hd
theorem ov_inS {x : Str} {ys : List Str} {y : PyData} (hy : y = .tuple (ys.map .str) ∨ y = .list (ys.map .str)) (h : p (.d (.bool (ys.contains x)))) : OV X b (compareOp .In) (.d (.str x)) (.d y) p := ⟨_, op_in_seq, fun v1 v2 H L Q hh k => by
  have e1 := hh.isS
  subst e1
  have hd := hh.drop.dp
  rcases hy with rfl | rfl
  · cases hd with
    | tup h1 h2 =>
      have e := dp_strs h2
      subst e
      refine ⟨_, _, rfl, .inr h1, rfl, strFlat _, ?_⟩
      rw [strIn]
      exact k _ _ H h (hh.drop.drop.bl _)
  · cases hd with
    | lst h1 h2 =>
      have e := dp_strs h2
      subst e
      refine ⟨_, _, rfl, .inl h1, rfl, strFlat _, ?_⟩
      rw [strIn]
      exact k _ _ H h (hh.drop.drop.bl _)⟩
theorem ov_notInS {x : Str} {ys : List Str} {y : PyData} (hy : y = .tuple (ys.map .str) ∨ y = .list (ys.map .str)) (h : p (.d (.bool (!ys.contains x)))) : OV X b (compareOp .NotIn) (.d (.str x)) (.d y) p := ⟨_, op_notIn_seq, fun v1 v2 H L Q hh k => by
  have e1 := hh.isS
  subst e1
  have hd := hh.drop.dp
  rcases hy with rfl | rfl
  · cases hd with
    | tup h1 h2 =>
      have e := dp_strs h2
      subst e
      refine ⟨_, _, rfl, .inr h1, rfl, strFlat _, ?_⟩
      rw [strIn]
      exact k _ _ H h (hh.drop.drop.bl _)
  · cases hd with
    | lst h1 h2 =>
      have e := dp_strs h2
      subst e
      refine ⟨_, _, rfl, .inl h1, rfl, strFlat _, ?_⟩
      rw [strIn]
      exact k _ _ H h (hh.drop.drop.bl _)⟩
/-! ### lists: + of two, * n -/
theorem Hold.ref {H : Hp} {v : V} {ys : List PyData} {L : List Cl} {K : PySem.W.Frag} (h : Hold K b H ((some v, .own ys) :: L)) : ∃ p vs, v = .ref p ∧ H p = some (.lst vs) ∧ vs.length = ys.length := by
  obtain ⟨G, hg⟩ := h
  obtain ⟨p, vs, e, _, _, h3, h4⟩ := hg.ok _ List.mem_cons_self
  cases e
  exact ⟨p, vs, rfl, h3, DpAll.len h4⟩
theorem ov_cat {xs ys : List PyData} (hz : xs.length + ys.length ≤ sizeLine) (h : p (.own (xs ++ ys))) : OV X b (binaryOp .Add) (.own xs) (.own ys) p := ⟨_, op_cat, fun v1 v2 H L Q hh k => by
  obtain ⟨G, hg⟩ := hh
  obtain ⟨l1, us, e1, _, _, h1, d1⟩ := hg.ok _ List.mem_cons_self
  obtain ⟨l2, vs, e2, _, _, h2, d2⟩ := hg.drop.ok _ List.mem_cons_self
  cases e1
  cases e2
  exact ⟨l1, l2, us, vs, rfl, rfl, h1, h2, by rw [DpAll.len d1, DpAll.len d2]; exact hz, fun q hq => k _ _ _ h ⟨G, hg.drop.drop.newL hq (DpAll.app d1 d2)⟩⟩⟩
/-! ### items -/
theorem dp_at {K : PySem.W.Frag} {G : Hp} {xs : List V} {ys : List PyData} {i : Int} {y : PyData} (h : DpAll K G xs ys) (e : atI ys i = some y) : ∃ x, atI xs i = some x ∧ Dp K G x y := by
  unfold atI at e ⊢
  rw [DpAll.len h]
  cases hk : ixN ys.length i with
  | none => rw [hk] at e; cases e
  | some k =>
    rw [hk] at e
    have hl : k < xs.length := by rw [DpAll.len h]; exact (List.getElem?_eq_some_iff.mp e).1
    obtain ⟨d, e1, hd⟩ := DpAll.at h (List.getElem?_eq_getElem hl)
    have e : ys[k]? = some y := e
    rw [e1] at e
    cases e
    exact ⟨_, List.getElem?_eq_getElem hl, hd⟩
theorem iv_tup {ys : List PyData} {i : Int} {y : PyData} (hi : atI ys i = some y) (h : p (.d y)) : IV X b (.d (.tuple ys)) (.d (.int i)) p := ⟨_, ix_tup, fun v1 v2 H L Q hh k => by
  have e2 := hh.drop.isI
  subst e2
  obtain ⟨G, hg⟩ := hh
  cases hg.seq with
  | tup h1 h2 =>
    obtain ⟨x, ex, hx⟩ := dp_at h2 hi
    exact ⟨_, _, _, _, rfl, rfl, hg.up.tup h1, ex, k _ _ H h ⟨G, hg.drop.drop.add hx⟩⟩⟩
theorem iv_lst {ys : List PyData} {i : Int} {y : PyData} (hi : atI ys i = some y) (h : p (.d y)) : IV X b (.d (.list ys)) (.d (.int i)) p := ⟨_, ix_list, fun v1 v2 H L Q hh k => by
  have e2 := hh.drop.isI
  subst e2
  obtain ⟨G, hg⟩ := hh
  cases hg.seq with
  | lst h1 h2 =>
    obtain ⟨x, ex, hx⟩ := dp_at h2 hi
    exact ⟨_, _, _, _, rfl, rfl, hg.up.seq h1, ex, k _ _ H h ⟨G, hg.drop.drop.add hx⟩⟩⟩
theorem iv_own {ys : List PyData} {i : Int} {y : PyData} (hi : atI ys i = some y) (h : p (.d y)) : IV X b (.own ys) (.d (.int i)) p := ⟨_, ix_list, fun v1 v2 H L Q hh k => by
  have e2 := hh.drop.isI
  subst e2
  obtain ⟨G, hg⟩ := hh
  obtain ⟨l1, us, e1, _, _, h1, d1⟩ := hg.ok _ List.mem_cons_self
  cases e1
  obtain ⟨x, ex, hx⟩ := dp_at d1 hi
  exact ⟨_, _, _, _, rfl, rfl, .of h1, ex, k _ _ H h ⟨G, hg.drop.drop.add hx⟩⟩⟩
theorem iv_str {x : Str} {i : Int} {c : Nat} (hz : x.length ≤ sizeLine) (hi : atI x.cps.toList i = some c) (h : p (.d (.str ⟨#[c]⟩))) : IV X b (.d (.str x)) (.d (.int i)) p := ⟨_, ix_str, fun v1 v2 H L Q hh k => by
  have e1 := hh.isS
  have e2 := hh.drop.isI
  subst e1 e2
  exact ⟨x, i, c, rfl, rfl, hz, hi, k _ _ H h (hh.drop.drop.str _)⟩⟩
/-! ### built-ins -/
theorem one_in {rs : List Sl} {vs : List V} {r : Sl} (lv : vs.length = [r].length) : ∃ v, vs = [v] := List.length_eq_one_iff.mp (by simpa using lv)
theorem cv_lenT {ys : List PyData} (h : p (.d (.int ys.length))) : CV X b (.builtin "len") [.d (.tuple ys)] p := ⟨_, call_len_seq, fun vs H L Q lv hh k => by
  obtain ⟨v, rfl⟩ := one_in (rs := []) lv
  cases Hold.dp (show Hold X.K b H ((some v, .d (.tuple ys)) :: L) from hh) with
  | tup h1 h2 =>
    refine ⟨_, _, rfl, .inr h1, ?_⟩
    rw [DpAll.len h2]
    exact k _ _ H h (Hold.int (Hold.drop (show Hold X.K b H ((some (.ref _), .d (.tuple ys)) :: L) from hh)) _)⟩
theorem cv_lenL {ys : List PyData} (h : p (.d (.int ys.length))) : CV X b (.builtin "len") [.d (.list ys)] p := ⟨_, call_len_seq, fun vs H L Q lv hh k => by
  obtain ⟨v, rfl⟩ := one_in (rs := []) lv
  cases Hold.dp (show Hold X.K b H ((some v, .d (.list ys)) :: L) from hh) with
  | lst h1 h2 =>
    refine ⟨_, _, rfl, .inl h1, ?_⟩
    rw [DpAll.len h2]
    exact k _ _ H h (Hold.int (Hold.drop (show Hold X.K b H ((some (.ref _), .d (.list ys)) :: L) from hh)) _)⟩
theorem cv_lenO {ys : List PyData} (h : p (.d (.int ys.length))) : CV X b (.builtin "len") [.own ys] p := ⟨_, call_len_seq, fun vs H L Q lv hh k => by
  obtain ⟨v, rfl⟩ := one_in (rs := []) lv
  have hh : Hold X.K b H ((some v, .own ys) :: L) := hh
  obtain ⟨q, us, rfl, h1, h2⟩ := hh.ref
  refine ⟨_, _, rfl, .inl (.of h1), ?_⟩
  rw [h2]
  exact k _ _ H h (hh.drop.int _)⟩
theorem cv_lenS {x : Str} (hz : x.length ≤ sizeLine) (h : p (.d (.int x.length))) : CV X b (.builtin "len") [.d (.str x)] p := ⟨_, call_len_str, fun vs H L Q lv hh k => by
  obtain ⟨v, rfl⟩ := one_in (rs := []) lv
  have hh : Hold X.K b H ((some v, .d (.str x)) :: L) := hh
  have e := hh.isS
  subst e
  exact ⟨x, rfl, hz, k _ _ H h (hh.drop.int _)⟩⟩
theorem cv_int {i : Int} (h : p (.d (.int i))) : CV X b (.type "int") [.d (.int i)] p := ⟨_, call_int1, fun vs H L Q lv hh k => by
  obtain ⟨v, rfl⟩ := one_in (rs := []) lv
  have hh : Hold X.K b H ((some v, .d (.int i)) :: L) := hh
  have e := hh.isI
  subst e
  exact .inl ⟨i, rfl, k _ _ H h (hh.drop.int _)⟩⟩
theorem cv_intB {i : Bool} (h : p (.d (.int (if i then 1 else 0)))) : CV X b (.type "int") [.d (.bool i)] p := ⟨_, call_int1, fun vs H L Q lv hh k => by
  obtain ⟨v, rfl⟩ := one_in (rs := []) lv
  have hh : Hold X.K b H ((some v, .d (.bool i)) :: L) := hh
  have e := hh.isB
  subst e
  exact .inr ⟨i, rfl, k _ _ H h (hh.drop.int _)⟩⟩
theorem cv_strI {i : Int} (hz : i.natAbs.log2 < 1920) (h : p (.d (.str (toString i)))) : CV X b (.type "str") [.d (.int i)] p := ⟨_, call_str_int, fun vs H L Q lv hh k => by
  obtain ⟨v, rfl⟩ := one_in (rs := []) lv
  have hh : Hold X.K b H ((some v, .d (.int i)) :: L) := hh
  have e := hh.isI
  subst e
  exact ⟨i, rfl, hz, k _ _ H h (hh.drop.str _)⟩⟩
theorem cv_tupL {ys : List PyData} (h : p (.d (.tuple ys))) : CV X b (.type "tuple") [.d (.list ys)] p := ⟨_, call_tuple_of, fun vs H L Q lv hh k => by
  obtain ⟨v, rfl⟩ := one_in (rs := []) lv
  have hh : Hold X.K b H ((some v, .d (.list ys)) :: L) := hh
  obtain ⟨G, hg⟩ := hh
  cases hg.seq with
  | lst h1 h2 => exact ⟨_, _, rfl, .inl ⟨hg.up.seq h1, fun q hq => k _ _ _ h ⟨_, hg.drop.newT hq h2⟩⟩⟩⟩
theorem cv_tupO {ys : List PyData} (h : p (.d (.tuple ys))) : CV X b (.type "tuple") [.own ys] p := ⟨_, call_tuple_of, fun vs H L Q lv hh k => by
  obtain ⟨v, rfl⟩ := one_in (rs := []) lv
  have hh : Hold X.K b H ((some v, .own ys) :: L) := hh
  obtain ⟨G, hg⟩ := hh
  obtain ⟨l1, us, e1, _, _, h1, d1⟩ := hg.ok _ List.mem_cons_self
  cases e1
  exact ⟨_, _, rfl, .inl ⟨.of h1, fun q hq => k _ _ _ h ⟨_, hg.drop.newT hq d1⟩⟩⟩⟩
theorem cv_lstL {ys : List PyData} (h : p (.own ys)) : CV X b (.type "list") [.d (.list ys)] p := ⟨_, call_list_of, fun vs H L Q lv hh k => by
  obtain ⟨v, rfl⟩ := one_in (rs := []) lv
  have hh : Hold X.K b H ((some v, .d (.list ys)) :: L) := hh
  obtain ⟨G, hg⟩ := hh
  cases hg.seq with
  | lst h1 h2 => exact ⟨_, _, rfl, .inl (hg.up.seq h1), fun q hq => k _ _ _ h ⟨_, hg.drop.newL hq h2⟩⟩⟩
theorem dp_bools {K : PySem.W.Frag} {G : Hp} : ∀ {xs : List V} {ys : List Bool}, DpAll K G xs (ys.map .bool) → xs = ys.map .bl
  | [], [], _ => rfl
  | [], _ :: _, h => by cases h
  | _ :: _, [], h => by cases h
  | x :: xs, y :: ys, h => by
    cases h with
    | cons h1 h2 =>
      cases h1
      rw [dp_bools h2, List.map_cons]
theorem cv_all (hc : X.calm = true) {bs : List Bool} (h : p (.d (.bool (bs.all id)))) : CV X b (.builtin "all") [.own (bs.map .bool)] p := ⟨_, cr_all hc, fun vs H L Q lv hh k => by
  obtain ⟨v, rfl⟩ := one_in (rs := []) lv
  have hh : Hold X.K b H ((some v, .own (bs.map .bool)) :: L) := hh
  obtain ⟨G, hg⟩ := hh
  obtain ⟨l1, us, e1, _, _, h1, d1⟩ := hg.ok _ List.mem_cons_self
  cases e1
  have e := dp_bools d1
  subst e
  exact ⟨_, bs, rfl, .of h1, k _ _ _ h ⟨G, hg.drop.add (.bl _)⟩⟩⟩
theorem cv_any (hc : X.calm = true) {bs : List Bool} (h : p (.d (.bool (bs.any id)))) : CV X b (.builtin "any") [.own (bs.map .bool)] p := ⟨_, cr_any hc, fun vs H L Q lv hh k => by
  obtain ⟨v, rfl⟩ := one_in (rs := []) lv
  have hh : Hold X.K b H ((some v, .own (bs.map .bool)) :: L) := hh
  obtain ⟨G, hg⟩ := hh
  obtain ⟨l1, us, e1, _, _, h1, d1⟩ := hg.ok _ List.mem_cons_self
  cases e1
  have e := dp_bools d1
  subst e
  exact ⟨_, bs, rfl, .of h1, k _ _ _ h ⟨G, hg.drop.add (.bl _)⟩⟩⟩
/-- x[k:l] of a text -/
def subTy (a t : String) : Bool := a == t || (a == "bool" && t == "int")
theorem kit_d {K : PySem.W.Frag} {t : String} (ht : t = "int" ∨ t = "bool" ∨ t = "str" ∨ t = "tuple" ∨ t = "list" ∨ t = "dict") (y : PyData) : PySem.W.kitOne K (.type (tyD y)) (.type t) = some (subTy (tyD y) t) := by
  rcases ht with rfl | rfl | rfl | rfl | rfl | rfl <;> cases y <;> dsimp only [tyD] <;> exact kit_ty (by decide +kernel)
theorem ev_isi {e : Expr} {t : String} {x : Str} {p : Sl → List Sl → Prop} {ps cp pn : Pos} (hg : Gl X "isinstance") (hm : X.mg "isinstance" = none) (hgt : Gl X x) (hmt : X.mg x = none) (hv : bootBuiltins x = some (.type t)) (ht : t = "int" ∨ t = "bool" ∨ t = "str" ∨ t = "tuple" ∨ t = "list" ∨ t = "dict")
    (h : EV X b ρ e fun r ρ' => ∃ y, r = .d y ∧ p (.d (.bool (subTy (tyD y) t))) ρ') (hn : x ≠ "__name__" := by decide) (hd : (x == ("__debug__" : Str)) = false := by decide) (he : starEach [e, .Name x pn] X.env = (false, eval e X.env) :: starEach [.Name x pn] X.env := by rfl) (hpl : (backTo cp (starEach [.Name x pn] X.env)).any (·.1) = false := by rfl) :
    EV X b ρ (.Call (.Name "isinstance" ps) [e, .Name x pn] [] cp) p := fun σ H L Q l hh k =>
  ⟨_, pe_callB call_isi hg hm (by decide +kernel) (pa_cons (we_pe e) (pa_cons (pe_bltn hgt hmt (u := .type t) (v := .ty t) hv rfl hn hd) pa_nil) he) (by decide) (by decide) he hpl, h σ H L _ l hh fun r ρ' v H' ⟨y, er, hp⟩ l' hh' => by
    subst er
    exact ⟨v, .ty t, .type (tyD y), .type t, subTy (tyD y) t, rfl, .ty _, dp_ty hh'.dp, kit_d ht y, k _ ρ' _ H' hp l' (hh'.drop.bl _)⟩⟩
end

end DE

namespace DE
open PySem PySem.Spec PyProof.Rows L2 SZ VR VX StX RT
/-! ### statements -/
structure Po where
  nx : List Sl → Prop
  rt : Sl → List Sl → Prop
  bk : List Sl → Prop
  ct : List Sl → Prop
structure PoOk (X : Cx) (b : Bs) (L : List Cl) (p : Po) (D : Ends) (n : Nat) : Prop where
  nx : ∀ ρ' σ' H', p.nx ρ' → σ'.length = ρ'.length → ρ'.length = n → Hold X.K b H' (σ'.zip ρ' ++ L) → D.nx σ' H'
  rt : ∀ r ρ' v (σ' : L2.St) H', p.rt r ρ' → σ'.length = ρ'.length → ρ'.length = n → Hold X.K b H' ((some v, r) :: (σ'.zip ρ' ++ L)) → D.rt v H'
  bk : ∀ ρ' σ' H', p.bk ρ' → σ'.length = ρ'.length → ρ'.length = n → Hold X.K b H' (σ'.zip ρ' ++ L) → D.bk σ' H'
  ct : ∀ ρ' σ' H', p.ct ρ' → σ'.length = ρ'.length → ρ'.length = n → Hold X.K b H' (σ'.zip ρ' ++ L) → D.ct σ' H'
def XS (X : Cx) (b : Bs) (ρ : List Sl) (st : Stmt) (p : Po) : Prop := ∀ σ H L D, σ.length = ρ.length → Hold X.K b H (σ.zip ρ ++ L) → PoOk X b L p D ρ.length → WS X st D σ H
def XB (X : Cx) (b : Bs) (ρ : List Sl) (st : List Stmt) (p : Po) : Prop := ∀ σ H L D, σ.length = ρ.length → Hold X.K b H (σ.zip ρ ++ L) → PoOk X b L p D ρ.length → WSs X st D σ H
/-- a store: ts the slots that may change -/
def EG (X : Cx) (b : Bs) (ts : List Nat) (ρ : List Sl) (tg : Expr) (r : Sl) (p : List Sl → Prop) : Prop := ∀ σ H L v Q, σ.length = ρ.length → Hold X.K b H ((some v, r) :: (σ.zip ρ ++ L)) →
  (∀ ρ' σ' H', p ρ' → σ'.length = ρ'.length → ρ'.length = ρ.length → L2.wipe σ' ts = L2.wipe σ ts → Hold X.K b H' (σ'.zip ρ' ++ L) → Q σ' H') → WG X tg v σ H Q
def EGs (X : Cx) (b : Bs) (ts : List Nat) (ρ : List Sl) (tg : List Expr) (rs : List Sl) (p : List Sl → Prop) : Prop := ∀ σ H L vs Q, σ.length = ρ.length → vs.length = rs.length → Hold X.K b H ((vs.map some).zip rs ++ (σ.zip ρ ++ L)) →
  (∀ ρ' σ' H', p ρ' → σ'.length = ρ'.length → ρ'.length = ρ.length → L2.wipe σ' ts = L2.wipe σ ts → Hold X.K b H' (σ'.zip ρ' ++ L) → Q σ' H') → WGs X tg vs σ H Q
section
variable {X : Cx} {b : Bs} {ρ : List Sl} {p : Po} {e e1 e2 : Expr} {rest : List Stmt} {st : Stmt} {pos : Pos}
theorem xb_nil (h : p.nx ρ) : XB X b ρ [] p := fun σ H L D l hh k => ⟨_, pss_nil, k.nx ρ σ H h l rfl hh⟩
theorem xb_cons (h : XS X b ρ st { p with nx := fun ρ' => ρ'.length = ρ.length → XB X b ρ' rest p }) : XB X b ρ (st :: rest) p := fun σ H L D l hh k =>
  ⟨_, pss_cons (ws_ps st) (wss_pss rest), h σ H L { D with nx := WSs X rest D } l hh ⟨fun ρ' σ' H' h1 l' n' hh' => h1 n' σ' H' L D l' hh' (by rw [n']; exact k), k.rt, k.bk, k.ct⟩⟩
theorem xb_one (h : XS X b ρ st p) : XB X b ρ [st] p := fun σ H L D l hh k => ⟨_, pss_one (ws_ps st), h σ H L D l hh k⟩
theorem xs_ret (h : EV X b ρ e fun r ρ' => ρ'.length = ρ.length → p.rt r ρ') : XS X b ρ (.Return (some e) pos) p := fun σ H L D l hh k => ⟨_, ps_ret (we_pe e), h σ H L _ l hh fun r ρ' v H' hp l' hh' => k.rt r ρ' v σ H' (hp (l'.symm.trans l)) l' (l'.symm.trans l) hh'⟩
theorem xs_retN (h : p.rt (.d .none) ρ) : XS X b ρ (.Return none pos) p := fun σ H L D l hh k => ⟨_, ps_retN, k.rt _ ρ .non σ H h l rfl hh.non⟩
theorem xs_pass (h : p.nx ρ) : XS X b ρ (.Pass pos) p := fun σ H L D l hh k => ⟨_, ps_pass, k.nx ρ σ H h l rfl hh⟩
theorem xs_break (h : p.bk ρ) : XS X b ρ (.Break pos) p := fun σ H L D l hh k => ⟨_, ps_break, k.bk ρ σ H h l rfl hh⟩
theorem xs_cont (h : p.ct ρ) : XS X b ρ (.Continue pos) p := fun σ H L D l hh k => ⟨_, ps_continue, k.ct ρ σ H h l rfl hh⟩
theorem xs_drop (hs : swapsWith e none pos.line X.env = pure false := by rfl) (h : EV X b ρ e fun _ ρ' => ρ'.length = ρ.length → p.nx ρ') : XS X b ρ (.Expr e pos) p := fun σ H L D l hh k => ⟨_, ps_expr (we_pe e) hs, h σ H L _ l hh fun r ρ' v H' hp l' hh' => k.nx ρ' σ H' (hp (l'.symm.trans l)) l' (l'.symm.trans l) hh'.drop⟩
theorem xs_if {c : Expr} {s1 s2 : List Stmt} (h : ET X b ρ c fun t ρ' => ρ'.length = ρ.length → (t = true → XB X b ρ' s1 p) ∧ (t = false → XB X b ρ' s2 p)) : XS X b ρ (.If c s1 s2 pos) p := fun σ H L D l hh k =>
  ⟨_, ps_if (wt_pt c) (wss_pss s1) (wss_pss s2), h σ H L _ l hh fun t ρ' H' hp l' hh' => by
    have n' := l'.symm.trans l
    obtain ⟨h1, h2⟩ := hp n'
    cases t with
    | true => exact h1 rfl σ H' L D l' hh' (by rw [n']; exact k)
    | false => exact h2 rfl σ H' L D l' hh' (by rw [n']; exact k)⟩
/-! ### stores -/
theorem wipe_set {σ : L2.St} {i : Nat} {x : Option V} : ∀ {ts : List Nat}, i ∈ ts → L2.wipe (σ.set i x) ts = L2.wipe σ ts
  | t :: ts, h => by
    unfold L2.wipe
    by_cases hi : i ∈ ts
    · rw [wipe_set hi]
    · have ht : i = t := by
        rcases List.mem_cons.mp h with h | h
        · exact h
        · exact absurd h hi
      subst ht
      have : L2.wipe (σ.set i x) ts = (L2.wipe σ ts).set i x := by
        clear h
        induction ts with
        | nil => rfl
        | cons u ts ih =>
          have hu : i ≠ u := fun e => hi (by rw [e]; exact List.mem_cons_self)
          unfold L2.wipe
          rw [ih (fun z => hi (List.mem_cons_of_mem _ z)), List.set_comm _ _ hu]
      rw [this, List.set_set]
theorem zip_set {σ : L2.St} : ∀ {ρ : List Sl} {i : Nat} {r : Sl} {x : Option V}, i < ρ.length → σ.length = ρ.length → ∃ c M, (σ.zip ρ).Perm (c :: M) ∧ ((σ.set i x).zip (ρ.set i r)).Perm ((x, r) :: M) := by
  intro ρ i r x hi l
  have h1 : ρ[i]? = some ρ[i] := List.getElem?_eq_getElem hi
  have h2 : σ[i]? = some σ[i] := List.getElem?_eq_getElem (by omega)
  obtain ⟨M, p1, _⟩ := set_perm (s' := r) h1 h2
  refine ⟨_, M, p1, ?_⟩
  clear h1 h2
  have : ∀ (σ : L2.St) (ρ : List Sl) (i : Nat) (hi : i < ρ.length) (hs : i < σ.length) (M : List Cl), (σ.zip ρ).Perm ((σ[i], ρ[i]) :: M) → ((σ.set i x).zip (ρ.set i r)).Perm ((x, r) :: M) := by
    intro σ
    induction σ with
    | nil => intro ρ i _ hs; simp at hs
    | cons y σ ih =>
      intro ρ i hi hs M hM
      cases ρ with
      | nil => simp at hi
      | cons z ρ =>
        cases i with
        | zero =>
          simp at hM ⊢
          exact hM
        | succ i =>
          simp only [List.getElem_cons_succ, List.zip_cons_cons, List.set_cons_succ] at hM ⊢
          have hm : (y, z) ∈ (σ[i]'(by simpa using hs), ρ[i]'(by simpa using hi)) :: M := hM.mem_iff.mp List.mem_cons_self
          obtain ⟨M1, q1, _⟩ := set_perm (σ := σ) (ρ := ρ) (s' := r) (List.getElem?_eq_getElem (by simpa using hi)) (List.getElem?_eq_getElem (by simpa using hs))
          have h3 := ih ρ i (by simpa using hi) (by simpa using hs) M1 q1
          have e1 : ((y, z) :: (σ[i]'(by simpa using hs), ρ[i]'(by simpa using hi)) :: M1).Perm ((σ[i]'(by simpa using hs), ρ[i]'(by simpa using hi)) :: M) := (List.Perm.cons _ q1.symm).trans hM
          have e2 : ((y, z) :: M1).Perm M := by
            exact ((List.Perm.swap (y, z) (σ[i]'(by simpa using hs), ρ[i]'(by simpa using hi)) M1).trans e1).cons_inv
          exact ((List.Perm.cons _ h3).trans (.swap ..)).trans (List.Perm.cons _ e2)
  exact this σ ρ i hi (by omega) M p1
theorem eg_name (i : Nat) {ts : List Nat} {r : Sl} {p : List Sl → Prop} {x : Str} (hN : X.N.Nodup) (hi : X.N[i]? = some x) (hx : Loc X.env.scope x) (hl : i < ρ.length) (ht : i ∈ ts) (h : p (ρ.set i r)) (hf : X.fn x = true ∨ X.env.scope.names.lookup x = some .local := by first | exact .inl rfl | exact .inr rfl | assumption) : EG X b ts ρ (.Name x pos) r p := fun σ H L v Q l hh k => by
  refine ⟨_, pg_name hN hi hx hf, ?_⟩
  obtain ⟨c, M, p1, p2⟩ := zip_set (r := r) (x := some v) hl l
  refine k _ _ H h (by simp [l]) (by simp) (wipe_set ht) ?_
  have h1 : Hold X.K b H (c :: ((some v, r) :: (M ++ L))) := hh.perm ((List.Perm.swap ..).trans (List.Perm.cons _ (p1.symm.append_right L)))
  exact h1.drop.perm (p2.append_right L)
theorem egs_nil {ts : List Nat} {p : List Sl → Prop} (h : p ρ) : EGs X b ts ρ [] [] p := fun σ H L vs Q l lv hh k => by
  have : vs = [] := List.length_eq_zero_iff.mp (by simpa using lv)
  subst this
  exact ⟨_, pgs_nil, rfl, k ρ σ H h l rfl rfl hh⟩
theorem egs_cons {ts : List Nat} {tg : Expr} {tgs : List Expr} {r : Sl} {rs : List Sl} {p : List Sl → Prop} (hs : (assignEach (tg :: tgs) X.env).map (·.2) = assign tg X.env :: (assignEach tgs X.env).map (·.2) := by rfl) (h : EG X b ts ρ tg r fun ρ' => ρ'.length = ρ.length → EGs X b ts ρ' tgs rs p) : EGs X b ts ρ (tg :: tgs) (r :: rs) p := fun σ H L vs Q l lv hh k => by
  cases vs with
  | nil => simp at lv
  | cons v vs =>
    refine ⟨_, pgs_cons (wg_pg tg) (wgs_pgs tgs) hs, v, vs, rfl, ?_⟩
    have hh : Hold X.K b H ((some v, r) :: (((vs.map some).zip rs) ++ (σ.zip ρ ++ L))) := hh
    refine h σ H ((vs.map some).zip rs ++ L) v _ l (hh.perm (List.Perm.cons _ ?_)) fun ρ' σ' H' h1 l' n' w' hh' => ?_
    · rw [← List.append_assoc, ← List.append_assoc]
      exact List.Perm.append_right _ List.perm_append_comm
    · refine h1 n' σ' H' L vs Q l' (by simpa using lv) (hh'.perm ?_) fun ρ2 σ2 H2 hp l2 n2 w2 hh2 => k ρ2 σ2 H2 hp l2 (n2.trans n') (w2.trans w') hh2
      rw [← List.append_assoc, ← List.append_assoc]
      exact List.Perm.append_right _ List.perm_append_comm
/-- a, b = a tuple of data -/
theorem eg_tup {ts : List Nat} {tgs : List Expr} {k0 : Nat} {ys : List PyData} {p : List Sl → Prop} (hc : X.calm = true) (hn : ys.length = tgs.length) (hna : (assignEach tgs X.env).length = tgs.length := by rfl) (hst : (assignEach tgs X.env).findIdx? (·.1) = none := by rfl) (h : EGs X b ts ρ tgs (ys.map .d) p) : EG X b ts ρ (.Tuple tgs k0 pos) (.d (.tuple ys)) p := fun σ H L v Q l hh k => by
  obtain ⟨G, hg⟩ := hh
  cases hg.seq with
  | @tup a xs _ h1 h2 =>
    refine ⟨_, pg_tup hc (wgs_pgs tgs) hna hst, a, xs, rfl, hg.up.tup h1, (DpAll.len h2).trans hn, ?_⟩
    refine h σ H L xs Q l (by rw [List.length_map]; exact DpAll.len h2) ⟨G, ?_⟩ k
    have hd := hg.drop
    clear hg h1
    have : ∀ {xs : List V} {ys : List PyData}, DpAll X.K G xs ys → HoldG X.K b G H (((xs.map some).zip (ys.map .d)) ++ (σ.zip ρ ++ L)) := by
      intro xs ys hx
      induction xs generalizing ys with
      | nil => cases hx; exact hd
      | cons x xs ih => cases hx with | cons g1 g2 => exact (ih g2).add g1
    exact this h2
theorem xs_asg {tg : Expr} {ts : List Nat} (hs : swapsWithSole [tg] e pos.line X.env = pure false := by rfl) (hw : swappedStores [tg] e X.env = pure none := by rfl) (ha : (assignEach [tg] X.env).map (·.2) = [assign tg X.env] := by rfl) (h : EV X b ρ e fun r ρ' => ρ'.length = ρ.length → EG X b ts ρ' tg r fun ρ2 => ρ2.length = ρ.length → p.nx ρ2) : XS X b ρ (.Assign [tg] e pos) p := fun σ H L D l hh k =>
  ⟨_, ps_asg (we_pe e) (wg_pg tg) hs hw ha, h σ H L _ l hh fun r ρ' v H' h1 l' hh' => h1 (l'.symm.trans l) σ H' L v _ l' hh' fun ρ2 σ2 H2 hp l2 n2 _ hh2 => k.nx ρ2 σ2 H2 (hp (n2.trans (l'.symm.trans l))) l2 (n2.trans (l'.symm.trans l)) hh2⟩
/-- name = e -/
theorem xs_set (i : Nat) {x : Str} {pos' : Pos} (hN : X.N.Nodup) (hi : X.N[i]? = some x) (hx : Loc X.env.scope x) (hl : i < ρ.length) (hs : swapsWith e (some (.Name x pos')) pos.line X.env = pure false := by rfl) (hf : X.fn x = true ∨ X.env.scope.names.lookup x = some .local := by first | exact .inl rfl | exact .inr rfl | assumption)
    (h : EV X b ρ e fun r ρ' => ρ'.length = ρ.length → p.nx (ρ'.set i r)) : XS X b ρ (.Assign [.Name x pos'] e pos) p := fun σ H L D l hh k =>
  ⟨_, ps_set hN hi hx (we_pe e) hs hf, h σ H L _ l hh fun r ρ' v H' h1 l' hh' => by
    have n' := l'.symm.trans l
    obtain ⟨c, M, p1, p2⟩ := zip_set (r := r) (x := some v) (by rw [n']; exact hl) l'
    refine k.nx _ _ H' (h1 n') (by simp [l']) (by simp [n']) ?_
    have h2 : Hold X.K b H' (c :: ((some v, r) :: (M ++ L))) := hh'.perm ((List.Perm.swap ..).trans (List.Perm.cons _ (p1.symm.append_right L)))
    exact h2.drop.perm (p2.append_right L)⟩
end

end DE

namespace DE
open PySem PySem.Spec PyProof.Rows L2 SZ VR VX StX RT
/-! ### calls of defs -/
def cool : Sl → Sl
  | .own ys => .d (.list ys)
  | s => s
def setS : Sl → List PyData → Sl
  | .own _, ys => .own ys
  | _, ys => .bor ys
section
variable {K : PySem.W.Frag} {b : Bs} {G H H' : Hp} {L : List Cl}
theorem Hold.cool {x : Option V} {s : Sl} (h : Hold K b H ((x, s) :: L)) : Hold K b H ((x, DE.cool s) :: L) := by
  cases s with
  | own ys => exact h.freeze
  | _ => exact h
theorem Hold.coolAll : ∀ {vs : List V} {rs : List Sl} {L : List Cl}, Hold K b H ((vs.map some).zip rs ++ L) → Hold K b H ((vs.map some).zip (rs.map DE.cool) ++ L)
  | [], _, _, h => by simpa using h
  | _ :: _, [], _, h => h
  | v :: vs, r :: rs, L, h => by
    have h1 : Hold K b H ((some v, r) :: ((vs.map some).zip rs ++ L)) := h
    have h2 := h1.cool.perm (L' := (vs.map some).zip rs ++ ((some v, DE.cool r) :: L)) perm_in.symm
    exact (Hold.coolAll h2).perm perm_in
/-- no list held alone -/
def flatS : Sl → Bool
  | .d _ => true
  | .fact _ _ => true
  | .un => true
  | _ => false
theorem flat_ads : ∀ {L : List Cl}, (∀ c ∈ L, flatS c.2 = true) → ads L = []
  | [], _ => rfl
  | c :: L, h => by
    rw [ads_cons, flat_ads fun d hd => h d (List.mem_cons_of_mem _ hd)]
    have := h c List.mem_cons_self
    rcases c with ⟨_ | v, s⟩
    · cases s <;> simp [ads]
    · cases s <;> first | (simp [flatS] at this; done) | (cases v <;> simp [ads])
theorem HoldG.sub0 {M : List Cl} (h : HoldG K b G H (M ++ L)) (hf : ∀ c ∈ M, flatS c.2 = true) : HoldG K ⟨G, H, []⟩ G H M :=
  ⟨Same.refl _, h.up, fun a o e => .inl e, fun a o e _ => e, fun a ha => (nomatch ha), fun c hc => by
    have ok := h.ok c (List.mem_append_left _ hc)
    have := hf c hc
    rcases c with ⟨x, s⟩
    cases s with
    | un => trivial
    | d y => exact ok
    | fact φ st => exact ok
    | own ys => exact absurd this Bool.false_ne_true
    | bor ys => exact absurd this Bool.false_ne_true
    | dct o kvs => exact absurd this Bool.false_ne_true, by rw [flat_ads hf]; exact List.nodup_nil, h.fl⟩
theorem HoldG.subB {M : List Cl} {a : Addr} {s : Sl} {ys : List PyData} (h : HoldG K b G H ((some (.ref a), s) :: (M ++ L))) (hs : s = .own ys ∨ s = .bor ys) (hf : ∀ c ∈ M, flatS c.2 = true) : HoldG K ⟨G, H, [a]⟩ G H ((some (.ref a), .bor ys) :: M) := by
  have h0 : G a = none ∧ ∃ vs, H a = some (.lst vs) ∧ DpAll K G vs ys := by
    have ok := h.ok _ List.mem_cons_self
    rcases hs with rfl | rfl
    · obtain ⟨q, vs, e, _, h2, h3, h4⟩ := ok; cases e; exact ⟨h2, vs, h3, h4⟩
    · obtain ⟨q, vs, e, _, h2, h3, h4⟩ := ok; cases e; exact ⟨h2, vs, h3, h4⟩
  obtain ⟨g, vs, h3, h4⟩ := h0
  have f := (HoldG.sub0 h.drop hf)
  refine ⟨Same.refl _, h.up, fun a o e => .inl e, fun a o e _ => e, fun c hc => ?_, fun c hc => ?_, ?_, h.fl⟩
  · rw [List.mem_singleton.mp hc, h3]; exact ⟨rfl, TbOk.refl _ _⟩
  · rcases List.mem_cons.mp hc with rfl | hc
    · exact ⟨a, vs, rfl, List.mem_singleton_self _, g, h3, h4⟩
    · have ok := f.ok c hc
      have := hf c hc
      rcases c with ⟨x, s⟩
      cases s with
      | un => trivial
      | d y => exact ok
      | fact φ st => exact ok
      | own ys => exact absurd this Bool.false_ne_true
      | bor ys => exact absurd this Bool.false_ne_true
      | dct o kvs => exact absurd this Bool.false_ne_true
  · show (a :: ads M).Nodup
    rw [flat_ads hf]
    exact List.nodup_cons.mpr ⟨by simp, List.nodup_nil⟩
/-- behind a call: what the caller holds -/
theorem HoldG.after (h : HoldG K b G H L) {r : Sl} {v : V} (k : Hold K ⟨G, H, []⟩ H' [(some v, r)]) (hr : ∀ ys, r ≠ .bor ys) : Hold K b H' ((some v, r) :: L) := by
  obtain ⟨G', k⟩ := k
  have keep : ∀ a o, H a = some o → H' a = some o := fun a o e => k.rest a o e (by simp)
  have gn : ∀ a, G a = none → (H a).isSome = true → G' a = none := fun a e hs => by
    cases q : G' a with
    | none => rfl
    | some o =>
      rcases k.new a o q with z | z
      · have z : G a = some o := z; rw [e] at z; cases z
      · have z : H a = none := z; rw [z] at hs; cases hs
  refine ⟨G', h.old.trans k.old, k.up, fun a o e => ?_, fun a o e n => keep a o (h.rest a o e n), fun a ha => ?_, fun c hc => ?_, ?_, k.fl⟩
  · rcases k.new a o e with z | z
    · exact h.new a o z
    · exact .inr (h.fresh z)
  · refine ⟨?_, (h.bs a ha).2.of fun c u e _ _ => keep c u e⟩
    have := (h.bs a ha).1
    cases q : H a with
    | none => rw [q] at this; cases this
    | some o => rw [keep a o q]; rfl
  · rcases List.mem_cons.mp hc with rfl | hc
    · have ok := k.ok _ List.mem_cons_self
      cases r with
      | un => trivial
      | d y => exact ok
      | fact φ st => exact ok
      | bor ys => exact absurd rfl (hr ys)
      | dct o kvs => obtain ⟨q, vs, e, h1, h2, h3, h4⟩ := ok; exact ⟨q, vs, e, h1.imp (fun z => ⟨z.1, h.fresh z.2⟩) (fun z => absurd z.2.1 (by simp)), h2, h3, h4⟩
      | own ys => obtain ⟨q, vs, e, h1, h2, h3, h4⟩ := ok; exact ⟨q, vs, e, h.fresh h1, h2, h3, h4⟩
    · have ok := h.ok c hc
      rcases c with ⟨x, s⟩
      cases s with
      | un => trivial
      | d y => obtain ⟨v, e, z⟩ := ok; exact ⟨v, e, Dp.keep k.old z⟩
      | fact φ st => obtain ⟨v, e, z⟩ := ok; exact ⟨v, e, st _ _ _ k.old z⟩
      | own ys => obtain ⟨q, vs, e, h1, h2, h3, h4⟩ := ok; exact ⟨q, vs, e, h1, gn q h2 (by rw [h3]; rfl), keep _ _ h3, DpAll.keep k.old h4⟩
      | bor ys => obtain ⟨q, vs, e, h1, h2, h3, h4⟩ := ok; exact ⟨q, vs, e, h1, gn q h2 (by rw [h3]; rfl), keep _ _ h3, DpAll.keep k.old h4⟩
      | dct o kvs => obtain ⟨q, vs, e, h1, h2, h3, h4⟩ := ok; exact ⟨q, vs, e, h1, gn q h2 (by rw [h3]; rfl), keep _ _ h3, DpK.keep k.old h4⟩
  · rw [ads_cons]
    have ok := k.ok _ List.mem_cons_self
    cases r with
    | dct o kvs =>
      obtain ⟨q, vs, e, h1, h2, h3, h4⟩ := ok
      cases e
      refine List.nodup_cons.mpr ⟨fun hm => ?_, h.nd⟩
      obtain ⟨_, vs', e⟩ := h.adsH hm
      have h1 : H q = none := (h1.resolve_right (fun z => absurd z.2.1 (by simp))).2
      rw [h1] at e; cases e
    | own ys =>
      obtain ⟨q, vs, e, h1, h2, h3, h4⟩ := ok
      cases e
      refine List.nodup_cons.mpr ⟨fun hm => ?_, h.nd⟩
      obtain ⟨_, vs', e⟩ := h.adsH hm
      have h1 : H q = none := h1
      rw [h1] at e; cases e
    | bor ys => exact absurd rfl (hr ys)
    | un => cases v <;> simpa [ads] using h.nd
    | d y => cases v <;> simpa [ads] using h.nd
    | fact φ st => cases v <;> simpa [ads] using h.nd
theorem HoldG.afterB {a : Addr} {s s' : Sl} {ys ys' : List PyData} (h : HoldG K b G H ((some (.ref a), s) :: L)) {r : Sl} {v : V} (k : Hold K ⟨G, H, [a]⟩ H' [(some v, r), (some (.ref a), .bor ys')]) (hr : ∀ ys, r ≠ .bor ys) (hs : (s = .own ys ∧ s' = .own ys') ∨ (s = .bor ys ∧ s' = .bor ys')) : Hold K b H' ((some v, r) :: (some (.ref a), s') :: L) := by
  obtain ⟨G', k⟩ := k
  have keep : ∀ c o, H c = some o → c ≠ a → H' c = some o := fun c o e n => k.rest c o e (by simpa using n)
  have gn : ∀ c, G c = none → (H c).isSome = true → G' c = none := fun c e hs => by
    cases q : G' c with
    | none => rfl
    | some o =>
      rcases k.new c o q with z | z
      · have z : G c = some o := z; rw [e] at z; cases z
      · have z : H c = none := z; rw [z] at hs; cases hs
  obtain ⟨q0, us, e0, _, g0, h0, d0⟩ := k.ok _ (List.mem_cons_of_mem _ List.mem_cons_self)
  cases e0
  have nd : (a :: ads L).Nodup := by rcases hs with ⟨rfl, _⟩ | ⟨rfl, _⟩ <;> exact h.nd
  have na := (List.nodup_cons.mp nd).1
  have as : ads ((some (V.ref a), s') :: L) = a :: ads L := by rcases hs with ⟨_, rfl⟩ | ⟨_, rfl⟩ <;> rfl
  have base : b.H a = none ∨ a ∈ b.B := by
    have ok := h.ok _ List.mem_cons_self
    rcases hs with ⟨rfl, _⟩ | ⟨rfl, _⟩
    · obtain ⟨q, _, e, z, _⟩ := ok; cases e; exact .inl z
    · obtain ⟨q, _, e, z, _⟩ := ok; cases e; exact .inr z
  refine ⟨G', h.old.trans k.old, k.up, fun c o e => ?_, fun c o e n => ?_, fun c hc => ?_, fun c hc => ?_, ?_, k.fl⟩
  · rcases k.new c o e with z | z
    · exact h.new c o z
    · exact .inr (h.fresh z)
  · refine keep c o (h.rest c o e n) fun z => ?_
    subst z
    rcases base with z | z
    · rw [z] at e; cases e
    · exact n z
  · refine ⟨?_, (h.bs c hc).2.of fun c2 u e n1 _ => keep c2 u e fun z => ?_⟩
    · by_cases z : c = a
      · subst z; rw [h0]; rfl
      · have := (h.bs c hc).1
        cases q : H c with
        | none => rw [q] at this; cases this
        | some o => rw [keep c o q z]; rfl
    · subst z
      have ok := h.ok _ List.mem_cons_self
      rcases hs with ⟨rfl, _⟩ | ⟨rfl, _⟩
      · obtain ⟨q, us, e2, _, _, h3, _⟩ := ok; cases e2; rw [h3] at e; cases e; exact n1 _ rfl
      · obtain ⟨q, us, e2, _, _, h3, _⟩ := ok; cases e2; rw [h3] at e; cases e; exact n1 _ rfl
  · rcases List.mem_cons.mp hc with rfl | hc
    · have ok := k.ok _ List.mem_cons_self
      cases r with
      | un => trivial
      | d y => exact ok
      | fact φ st => exact ok
      | bor ys => exact absurd rfl (hr ys)
      | dct o kvs =>
        obtain ⟨q, vs, e, h1, h2, h3, h4⟩ := ok
        refine ⟨q, vs, e, h1.imp (fun z => ⟨z.1, h.fresh z.2⟩) (fun hm => ?_), h2, h3, h4⟩
        rw [List.mem_singleton.mp hm.2.1, h0] at h3
        cases h3
      | own ys => obtain ⟨q, vs, e, h1, h2, h3, h4⟩ := ok; exact ⟨q, vs, e, h.fresh h1, h2, h3, h4⟩
    · rcases List.mem_cons.mp hc with rfl | hm
      · have ok := h.ok _ List.mem_cons_self
        rcases hs with ⟨rfl, rfl⟩ | ⟨rfl, rfl⟩
        · obtain ⟨q, _, e, z, _⟩ := ok; cases e; exact ⟨a, us, rfl, z, g0, h0, d0⟩
        · obtain ⟨q, _, e, z, _⟩ := ok; cases e; exact ⟨a, us, rfl, z, g0, h0, d0⟩
      · have ok := h.ok c (List.mem_cons_of_mem _ hm)
        rcases c with ⟨x, t⟩
        cases t with
        | un => trivial
        | d y => obtain ⟨v, e, z⟩ := ok; exact ⟨v, e, Dp.keep k.old z⟩
        | fact φ st => obtain ⟨v, e, z⟩ := ok; exact ⟨v, e, st _ _ _ k.old z⟩
        | own zs =>
          obtain ⟨q, vs, e, h1, h2, h3, h4⟩ := ok
          have n : q ≠ a := fun n => na (by subst n; subst e; exact ads_mem (.inl ⟨_, rfl⟩) hm)
          exact ⟨q, vs, e, h1, gn q h2 (by rw [h3]; rfl), keep _ _ h3 n, DpAll.keep k.old h4⟩
        | bor zs =>
          obtain ⟨q, vs, e, h1, h2, h3, h4⟩ := ok
          have n : q ≠ a := fun n => na (by subst n; subst e; exact ads_mem (.inr ⟨_, rfl⟩) hm)
          exact ⟨q, vs, e, h1, gn q h2 (by rw [h3]; rfl), keep _ _ h3 n, DpAll.keep k.old h4⟩
        | dct o kvs =>
          obtain ⟨q, vs, e, h1, h2, h3, h4⟩ := ok
          have n : q ≠ a := fun n => na (by subst n; subst e; exact ads_memD hm)
          exact ⟨q, vs, e, h1, gn q h2 (by rw [h3]; rfl), keep _ _ h3 n, DpK.keep k.old h4⟩
  · rw [ads_cons, as]
    have ok := k.ok _ List.mem_cons_self
    cases r with
    | dct o kvs =>
      obtain ⟨q, vs, e, h1, h2, h3, h4⟩ := ok
      cases e
      have h1 : H q = none := (h1.resolve_right fun hm => by
        rw [List.mem_singleton.mp hm.2.1, h0] at h3
        cases h3).2
      refine List.nodup_cons.mpr ⟨fun hm => ?_, nd⟩
      have hm' : q ∈ ads ((some (V.ref a), s) :: L) := by rcases hs with ⟨rfl, _⟩ | ⟨rfl, _⟩ <;> exact hm
      obtain ⟨_, vs', e⟩ := h.adsH hm'
      rw [h1] at e; cases e
    | own zs =>
      obtain ⟨q, vs, e, h1, h2, h3, h4⟩ := ok
      cases e
      have h1 : H q = none := h1
      refine List.nodup_cons.mpr ⟨fun hm => ?_, nd⟩
      have hm' : q ∈ ads ((some (V.ref a), s) :: L) := by rcases hs with ⟨rfl, _⟩ | ⟨rfl, _⟩ <;> exact hm
      obtain ⟨_, vs', e⟩ := h.adsH hm'
      rw [h1] at e; cases e
    | bor ys => exact absurd rfl (hr ys)
    | un => cases v <;> simpa [ads] using nd
    | d y => cases v <;> simpa [ads] using nd
    | fact φ st => cases v <;> simpa [ads] using nd
end
/-- a def that changes nothing it is handed -/
def spP (K : PySem.W.Frag) (Pre : List Sl → Prop) (Res : List Sl → Sl → Prop) : Sp := fun vs H Q _ => ∃ (G : Hp) (as : List Sl), vs.length = as.length ∧ HoldG K ⟨G, H, []⟩ G H ((vs.map some).zip as) ∧ Pre as ∧ ∀ r, Res as r → (∀ ys, r ≠ .bor ys) → ∀ v H', Hold K ⟨G, H, []⟩ H' [(some v, r)] → Q v H'
/-- a def that changes the list in its first place -/
def spB (K : PySem.W.Frag) (Pre : List PyData → List Sl → Prop) (Res : List PyData → List Sl → Sl → List PyData → Prop) : Sp := fun vs H Q _ => ∃ (G : Hp) (a : Addr) (us : List V) (ys : List PyData) (as : List Sl), vs = .ref a :: us ∧ us.length = as.length ∧ HoldG K ⟨G, H, [a]⟩ G H ((some (.ref a), .bor ys) :: (us.map some).zip as) ∧
  Pre ys as ∧ ∀ r ys', Res ys as r ys' → (∀ zs, r ≠ .bor zs) → ∀ v H', Hold K ⟨G, H, [a]⟩ H' [(some v, r), (some (.ref a), .bor ys')] → Q v H'
section
variable {X : Cx} {b : Bs} {ρ : List Sl} {p : Sl → List Sl → Prop} {e : Expr} {es : List Expr}
theorem flat_zip {vs : List V} : ∀ {rs : List Sl}, (∀ r ∈ rs, flatS r = true) → ∀ c ∈ (vs.map some).zip rs, flatS c.2 = true := fun h c hc => h _ (List.of_mem_zip hc).2
theorem ev_call {CX : CXT} {k : Nat} {f : Addr} {fd : FuncData} {ps : List Str} {Pre : List Sl → Prop} {Res : List Sl → Sl → Prop} {x : Str} {p1 cp : Pos} (F : FnOk X.prog X.w X.K X.mg X.base CX k f fd ps (spP X.K Pre Res)) (hr : Room k X.A) (hg : Gl X x) (hm : X.mg x = some (.ref f)) (hk : PySem.W.keepIn X.K (.ref f) = true) (hb : Binds X.K fd ps []) {E : XK} (hx : Passes CX X E)
    (h : EA X b ρ (e :: es) fun rs ρ' => (∀ r ∈ rs.map cool, flatS r = true) ∧ Pre (rs.map cool) ∧ ∀ r, Res (rs.map cool) r → (∀ ys, r ≠ .bor ys) ∧ p r ρ')
    (hdb : (x == ("__debug__" : Str)) = false := by decide) (he : starEach (e :: es) X.env = (false, eval e X.env) :: starEach es X.env := by rfl) (hpl : (backTo cp (starEach es X.env)).any (·.1) = false := by rfl) : EV X b ρ (.Call (.Name x p1) (e :: es) [] cp) p := fun σ H L Q l hh q =>
  ⟨_, pe_call F hr hg hm hk hb .nil hx (wa_pa _) hdb he hpl, h σ H L _ l hh fun rs ρ' vs H' ⟨hf, hp, h2⟩ l' lv hh' => by
    obtain ⟨G, hG⟩ := hh'.coolAll
    refine ⟨G, rs.map cool, by simp [lv], by rw [List.append_nil]; exact HoldG.sub0 hG (flat_zip hf), hp, fun r hr n v H2 hh2 => ?_⟩
    exact q r ρ' v H2 (h2 r hr).2 l' (hG.dropM.after hh2 n)⟩
theorem ev_call0 {CX : CXT} {k : Nat} {f : Addr} {fd : FuncData} {Pre : List Sl → Prop} {Res : List Sl → Sl → Prop} {x : Str} {p1 cp : Pos} (F : FnOk X.prog X.w X.K X.mg X.base CX k f fd [] (spP X.K Pre Res)) (hr : Room k X.A) (hg : Gl X x) (hm : X.mg x = some (.ref f)) (hk : PySem.W.keepIn X.K (.ref f) = true) (hb : Binds X.K fd [] []) {E : XK} (hx : Passes CX X E)
    (h : Pre [] ∧ ∀ r, Res [] r → (∀ ys, r ≠ .bor ys) ∧ p r ρ) (hdb : (x == ("__debug__" : Str)) = false := by decide) : EV X b ρ (.Call (.Name x p1) [] [] cp) p := fun σ H L Q l hh q =>
  ⟨_, pe_call0 F hr hg hm hk hb .nil hx hdb, by
    obtain ⟨G, hG⟩ := hh
    refine ⟨G, [], rfl, HoldG.sub0 (M := []) (L := σ.zip ρ ++ L) hG (by simp), h.1, fun r hr n v H2 hh2 => ?_⟩
    exact q r ρ v H2 (h.2 r hr).2 l (hG.after hh2 n)⟩
/-- f(x, e, ..): the list that the name at slot i holds alone is changed -/
theorem ev_callL (i : Nat) {CX : CXT} {k : Nat} {f : Addr} {fd : FuncData} {ps : List Str} {Pre : List PyData → List Sl → Prop} {Res : List PyData → List Sl → Sl → List PyData → Prop} {x y : Str} {p1 p2 cp : Pos} (F : FnOk X.prog X.w X.K X.mg X.base CX k f fd ps (spB X.K Pre Res)) (hr : Room k X.A) (hg : Gl X x) (hm : X.mg x = some (.ref f)) (hk : PySem.W.keepIn X.K (.ref f) = true) (hb : Binds X.K fd ps []) {E : XK} (hx : Passes CX X E)
    (hN : X.N[i]? = some y) (hv : Vis X.env.scope y)
    (h : EA X b ρ es fun rs ρ' => (∀ r ∈ rs.map cool, flatS r = true) ∧ ∃ s ys, ρ'[i]? = some s ∧ (s = .own ys ∨ s = .bor ys) ∧ Pre ys (rs.map cool) ∧ ∀ r ys', Res ys (rs.map cool) r ys' → (∀ ys, r ≠ .bor ys) ∧ p r (ρ'.set i (setS s ys')))
    (hs0 : ∃ s ys, ρ[i]? = some s ∧ (s = .own ys ∨ s = .bor ys))
    (hdy : (y == ("__debug__" : Str)) = false := by decide) (hcy : (y == ("__classdict__" : Str)) = false := by decide) (hdb : (x == ("__debug__" : Str)) = false := by decide) (he : starEach (.Name y p2 :: es) X.env = (false, eval (.Name y p2) X.env) :: starEach es X.env := by rfl) (hpl : (backTo cp (starEach es X.env)).any (·.1) = false := by rfl) : EV X b ρ (.Call (.Name x p1) (.Name y p2 :: es) [] cp) p := fun σ H L Q l hh q => by
  obtain ⟨s0, ys0, h0, k0⟩ := hs0
  obtain ⟨x0, hx0, hm0⟩ := zip_mem l h0
  have hv0 : ∃ a, x0 = some (.ref a) := by
    obtain ⟨G, hG⟩ := hh
    have ok := hG.ok _ (List.mem_append_left _ hm0)
    rcases k0 with rfl | rfl
    · obtain ⟨q, _, e, _⟩ := ok; exact ⟨q, e⟩
    · obtain ⟨q, _, e, _⟩ := ok; exact ⟨q, e⟩
  obtain ⟨a, rfl⟩ := hv0
  refine ⟨_, pe_call F hr hg hm hk hb .nil hx (pa_cons (pe_var hN hv hdy hcy) (wa_pa es) he) hdb he hpl, .ref a, hx0, ?_⟩
  refine h σ H L _ l hh fun rs ρ' vs H' ⟨hf, s, ys, hs, ks, hp, h2⟩ l' lv hh' => ?_
  obtain ⟨G, hG⟩ := hh'.coolAll
  obtain ⟨M, q1, q2⟩ := set_perm (s' := setS s ys) hs hx0
  have hG2 : HoldG X.K b G H' ((some (.ref a), s) :: (((vs.map some).zip (rs.map cool)) ++ (M ++ L))) := hG.perm (by
    refine ((perm_in (A := (vs.map some).zip (rs.map cool)) (M := M ++ L)).trans ?_)
    exact List.Perm.append_left _ (q1.symm.append_right L))
  refine ⟨G, a, vs, ys, rs.map cool, by simp, by simp [lv], HoldG.subB hG2 ks (flat_zip hf), hp, fun r ys' hr n v H2 hh2 => ?_⟩
  have hG3 : HoldG X.K b G H' ((some (.ref a), s) :: (M ++ L)) := (hG.dropM (M := (vs.map some).zip (rs.map cool))).perm (q1.symm.append_right L)
  obtain ⟨M', r1, r2⟩ := set_perm (s' := setS s ys') hs hx0
  have hMM : M.Perm M' := (q1.symm.trans r1).cons_inv
  refine q r _ v H2 (h2 r ys' hr).2 (by rw [List.length_set]; exact l') ?_
  have hA := hG3.afterB (ys := ys) (s' := setS s ys') hh2 n (by rcases ks with rfl | rfl <;> simp [setS])
  refine hA.perm (List.Perm.cons _ ?_)
  exact (r2.append_right L).trans (List.Perm.cons _ (hMM.symm.append_right L))
end

end DE

namespace DE
open PySem PySem.Spec PyProof.Rows L2 SZ VR VX StX RT
/-! ### the body of a def -/
section
variable {P : Program} {w : World} {K : PySem.W.Frag} {mg : Str → Option Value} {base : Heap}
theorem zip_start {N : List Str} {vs : List V} {as : List Sl} (l : vs.length = as.length) : (L2.start N vs).zip (as ++ List.replicate (N.length - as.length) .un) = (vs.map some).zip as ++ (List.replicate (N.length - as.length) (none : Option V)).zip (List.replicate (N.length - as.length) .un) := by
  unfold L2.start
  rw [List.zip_append (by simp [l]), l]
theorem hold_start {b : Bs} {H : Hp} {L : List Cl} : ∀ n : Nat, Hold K b H L → Hold K b H (L ++ (List.replicate n (none : Option V)).zip (List.replicate n Sl.un))
  | 0, h => by simpa using h
  | n + 1, h => by
    have h1 := hold_start n h
    rw [List.replicate_succ, List.replicate_succ, List.zip_cons_cons]
    exact h1.un.perm perm_in.symm
/-- where a def's body stands -/
theorem fn_P {x qual : Str} {st : Stmt} {f : Addr} {fd : FuncData} {N ps : List Str} {k : Nat} {Pre : List Sl → Prop} {Res : List Sl → Sl → Prop} (F : Fun K x qual st f fd) (S : FnScope N ps (defScope st)) (len : ∀ as, Pre as → as.length = ps.length) (hN : ps.length ≤ N.length)
    (h : ∀ (cdv : Value) (A : Around) (outer : List Env) (s : Shared) (H : Hp) (E : XK), Room k (A.deeper (envOfC qual (defScope st) s.heap.objs.size f cdv)) → ∀ (b : Bs) (as : List Sl), Pre as → XB (cxOf CX0 P w K mg base N qual (defScope st) f cdv A outer s H E).nox b (as ++ List.replicate (N.length - as.length) .un) (defBody st)
      ⟨fun _ => Res as (.d .none), fun r _ => Res as r ∧ ∀ ys, r ≠ .bor ys, fun _ => False, fun _ => False⟩) : FnOk P w K mg base CX0 (k + 1) f fd ps (spP K Pre Res) := by
  refine F.ok S (fun vs H Q E z => ?_) (fun cdv A outer s H vs Q E hr z => ?_)
  · obtain ⟨G, as, l, _, hp, _⟩ := z
    exact l.trans (len as hp)
  · obtain ⟨G, as, l, hG, hp, q⟩ := z
    obtain ⟨t, ht, hq⟩ := h cdv A outer s H E hr ⟨G, H, []⟩ as hp (L2.start N vs) H [] { nx := fun _ H' => Q .non H', rt := Q } (by unfold L2.start; have := len as hp; simp [l])
      (by rw [List.append_nil, zip_start l]; exact hold_start _ ⟨G, hG⟩)
      ⟨fun ρ' σ' H' hn l' n' hh => q (.d .none) hn (by simp) .non H' (hh.dropL (M := σ'.zip ρ') (L := []) |>.non), fun r ρ' v σ' H' hn l' n' hh => q r hn.1 hn.2 v H' ((hh.perm (L' := σ'.zip ρ' ++ [(some v, r)]) (by rw [List.append_nil]; exact List.perm_append_singleton _ _)).dropL), fun _ _ _ z => z.elim, fun _ _ _ z => z.elim⟩
    exact ⟨t, ht, hq⟩
/-- .. that changes the list in its first place -/
theorem fn_B {x qual : Str} {st : Stmt} {f : Addr} {fd : FuncData} {N ps : List Str} {k : Nat} {Pre : List PyData → List Sl → Prop} {Res : List PyData → List Sl → Sl → List PyData → Prop} (F : Fun K x qual st f fd) (S : FnScope N ps (defScope st)) (len : ∀ ys as, Pre ys as → as.length + 1 = ps.length)
    (h : ∀ (cdv : Value) (A : Around) (outer : List Env) (s : Shared) (H : Hp) (E : XK), Room k (A.deeper (envOfC qual (defScope st) s.heap.objs.size f cdv)) → ∀ (b : Bs) (ys : List PyData) (as : List Sl), Pre ys as → XB (cxOf CX0 P w K mg base N qual (defScope st) f cdv A outer s H E).nox b (.bor ys :: (as ++ List.replicate (N.length - (as.length + 1)) .un)) (defBody st)
      ⟨fun ρ' => ∃ ys', ρ'[0]? = some (.bor ys') ∧ Res ys as (.d .none) ys', fun r ρ' => ∃ ys', ρ'[0]? = some (.bor ys') ∧ Res ys as r ys' ∧ ∀ zs, r ≠ .bor zs, fun _ => False, fun _ => False⟩) : FnOk P w K mg base CX0 (k + 1) f fd ps (spB K Pre Res) := by
  refine F.ok S (fun vs H Q E z => ?_) (fun cdv A outer s H vs Q E hr z => ?_)
  · obtain ⟨G, a, us, ys, as, rfl, l, _, hp, _⟩ := z
    rw [List.length_cons, l]
    exact len ys as hp
  · obtain ⟨G, a, us, ys, as, rfl, l, hG, hp, q⟩ := z
    have one : ∀ {b : Bs} {H' : Hp} {L : List Cl} {x : Option V} {zs : List PyData}, b.B = [a] → Hold K b H' ((x, .bor zs) :: L) → x = some (.ref a) := fun {b H' L x zs} eb hh => by
      obtain ⟨G', hg⟩ := hh
      obtain ⟨q, _, e, hm, _⟩ := hg.ok _ List.mem_cons_self
      rw [eb] at hm
      rw [e, List.mem_singleton.mp hm]
    have get : ∀ {ρ' : List Sl} {σ' : L2.St} {H' : Hp} {zs : List PyData} {M : List Cl}, ρ'[0]? = some (.bor zs) → σ'.length = ρ'.length → Hold K ⟨G, H, [a]⟩ H' (M ++ σ'.zip ρ') → Hold K ⟨G, H, [a]⟩ H' (M ++ [(some (.ref a), .bor zs)]) := fun {ρ' σ' H' zs M} h0 l' hh => by
      cases ρ' with
      | nil => simp at h0
      | cons r ρ' =>
        cases σ' with
        | nil => simp at l'
        | cons y σ' =>
          have h0 : r = .bor zs := by simpa using h0
          subst h0
          have h1 : Hold K ⟨G, H, [a]⟩ H' ((y, .bor zs) :: (M ++ σ'.zip ρ')) := hh.perm perm_in
          have ey := one rfl h1
          subst ey
          refine (h1.perm (L' := σ'.zip ρ' ++ (M ++ [(some (.ref a), .bor zs)])) ?_).dropL
          rw [← List.append_assoc]
          exact (List.perm_append_singleton _ _).trans (List.Perm.cons _ List.perm_append_comm)
    obtain ⟨t, ht, hq⟩ := h cdv A outer s H E hr ⟨G, H, [a]⟩ ys as hp (L2.start N (.ref a :: us)) H [] { nx := fun _ H' => Q .non H', rt := Q } (by unfold L2.start; simp [l])
      (by
        rw [List.append_nil]
        have := zip_start (N := N) (vs := .ref a :: us) (as := .bor ys :: as) (by simp [l])
        rw [List.cons_append] at this
        rw [show (List.length as + 1) = (Sl.bor ys :: as).length from rfl, this]
        exact hold_start _ ⟨G, hG⟩)
      ⟨fun ρ' σ' H' ⟨ys', e0, hn⟩ l' n' hh => q (.d .none) ys' hn (by simp) .non H' (get (M := [(some .non, .d .none)]) e0 l' (by rw [List.append_nil] at hh; exact hh.non)), fun r ρ' v σ' H' ⟨ys', e0, hn, nb⟩ l' n' hh => q r ys' hn nb v H' (get (M := [(some v, r)]) e0 l' (by rw [List.append_nil] at hh; exact hh)), fun _ _ _ z => z.elim, fun _ _ _ z => z.elim⟩
    exact ⟨t, ht, hq⟩
end
/-! ### loops -/
section
variable {X : Cx} {b : Bs} {ρ : List Sl} {p : Po} {e tg : Expr} {body : List Stmt} {pos : Pos}
/-- these are the items at v -/
def itemsL (K : PySem.W.Frag) (xs : List V) (ys : List PyData) : Sl := .fact (fun v G => ∃ a, v = .ref a ∧ SqL K G a xs ∧ DpAll K G xs ys) (fun _ _ _ s ⟨a, e, h1, h2⟩ => ⟨a, e, s.seq h1, DpAll.keep s h2⟩)
def itemsT (K : PySem.W.Frag) (xs : List V) (ys : List PyData) : Sl := .fact (fun v G => ∃ a, v = .ref a ∧ SqT K G a xs ∧ DpAll K G xs ys) (fun _ _ _ s ⟨a, e, h1, h2⟩ => ⟨a, e, s.tup h1, DpAll.keep s h2⟩)
def loopI (p : Po) (I : Nat → List Sl → Prop) (i : Nat) : Po := ⟨I (i + 1), p.rt, p.nx, I (i + 1)⟩
theorem vals1_of {vs : List V} {i : Int} {K : PySem.W.Frag} {H : Hp} {L : List Cl} (lv : vs.length = 1) (h : Hold K b H ((vs.map some).zip [.d (.int i)] ++ L)) : vs = [.int i] ∧ Hold K b H L := by
  obtain ⟨v, rfl⟩ := List.length_eq_one_iff.mp lv
  have h : Hold K b H ((some v, .d (.int i)) :: L) := h
  exact ⟨by rw [h.isI], h.drop⟩
theorem xs_while {c : Expr} (hp : PassesOwn (model X.prog X.w) X.A X.env X.xe) (I : Nat → List Sl → Prop) (m0 : Nat) (h0 : I m0 ρ)
    (h : ∀ m ρ', ρ'.length = ρ.length → I m ρ' → ET X b ρ' c fun t ρ2 => ρ2.length = ρ.length → (t = true → XB X b ρ2 body ⟨fun ρ3 => ∃ m', m' < m ∧ I m' ρ3, p.rt, p.nx, fun ρ3 => ∃ m', m' < m ∧ I m' ρ3⟩) ∧ (t = false → p.nx ρ2)) : XS X b ρ (.While c body [] pos) p := fun σ H L D l hh k =>
  ⟨_, ps_while hp (wt_pt c) (wss_pss body), fun m σ' H' => ∃ ρ', I m ρ' ∧ σ'.length = ρ'.length ∧ ρ'.length = ρ.length ∧ Hold X.K b H' (σ'.zip ρ' ++ L), ⟨m0, ρ, h0, l, rfl, hh⟩, fun m σ' H' ⟨ρ', hi, l', n', hh'⟩ => h m ρ' n' hi σ' H' L _ l' hh' fun t ρ2 H2 h2 l2 hh2 => by
    have n2 := (l2.symm.trans l').trans n'
    obtain ⟨h3, h4⟩ := h2 n2
    cases t with
    | true => exact ⟨fun σ3 H3 => ∃ m', m' < m ∧ ∃ ρ', I m' ρ' ∧ σ3.length = ρ'.length ∧ ρ'.length = ρ.length ∧ Hold X.K b H3 (σ3.zip ρ' ++ L), fun _ _ z => z, h3 rfl σ' H2 L { D with nx := _, ct := _, bk := D.nx } l2 hh2 ⟨fun ρ3 σ3 H3 ⟨m', hm, z⟩ l3 n3 hh3 => ⟨m', hm, ρ3, z, l3, n3.trans n2, hh3⟩, fun r ρ3 v σ3 H3 z l3 n3 hh3 => k.rt r ρ3 v σ3 H3 z l3 (n3.trans n2) hh3, fun ρ3 σ3 H3 z l3 n3 hh3 => k.nx ρ3 σ3 H3 z l3 (n3.trans n2) hh3, fun ρ3 σ3 H3 ⟨m', hm, z⟩ l3 n3 hh3 => ⟨m', hm, ρ3, z, l3, n3.trans n2, hh3⟩⟩⟩
    | false => exact k.nx ρ2 σ' H2 (h4 rfl) l2 n2 hh2⟩
end

end DE

namespace DE
open PySem PySem.Spec PyProof.Rows L2 SZ VR VX StX RT
/-! ### comprehensions -/
def wipeR (ρ : List Sl) : List Nat → List Sl
  | [] => ρ
  | v :: vs => (wipeR ρ vs).set v .un
theorem wipeR_len (ρ : List Sl) : ∀ vs : List Nat, (wipeR ρ vs).length = ρ.length
  | [] => rfl
  | v :: vs => by unfold wipeR; rw [List.length_set, wipeR_len ρ vs]
def AllB (X : Cx) (scope : Scope) (φ : Cx → Prop) : Prop := ∀ (s : Shared) (H : Hp) (C : Addr) (cl : List (Str × Addr)) (fp : List Addr), φ (X.blk s H scope (compEnvC scope cl C X.env) fp)
def WTs (X : Cx) (es : List Expr) (σ : L2.St) (H : Hp) (Q : Bool → Hp → Prop) : Prop := ∃ t, PTs X es t ∧ t σ H Q
theorem wts_pts {X : Cx} (es : List Expr) : PTs X es (WTs X es) := ⟨fun pins s σ H Q I ⟨_, h, q⟩ => h.run pins s σ H Q I q⟩
def ETs (X : Cx) (b : Bs) (ρ : List Sl) (es : List Expr) (p : Bool → List Sl → Prop) : Prop := ∀ σ H L Q, σ.length = ρ.length → Hold X.K b H (σ.zip ρ ++ L) →
  (∀ c ρ' H', p c ρ' → σ.length = ρ'.length → Hold X.K b H' (σ.zip ρ' ++ L) → Q c H') → WTs X es σ H Q
section
variable {X : Cx} {b : Bs} {ρ : List Sl} {e : Expr} {q : Bool → List Sl → Prop}
theorem ets_nil (h : q true ρ) : ETs X b ρ [] q := fun σ H L Q l hh k => ⟨_, pts_nil, k true ρ H h l hh⟩
theorem ets_one (h : ET X b ρ e q) : ETs X b ρ [e] q := fun σ H L Q l hh k => ⟨_, pts_one (wt_pt e), h σ H L _ l hh k⟩
end
section
variable {K : PySem.W.Frag} {b : Bs} {H : Hp} {L : List Cl} {σ : L2.St} {ρ : List Sl}
theorem hold_setun {i : Nat} {x : Option V} (l : σ.length = ρ.length) (h : Hold K b H (σ.zip ρ ++ L)) : Hold K b H ((σ.set i x).zip (ρ.set i .un) ++ L) := by
  by_cases hi : i < ρ.length
  · obtain ⟨c, M, p1, p2⟩ := zip_set (r := .un) (x := x) hi l
    exact ((h.perm (p1.symm.append_right L)).drop.un (x := x)).perm (p2.append_right L)
  · rw [List.set_eq_of_length_le (by omega), List.set_eq_of_length_le (by omega)]
    exact h
theorem hold_wipe (l : σ.length = ρ.length) (h : Hold K b H (σ.zip ρ ++ L)) : ∀ vs : List Nat, Hold K b H ((L2.wipe σ vs).zip (wipeR ρ vs) ++ L)
  | [] => h
  | v :: vs => by
    unfold L2.wipe wipeR
    exact hold_setun (by rw [wipe_length, wipeR_len]; exact l) (hold_wipe l h vs)
theorem hold_unwipe {ρ : List Sl} (l : σ.length = ρ.length) : ∀ (vs : List Nat), (∀ v ∈ vs, ρ[v]? = some .un) → Hold K b H ((L2.wipe σ vs).zip ρ ++ L) → Hold K b H (σ.zip ρ ++ L)
  | [], _, h => h
  | v :: vs, hu, h => by
    unfold L2.wipe at h
    refine hold_unwipe l vs (fun u hu' => hu u (List.mem_cons_of_mem _ hu')) ?_
    have hv := hu v List.mem_cons_self
    have hi : v < ρ.length := (List.getElem?_eq_some_iff.mp hv).1
    have hs : (L2.wipe σ vs)[v]? = some ((L2.wipe σ vs)[v]'(by rw [wipe_length, l]; exact hi)) := List.getElem?_eq_getElem _
    have h2 := hold_setun (i := v) (x := (L2.wipe σ vs)[v]'(by rw [wipe_length, l]; exact hi)) (by rw [List.length_set, wipe_length]; exact l) h
    rw [List.set_set, List.set_getElem_self] at h2
    have e2 : ρ.set v .un = ρ := by
      refine List.ext_getElem? fun j => ?_
      by_cases e : v = j
      · subst e; rw [List.getElem?_set_self hi]; exact hv.symm
      · rw [List.getElem?_set_ne e]
    rw [e2] at h2
    exact h2
theorem wipeR_un {ρ : List Sl} : ∀ {vs : List Nat}, (∀ v ∈ vs, ρ[v]? = some .un) → wipeR ρ vs = ρ
  | [], _ => rfl
  | v :: vs, h => by
    unfold wipeR
    rw [wipeR_un fun u hu => h u (List.mem_cons_of_mem _ hu)]
    have hv := h v List.mem_cons_self
    have hi : v < ρ.length := (List.getElem?_eq_some_iff.mp hv).1
    refine List.ext_getElem? fun j => ?_
    by_cases e : v = j
    · subst e; rw [List.getElem?_set_self hi]; exact hv.symm
    · rw [List.getElem?_set_ne e]
theorem wipe_at {σ : L2.St} {u : Nat} : ∀ ws : List Nat, u ∈ ws → u < σ.length → (L2.wipe σ ws)[u]? = some none
  | t :: ws, h, hl => by
    show ((L2.wipe σ ws).set t none)[u]? = some none
    by_cases e : t = u
    · subst e; rw [List.getElem?_set_self (by rw [wipe_length]; exact hl)]
    · rw [List.getElem?_set_ne e]
      exact wipe_at ws (by rcases List.mem_cons.mp h with h | h; exact absurd h.symm e; exact h) hl
theorem wipe_sub {σ : L2.St} : ∀ us ws : List Nat, (∀ u ∈ us, u ∈ ws) → L2.wipe (L2.wipe σ ws) us = L2.wipe σ ws
  | [], _, _ => rfl
  | u :: us, ws, hs => by
    show (L2.wipe (L2.wipe σ ws) us).set u none = L2.wipe σ ws
    rw [wipe_sub us ws fun v hv => hs v (List.mem_cons_of_mem _ hv)]
    by_cases hl : u < (L2.wipe σ ws).length
    · refine List.ext_getElem? fun j => ?_
      by_cases e : u = j
      · subst e
        rw [List.getElem?_set_self hl]
        exact (wipe_at ws (hs u List.mem_cons_self) (by rw [wipe_length] at hl; exact hl)).symm
      · rw [List.getElem?_set_ne e]
    · rw [List.set_eq_of_length_le (by omega)]
theorem HoldG.app {G : Hp} {D : Addr} {acc : List PyData} {v : V} {z : PyData} (h : HoldG K b G H ((some v, .d z) :: (some (.ref D), .own acc) :: L)) : ∃ us, H D = some (.lst us) ∧ us.length = acc.length ∧ HoldG K b G (upd H D (.lst (us ++ [v]))) ((some (.ref D), .own (acc ++ [z])) :: L) := by
  obtain ⟨q, us, e, _, _, h3, h4⟩ := h.ok _ (List.mem_cons_of_mem _ List.mem_cons_self)
  cases e
  exact ⟨us, h3, DpAll.len h4, h.drop.put (.inl ⟨rfl, rfl⟩) (DpAll.app h4 (.cons h.seq .nil))⟩
end
section
variable {X : Cx} {b : Bs} {ρ : List Sl} {iter tg elt : Expr} {ifs : List Expr} {p : Sl → List Sl → Prop}
/-- one turn of a comprehension -/
def LcTurn (X : Cx) (b : Bs) (scope : Scope) (tg elt : Expr) (ifs : List Expr) (vs : List Nat) (y : PyData) (ρ' : List Sl) (acc : List PyData) (J : List PyData → List Sl → Prop) : Prop :=
  ∃ p1 : List Sl → Prop, AllB X scope (fun Y => EG Y b vs ρ' tg (.d y) p1) ∧ ∀ ρ2, p1 ρ2 → ∃ p2 : Bool → List Sl → Prop, AllB X scope (fun Y => ETs Y b ρ2 ifs p2) ∧ ∀ c ρ3, p2 c ρ3 →
    (c = false → J acc (wipeR ρ3 vs)) ∧ (c = true → acc.length < sizeLine ∧ AllB X scope fun Y => EV Y b ρ3 elt fun r ρ4 => ∃ z, cool r = .d z ∧ J (acc ++ [z]) (wipeR ρ4 vs))
theorem lc_go {scope : Scope} {vs : List Nat} {y : PyData} {x : V} {ρ' : List Sl} {acc : List PyData} {J : List PyData → List Sl → Prop} {σ : L2.St} {H : Hp} {D : Addr} {M : List Cl} {Nx : Hp → Prop} (ht : LcTurn X b scope tg elt ifs vs y ρ' acc J) (l : σ.length = ρ'.length)
    (hh : Hold X.K b H ((some x, .d y) :: ((L2.wipe σ vs).zip ρ' ++ (some (.ref D), .own acc) :: M)))
    (k : ∀ acc' ρ4 H', J acc' ρ4 → ρ4.length = ρ'.length → Hold X.K b H' ((L2.wipe σ vs).zip ρ4 ++ (some (.ref D), .own acc') :: M) → Nx H') :
    (fun v σ H Q => ∀ (s : Shared) (H0 : Hp) (C : Addr) (cl : List (Str × Addr)) (fp : List Addr), WG (X.blk s H0 scope (compEnvC scope cl C X.env) fp) tg v σ H Q) x (L2.wipe σ vs) H fun σ2 H2 => L2.wipe σ2 vs = L2.wipe σ vs ∧
      (fun σ H Q => ∀ (s : Shared) (H0 : Hp) (C : Addr) (cl : List (Str × Addr)) (fp : List Addr), WTs (X.blk s H0 scope (compEnvC scope cl C X.env) fp) ifs σ H Q) σ2 H2 fun c H3 =>
        if c = true then (fun σ H Q => ∀ (s : Shared) (H0 : Hp) (C : Addr) (cl : List (Str × Addr)) (fp : List Addr), WE (X.blk s H0 scope (compEnvC scope cl C X.env) fp) elt σ H Q) σ2 H3 fun y H4 => ∃ acc, H4 D = some (.lst acc) ∧ acc.length < sizeLine ∧ Nx (upd H4 D (.lst (acc ++ [y]))) else Nx H3 := by
  obtain ⟨p1, g1, t1⟩ := ht
  have lw : (L2.wipe σ vs).length = ρ'.length := by rw [wipe_length]; exact l
  intro s H0 C cl fp
  refine g1 s H0 C cl fp (L2.wipe σ vs) H _ x _ lw hh fun ρ2 σ2 H2 h2 l2 n2 w2 hh2 => ⟨?_, ?_⟩
  · rw [w2]
    exact wipe_sub vs vs fun _ h => h
  · have w2' : L2.wipe σ2 vs = L2.wipe σ vs := by
      rw [w2]
      exact wipe_sub vs vs fun _ h => h
    obtain ⟨p2, q2, t2⟩ := t1 ρ2 h2
    intro s H0 C cl fp
    refine q2 s H0 C cl fp σ2 H2 _ _ l2 hh2 fun c ρ3 H3 h3 l3 hh3 => ?_
    obtain ⟨tf, tt⟩ := t2 c ρ3 h3
    have n3 : ρ3.length = ρ'.length := l3.symm.trans (l2.trans n2)
    cases c with
    | false =>
      rw [if_neg Bool.false_ne_true]
      refine k acc _ H3 (tf rfl) (by rw [wipeR_len]; exact n3) ?_
      have := hold_wipe l3 hh3 vs
      rw [w2'] at this
      exact this
    | true =>
      rw [if_pos rfl]
      obtain ⟨hz, t3⟩ := tt rfl
      intro s H0 C cl fp
      refine t3 s H0 C cl fp σ2 H3 _ _ l3 hh3 fun r ρ4 v H4 ⟨z, er, hJ⟩ l4 hh4 => ?_
      have h5 := hh4.cool
      rw [er] at h5
      have n4 : ρ4.length = ρ'.length := l4.symm.trans (l3.trans n3)
      obtain ⟨G, hG⟩ := h5
      obtain ⟨us, e1, e2, hA⟩ := HoldG.app (hG.perm (L' := (some v, .d z) :: (some (.ref D), .own acc) :: (σ2.zip ρ4 ++ M)) (List.Perm.cons _ perm_in))
      refine ⟨us, e1, by rw [e2]; exact hz, k _ _ _ hJ (by rw [wipeR_len]; exact n4) ?_⟩
      have h6 : Hold X.K b (upd H4 D (.lst (us ++ [v]))) (σ2.zip ρ4 ++ (some (.ref D), .own (acc ++ [z])) :: M) := ⟨G, hA.perm perm_in.symm⟩
      have := hold_wipe l4 h6 vs
      rw [w2'] at this
      exact this
def lcG (X : Cx) (scope : Scope) (tg : Expr) : TG := fun v σ H Q => ∀ (s : Shared) (H0 : Hp) (C : Addr) (cl : List (Str × Addr)) (fp : List Addr), WG (X.blk s H0 scope (compEnvC scope cl C X.env) fp) tg v σ H Q
def lcT (X : Cx) (scope : Scope) (ifs : List Expr) : TT := fun σ H Q => ∀ (s : Shared) (H0 : Hp) (C : Addr) (cl : List (Str × Addr)) (fp : List Addr), WTs (X.blk s H0 scope (compEnvC scope cl C X.env) fp) ifs σ H Q
def lcE (X : Cx) (scope : Scope) (elt : Expr) : TE := fun σ H Q => ∀ (s : Shared) (H0 : Hp) (C : Addr) (cl : List (Str × Addr)) (fp : List Addr), WE (X.blk s H0 scope (compEnvC scope cl C X.env) fp) elt σ H Q
end

end DE

namespace DE
open PySem PySem.Spec PyProof.Rows L2 SZ VR VX StX RT
/-! ### what a for and a comprehension walk over -/
def EI (X : Cx) (b : Bs) (ρ : List Sl) (tg iter : Expr) (p : List PyData → List Sl → Prop) : Prop := ∃ wi, PI X tg iter wi ∧ ∀ σ H L R, σ.length = ρ.length → Hold X.K b H (σ.zip ρ ++ L) →
  (∀ (ys : List PyData) (ρ' : List Sl) (H' : Hp) (J : It) (G : Hp → Prop) (Y : Nat → Hp → V → Hp → Prop) (c : Cl), p ys ρ' → σ.length = ρ'.length → Walk J ys.length G Y → Hold X.K b H' (σ.zip ρ' ++ c :: L) → (∀ H2 L2, Hold X.K b H2 (c :: L2) → G H2) →
    (∀ i x H1 H2 L2, i < ys.length → Y i H1 x H2 → Hold X.K b H1 (c :: L2) → ∃ y, ys[i]? = some y ∧ Hold X.K b H2 ((some x, .d y) :: c :: L2)) → R J H') → wi σ H R
section
variable {X : Cx} {b : Bs} {ρ : List Sl} {tg e : Expr} {es : List Expr} {p : List PyData → List Sl → Prop}
theorem wlen {J : It} {n m : Nat} {G : Hp → Prop} {Y : Nat → Hp → V → Hp → Prop} (h : m = n) (w : Walk J n G Y) : Walk J m G Y := h ▸ w
theorem Hold.itemsL {H : Hp} {a : Addr} {xs : List V} {ys : List PyData} {L : List Cl} {K : PySem.W.Frag} (h : Hold K b H ((some (.ref a), DE.itemsL K xs ys) :: L)) : SqL K H a xs := by
  obtain ⟨G, hG⟩ := h
  obtain ⟨v, e, a', e', h1, _⟩ := hG.ok _ List.mem_cons_self
  cases e
  cases e'
  exact hG.up.seq h1
theorem Hold.itemsL_at {H : Hp} {a : Addr} {xs : List V} {ys : List PyData} {L : List Cl} {K : PySem.W.Frag} {i : Nat} {x : V} (h : Hold K b H ((some (.ref a), DE.itemsL K xs ys) :: L)) (hx : xs[i]? = some x) : ∃ y, ys[i]? = some y ∧ Hold K b H ((some x, .d y) :: (some (.ref a), DE.itemsL K xs ys) :: L) := by
  obtain ⟨G, hG⟩ := h
  obtain ⟨v, e, a', e', _, h2⟩ := hG.ok _ List.mem_cons_self
  cases e
  cases e'
  obtain ⟨y, hy, hd⟩ := DpAll.at h2 hx
  exact ⟨y, hy, G, hG.add hd⟩
theorem Hold.itemsT {H : Hp} {a : Addr} {xs : List V} {ys : List PyData} {L : List Cl} {K : PySem.W.Frag} (h : Hold K b H ((some (.ref a), DE.itemsT K xs ys) :: L)) : SqT K H a xs := by
  obtain ⟨G, hG⟩ := h
  obtain ⟨v, e, a', e', h1, _⟩ := hG.ok _ List.mem_cons_self
  cases e
  cases e'
  exact hG.up.tup h1
theorem Hold.itemsT_at {H : Hp} {a : Addr} {xs : List V} {ys : List PyData} {L : List Cl} {K : PySem.W.Frag} {i : Nat} {x : V} (h : Hold K b H ((some (.ref a), DE.itemsT K xs ys) :: L)) (hx : xs[i]? = some x) : ∃ y, ys[i]? = some y ∧ Hold K b H ((some x, .d y) :: (some (.ref a), DE.itemsT K xs ys) :: L) := by
  obtain ⟨G, hG⟩ := h
  obtain ⟨v, e, a', e', _, h2⟩ := hG.ok _ List.mem_cons_self
  cases e
  cases e'
  obtain ⟨y, hy, hd⟩ := DpAll.at h2 hx
  exact ⟨y, hy, G, hG.add hd⟩
theorem len_items {K : PySem.W.Frag} {H : Hp} {a : Addr} {xs : List V} {ys : List PyData} {L : List Cl} (h : Hold K b H ((some (.ref a), DE.itemsL K xs ys) :: L)) : xs.length = ys.length := by
  obtain ⟨G, hG⟩ := h
  obtain ⟨v, e, a', e', _, h2⟩ := hG.ok _ List.mem_cons_self
  cases e
  cases e'
  exact DpAll.len h2
theorem Hold.toL {K : PySem.W.Frag} {H : Hp} {v : V} {r : Sl} {ys : List PyData} {L : List Cl} (h : Hold K b H ((some v, r) :: L)) (er : DE.cool r = .d (.list ys)) : ∃ a xs, v = .ref a ∧ xs.length = ys.length ∧ Hold K b H ((some (.ref a), DE.itemsL K xs ys) :: L) := by
  have h2 := h.cool
  rw [er] at h2
  obtain ⟨G, hG⟩ := h2
  cases hG.seq with
  | @lst a xs _ s1 s2 => exact ⟨a, xs, rfl, DpAll.len s2, G, hG.drop.addF ⟨a, rfl, s1, s2⟩⟩
theorem Hold.toT {K : PySem.W.Frag} {H : Hp} {v : V} {ys : List PyData} {L : List Cl} (h : Hold K b H ((some v, .d (.tuple ys)) :: L)) : ∃ a xs, v = .ref a ∧ xs.length = ys.length ∧ Hold K b H ((some (.ref a), DE.itemsT K xs ys) :: L) := by
  obtain ⟨G, hG⟩ := h
  cases hG.seq with
  | @tup a xs _ s1 s2 => exact ⟨a, xs, rfl, DpAll.len s2, G, hG.drop.addF ⟨a, rfl, s1, s2⟩⟩
theorem ei_list (h : EV X b ρ e fun r ρ' => ∃ ys, cool r = .d (.list ys) ∧ p ys ρ') : EI X b ρ tg e p := ⟨_, pi_list (we_pe e), fun σ H L R l hh k => h σ H L _ l hh fun r ρ' v H' ⟨ys, er, hp⟩ l' hh' => by
  obtain ⟨a, xs, rfl, lx, h2⟩ := hh'.toL er
  refine ⟨a, rfl, ⟨xs, h2.itemsL⟩, k ys ρ' H' _ _ _ (some (.ref a), itemsL X.K xs ys) hp l' (wlen lx.symm walk_list) (h2.perm perm_in.symm) (fun H2 L2 z => z.itemsL) fun i x H1 H2 L2 hi ⟨e1, e2⟩ z => ?_⟩
  subst e1
  exact z.itemsL_at e2⟩
theorem ei_tup (h : EV X b ρ e fun r ρ' => ∃ ys, r = .d (.tuple ys) ∧ p ys ρ') : EI X b ρ tg e p := ⟨_, pi_tup (we_pe e), fun σ H L R l hh k => h σ H L _ l hh fun r ρ' v H' ⟨ys, er, hp⟩ l' hh' => by
  subst er
  obtain ⟨a, xs, rfl, lx, h2⟩ := hh'.toT
  refine ⟨a, rfl, ⟨xs, h2.itemsT⟩, k ys ρ' H' _ _ _ (some (.ref a), itemsT X.K xs ys) hp l' (wlen lx.symm walk_tup) (h2.perm perm_in.symm) (fun H2 L2 z => z.itemsT) fun i x H1 H2 L2 hi ⟨e1, e2⟩ z => ?_⟩
  subst e1
  exact z.itemsT_at e2⟩
def strD (z : Str) : List PyData := z.cps.toList.map fun c => .str ⟨#[c]⟩
theorem ei_str (h : EV X b ρ e fun r ρ' => ∃ z, r = .d (.str z) ∧ p (strD z) ρ') : EI X b ρ tg e p := ⟨_, pi_str (we_pe e), fun σ H L R l hh k => h σ H L _ l hh fun r ρ' v H' ⟨z, er, hp⟩ l' hh' => by
  subst er
  have ev := hh'.isS
  subst ev
  have lz : (strD z).length = z.cps.size := by unfold strD; simp
  refine ⟨z, rfl, k (strD z) ρ' H' _ _ _ (none, .un) hp l' (wlen lz walk_str) (hh'.drop.un.perm perm_in.symm) (fun H2 L2 z => trivial) fun i x H1 H2 L2 hi ⟨e1, c, e2, e3⟩ hz => ?_⟩
  subst e1 e3
  refine ⟨.str ⟨#[c]⟩, ?_, hz.str _⟩
  unfold strD
  rw [List.getElem?_map, Array.getElem?_toList, e2]
  rfl⟩
def rngD (lo : Int) (n : Nat) : List PyData := (List.range n).map fun i : Nat => .int (lo + (i : Int))
theorem rngD_len (lo : Int) (n : Nat) : (rngD lo n).length = n := by unfold rngD; simp
theorem rngD_at {lo : Int} {n i : Nat} (h : i < n) : (rngD lo n)[i]? = some (.int (lo + (i : Int))) := by unfold rngD; simp [h]
theorem ei_range {a : Expr} {p1 p2 : Pos} (hg : Gl X "range") (hm : X.mg "range" = none) (h : EV X b ρ a fun r ρ' => ∃ n : Int, r = .d (.int n) ∧ -(2 ^ 62) ≤ n ∧ n < 2 ^ 62 ∧ p (rngD 0 n.toNat) ρ') (hs : starEach [a] X.env = [(false, eval a X.env)] := by rfl) : EI X b ρ tg (.Call (.Name "range" p1) [a] [] p2) p :=
  ⟨_, pi_range1 hg hm (pa_cons (we_pe a) pa_nil hs) hs, fun σ H L R l hh k => h σ H L _ l hh fun r ρ' v H' ⟨n, er, b1, b2, hp⟩ l' hh' => by
    subst er
    have ev := hh'.isI
    subst ev
    refine ⟨n, rfl, b1, b2, k _ ρ' H' _ _ _ (none, .un) hp l' (wlen (rngD_len 0 n.toNat) (walk_range (lo := 0))) (hh'.drop.un.perm perm_in.symm) (fun _ _ _ => trivial) fun i x H1 H2 L2 hi ⟨e1, e2⟩ hz => ?_⟩
    subst e1 e2
    rw [rngD_len] at hi
    exact ⟨_, rngD_at hi, hz.int _⟩⟩
theorem ei_range2 {a1 a2 : Expr} {p1 p2 : Pos} (hg : Gl X "range") (hm : X.mg "range" = none) (h : EV X b ρ a1 fun r ρ1 => ∃ m : Int, r = .d (.int m) ∧ EV X b ρ1 a2 fun r ρ' => ∃ n : Int, r = .d (.int n) ∧ (-(2 ^ 62) ≤ m ∧ m < 2 ^ 62 ∧ -(2 ^ 62) ≤ n ∧ n < 2 ^ 62) ∧ p (rngD m (n - m).toNat) ρ')
    (hs : starEach [a1, a2] X.env = [(false, eval a1 X.env), (false, eval a2 X.env)] := by rfl) (hs2 : starEach [a2] X.env = [(false, eval a2 X.env)] := by rfl) (hs3 : starEach [a1, a2] X.env = (false, eval a1 X.env) :: starEach [a2] X.env := by rfl) : EI X b ρ tg (.Call (.Name "range" p1) [a1, a2] [] p2) p :=
  ⟨_, pi_range2 hg hm (pa_cons (we_pe a1) (pa_cons (we_pe a2) pa_nil hs2) hs3) hs hs2, fun σ H L R l hh k => h σ H L _ l hh fun r1 ρ1 v1 H1 ⟨m, er1, h1⟩ l1 hh1 => by
    subst er1
    have ev := hh1.isI
    subst ev
    refine h1 σ H1 L _ l1 hh1.drop fun r ρ' v H' ⟨n, er, bb, hp⟩ l' hh' => ?_
    subst er
    have ev := hh'.isI
    subst ev
    refine ⟨m, n, rfl, bb, k _ ρ' H' _ _ _ (none, .un) hp l' (wlen (rngD_len m (n - m).toNat) (walk_range (lo := m))) (hh'.drop.un.perm perm_in.symm) (fun _ _ _ => trivial) fun i x H1 H2 L2 hi ⟨e1, e2⟩ hz => ?_⟩
    subst e1 e2
    rw [rngD_len] at hi
    exact ⟨_, rngD_at hi, hz.int _⟩⟩
def enD (ys : List PyData) : List PyData := (List.range ys.length).map fun i => .tuple [.int (i : Nat), ys.getD i .none]
theorem enD_len (ys : List PyData) : (enD ys).length = ys.length := by unfold enD; simp
theorem enD_at {ys : List PyData} {i : Nat} {y : PyData} (h : ys[i]? = some y) : (enD ys)[i]? = some (.tuple [.int (i : Nat), y]) := by
  have hi := (List.getElem?_eq_some_iff.mp h).1
  unfold enD
  simp [hi]
  rw [List.getElem?_eq_getElem hi] at h
  exact Option.some.inj h
theorem ei_enum {p1 p2 tpos : Pos} {elts : List Expr} {kk : Nat} (hg : Gl X "enumerate") (hm : X.mg "enumerate" = none) (h : EV X b ρ e fun r ρ' => ∃ ys, cool r = .d (.list ys) ∧ p (enD ys) ρ') (hs : starEach [e] X.env = [(false, eval e X.env)] := by rfl) : EI X b ρ (.Tuple elts kk tpos) (.Call (.Name "enumerate" p1) [e] [] p2) p :=
  ⟨_, pi_enum hg hm (pa_cons (we_pe e) pa_nil hs) hs, fun σ H L R l hh k => h σ H L _ l hh fun r ρ' v H' ⟨ys, er, hp⟩ l' hh' => by
    obtain ⟨a, xs, rfl, lx, h2⟩ := hh'.toL er
    refine ⟨a, xs, rfl, h2.itemsL, k _ ρ' H' _ _ _ (some (.ref a), itemsL X.K xs ys) hp l' (wlen ((enD_len ys).trans lx.symm) walk_enum) (h2.perm perm_in.symm) (fun H2 L2 z => z.itemsL) fun i x H1 H2 L2 hi ⟨T, u, y, e1, e2, e3, e4, e5⟩ z => ?_⟩
    subst e1 e3
    cases e4
    obtain ⟨d, hd, hz⟩ := z.itemsL_at e5
    obtain ⟨G, hG⟩ := hz
    refine ⟨_, enD_at hd, _, hG.drop.newT e2 (.cons (.int _) (.cons hG.seq .nil))⟩⟩
/-! ### for and comprehensions -/
theorem xs_for {p : Po} {iter : Expr} {body : List Stmt} {pos : Pos} {ts : List Nat} (hp : PassesOwn (model X.prog X.w) X.A X.env X.xe) (hc : X.calm = true) (hst : ∀ x, foldedSetIterable iter X.env x = pure x := by intro _; rfl)
    (h : EI X b ρ tg iter fun ys ρ1 => ρ1.length = ρ.length → ∃ I : Nat → List Sl → Prop, I 0 ρ1 ∧ (∀ i y ρ', ys[i]? = some y → ρ'.length = ρ.length → I i ρ' → EG X b ts ρ' tg (.d y) fun ρ2 => ρ2.length = ρ.length → XB X b ρ2 body (loopI p I i)) ∧ ∀ ρ', I ys.length ρ' → p.nx ρ') : XS X b ρ (.For tg iter body [] pos) p := fun σ H L D l hh k => by
  obtain ⟨wi, hi, h⟩ := h
  refine ⟨_, ps_for hp hc hi (wg_pg tg) (wss_pss body) hst, h σ H L _ l hh fun ys ρ1 H1 J G Y c h1 l1 W hh1 hG hY => ?_⟩
  have n1 := l1.symm.trans l
  obtain ⟨I, i0, hs, hd⟩ := h1 n1
  refine for_it W (fun i σ' H' => ∃ ρ', I i ρ' ∧ σ'.length = ρ'.length ∧ ρ'.length = ρ.length ∧ Hold X.K b H' (σ'.zip ρ' ++ c :: L)) ⟨ρ1, i0, l1, n1, hh1⟩ (fun i σ' H' _ ⟨ρ', _, _, _, hh'⟩ => hG H' _ (hh'.perm perm_in)) (fun i x σ' H1' H2' hi ⟨ρ', hI, l', n', hh'⟩ hy => ?_) (fun σ' H' ⟨ρ', hI, l', n', hh'⟩ => k.nx ρ' σ' H' (hd ρ' hI) l' n' ((hh'.perm perm_in).drop))
  obtain ⟨y, ey, hz⟩ := hY i x H1' H2' _ hi hy (hh'.perm perm_in)
  refine hs i y ρ' ey n' hI σ' H2' (c :: L) x _ l' (hz.perm (List.Perm.cons _ perm_in.symm)) fun ρ2 σ2 H2 h3 l2 n2 _ hh2 => ?_
  exact h3 (n2.trans n') σ2 H2 _ { D with nx := _, ct := _, bk := D.nx } l2 hh2 ⟨fun ρ3 σ3 H3 z l3 n3 hh3 => ⟨ρ3, z, l3, n3.trans (n2.trans n'), hh3⟩, fun r ρ3 v σ3 H3 z l3 n3 hh3 => k.rt r ρ3 v σ3 H3 z l3 (n3.trans (n2.trans n')) ((hh3.perm (L' := c :: ((some v, r) :: (σ3.zip ρ3 ++ L))) ((List.Perm.swap ..).trans (List.Perm.cons _ perm_in))).drop),
          fun ρ3 σ3 H3 z l3 n3 hh3 => k.nx ρ3 σ3 H3 z l3 (n3.trans (n2.trans n')) ((hh3.perm perm_in).drop), fun ρ3 σ3 H3 z l3 n3 hh3 => ⟨ρ3, z, l3, n3.trans (n2.trans n'), hh3⟩⟩
theorem lc_all {p : Sl → List Sl → Prop} {iter elt : Expr} {ifs : List Expr} {scope : Scope} {own : List (Str × Nat)} 
    (h : EI X b ρ tg iter fun ys ρ1 => ρ1.length = ρ.length → ∃ I : Nat → List PyData → List Sl → Prop, I 0 [] ρ1 ∧ (∀ i acc ρ', I i acc ρ' → ∀ v ∈ own.map (·.2), ρ'[v]? = some .un) ∧
      (∀ i y acc ρ', ys[i]? = some y → ρ'.length = ρ.length → I i acc ρ' → LcTurn X b scope tg elt ifs (own.map (·.2)) y ρ' acc (I (i + 1))) ∧ ∀ acc ρ', I ys.length acc ρ' → p (.own acc) ρ') :
    ∃ wi, PI X tg iter wi ∧ ∀ σ H L Q, σ.length = ρ.length → Hold X.K b H (σ.zip ρ ++ L) → (∀ r ρ' v H', p r ρ' → σ.length = ρ'.length → Hold X.K b H' ((some v, r) :: (σ.zip ρ' ++ L)) → Q v H') → tLc wi (lcG X scope tg) (lcT X scope ifs) (lcE X scope elt) (own.map (·.2)) σ H Q := by
  obtain ⟨wi, hi, h⟩ := h
  refine ⟨wi, hi, fun σ H L Q l hh k => h σ H L _ l hh fun ys ρ1 H1 J G Y c h1 l1 W hh1 hG hY D hD => ?_⟩
  have n1 := l1.symm.trans l
  obtain ⟨I, i0, hun, hst, hd⟩ := h1 n1
  refine lc_it W (fun i H' => ∃ acc ρ', I i acc ρ' ∧ ρ'.length = ρ.length ∧ Hold X.K b H' ((L2.wipe σ (own.map (·.2))).zip ρ' ++ (some (.ref D), .own acc) :: c :: L))
    ⟨[], ρ1, i0, n1, ?_⟩ (fun i H' _ ⟨acc, ρ', _, _, hh'⟩ => hG H' ((L2.wipe σ (own.map (·.2))).zip ρ' ++ (some (.ref D), .own acc) :: L) (hh'.perm ?_)) (fun i x H1' H2' hi ⟨acc, ρ', hI, n', hh'⟩ hy => ?_) (fun H' ⟨acc, ρ', hI, n', hh'⟩ => ?_)
  · obtain ⟨G', h3⟩ := hh1
    have h4 : Hold X.K b (upd H1 D (.lst [])) (σ.zip ρ1 ++ (some (.ref D), .own []) :: c :: L) := ⟨G', (h3.newL hD .nil).perm perm_in.symm⟩
    have h5 := hold_wipe l1 h4 (own.map (·.2))
    rw [wipeR_un (hun 0 [] ρ1 i0)] at h5
    exact h5
  · exact perm_in.trans (List.Perm.append_left _ (List.Perm.swap ..))
  · obtain ⟨y, ey, hz⟩ := hY i x H1' H2' ((L2.wipe σ (own.map (·.2))).zip ρ' ++ (some (.ref D), .own acc) :: L) hi hy (hh'.perm (perm_in.trans (List.Perm.append_left _ (List.Perm.swap ..))))
    exact lc_go (M := c :: L) (hst i y acc ρ' ey n' hI) (l1.trans (n1.trans n'.symm)) (hz.perm (List.Perm.cons _ (perm_in.trans (List.Perm.append_left _ (List.Perm.swap ..))).symm)) fun acc' ρ4 H4 hJ n4 hh4 => ⟨acc', ρ4, hJ, n4.trans n', hh4⟩
  · have h2 := hold_unwipe (l1.trans (n1.trans n'.symm)) _ (hun _ _ _ hI) hh'
    exact k _ ρ' _ H' (hd acc ρ' hI) (l1.trans (n1.trans n'.symm)) ((h2.perm (L' := c :: (some (.ref D), .own acc) :: (σ.zip ρ' ++ L)) ((List.Perm.swap ..).trans ((List.Perm.cons _ perm_in).trans perm_in))).drop)
theorem ev_lc {p : Sl → List Sl → Prop} {iter elt : Expr} {ifs : List Expr} {scope : Scope} (own : List (Str × Nat)) {pos : Pos} (hc : X.calm = true) (hN : X.N.Nodup) (ok : BlkOk X.N X.env.scope scope own)
    (h : EI X b ρ tg iter fun ys ρ1 => ρ1.length = ρ.length → ∃ I : Nat → List PyData → List Sl → Prop, I 0 [] ρ1 ∧ (∀ i acc ρ', I i acc ρ' → ∀ v ∈ own.map (·.2), ρ'[v]? = some .un) ∧
      (∀ i y acc ρ', ys[i]? = some y → ρ'.length = ρ.length → I i acc ρ' → LcTurn X b scope tg elt ifs (own.map (·.2)) y ρ' acc (I (i + 1))) ∧ ∀ acc ρ', I ys.length acc ρ' → p (.own acc) ρ')
    (hs : ∀ x, foldedSetIterable iter X.env x = pure x := by intro _; rfl) : EV X b ρ (.ListComp elt [⟨tg, iter, ifs, 0⟩] scope pos) p := fun σ H L Q l hh k => by
  obtain ⟨wi, hi, g⟩ := lc_all h
  exact ⟨_, pe_lc (g := lcG X scope tg) (tt := lcT X scope ifs) (te := lcE X scope elt) hc hN hi ok (fun s H C cl fp => ⟨fun pins s' σ H' v u Q I r q => (wg_pg tg).run pins s' σ H' v u Q I r (q s H C cl fp)⟩) (fun s H C cl fp => ⟨fun pins s' σ H' Q I q => (wts_pts ifs).run pins s' σ H' Q I (q s H C cl fp)⟩) (fun s H C cl fp => ⟨fun pins s' σ H' Q I q => (we_pe elt).run pins s' σ H' Q I (q s H C cl fp)⟩) hs, g σ H L Q l hh k⟩
/-- name = [..] in one row -/
theorem xs_setLc {p : Po} (i : Nat) {y : Str} {py spos : Pos} {iter elt : Expr} {ifs : List Expr} {scope : Scope} (own : List (Str × Nat)) {pos : Pos} (hc : X.calm = true) (hN : X.N.Nodup) (hy : X.N[i]? = some y) (hl : i < ρ.length) (hyl : X.env.scope.names.lookup y = some .local)
    (hsw : swapsWith (.ListComp elt [⟨tg, iter, ifs, 0⟩] scope pos) (some (.Name y py)) spos.line X.env = pure true) (ok : BlkOk X.N X.env.scope scope own)
    (h : EI X b ρ tg iter fun ys ρ1 => ρ1.length = ρ.length → ∃ I : Nat → List PyData → List Sl → Prop, I 0 [] ρ1 ∧ (∀ i acc ρ', I i acc ρ' → ∀ v ∈ own.map (·.2), ρ'[v]? = some .un) ∧
      (∀ i y acc ρ', ys[i]? = some y → ρ'.length = ρ.length → I i acc ρ' → LcTurn X b scope tg elt ifs (own.map (·.2)) y ρ' acc (I (i + 1))) ∧ ∀ acc ρ', I ys.length acc ρ' → ρ'.length = ρ.length → p.nx (ρ'.set i (.own acc)))
    (hs : ∀ x, foldedSetIterable iter X.env x = pure x := by intro _; rfl) : XS X b ρ (.Assign [.Name y py] (.ListComp elt [⟨tg, iter, ifs, 0⟩] scope pos) spos) p := fun σ H L D l hh k => by
  obtain ⟨wi, hi, g⟩ := lc_all (p := fun r ρ' => ρ'.length = ρ.length → p.nx (ρ'.set i r)) h
  refine ⟨_, ps_setLc (g := lcG X scope tg) (tt := lcT X scope ifs) (te := lcE X scope elt) hc hN hy hyl hsw hi ok (fun s H C cl fp => ⟨fun pins s' σ H' v u Q I r q => (wg_pg tg).run pins s' σ H' v u Q I r (q s H C cl fp)⟩) (fun s H C cl fp => ⟨fun pins s' σ H' Q I q => (wts_pts ifs).run pins s' σ H' Q I (q s H C cl fp)⟩) (fun s H C cl fp => ⟨fun pins s' σ H' Q I q => (we_pe elt).run pins s' σ H' Q I (q s H C cl fp)⟩) hs, ?_⟩
  refine g σ H L _ l hh fun r ρ' v H' h1 l' hh' => ?_
  have n' := l'.symm.trans l
  obtain ⟨c, M, p1, p2⟩ := zip_set (r := r) (x := some v) (by rw [n']; exact hl) l'
  refine k.nx _ _ H' (h1 n') (by simp [l']) (by simp [n']) ?_
  have h2 : Hold X.K b H' (c :: ((some v, r) :: (M ++ L))) := hh'.perm ((List.Perm.swap ..).trans (List.Perm.cons _ (p1.symm.append_right L)))
  exact h2.drop.perm (p2.append_right L)
end

end DE

namespace DE
open PySem PySem.Spec PyProof.Rows L2 SZ VR VX StX RT
section
variable {X : Cx} {b : Bs} {ρ : List Sl} {p : Sl → List Sl → Prop} {e e1 e2 : Expr} {pos : Pos}
/-! ### x.append(e), x.extend(e): the list that the name at slot i holds alone -/
theorem slot_ref {i : Nat} {s : Sl} {ys : List PyData} {σ : L2.St} {H : Hp} {L : List Cl} (l : σ.length = ρ.length) (hr : ρ[i]? = some s) (hs : s = .own ys ∨ s = .bor ys) (hh : Hold X.K b H (σ.zip ρ ++ L)) : ∃ a, σ[i]? = some (some (.ref a)) := by
  obtain ⟨x, hx, hm⟩ := zip_mem l hr
  obtain ⟨G, hG⟩ := hh
  have ok := hG.ok _ (List.mem_append_left _ hm)
  rcases hs with rfl | rfl
  · obtain ⟨q, _, e, _⟩ := ok; subst e; exact ⟨q, hx⟩
  · obtain ⟨q, _, e, _⟩ := ok; subst e; exact ⟨q, hx⟩
theorem cell_lst {K : PySem.W.Frag} {G H : Hp} {a : Addr} {s : Sl} {ys : List PyData} {L : List Cl} (h : HoldG K b G H ((some (.ref a), s) :: L)) (hs : s = .own ys ∨ s = .bor ys) : ∃ us, H a = some (.lst us) ∧ us.length = ys.length ∧ DpAll K G us ys := by
  have ok := h.ok _ List.mem_cons_self
  rcases hs with rfl | rfl
  · obtain ⟨q, us, e, _, _, h3, h4⟩ := ok; cases e; exact ⟨us, h3, DpAll.len h4, h4⟩
  · obtain ⟨q, us, e, _, _, h3, h4⟩ := ok; cases e; exact ⟨us, h3, DpAll.len h4, h4⟩
theorem xs_append (i : Nat) {p : Po} {x : Str} {p1 p2 p3 p4 : Pos} (hN : X.N[i]? = some x) (hv : Vis X.env.scope x)
    (h : EV X b ρ e fun r ρ' => ρ'.length = ρ.length → ∃ s ys z, cool r = .d z ∧ ρ'[i]? = some s ∧ (s = .own ys ∨ s = .bor ys) ∧ ys.length < sizeLine ∧ p.nx (ρ'.set i (setS s (ys ++ [z])))) (h0 : ∃ s ys, ρ[i]? = some s ∧ (s = .own ys ∨ s = .bor ys))
    (hd : (x == ("__debug__" : Str)) = false := by decide) (hcd : (x == ("__classdict__" : Str)) = false := by decide)
    (hbase : attributeBase (.Name x p1) "append" X.env (eval (.Name x p1) X.env) = eval (.Name x p1) X.env := by rfl)
    (hfew : ((backTo p3 (starEach [e] X.env)).all (fun x => !x.1) && (backToKw p3 (keywordEach [] X.env)).all (fun x => x.1.isSome) && decide (([e] : List Expr).length + ([] : List Keyword).length + (if ([] : List Keyword).isEmpty then 0 else 1) < 30)) = true := by rfl)
    (hline : (p2.endLine == p3.line) = true := by rfl) (hse : starEach [e] X.env = (false, eval e X.env) :: starEach [] X.env := by rfl) (hpl : (backTo p3 (starEach [] X.env)).any (·.1) = false := by rfl)
    (hsw : swapsWith (.Call (.Attribute (.Name x p1) "append" p2) [e] [] p3) none p4.line X.env = pure false := by rfl) : XS X b ρ (.Expr (.Call (.Attribute (.Name x p1) "append" p2) [e] [] p3) p4) p := fun σ H L D l hh k => by
  obtain ⟨s0, ys0, h0r, h0s⟩ := h0
  obtain ⟨a, ha⟩ := slot_ref l h0r h0s hh
  refine ⟨_, ps_expr (pe_bm PySem.F.plainAttrs_list PySem.F.slot_list_append PySem.F.type_list_append mt_append (pe_var hN hv hd hcd) (pa_cons (we_pe e) pa_nil hse) hbase hfew hline hse hpl) hsw, .ref a, ha, ?_, ?_⟩
  · obtain ⟨x0, hx0, hm⟩ := zip_mem l h0r
    rw [ha] at hx0
    cases hx0
    obtain ⟨G, hG⟩ := hh
    have ok := hG.ok _ (List.mem_append_left _ hm)
    rcases h0s with rfl | rfl
    · obtain ⟨q, us, e, _, _, h3, _⟩ := ok; cases e; exact .inl ⟨rfl, us, .of h3⟩
    · obtain ⟨q, us, e, _, _, h3, _⟩ := ok; cases e; exact .inl ⟨rfl, us, .of h3⟩
  · refine h σ H L _ l hh fun r ρ' v H' h1 l' hh' => ?_
    have n' := l'.symm.trans l
    obtain ⟨s, ys, z, er, hr, hs, hz, hp⟩ := h1 n'
    have hh2 := hh'.cool
    rw [er] at hh2
    obtain ⟨M, q1, q2⟩ := set_perm (s' := setS s (ys ++ [z])) hr ha
    obtain ⟨G, hG⟩ := hh2
    have hG2 : HoldG X.K b G H' ((some (.ref a), s) :: (some v, .d z) :: (M ++ L)) := hG.perm ((List.Perm.swap ..).trans (List.Perm.cons _ (q1.symm.append_right L)))
    obtain ⟨us, e1, e2, e3⟩ := cell_lst hG2 hs
    refine ⟨a, us, v, rfl, rfl, e1, by rw [e2]; exact hz, k.nx _ _ _ hp (by simp [l']) (by simp [n']) ?_⟩
    have hv : Dp X.K G v z := hG.seq
    have hput := hG2.put (s' := setS s (ys ++ [z])) (ys := ys) (ys' := ys ++ [z]) (vs := us ++ [v]) (by rcases hs with rfl | rfl <;> simp [setS]) (DpAll.app e3 (.cons hv .nil))
    exact ⟨G, ((hput.perm ((List.Perm.swap ..))).drop).perm (q2.append_right L)⟩
theorem xs_extend (i : Nat) {p : Po} {x : Str} {p1 p2 p3 p4 : Pos} (hN : X.N[i]? = some x) (hv : Vis X.env.scope x)
    (h : EV X b ρ e fun r ρ' => ρ'.length = ρ.length → ∃ s ys zs, r = .own zs ∧ ρ'[i]? = some s ∧ (s = .own ys ∨ s = .bor ys) ∧ ys.length + zs.length ≤ sizeLine ∧ p.nx (ρ'.set i (setS s (ys ++ zs)))) (h0 : ∃ s ys, ρ[i]? = some s ∧ (s = .own ys ∨ s = .bor ys))
    (hd : (x == ("__debug__" : Str)) = false := by decide) (hcd : (x == ("__classdict__" : Str)) = false := by decide)
    (hbase : attributeBase (.Name x p1) "extend" X.env (eval (.Name x p1) X.env) = eval (.Name x p1) X.env := by rfl)
    (hfew : ((backTo p3 (starEach [e] X.env)).all (fun x => !x.1) && (backToKw p3 (keywordEach [] X.env)).all (fun x => x.1.isSome) && decide (([e] : List Expr).length + ([] : List Keyword).length + (if ([] : List Keyword).isEmpty then 0 else 1) < 30)) = true := by rfl)
    (hline : (p2.endLine == p3.line) = true := by rfl) (hse : starEach [e] X.env = (false, eval e X.env) :: starEach [] X.env := by rfl) (hpl : (backTo p3 (starEach [] X.env)).any (·.1) = false := by rfl)
    (hsw : swapsWith (.Call (.Attribute (.Name x p1) "extend" p2) [e] [] p3) none p4.line X.env = pure false := by rfl) : XS X b ρ (.Expr (.Call (.Attribute (.Name x p1) "extend" p2) [e] [] p3) p4) p := fun σ H L D l hh k => by
  obtain ⟨s0, ys0, h0r, h0s⟩ := h0
  obtain ⟨a, ha⟩ := slot_ref l h0r h0s hh
  refine ⟨_, ps_expr (pe_bm PySem.F.plainAttrs_list PySem.F.slot_list_extend PySem.F.type_list_extend mt_extend (pe_var hN hv hd hcd) (pa_cons (we_pe e) pa_nil hse) hbase hfew hline hse hpl) hsw, .ref a, ha, ?_, ?_⟩
  · obtain ⟨x0, hx0, hm⟩ := zip_mem l h0r
    rw [ha] at hx0
    cases hx0
    obtain ⟨G, hG⟩ := hh
    have ok := hG.ok _ (List.mem_append_left _ hm)
    rcases h0s with rfl | rfl
    · obtain ⟨q, us, e, _, _, h3, _⟩ := ok; cases e; exact .inl ⟨rfl, us, .of h3⟩
    · obtain ⟨q, us, e, _, _, h3, _⟩ := ok; cases e; exact .inl ⟨rfl, us, .of h3⟩
  · refine h σ H L _ l hh fun r ρ' v H' h1 l' hh' => ?_
    have n' := l'.symm.trans l
    obtain ⟨s, ys, zs, er, hr, hs, hz, hp⟩ := h1 n'
    subst er
    obtain ⟨M, q1, q2⟩ := set_perm (s' := setS s (ys ++ zs)) hr ha
    obtain ⟨G, hG⟩ := hh'
    have hG2 : HoldG X.K b G H' ((some (.ref a), s) :: (some v, .own zs) :: (M ++ L)) := hG.perm ((List.Perm.swap ..).trans (List.Perm.cons _ (q1.symm.append_right L)))
    obtain ⟨us, e1, e2, e3⟩ := cell_lst hG2 hs
    obtain ⟨q, ws, ev, _, _, w3, w4⟩ := hG2.ok _ (List.mem_cons_of_mem _ List.mem_cons_self)
    cases ev
    refine ⟨a, q, us, ws, rfl, rfl, e1, w3, by rw [e2, DpAll.len w4]; exact hz, k.nx _ _ _ hp (by simp [l']) (by simp [n']) ?_⟩
    have hput := hG2.put (s' := setS s (ys ++ zs)) (ys := ys) (ys' := ys ++ zs) (vs := us ++ ws) (by rcases hs with rfl | rfl <;> simp [setS]) (DpAll.app e3 w4)
    exact ⟨G, ((hput.perm ((List.Perm.swap ..))).drop).perm (q2.append_right L)⟩
/-- sep.join(texts) -/
theorem ev_join {p1 p2 : Pos} (h : EV X b ρ e1 fun r1 ρ1 => ∃ a, r1 = .d (.str a) ∧ EV X b ρ1 e2 fun r2 ρ2 => ∃ ys : List Str, (cool r2 = .d (.list (ys.map .str)) ∨ r2 = .d (.tuple (ys.map .str))) ∧ (ys.map (·.length)).sum + ys.length * a.length ≤ 16777216 ∧ p (.d (.str (Txt.join a ys))) ρ2)
    (hs : starEach [e2] X.env = [(false, eval e2 X.env)] := by rfl) (hbase : attributeBase e1 "join" X.env (eval e1 X.env) = eval e1 X.env := by rfl) (hline : (p1.endLine == p2.line) = true := by rfl) : EV X b ρ (.Call (.Attribute e1 "join" p1) [e2] [] p2) p := fun σ H L Q l hh k =>
  ⟨_, pe_join (we_pe e1) (we_pe e2) hs hbase hline, h σ H L _ l hh fun r1 ρ1 v1 H1 ⟨a, er, h1⟩ l1 hh1 => by
    subst er
    have ev := hh1.isS
    subst ev
    refine ⟨⟨_, rfl⟩, h1 σ H1 L _ l1 hh1.drop fun r2 ρ2 v2 H2 ⟨ys, h2, hz, hp⟩ l2 hh2 => ?_⟩
    rcases h2 with h2 | h2
    · obtain ⟨q, xs, rfl, lx, h3⟩ := hh2.toL h2
      obtain ⟨G, hG⟩ := id h3
      obtain ⟨v, ev, a', ea, s1, s2⟩ := hG.ok _ List.mem_cons_self
      cases ev
      cases ea
      have := dp_strs s2
      subst this
      exact ⟨a, q, ys, rfl, rfl, .inl h3.itemsL, hz, k _ ρ2 _ H2 hp l2 (h3.drop.str _)⟩
    · subst h2
      obtain ⟨q, xs, rfl, lx, h3⟩ := hh2.toT
      obtain ⟨G, hG⟩ := id h3
      obtain ⟨v, ev, a', ea, s1, s2⟩ := hG.ok _ List.mem_cons_self
      cases ev
      cases ea
      have := dp_strs s2
      subst this
      exact ⟨a, q, ys, rfl, rfl, .inr h3.itemsT, hz, k _ ρ2 _ H2 hp l2 (h3.drop.str _)⟩⟩
/-! ### slices -/
def WO (X : Cx) (o : Option Expr) (σ : L2.St) (H : Hp) (Q : Option Int → Hp → Prop) : Prop := ∃ t, PO X o t ∧ t σ H Q
theorem wo_po (o : Option Expr) : PO X o (WO X o) := ⟨fun pins s σ H Q I ⟨_, h, q⟩ => h.run pins s σ H Q I q⟩
def EO (X : Cx) (b : Bs) (ρ : List Sl) (o : Option Expr) (p : Option Int → List Sl → Prop) : Prop := match o with
  | none => p none ρ
  | some e => EV X b ρ e fun r ρ' => ∃ i, r = .d (.int i) ∧ p (some i) ρ'
theorem eo_go {o : Option Expr} {p : Option Int → List Sl → Prop} (h : EO X b ρ o p) : ∀ σ H L Q, σ.length = ρ.length → Hold X.K b H (σ.zip ρ ++ L) → (∀ c ρ' H', p c ρ' → σ.length = ρ'.length → Hold X.K b H' (σ.zip ρ' ++ L) → Q c H') → WO X o σ H Q := fun σ H L Q l hh k => by
  cases o with
  | none => exact ⟨_, po_none, k none ρ H h l hh⟩
  | some e => exact ⟨_, po_some (we_pe e), h σ H L _ l hh fun r ρ' v H' ⟨i, er, hp⟩ l' hh' => by
      subst er
      have ev := hh'.isI
      subst ev
      exact ⟨i, rfl, k (some i) ρ' H' hp l' hh'.drop⟩⟩
def sSl (X : Cx) : V → Option Int → Option Int → Hp → VK → Prop := fun x lo hi H Q => ∃ rr : V → Option Int → Option Int → Hp → VK → Prop, SlR X rr ∧ rr x lo hi H Q
theorem ssl_ok : SlR X (sSl X) := fun pins s σ H x v vl vu lo hi sl Q I rx hs pl pu ⟨_, h, q⟩ => h pins s σ H x v vl vu lo hi sl Q I rx hs pl pu q
/-- the cut of a value -/
inductive Cut : Sl → Option Int → Option Int → (Sl → Prop) → Prop
  | str {z : Str} {lo hi : Option Int} {p : Sl → Prop} : z.length ≤ sizeLine → p (.d (.str (cutS z lo hi))) → Cut (.d (.str z)) lo hi p
  | lst {r : Sl} {ys : List PyData} {lo hi : Option Int} {p : Sl → Prop} : cool r = .d (.list ys) → p (.own (((ys.drop (HT.sIx ys.length 0 lo)).take (HT.sIx ys.length ys.length hi - HT.sIx ys.length 0 lo)))) → Cut r lo hi p
  | tup {ys : List PyData} {lo hi : Option Int} {p : Sl → Prop} : p (.d (.tuple (((ys.drop (HT.sIx ys.length 0 lo)).take (HT.sIx ys.length ys.length hi - HT.sIx ys.length 0 lo))))) → Cut (.d (.tuple ys)) lo hi p
theorem DpAll.drop2 {K : PySem.W.Frag} {G : Hp} : ∀ {xs : List V} {ys : List PyData} (n : Nat), DpAll K G xs ys → DpAll K G (xs.drop n) (ys.drop n)
  | _, _, 0, h => by simpa using h
  | _, _, _ + 1, .nil => by simpa using DpAll.nil
  | _, _, n + 1, .cons _ h => by simpa using DpAll.drop2 n h
theorem DpAll.take2 {K : PySem.W.Frag} {G : Hp} : ∀ {xs : List V} {ys : List PyData} (n : Nat), DpAll K G xs ys → DpAll K G (xs.take n) (ys.take n)
  | _, _, 0, h => by simpa using DpAll.nil
  | _, _, _ + 1, .nil => by simpa using DpAll.nil
  | _, _, n + 1, .cons g h => by simpa using DpAll.cons g (DpAll.take2 n h)
theorem ev_slice {lo hi : Option Expr} {p1 p2 : Pos} (h : EV X b ρ e fun r ρ1 => (∀ ys, r ≠ .bor ys) ∧ EO X b ρ1 lo fun l ρ2 => EO X b ρ2 hi fun u ρ3 => Cut r l u fun r' => p r' ρ3) : EV X b ρ (.Subscript e (.Slice lo hi none p1) p2) p := fun σ H L Q l hh k =>
  ⟨_, pe_slice ssl_ok (we_pe e) (wo_po lo) (wo_po hi), h σ H L _ l hh fun r ρ1 v H1 ⟨nb, h1⟩ l1 hh1 => eo_go h1 σ H1 ((some v, r) :: L) _ l1 (hh1.perm perm_in.symm) fun lv ρ2 H2 h2 l2 hh2 => eo_go h2 σ H2 ((some v, r) :: L) _ l2 hh2 fun uv ρ3 H3 h3 l3 hh3 => by
    have hh4 := hh3.perm (perm_in (A := σ.zip ρ3))
    cases h3 with
    | str hz hp =>
      have ev := hh4.isS
      subst ev
      exact ⟨_, sl_str, _, rfl, hz, k _ ρ3 _ H3 hp l3 (hh4.drop.str _)⟩
    | lst er hp =>
      obtain ⟨a, xs, rfl, lx, h5⟩ := hh4.toL er
      refine ⟨_, sl_list, a, xs, rfl, h5.itemsL, fun q hq => k _ ρ3 _ _ hp l3 ?_⟩
      obtain ⟨G, hG⟩ := h5
      obtain ⟨v', ev, a', ea, s1, s2⟩ := hG.ok _ List.mem_cons_self
      cases ev
      cases ea
      refine ⟨G, hG.drop.newL hq ?_⟩
      unfold cutV
      rw [lx]
      exact DpAll.take2 _ (DpAll.drop2 _ s2)
    | tup hp =>
      obtain ⟨a, xs, rfl, lx, h5⟩ := hh4.toT
      obtain ⟨G, hG⟩ := id h5
      obtain ⟨v', ev, a', ea, s1, s2⟩ := hG.ok _ List.mem_cons_self
      cases ev
      cases ea
      refine ⟨_, sl_tupA, a, xs, rfl, h5.itemsT, fun w => ?_, fun _ q hq => ?_⟩
      · refine k _ ρ3 _ H3 hp l3 ⟨G, hG.drop.add ?_⟩
        have w1 := w.1
        have w2 := w.2
        rw [lx] at w1 w2
        rw [w1, w2, List.drop_zero, Nat.sub_zero, List.take_of_length_le (Nat.le_refl _)]
        exact .tup s1 s2
      · refine k _ ρ3 _ _ hp l3 ⟨_, hG.drop.newT hq ?_⟩
        unfold cutV
        rw [lx]
        exact DpAll.take2 _ (DpAll.drop2 _ s2)⟩
/-- the operands are changed no more -/
theorem OV.cool {f : Value → Value → Sem Value} {r1 r2 : Sl} {p : Sl → Prop} (h : OV X b f (DE.cool r1) (DE.cool r2) p) : OV X b f r1 r2 p := by
  obtain ⟨rr, ho, k⟩ := h
  refine ⟨rr, ho, fun v1 v2 H L Q hh q => k v1 v2 H L Q ?_ q⟩
  have h1 := hh.cool
  exact ((h1.perm (List.Perm.swap ..)).cool).perm (List.Perm.swap ..)
theorem IV.cool {r1 r2 : Sl} {p : Sl → Prop} (h : IV X b (DE.cool r1) (DE.cool r2) p) : IV X b r1 r2 p := by
  obtain ⟨rr, ho, k⟩ := h
  refine ⟨rr, ho, fun v1 v2 H L Q hh q => k v1 v2 H L Q ?_ q⟩
  have h1 := hh.cool
  exact ((h1.perm (List.Perm.swap ..)).cool).perm (List.Perm.swap ..)
theorem dp_ints {K : PySem.W.Frag} {G : Hp} : ∀ {xs : List V} {ys : List Int}, DpAll K G xs (ys.map .int) → xs = ys.map .int
  | [], [], _ => rfl
  | [], _ :: _, h => by cases h
  | _ :: _, [], h => by cases h
  | x :: xs, y :: ys, h => by
    cases h with
    | cons h1 h2 =>
      cases h1
      rw [dp_ints h2, List.map_cons]
theorem intIn (z : Int) : ∀ l : List Int, inV (.int z) (l.map V.int) = l.contains z
  | [] => rfl
  | x :: l => by
    have ih := intIn z l
    unfold inV at ih ⊢
    rw [List.map_cons, List.any_cons, ih, List.contains_cons]
    congr 1
    simp only [eqV]
    first | rfl | exact Bool.beq_comm .. | (rw [Bool.eq_iff_iff]; simp [eq_comm])
theorem intFlat (l : List Int) : (l.map V.int).all flatV = true := by
  rw [List.all_map]
  exact List.all_eq_true.mpr fun _ _ => rfl
theorem ov_inI {x : Int} {ys : List Int} {y : PyData} {p : Sl → Prop} (hy : y = .tuple (ys.map .int) ∨ y = .list (ys.map .int)) (h : p (.d (.bool (ys.contains x)))) : OV X b (compareOp .In) (.d (.int x)) (.d y) p := ⟨_, op_in_seq, fun v1 v2 H L Q hh k => by
  have e1 := hh.isI
  subst e1
  have hd := hh.drop.dp
  rcases hy with rfl | rfl
  · cases hd with
    | tup h1 h2 =>
      have e := dp_ints h2
      subst e
      refine ⟨_, _, rfl, .inr h1, rfl, intFlat _, ?_⟩
      rw [intIn]
      exact k _ _ H h (hh.drop.drop.bl _)
  · cases hd with
    | lst h1 h2 =>
      have e := dp_ints h2
      subst e
      refine ⟨_, _, rfl, .inl h1, rfl, intFlat _, ?_⟩
      rw [intIn]
      exact k _ _ H h (hh.drop.drop.bl _)⟩
/-- one sign in a text -/
theorem ov_inC {c : Nat} {z : Str} {p : Sl → Prop} (h : p (.d (.bool (decide (c ∈ z.cps.toList))))) : OV X b (compareOp .In) (.d (.str ⟨#[c]⟩)) (.d (.str z)) p := ⟨_, op_inS, fun v1 v2 H L Q hh k => by
  have e1 := hh.isS
  have e2 := hh.drop.isS
  subst e1 e2
  exact ⟨c, z, rfl, rfl, k _ _ H h (hh.drop.drop.bl _)⟩⟩
theorem ov_notInC {c : Nat} {z : Str} {p : Sl → Prop} (h : p (.d (.bool (!decide (c ∈ z.cps.toList))))) : OV X b (compareOp .NotIn) (.d (.str ⟨#[c]⟩)) (.d (.str z)) p := ⟨_, op_notInS, fun v1 v2 H L Q hh k => by
  have e1 := hh.isS
  have e2 := hh.drop.isS
  subst e1 e2
  exact ⟨c, z, rfl, rfl, k _ _ H h (hh.drop.drop.bl _)⟩⟩
/-- x, y = e1, e2 -/
theorem xs_par (i j : Nat) {p : Po} {x y : Str} {px py pt pos : Pos} {kt k2 : Nat} {pt2 : Pos} (hc : X.calm = true) (hN : X.N.Nodup) (hi : X.N[i]? = some x) (hj : X.N[j]? = some y) (hij : i ≠ j) (li : i < ρ.length) (lj : j < ρ.length)
    (hx : X.env.scope.names.lookup x = some .local) (hy : X.env.scope.names.lookup y = some .local) (h : EA X b ρ [e1, e2] fun rs ρ' => ρ'.length = ρ.length → ∃ r1 r2, rs = [r1, r2] ∧ p.nx ((ρ'.set i r1).set j r2))
    (hw : swappedStores [.Tuple [.Name x px, .Name y py] kt pt] (.Tuple [e1, e2] k2 pt2) X.env = pure (some [x, y]))
    (hs : swapsWithSole [.Tuple [.Name x px, .Name y py] kt pt] (.Tuple [e1, e2] k2 pt2) pos.line X.env = pure false := by rfl) :
    XS X b ρ (.Assign [.Tuple [.Name x px, .Name y py] kt pt] (.Tuple [e1, e2] k2 pt2) pos) p := fun σ H L D l hh k =>
  ⟨_, ps_par hc hN hi hj hij hx hy (wa_pa _) hw hs, h σ H L _ l hh fun rs ρ' vs H' h1 l' lv hh' => by
    have n' := l'.symm.trans l
    obtain ⟨r1, r2, er, hp⟩ := h1 n'
    subst er
    match vs, lv with
    | [v1, v2], _ =>
      refine ⟨v1, v2, rfl, k.nx _ _ H' hp (by simp [l']) (by simp [n']) ?_⟩
      have hh2 : Hold X.K b H' ((some v1, r1) :: (some v2, r2) :: (σ.zip ρ' ++ L)) := hh'
      obtain ⟨c, M, p1, p2⟩ := zip_set (r := r1) (x := some v1) (by rw [n']; exact li) l'
      have h3 : Hold X.K b H' ((some v2, r2) :: ((σ.set i (some v1)).zip (ρ'.set i r1) ++ L)) := by
        have h2 : Hold X.K b H' (c :: ((some v2, r2) :: (some v1, r1) :: (M ++ L))) := hh2.perm (by
          refine ((List.Perm.cons _ (List.Perm.swap ..)).trans ((List.Perm.swap ..).trans (List.Perm.cons _ (List.Perm.swap ..)))).trans ?_
          exact List.Perm.cons _ (List.Perm.cons _ (p1.symm.append_right L)))
        exact h2.drop.perm (List.Perm.cons _ (p2.append_right L))
      obtain ⟨c2, M2, q1, q2⟩ := zip_set (σ := σ.set i (some v1)) (ρ := ρ'.set i r1) (r := r2) (x := some v2) (i := j) (by rw [List.length_set, n']; exact lj) (by simp [l'])
      have h4 : Hold X.K b H' (c2 :: ((some v2, r2) :: (M2 ++ L))) := h3.perm ((List.Perm.swap ..).trans (List.Perm.cons _ (q1.symm.append_right L)))
      exact h4.drop.perm (q2.append_right L)⟩
end

end DE

namespace DE
open PySem PySem.Spec PyProof.Rows L2 SZ VR VX StX RT
/-- the data of cells, lists held alone read for good -/
def datas : List Sl → Option (List PyData)
  | [] => some []
  | .d y :: rs => match datas rs with
    | some ys => some (y :: ys)
    | none => none
  | .own zs :: rs => match datas rs with
    | some ys => some (.list zs :: ys)
    | none => none
  | _ => none
theorem datas_cool : ∀ {rs : List Sl} {ys : List PyData}, datas rs = some ys → rs.map cool = ys.map .d
  | [], ys, h => by
    unfold datas at h
    cases h
    rfl
  | .d y :: rs, ys, h => by
    unfold datas at h
    cases e : datas rs with
    | none => rw [e] at h; cases h
    | some zs =>
      rw [e] at h
      cases h
      rw [List.map_cons, List.map_cons, datas_cool e]
      rfl
  | .own y :: rs, ys, h => by
    unfold datas at h
    cases e : datas rs with
    | none => rw [e] at h; cases h
    | some zs =>
      rw [e] at h
      cases h
      rw [List.map_cons, List.map_cons, datas_cool e]
      rfl
  | .un :: rs, ys, h => by simp [datas] at h
  | .bor _ :: rs, ys, h => by simp [datas] at h
  | .fact _ _ :: rs, ys, h => by simp [datas] at h
  | .dct _ _ :: rs, ys, h => by simp [datas] at h
section
variable {X : Cx} {b : Bs} {ρ : List Sl} {p : Sl → List Sl → Prop} {e : Expr} {es : List Expr} {pos : Pos}
theorem ev_tupD {k : Nat} (h : EA X b ρ es fun rs ρ' => ∃ ys : List PyData, datas rs = some ys ∧ ys.length ≤ 100000 ∧ p (.d (.tuple ys)) ρ') : EV X b ρ (.Tuple es k pos) p := fun σ H L Q l hh k =>
  ⟨_, pe_tup (wa_pa es), h σ H L _ l hh fun rs ρ' vs H' ⟨ys, e, n, hp⟩ l' lv hh' => by
    have h2 := hh'.coolAll
    have e2 := datas_cool e
    rw [e2] at h2
    have lr : rs.length = ys.length := by have := congrArg List.length e2; simpa using this
    refine ⟨by rw [lv, lr, sizeLine_eq]; omega, fun a ha => ?_⟩
    obtain ⟨G, hg⟩ := h2
    exact k _ ρ' _ _ hp l' ⟨_, hg.dropM.newT ha (HoldG.all (lv.trans lr) hg)⟩⟩
theorem ev_lstD (h : EA X b ρ es fun rs ρ' => ∃ ys : List PyData, datas rs = some ys ∧ ys.length ≤ 100000 ∧ p (.own ys) ρ') : EV X b ρ (.List es pos) p := fun σ H L Q l hh k =>
  ⟨_, pe_lst (wa_pa es), h σ H L _ l hh fun rs ρ' vs H' ⟨ys, e, n, hp⟩ l' lv hh' => by
    have h2 := hh'.coolAll
    have e2 := datas_cool e
    rw [e2] at h2
    have lr : rs.length = ys.length := by have := congrArg List.length e2; simpa using this
    refine ⟨by rw [lv, lr, sizeLine_eq]; omega, fun a ha => ?_⟩
    obtain ⟨G, hg⟩ := h2
    exact k _ ρ' _ _ hp l' ⟨_, hg.dropM.newL ha (HoldG.all (lv.trans lr) hg)⟩⟩
/-- a name of the module that holds data -/
def GlD (X : Cx) (x : Str) (y : PyData) : Prop := ∃ v u, X.mg x = some u ∧ RelV v u ∧ ∀ G, Dp X.K G v y
theorem ev_glob {x : Str} {y : PyData} (g : GlD X x y) (hg : Gl X x) (h : p (.d y) ρ) (hd : (x == ("__debug__" : Str)) = false := by decide) : EV X b ρ (.Name x pos) p := fun σ H L Q l hh k => by
  obtain ⟨v, u, hm, r, hv⟩ := g
  obtain ⟨G, hG⟩ := hh
  exact ⟨_, pe_glob hg hm r hd, k _ ρ v H h l ⟨G, hG.add (hv G)⟩⟩
/-- a def that is called: all that a call asks -/
structure CalP (P : Program) (w : World) (K : PySem.W.Frag) (mg : Str → Option Value) (base : Heap) (CX : CXT) (x : Str) (k : Nat) (Pre : List Sl → Prop) (Res : List Sl → Sl → Prop) : Prop where
  ex : ∃ f fd ps, FnOk P w K mg base CX k f fd ps (spP K Pre Res) ∧ mg x = some (.ref f) ∧ PySem.W.keepIn K (.ref f) = true ∧ Binds K fd ps []
structure CalB (P : Program) (w : World) (K : PySem.W.Frag) (mg : Str → Option Value) (base : Heap) (CX : CXT) (x : Str) (k : Nat) (Pre : List PyData → List Sl → Prop) (Res : List PyData → List Sl → Sl → List PyData → Prop) : Prop where
  ex : ∃ f fd ps, FnOk P w K mg base CX k f fd ps (spB K Pre Res) ∧ mg x = some (.ref f) ∧ PySem.W.keepIn K (.ref f) = true ∧ Binds K fd ps []
theorem ev_cal {CX : CXT} {k : Nat} {Pre : List Sl → Prop} {Res : List Sl → Sl → Prop} {x : Str} {p1 cp : Pos} (C : CalP X.prog X.w X.K X.mg X.base CX x k Pre Res) (hr : Room k X.A) (hg : Gl X x) {E : XK} (hx : Passes CX X E)
    (h : EA X b ρ (e :: es) fun rs ρ' => ∃ ys, datas rs = some ys ∧ Pre (ys.map .d) ∧ ∀ r, Res (ys.map .d) r → (∀ ys, r ≠ .bor ys) ∧ p r ρ')
    (hdb : (x == ("__debug__" : Str)) = false := by decide) (he : starEach (e :: es) X.env = (false, eval e X.env) :: starEach es X.env := by rfl) (hpl : (backTo cp (starEach es X.env)).any (·.1) = false := by rfl) : EV X b ρ (.Call (.Name x p1) (e :: es) [] cp) p := by
  obtain ⟨f, fd, ps, F, hm, hk, hb⟩ := C.ex
  refine ev_call F hr hg hm hk hb hx (fun σ H L Q l hh k => h σ H L Q l hh fun rs ρ' vs H' ⟨ys, ed, h1, h2⟩ => k rs ρ' vs H' ?_) hdb he hpl
  dsimp only
  rw [datas_cool ed]
  refine ⟨fun r hr => ?_, h1, h2⟩
  obtain ⟨y, _, rfl⟩ := List.mem_map.mp hr
  rfl
theorem ev_calL (i : Nat) {CX : CXT} {k : Nat} {Pre : List PyData → List Sl → Prop} {Res : List PyData → List Sl → Sl → List PyData → Prop} {x y : Str} {p1 p2 cp : Pos} (C : CalB X.prog X.w X.K X.mg X.base CX x k Pre Res) (hr : Room k X.A) (hg : Gl X x) {E : XK} (hx : Passes CX X E)
    (hN : X.N[i]? = some y) (hv : Vis X.env.scope y)
    (h : EA X b ρ es fun rs ρ' => ∃ zs, datas rs = some zs ∧ ∃ s ys, ρ'[i]? = some s ∧ (s = .own ys ∨ s = .bor ys) ∧ Pre ys (zs.map .d) ∧ ∀ r ys', Res ys (zs.map .d) r ys' → (∀ ys, r ≠ .bor ys) ∧ p r (ρ'.set i (setS s ys')))
    (hs0 : ∃ s ys, ρ[i]? = some s ∧ (s = .own ys ∨ s = .bor ys))
    (hdy : (y == ("__debug__" : Str)) = false := by decide) (hcy : (y == ("__classdict__" : Str)) = false := by decide) (hdb : (x == ("__debug__" : Str)) = false := by decide) (he : starEach (.Name y p2 :: es) X.env = (false, eval (.Name y p2) X.env) :: starEach es X.env := by rfl) (hpl : (backTo cp (starEach es X.env)).any (·.1) = false := by rfl) : EV X b ρ (.Call (.Name x p1) (.Name y p2 :: es) [] cp) p := by
  obtain ⟨f, fd, ps, F, hm, hk, hb⟩ := C.ex
  refine ev_callL i F hr hg hm hk hb hx hN hv (fun σ H L Q l hh k => h σ H L Q l hh fun rs ρ' vs H' ⟨zs, ed, h1⟩ => k rs ρ' vs H' ?_) hs0 hdy hcy hdb he hpl
  dsimp only
  rw [datas_cool ed]
  refine ⟨fun r hr => ?_, h1⟩
  obtain ⟨y, _, rfl⟩ := List.mem_map.mp hr
  rfl
end

end DE

namespace DE
open PySem PySem.Spec PyProof.Rows L2 SZ VR VX StX RT
/-! ### expressions that change nothing: what they come to -/
def EVr (X : Cx) (b : Bs) (ρ : List Sl) (e : Expr) (r : Sl) : Prop := ∀ p : Sl → List Sl → Prop, p r ρ → EV X b ρ e p
def ETr (X : Cx) (b : Bs) (ρ : List Sl) (e : Expr) (c : Bool) : Prop := ∀ p : Bool → List Sl → Prop, p c ρ → ET X b ρ e p
def EWr (X : Cx) (b : Bs) (ρ : List Sl) (e : Expr) (c : Bool) : Prop := ∀ p : Bool → List Sl → Prop, p c ρ → EW X b ρ e p
def EAr (X : Cx) (b : Bs) (ρ : List Sl) (es : List Expr) (rs : List Sl) : Prop := ∀ p : List Sl → List Sl → Prop, p rs ρ → EA X b ρ es p
def OVr (X : Cx) (b : Bs) (f : Value → Value → Sem Value) (r1 r2 r : Sl) : Prop := ∀ p : Sl → Prop, p r → OV X b f r1 r2 p
def IVr (X : Cx) (b : Bs) (r1 r2 r : Sl) : Prop := ∀ p : Sl → Prop, p r → IV X b r1 r2 p
def UVr (X : Cx) (b : Bs) (f : Value → Sem Value) (r1 r : Sl) : Prop := ∀ p : Sl → Prop, p r → UV X b f r1 p
def CVr (X : Cx) (b : Bs) (f : Value) (rs : List Sl) (r : Sl) : Prop := ∀ p : Sl → Prop, p r → CV X b f rs p
section
variable {X : Cx} {b : Bs} {ρ : List Sl} {e e1 e2 e3 : Expr} {es rest : List Expr} {pos : Pos} {r r1 r2 r3 : Sl} {x y z : PyData} {c c1 c2 : Bool}
theorem r_int {i : Int} {j} : EVr X b ρ (.Constant (.int i) j pos) (.d (.int i)) := fun _ h => ev_int h
theorem r_bl {i : Bool} {j} : EVr X b ρ (.Constant (.bool i) j pos) (.d (.bool i)) := fun _ h => ev_bl h
theorem r_str {i : Str} {j} : EVr X b ρ (.Constant (.str i) j pos) (.d (.str i)) := fun _ h => ev_str h
theorem r_non {j} : EVr X b ρ (.Constant .none j pos) (.d .none) := fun _ h => ev_non h
theorem r_var (i : Nat) {y : PyData} {x : Str} (hN : X.N[i]? = some x) (hv : Vis X.env.scope x) (hr : ρ[i]? = some (.d y)) (hd : (x == ("__debug__" : Str)) = false := by decide) (hcd : (x == ("__classdict__" : Str)) = false := by decide) : EVr X b ρ (.Name x pos) (.d y) := fun _ h => ev_var i hN hv hr h hd hcd
theorem r_glob {x : Str} {y : PyData} (g : GlD X x y) (hg : Gl X x) (hd : (x == ("__debug__" : Str)) = false := by decide) : EVr X b ρ (.Name x pos) (.d y) := fun _ h => ev_glob g hg h hd
theorem r_bin {op : Operator} (h1 : EVr X b ρ e1 r1) (h2 : EVr X b ρ e2 r2) (h3 : OVr X b (binaryOp op) r1 r2 r) : EVr X b ρ (.BinOp e1 op e2 pos) r := fun _ h => ev_bin (h1 _ (h2 _ (h3 _ h)))
theorem r_cmp {op : CmpOp} (h1 : EVr X b ρ e1 r1) (h2 : EVr X b ρ e2 r2) (h3 : OVr X b (compareOp op) r1 r2 r) (hm : behindInMarks op e2 = false := by first | exact nomark _ | rfl | with_unfolding_all rfl) : EVr X b ρ (.Compare e1 [op] [e2] pos) r := fun _ h => ev_cmp hm (h1 _ (h2 _ (h3 _ h)))
theorem t_cmp {op : CmpOp} (h1 : EVr X b ρ e1 r1) (h2 : EVr X b ρ e2 r2) (h3 : OVr X b (compareOp op) r1 r2 (.d (.bool c))) (hm : behindInMarks op e2 = false := by first | exact nomark _ | rfl | with_unfolding_all rfl) : ETr X b ρ (.Compare e1 [op] [e2] pos) c := fun _ h => et_cmp hm (h1 _ (h2 _ (h3 _ ⟨_, rfl, h⟩)))
theorem r_chain {o1 o2 : CmpOp} (h1 : EVr X b ρ e1 r1) (h2 : EVr X b ρ e2 (.d y)) (h3 : EVr X b ρ e3 r3) (h4 : OVr X b (compareOp o1) r1 (.d y) (.d (.bool c1))) (h5 : OVr X b (compareOp o2) (.d y) r3 (.d (.bool c2))) (hm : lastMarks [o1, o2] [e2, e3] = false := by with_unfolding_all rfl) : EVr X b ρ (.Compare e1 [o1, o2] [e2, e3] pos) (.d (.bool (c1 && c2))) := fun _ h =>
  ev_chain hm (h1 _ (h2 _ ⟨y, rfl, h4 _ ⟨c1, rfl, fun e => by subst e; exact h, fun e => h3 _ (h5 _ (by subst e; exact h))⟩⟩))
theorem t_chain {o1 o2 : CmpOp} (h1 : EVr X b ρ e1 r1) (h2 : EVr X b ρ e2 (.d y)) (h3 : EVr X b ρ e3 r3) (h4 : OVr X b (compareOp o1) r1 (.d y) (.d (.bool c1))) (h5 : OVr X b (compareOp o2) (.d y) r3 (.d (.bool c2))) (hm : lastMarks [o1, o2] [e2, e3] = false := by with_unfolding_all rfl) : ETr X b ρ (.Compare e1 [o1, o2] [e2, e3] pos) (c1 && c2) := fun _ h =>
  et_chain hm (h1 _ (h2 _ ⟨y, rfl, h4 _ ⟨c1, rfl, fun e => by subst e; exact h, fun e => h3 _ (h5 _ ⟨c2, rfl, by subst e; exact h⟩)⟩⟩))
theorem r_one {op : BoolOp} (h : EVr X b ρ e r) : EVr X b ρ (.BoolOp op [e] pos) r := fun _ k => ev_one (h _ k)
theorem r_and (h1 : EVr X b ρ e1 (.d (.bool c1))) (h2 : c1 = true → EVr X b ρ (.BoolOp .And (e2 :: rest) pos) (.d (.bool c2))) : EVr X b ρ (.BoolOp .And (e1 :: e2 :: rest) pos) (.d (.bool (c1 && c2))) := fun _ h =>
  ev_and (h1 _ ⟨c1, rfl, fun e => by subst e; exact h, fun e => h2 e _ (by subst e; exact h)⟩)
theorem r_or (h1 : EVr X b ρ e1 (.d (.bool c1))) (h2 : c1 = false → EVr X b ρ (.BoolOp .Or (e2 :: rest) pos) (.d (.bool c2))) : EVr X b ρ (.BoolOp .Or (e1 :: e2 :: rest) pos) (.d (.bool (c1 || c2))) := fun _ h =>
  ev_or (h1 _ ⟨c1, rfl, fun e => by subst e; exact h, fun e => h2 e _ (by subst e; exact h)⟩)
theorem r_not (h1 : EVr X b ρ e (.d (.bool c))) : EVr X b ρ (.UnaryOp .Not e pos) (.d (.bool (!c))) := fun _ h => ev_not (h1 _ ⟨c, rfl, h⟩)
theorem t_val (h1 : EVr X b ρ e (.d (.bool c))) (he : ∀ whole, isTrue e X.env whole = (do let v ← whole; standAt e.pos; holding [v] (truthy v)) := by intro _; rfl) : ETr X b ρ e c := fun _ h => et_val he (h1 _ ⟨c, rfl, h⟩)
theorem t_not (h1 : ETr X b ρ e c) : ETr X b ρ (.UnaryOp .Not e pos) (!c) := fun _ h => et_not (h1 _ h)
theorem t_w (h1 : EWr X b ρ e c) : ETr X b ρ e c := fun _ h => et_w (h1 _ h)
theorem w_and1 (h1 : ETr X b ρ e c) : EWr X b ρ (.BoolOp .And [e] pos) c := fun _ h => ew_and1 (h1 _ h)
theorem w_or1 (h1 : ETr X b ρ e c) : EWr X b ρ (.BoolOp .Or [e] pos) c := fun _ h => ew_or1 (h1 _ h)
theorem w_and (h1 : ETr X b ρ e1 c1) (h2 : c1 = true → EWr X b ρ (.BoolOp .And (e2 :: rest) pos) c2) : EWr X b ρ (.BoolOp .And (e1 :: e2 :: rest) pos) (c1 && c2) := fun _ h =>
  ew_and (h1 _ ⟨fun e => by subst e; exact h, fun e => h2 e _ (by subst e; exact h)⟩)
theorem w_or (h1 : ETr X b ρ e1 c1) (h2 : c1 = false → EWr X b ρ (.BoolOp .Or (e2 :: rest) pos) c2) : EWr X b ρ (.BoolOp .Or (e1 :: e2 :: rest) pos) (c1 || c2) := fun _ h =>
  ew_or (h1 _ ⟨fun e => by subst e; exact h, fun e => h2 e _ (by subst e; exact h)⟩)
theorem r_if {t : Expr} (h : ETr X b ρ t c) (h1 : c = true → EVr X b ρ e1 (.d x)) (h2 : c = false → EVr X b ρ e2 (.d y)) : EVr X b ρ (.IfExp t e1 e2 pos) (.d (if c = true then x else y)) := fun _ k =>
  ev_if (h _ ⟨fun e => h1 e _ (by subst e; exact k), fun e => h2 e _ (by subst e; exact k)⟩)
/-- .. of one kind -/
theorem r_ifI {t : Expr} {x y : Int} (h : ETr X b ρ t c) (h1 : c = true → EVr X b ρ e1 (.d (.int x))) (h2 : c = false → EVr X b ρ e2 (.d (.int y))) : EVr X b ρ (.IfExp t e1 e2 pos) (.d (.int (if c = true then x else y))) := fun _ k =>
  ev_if (h _ ⟨fun e => h1 e _ (by subst e; exact k), fun e => h2 e _ (by subst e; exact k)⟩)
theorem r_ifS {t : Expr} {x y : Str} (h : ETr X b ρ t c) (h1 : c = true → EVr X b ρ e1 (.d (.str x))) (h2 : c = false → EVr X b ρ e2 (.d (.str y))) : EVr X b ρ (.IfExp t e1 e2 pos) (.d (.str (if c = true then x else y))) := fun _ k =>
  ev_if (h _ ⟨fun e => h1 e _ (by subst e; exact k), fun e => h2 e _ (by subst e; exact k)⟩)
theorem r_un {op : UnaryOp} (h1 : EVr X b ρ e r1) (h2 : UVr X b (unaryOp op) r1 r) : EVr X b ρ (.UnaryOp op e pos) r := fun _ h => ev_un (h1 _ (h2 _ h))
theorem a_nil : EAr X b ρ [] [] := fun _ h => ea_nil h
theorem a_cons {rs : List Sl} (h1 : EVr X b ρ e r) (h2 : EAr X b ρ es rs) (hs : starEach (e :: es) X.env = (false, eval e X.env) :: starEach es X.env := by rfl) : EAr X b ρ (e :: es) (r :: rs) := fun _ h => ea_cons hs (h1 _ (h2 _ h))
theorem r_tup {k : Nat} {rs : List Sl} {ys : List PyData} (h : EAr X b ρ es rs) (e : datas rs = some ys) (n : ys.length ≤ 100000 := by simp) : EVr X b ρ (.Tuple es k pos) (.d (.tuple ys)) := fun _ k => ev_tupD (h _ ⟨ys, e, n, k⟩)
theorem r_lst {rs : List Sl} {ys : List PyData} (h : EAr X b ρ es rs) (e : datas rs = some ys) (n : ys.length ≤ 100000 := by simp) : EVr X b ρ (.List es pos) (.own ys) := fun _ k => ev_lstD (h _ ⟨ys, e, n, k⟩)
theorem r_ix (h1 : EVr X b ρ e1 r1) (h2 : EVr X b ρ e2 r2) (h3 : IVr X b r1 r2 r) (hs : PlainIx e2 := by intro _ _; rfl) : EVr X b ρ (.Subscript e1 e2 pos) r := fun _ h => ev_ix hs (h1 _ (h2 _ (h3 _ h)))
theorem r_callB {id : String} {x : Str} {ps cp : Pos} {rs : List Sl} (hm : X.mg x = none) (h : EAr X b ρ (e :: es) rs) (h3 : CVr X b (.builtin id) rs r) (hg : Gl X x := by rfl) (hv : bootBuiltins x = some (.builtin id) := by decide +kernel) (hn : x ≠ "__name__" := by decide) (hdb : (x == ("__debug__" : Str)) = false := by decide)
    (he : starEach (e :: es) X.env = (false, eval e X.env) :: starEach es X.env := by rfl) (hpl : (backTo cp (starEach es X.env)).any (·.1) = false := by rfl) : EVr X b ρ (.Call (.Name x ps) (e :: es) [] cp) r := fun _ k => ev_callB hg hm hv (h _ (h3 _ k)) hn hdb he hpl
theorem r_callTy {T : String} {x : Str} {ps cp : Pos} {rs : List Sl} (hm : X.mg x = none) (h : EAr X b ρ (e :: es) rs) (h3 : CVr X b (.type T) rs r) (hg : Gl X x := by rfl) (hv : bootBuiltins x = some (.type T) := by decide +kernel) (hn : x ≠ "__name__" := by decide) (hdb : (x == ("__debug__" : Str)) = false := by decide)
    (he : starEach (e :: es) X.env = (false, eval e X.env) :: starEach es X.env := by rfl) (hpl : (backTo cp (starEach es X.env)).any (·.1) = false := by rfl) : EVr X b ρ (.Call (.Name x ps) (e :: es) [] cp) r := fun _ k => ev_callTy hg hm hv (h _ (h3 _ k)) hn hdb he hpl
theorem r_isi {t : String} {x : Str} {ps cp pn : Pos} (hm : X.mg "isinstance" = none) (hmt : X.mg x = none) (h : EVr X b ρ e (.d y)) (hg : Gl X "isinstance" := by rfl) (hgt : Gl X x := by rfl) (hv : bootBuiltins x = some (.type t) := by decide +kernel) (ht : t = "int" ∨ t = "bool" ∨ t = "str" ∨ t = "tuple" ∨ t = "list" ∨ t = "dict" := by decide)
    (hn : x ≠ "__name__" := by decide) (hd : (x == ("__debug__" : Str)) = false := by decide) (he : starEach [e, .Name x pn] X.env = (false, eval e X.env) :: starEach [.Name x pn] X.env := by rfl) (hpl : (backTo cp (starEach [.Name x pn] X.env)).any (·.1) = false := by rfl) :
    EVr X b ρ (.Call (.Name "isinstance" ps) [e, .Name x pn] [] cp) (.d (.bool (subTy (tyD y) t))) := fun _ k => ev_isi hg hm hgt hmt hv ht (h _ ⟨y, rfl, k⟩) hn hd he hpl
theorem r_cal {CX : CXT} {k : Nat} {Pre : List Sl → Prop} {Res : List Sl → Sl → Prop} {x : Str} {p1 cp : Pos} {rs : List Sl} {ys : List PyData} (C : CalP X.prog X.w X.K X.mg X.base CX x k Pre Res) (hr : Room k X.A) {E : XK} (hx : Passes CX X E)
    (h : EAr X b ρ (e :: es) rs) (ed : datas rs = some ys) (h1 : Pre (ys.map .d)) (h2 : ∀ r', Res (ys.map .d) r' → r' = r) (nb : ∀ ys, r ≠ .bor ys := by intro _; nofun) (hg : Gl X x := by rfl)
    (hdb : (x == ("__debug__" : Str)) = false := by decide) (he : starEach (e :: es) X.env = (false, eval e X.env) :: starEach es X.env := by rfl) (hpl : (backTo cp (starEach es X.env)).any (·.1) = false := by rfl) : EVr X b ρ (.Call (.Name x p1) (e :: es) [] cp) r := fun _ q =>
  ev_cal C hr hg hx (h _ ⟨ys, ed, h1, fun r' hr' => by rw [h2 r' hr']; exact ⟨nb, q⟩⟩) hdb he hpl
theorem r_join {p1 p2 : Pos} {a : Str} {ys : List Str} (h1 : EVr X b ρ e1 (.d (.str a))) (h2 : EVr X b ρ e2 r2) (h3 : cool r2 = .d (.list (ys.map .str)) ∨ r2 = .d (.tuple (ys.map .str))) (hz : (ys.map (·.length)).sum + ys.length * a.length ≤ 16777216)
    (hs : starEach [e2] X.env = [(false, eval e2 X.env)] := by rfl) (hbase : attributeBase e1 "join" X.env (eval e1 X.env) = eval e1 X.env := by rfl) (hline : (p1.endLine == p2.line) = true := by rfl) : EVr X b ρ (.Call (.Attribute e1 "join" p1) [e2] [] p2) (.d (.str (Txt.join a ys))) := fun _ k =>
  ev_join (h1 _ ⟨a, rfl, h2 _ ⟨ys, h3, hz, k⟩⟩) hs hbase hline
theorem r_slice {lo hi : Option Expr} {l u : Option Int} {p1 p2 : Pos} (h : EVr X b ρ e r) (hl : ∀ p, p l ρ → EO X b ρ lo p) (hu : ∀ p, p u ρ → EO X b ρ hi p) (h3 : ∀ p : Sl → Prop, p r2 → Cut r l u p) (nb : ∀ ys, r ≠ .bor ys := by intro _; nofun) : EVr X b ρ (.Subscript e (.Slice lo hi none p1) p2) r2 := fun _ k => ev_slice (h _ ⟨nb, hl _ (hu _ (h3 _ k))⟩)
theorem o_none {p : Option Int → List Sl → Prop} (h : p none ρ) : EO X b ρ none p := h
theorem o_some {i : Int} {p : Option Int → List Sl → Prop} (h1 : EVr X b ρ e (.d (.int i))) (h : p (some i) ρ) : EO X b ρ (some e) p := h1 _ ⟨i, rfl, h⟩
variable {p : Po} {st : List Stmt} {s1 s2 : List Stmt}
theorem x_ret (h : EVr X b ρ e r) (k : p.rt r ρ) : XS X b ρ (.Return (some e) pos) p := xs_ret (h _ fun _ => k)
theorem x_if {t : Expr} (h : ETr X b ρ t c) (h1 : c = true → XB X b ρ s1 p) (h2 : c = false → XB X b ρ s2 p) : XS X b ρ (.If t s1 s2 pos) p := xs_if (h _ fun _ => ⟨h1, h2⟩)
theorem x_set (i : Nat) {x : Str} {pos' : Pos} {ρ2 : List Sl} (h : EVr X b ρ e r) (hi : X.N[i]? = some x) (hx : Loc X.env.scope x) (hN : X.N.Nodup) (h2 : ρ.set i r = ρ2) (k : p.nx ρ2) (hl : i < ρ.length := by first | decide | simp) (hs : swapsWith e (some (.Name x pos')) pos.line X.env = pure false := by rfl) (hf : X.fn x = true ∨ X.env.scope.names.lookup x = some .local := by first | exact .inl rfl | exact .inr rfl | assumption) : XS X b ρ (.Assign [.Name x pos'] e pos) p :=
  xs_set i hN hi hx hl hs hf (h _ fun _ => by rw [h2]; exact k)
theorem x_cons {stm : Stmt} {rest : List Stmt} (h : XS X b ρ stm { p with nx := fun ρ' => ρ'.length = ρ.length → XB X b ρ' rest p }) : XB X b ρ (stm :: rest) p := xb_cons h
end

end DE

namespace DE
open PySem PySem.Spec PyProof.Rows L2 SZ VR VX StX RT
def strsOf : List PyData → Option (List Str)
  | [] => some []
  | .str x :: r => match strsOf r with
    | some l => some (x :: l)
    | none => none
  | _ => none
theorem strsOf_map : ∀ {ys : List PyData} {l : List Str}, strsOf ys = some l → ys = l.map .str
  | [], l, h => by
    unfold strsOf at h
    cases h
    rfl
  | .str x :: r, l, h => by
    unfold strsOf at h
    cases e : strsOf r with
    | none => rw [e] at h; cases h
    | some l' =>
      rw [e] at h
      cases h
      rw [strsOf_map e, List.map_cons]
  | .none :: _, l, h => by simp [strsOf] at h
  | .bool _ :: _, l, h => by simp [strsOf] at h
  | .int _ :: _, l, h => by simp [strsOf] at h
  | .list _ :: _, l, h => by simp [strsOf] at h
  | .tuple _ :: _, l, h => by simp [strsOf] at h
  | .dict _ :: _, l, h => by simp [strsOf] at h
def intsOf : List PyData → Option (List Int)
  | [] => some []
  | .int x :: r => match intsOf r with
    | some l => some (x :: l)
    | none => none
  | _ => none
theorem intsOf_map : ∀ {ys : List PyData} {l : List Int}, intsOf ys = some l → ys = l.map .int
  | [], l, h => by
    unfold intsOf at h
    cases h
    rfl
  | .int x :: r, l, h => by
    unfold intsOf at h
    cases e : intsOf r with
    | none => rw [e] at h; cases h
    | some l' =>
      rw [e] at h
      cases h
      rw [intsOf_map e, List.map_cons]
  | .none :: _, l, h => by simp [intsOf] at h
  | .bool _ :: _, l, h => by simp [intsOf] at h
  | .str _ :: _, l, h => by simp [intsOf] at h
  | .list _ :: _, l, h => by simp [intsOf] at h
  | .tuple _ :: _, l, h => by simp [intsOf] at h
  | .dict _ :: _, l, h => by simp [intsOf] at h
section
variable {X : Cx} {b : Bs} {ρ : List Sl} {e e1 e2 tg elt iter : Expr} {es rest ifs : List Expr} {pos : Pos} {r r1 r2 : Sl} {x y z : PyData} {c : Bool}
theorem or_inS {z : Str} {ds : List PyData} {l : List Str} (er : cool r2 = .d (.list ds) ∨ cool r2 = .d (.tuple ds)) (e : strsOf ds = some l) : OVr X b (compareOp .In) (.d (.str z)) r2 (.d (.bool (l.contains z))) := fun _ h => OV.cool (by
  rcases er with er | er
  · rw [er]; exact ov_inS (.inr (by rw [strsOf_map e])) h
  · rw [er]; exact ov_inS (.inl (by rw [strsOf_map e])) h)
theorem or_notInS {z : Str} {ds : List PyData} {l : List Str} (er : cool r2 = .d (.list ds) ∨ cool r2 = .d (.tuple ds)) (e : strsOf ds = some l) : OVr X b (compareOp .NotIn) (.d (.str z)) r2 (.d (.bool (!l.contains z))) := fun _ h => OV.cool (by
  rcases er with er | er
  · rw [er]; exact ov_notInS (.inr (by rw [strsOf_map e])) h
  · rw [er]; exact ov_notInS (.inl (by rw [strsOf_map e])) h)
theorem or_inI {z : Int} {ds : List PyData} {l : List Int} (er : cool r2 = .d (.list ds) ∨ cool r2 = .d (.tuple ds)) (e : intsOf ds = some l) : OVr X b (compareOp .In) (.d (.int z)) r2 (.d (.bool (l.contains z))) := fun _ h => OV.cool (by
  rcases er with er | er
  · rw [er]; exact ov_inI (.inr (by rw [intsOf_map e])) h
  · rw [er]; exact ov_inI (.inl (by rw [intsOf_map e])) h)
theorem or_inC {a : Nat} {z : Str} : OVr X b (compareOp .In) (.d (.str ⟨#[a]⟩)) (.d (.str z)) (.d (.bool (decide (a ∈ z.cps.toList)))) := fun _ h => ov_inC h
theorem or_notInC {a : Nat} {z : Str} : OVr X b (compareOp .NotIn) (.d (.str ⟨#[a]⟩)) (.d (.str z)) (.d (.bool (!decide (a ∈ z.cps.toList)))) := fun _ h => ov_notInC h
theorem or_addS {x y : Str} (hz : x.length + y.length ≤ sizeLine) : OVr X b (binaryOp .Add) (.d (.str x)) (.d (.str y)) (.d (.str (x ++ y))) := fun _ h => ov_addS hz h
theorem or_cat {xs ys : List PyData} (hz : xs.length + ys.length ≤ sizeLine) : OVr X b (binaryOp .Add) (.own xs) (.own ys) (.own (xs ++ ys)) := fun _ h => ov_cat hz h
theorem or_eqD {d1 d2 : PyData} (hu : X.A.units + 64 < cLine) (e1 : cool r1 = .d d1) (e2 : cool r2 = .d d2) (h1 : SeqAt.shaped d1 = true) (h2 : SeqAt.shaped d2 = true) : OVr X b (compareOp .Eq) r1 r2 (.d (.bool (PyData.eqv d1 d2))) := fun _ h => OV.cool (by rw [e1, e2]; exact ov_eqD hu h1 h2 h)
theorem or_neD {d1 d2 : PyData} (hu : X.A.units + 64 < cLine) (e1 : cool r1 = .d d1) (e2 : cool r2 = .d d2) (h1 : SeqAt.shaped d1 = true) (h2 : SeqAt.shaped d2 = true) : OVr X b (compareOp .NotEq) r1 r2 (.d (.bool (!PyData.eqv d1 d2))) := fun _ h => OV.cool (by rw [e1, e2]; exact ov_neD hu h1 h2 h)
theorem ir_at {ys : List PyData} {i : Int} (er : cool r1 = .d (.list ys) ∨ cool r1 = .d (.tuple ys)) (hi : atI ys i = some y) : IVr X b r1 (.d (.int i)) (.d y) := fun _ h => IV.cool (by
  rcases er with er | er
  · rw [er]; exact iv_lst hi h
  · rw [er]; exact iv_tup hi h)
theorem ir_str {z : Str} {i : Int} {a : Nat} (hz : z.length ≤ sizeLine) (hi : atI z.cps.toList i = some a) : IVr X b (.d (.str z)) (.d (.int i)) (.d (.str ⟨#[a]⟩)) := fun _ h => iv_str hz hi h
theorem cr_lenS {z : Str} (hz : z.length ≤ sizeLine) : CVr X b (.builtin "len") [.d (.str z)] (.d (.int z.length)) := fun _ h => cv_lenS hz h
theorem cr_strI {i : Int} (hz : i.natAbs.log2 < 1920) : CVr X b (.type "str") [.d (.int i)] (.d (.str (toString i))) := fun _ h => cv_strI hz h
/-! ### comprehensions that change nothing -/
def EIr (X : Cx) (b : Bs) (ρ : List Sl) (tg iter : Expr) (ys : List PyData) : Prop := ∀ p : List PyData → List Sl → Prop, p ys ρ → EI X b ρ tg iter p
def ETsr (X : Cx) (b : Bs) (ρ : List Sl) (es : List Expr) (c : Bool) : Prop := ∀ p : Bool → List Sl → Prop, p c ρ → ETs X b ρ es p
theorem ts_nil : ETsr X b ρ [] true := fun _ h => ets_nil h
theorem ts_one (h : ETr X b ρ e c) : ETsr X b ρ [e] c := fun _ k => ets_one (h _ k)
theorem i_list {ys : List PyData} (h : EVr X b ρ e r) (er : cool r = .d (.list ys)) : EIr X b ρ tg e ys := fun _ k => ei_list (h _ ⟨ys, er, k⟩)
theorem i_tup {ys : List PyData} (h : EVr X b ρ e (.d (.tuple ys))) : EIr X b ρ tg e ys := fun _ k => ei_tup (h _ ⟨ys, rfl, k⟩)
theorem i_str {z : Str} (h : EVr X b ρ e (.d (.str z))) : EIr X b ρ tg e (strD z) := fun _ k => ei_str (h _ ⟨z, rfl, k⟩)
theorem i_range {n : Int} {p1 p2 : Pos} (hm : X.mg "range" = none) (h : EVr X b ρ e (.d (.int n))) (b1 : -(2 ^ 62) ≤ n) (b2 : n < 2 ^ 62) (hg : Gl X "range" := by rfl) (hs : starEach [e] X.env = [(false, eval e X.env)] := by rfl) : EIr X b ρ tg (.Call (.Name "range" p1) [e] [] p2) (rngD 0 n.toNat) := fun _ k => ei_range hg hm (h _ ⟨n, rfl, b1, b2, k⟩) hs
theorem i_enum {p1 p2 tpos : Pos} {elts : List Expr} {kk : Nat} {ys : List PyData} (hm : X.mg "enumerate" = none) (h : EVr X b ρ e r) (er : cool r = .d (.list ys)) (hg : Gl X "enumerate" := by rfl) (hs : starEach [e] X.env = [(false, eval e X.env)] := by rfl) : EIr X b ρ (.Tuple elts kk tpos) (.Call (.Name "enumerate" p1) [e] [] p2) (enD ys) := fun _ k => ei_enum hg hm (h _ ⟨ys, er, k⟩) hs
/-- stores that are told -/
def EGr (X : Cx) (b : Bs) (ts : List Nat) (ρ : List Sl) (tg : Expr) (r : Sl) (ρ2 : List Sl) : Prop := ∀ p : List Sl → Prop, p ρ2 → EG X b ts ρ tg r p
theorem g_name (i : Nat) {ts : List Nat} {x : Str} {ρ2 : List Sl} (hi : X.N[i]? = some x) (hx : Loc X.env.scope x) (hN : X.N.Nodup) (e : ρ.set i r = ρ2) (hl : i < ρ.length := by first | decide | simp) (ht : i ∈ ts := by first | decide | simp) (hf : X.fn x = true ∨ X.env.scope.names.lookup x = some .local := by first | exact .inl rfl | exact .inr rfl | assumption) : EGr X b ts ρ (.Name x pos) r ρ2 := fun _ k => eg_name i hN hi hx hl ht (by rw [e]; exact k) hf
def EGsr (X : Cx) (b : Bs) (ts : List Nat) (ρ : List Sl) (tgs : List Expr) (rs : List Sl) (ρ2 : List Sl) : Prop := ∀ p : List Sl → Prop, p ρ2 → EGs X b ts ρ tgs rs p
theorem gs_nil {ts : List Nat} : EGsr X b ts ρ [] [] ρ := fun _ k => egs_nil k
theorem gs_cons {ts : List Nat} {tgs : List Expr} {rs : List Sl} {ρ1 ρ2 : List Sl} (h1 : EGr X b ts ρ tg r ρ1) (h2 : EGsr X b ts ρ1 tgs rs ρ2) (hs : (assignEach (tg :: tgs) X.env).map (·.2) = assign tg X.env :: (assignEach tgs X.env).map (·.2) := by rfl) : EGsr X b ts ρ (tg :: tgs) (r :: rs) ρ2 := fun _ k => egs_cons hs (h1 _ fun _ => h2 _ k)
theorem g_tup {ts : List Nat} {tgs : List Expr} {k0 : Nat} {ys : List PyData} {ρ2 : List Sl} (hc : X.calm = true) (h : EGsr X b ts ρ tgs (ys.map .d) ρ2) (hn : ys.length = tgs.length := by rfl) (hna : (assignEach tgs X.env).length = tgs.length := by rfl) (hst : (assignEach tgs X.env).findIdx? (·.1) = none := by rfl) : EGr X b ts ρ (.Tuple tgs k0 pos) (.d (.tuple ys)) ρ2 := fun _ k => eg_tup hc hn hna hst (h _ k)
theorem lc_turn {scope : Scope} {vs : List Nat} {y : PyData} {ρ2 : List Sl} {acc : List PyData} {J : List PyData → List Sl → Prop} (hg : AllB X scope fun Y => EGr Y b vs ρ tg (.d y) ρ2) (ht : AllB X scope fun Y => ETsr Y b ρ2 ifs c) (hw : wipeR ρ2 vs = ρ)
    (h0 : c = false → J acc ρ) (h1 : c = true → ∃ r z, (AllB X scope fun Y => EVr Y b ρ2 elt r) ∧ cool r = .d z ∧ acc.length < sizeLine ∧ J (acc ++ [z]) ρ) : LcTurn X b scope tg elt ifs vs y ρ acc J :=
  ⟨fun ρ' => ρ' = ρ2, fun s H C cl fp => hg s H C cl fp _ rfl, fun ρ' e => by
    subst e
    refine ⟨fun c' ρ3 => c' = c ∧ ρ3 = ρ', fun s H C cl fp => ht s H C cl fp _ ⟨rfl, rfl⟩, fun c' ρ3 ⟨e1, e2⟩ => ?_⟩
    subst e1 e2
    refine ⟨fun e => by rw [hw]; exact h0 e, fun e => ?_⟩
    obtain ⟨r, z, hr, er, hz, hJ⟩ := h1 e
    exact ⟨hz, fun s H C cl fp => hr s H C cl fp _ ⟨z, er, by rw [hw]; exact hJ⟩⟩⟩
theorem r_lc {α : Type} {scope : Scope} (own : List (Str × Nat)) (l : List α) (g : α → PyData) (cf : α → Bool) (f : α → PyData) (ρt : α → List Sl) {ys : List PyData} (hi : EIr X b ρ tg iter ys) (ey : ys = l.map g) (hc : X.calm = true) (hN : X.N.Nodup) (ok : BlkOk X.N X.env.scope scope own) (hun : ∀ v ∈ own.map (·.2), ρ[v]? = some .un) (hlen : l.length ≤ 100000)
    (hg : ∀ y ∈ l, AllB X scope fun Y => EGr Y b (own.map (·.2)) ρ tg (.d (g y)) (ρt y)) (hw : ∀ y ∈ l, wipeR (ρt y) (own.map (·.2)) = ρ) (ht : ∀ y ∈ l, AllB X scope fun Y => ETsr Y b (ρt y) ifs (cf y))
    (he : ∀ y ∈ l, cf y = true → ∃ r, (AllB X scope fun Y => EVr Y b (ρt y) elt r) ∧ cool r = .d (f y)) (hs : ∀ x, foldedSetIterable iter X.env x = pure x := by intro _; rfl) : EVr X b ρ (.ListComp elt [⟨tg, iter, ifs, 0⟩] scope pos) (.own ((l.filter cf).map f)) := fun p k => by
  refine ev_lc own hc hN ok (hi _ fun _ => ⟨fun i acc ρ' => acc = (((l.take i).filter cf).map f) ∧ ρ' = ρ, ⟨by simp, rfl⟩, fun i acc ρ' ⟨_, e⟩ => by subst e; exact hun, fun i y acc ρ' hy _ ⟨ea, e⟩ => ?_, fun acc ρ' ⟨ea, e⟩ => by subst ea e ey; rw [List.length_map, List.take_length]; exact k⟩) hs
  subst e ey
  rw [List.getElem?_map] at hy
  cases hx : l[i]? with
  | none => rw [hx] at hy; cases hy
  | some x =>
    rw [hx] at hy
    cases hy
    have hm : x ∈ l := List.mem_of_getElem? hx
    have htk : l.take (i + 1) = l.take i ++ [x] := by rw [List.take_add_one, hx]; rfl
    refine lc_turn (hg x hm) (ht x hm) (hw x hm) (fun e => ⟨?_, rfl⟩) fun e => ?_
    · rw [htk, List.filter_append, List.filter_cons, e, ea]
      simp
    · obtain ⟨r, hr, er⟩ := he x hm e
      refine ⟨r, f x, hr, er, ?_, ?_, rfl⟩
      · rw [ea, List.length_map, sizeLine_eq]
        have h1 := List.length_filter_le cf (l.take i)
        have hb : i < l.length := (List.getElem?_eq_some_iff.mp hx).1
        rw [List.length_take] at h1
        omega
      · rw [htk, List.filter_append, List.filter_cons, e, ea]
        simp
end

theorem cr_strS {X : Cx} {b : Bs} {z : Str} : CVr X b (.type "str") [.d (.str z)] (.d (.str z)) := fun _ h => ⟨_, SkE.call_str_str, fun vs H L Q lv hh k => by
  obtain ⟨v, rfl⟩ := one_in (rs := []) lv
  have hh : Hold X.K b H ((some v, .d (.str z)) :: L) := hh
  have e := hh.isS
  subst e
  exact ⟨z, rfl, k _ _ H h (hh.drop.str _)⟩⟩

end DE

namespace DE
open PySem PySem.Spec PyProof.Rows L2 SZ VR VX StX RT
section
variable {X : Cx} {b : Bs} {ρ : List Sl} {p : Sl → List Sl → Prop} {e e2 : Expr} {pos : Pos}
/-- a list held alone is handed on: the name keeps nothing -/
theorem ev_mov (i : Nat) {ys : List PyData} {x : Str} (hN : X.N[i]? = some x) (hv : Vis X.env.scope x) (hr : ρ[i]? = some (.own ys)) (h : p (.own ys) (ρ.set i .un)) (hd : (x == ("__debug__" : Str)) = false := by decide) (hcd : (x == ("__classdict__" : Str)) = false := by decide) : EV X b ρ (.Name x pos) p := fun σ H L Q l hh q => by
  obtain ⟨a, ha⟩ := slot_ref l hr (.inl rfl) hh
  obtain ⟨M, p1, p2⟩ := set_perm (s' := .un) hr ha
  refine ⟨_, pe_var hN hv hd hcd, .ref a, ha, q _ _ _ H h (by simp [l]) ?_⟩
  have h1 : Hold X.K b H ((some (.ref a), .own ys) :: (M ++ L)) := hh.perm (p1.symm.append_right L)
  have h2 := (h1.un (x := some (.ref a))).perm (L' := (some (.ref a), .own ys) :: ((some (.ref a), .un) :: (M ++ L))) (List.Perm.swap ..)
  exact h2.perm (List.Perm.cons _ (p2.append_right L))
theorem x_retO (i : Nat) {po : Po} {ys : List PyData} {x : Str} {pos' : Pos} (hN : X.N[i]? = some x) (hv : Vis X.env.scope x) (hr : ρ[i]? = some (.own ys)) (h : po.rt (.own ys) (ρ.set i .un)) (hd : (x == ("__debug__" : Str)) = false := by decide) (hcd : (x == ("__classdict__" : Str)) = false := by decide) : XS X b ρ (.Return (some (.Name x pos)) pos') po := xs_ret (ev_mov i hN hv hr (fun _ => h) hd hcd)
/-- a list held alone is read, and stays so: what stands in it -/
theorem cell_read {K : PySem.W.Frag} {G H : Hp} {a : Addr} {ys : List PyData} {L : List Cl} (h : HoldG K b G H ((some (.ref a), .own ys) :: L)) : ∃ us, H a = some (.lst us) ∧ DpAll K G us ys := by
  obtain ⟨q, us, e, _, _, h3, h4⟩ := h.ok _ List.mem_cons_self
  cases e
  exact ⟨us, h3, h4⟩
theorem ev_catO (i : Nat) {x : Str} {px : Pos} (hN : X.N[i]? = some x) (hv : Vis X.env.scope x) (h0 : ∃ ys, ρ[i]? = some (.own ys)) (h : EV X b ρ e2 fun r ρ' => ∃ ys zs, ρ'[i]? = some (.own ys) ∧ r = .own zs ∧ ys.length + zs.length ≤ sizeLine ∧ p (.own (ys ++ zs)) ρ') (hd : (x == ("__debug__" : Str)) = false := by decide) (hcd : (x == ("__classdict__" : Str)) = false := by decide) : EV X b ρ (.BinOp (.Name x px) .Add e2 pos) p := fun σ H L Q l hh q => by
  obtain ⟨ys0, hr0⟩ := h0
  obtain ⟨a, ha⟩ := slot_ref l hr0 (.inl rfl) hh
  refine ⟨_, pe_op op_cat (pe_var hN hv hd hcd) (we_pe e2), .ref a, ha, h σ H L _ l hh fun r ρ' v H' ⟨ys, zs, hr, er, hz, hp⟩ l' hh' => ?_⟩
  subst er
  obtain ⟨M, p1, _⟩ := set_perm (s' := .un) hr ha
  obtain ⟨G, hG⟩ := id hh'
  obtain ⟨c, ws, ec, _, _, w3, w4⟩ := hG.ok _ List.mem_cons_self
  cases ec
  obtain ⟨us, u1, u2⟩ := cell_read (hG.drop.perm (p1.symm.append_right L))
  refine ⟨a, c, us, ws, rfl, rfl, u1, w3, by rw [DpAll.len u2, DpAll.len w4]; exact hz, fun f hf => q _ ρ' _ _ hp l' ⟨G, ?_⟩⟩
  exact hG.drop.newL hf (DpAll.app u2 w4)
theorem r_catO (i : Nat) {ys zs : List PyData} {x : Str} {px : Pos} (hN : X.N[i]? = some x) (hv : Vis X.env.scope x) (hr : ρ[i]? = some (.own ys)) (h : EVr X b ρ e2 (.own zs)) (hz : ys.length + zs.length ≤ sizeLine) (hd : (x == ("__debug__" : Str)) = false := by decide) (hcd : (x == ("__classdict__" : Str)) = false := by decide) : EVr X b ρ (.BinOp (.Name x px) .Add e2 pos) (.own (ys ++ zs)) := fun _ k => ev_catO i hN hv ⟨ys, hr⟩ (h _ ⟨ys, zs, hr, rfl, hz, k⟩) hd hcd
/-- len(x), x[e] of a list held alone -/
theorem r_lenO (i : Nat) {s : Sl} {ys : List PyData} {x : Str} {p1 p2 cp : Pos} (hm : X.mg "len" = none) (hN : X.N[i]? = some x) (hv : Vis X.env.scope x) (hr : ρ[i]? = some s) (hs : s = .own ys ∨ s = .bor ys) (hg : Gl X "len" := by rfl) (hd : (x == ("__debug__" : Str)) = false := by decide) (hcd : (x == ("__classdict__" : Str)) = false := by decide)
    (he : starEach [.Name x p2] X.env = (false, eval (.Name x p2) X.env) :: starEach [] X.env := by rfl) (hpl : (backTo cp (starEach [] X.env)).any (·.1) = false := by rfl) : EVr X b ρ (.Call (.Name "len" p1) [.Name x p2] [] cp) (.d (.int ys.length)) := fun p k σ H L Q l hh q => by
  obtain ⟨a, ha⟩ := slot_ref l hr hs hh
  refine ⟨_, pe_callB call_len_seq hg hm PySem.boot_len (pa_cons (pe_var hN hv hd hcd) pa_nil he) (by decide) (by decide) he hpl, .ref a, ha, ?_⟩
  obtain ⟨M, p1, _⟩ := set_perm (s' := .un) hr ha
  obtain ⟨G, hG⟩ := id hh
  obtain ⟨us, u1, u2, _⟩ := cell_lst (hG.perm (p1.symm.append_right L)) hs
  refine ⟨a, us, rfl, .inl (.of u1), ?_⟩
  rw [u2]
  exact q _ ρ _ H k l (hh.int _)
theorem r_ixO (i : Nat) {s : Sl} {ys : List PyData} {k : Int} {y : PyData} {x : Str} {p2 : Pos} (hN : X.N[i]? = some x) (hv : Vis X.env.scope x) (hr : ρ[i]? = some s) (hs : s = .own ys ∨ s = .bor ys) (h2 : EVr X b ρ e2 (.d (.int k))) (hk : atI ys k = some y) (hp : PlainIx e2 := by intro _ _; rfl) (hd : (x == ("__debug__" : Str)) = false := by decide) (hcd : (x == ("__classdict__" : Str)) = false := by decide) : EVr X b ρ (.Subscript (.Name x p2) e2 pos) (.d y) := fun p kk σ H L Q l hh q => by
  obtain ⟨a, ha⟩ := slot_ref l hr hs hh
  refine ⟨_, pe_ix ix_list (pe_var hN hv hd hcd) (we_pe e2) hp, .ref a, ha, h2 (fun r ρ' => r = .d (.int k) ∧ ρ' = ρ) ⟨rfl, rfl⟩ σ H L _ l hh fun r ρ' v H' ⟨er, e⟩ l' hh' => ?_⟩
  subst er e
  have ev := hh'.isI
  subst ev
  obtain ⟨M, p1, _⟩ := set_perm (s' := .un) hr ha
  obtain ⟨G, hG⟩ := hh'.drop
  obtain ⟨us, u1, _, u3⟩ := cell_lst (hG.perm (p1.symm.append_right L)) hs
  obtain ⟨u, hu, hd⟩ := dp_at u3 hk
  exact ⟨a, us, k, u, rfl, rfl, .of u1, hu, q _ ρ' _ H' kk l ⟨G, hG.add hd⟩⟩
end

end DE

namespace DE
open PySem PySem.Spec PyProof.Rows L2 SZ VR VX StX RT
/-! ### a call that knows a part of the heap -/
section
variable {P : Program} {w : World} {G G' H : Hp} {h h' : Heap} {a : Addr} {o : HO}
theorem objok_flat : ∀ {o : HO}, flatO o = true → ObjOk P w H h a o → ObjOk P w G h a o
  | .lst _, _, x => x
  | .tup _, _, x => x
  | .dK _, _, x => x
  | .set _ _, _, x => x
  | .xd _, _, x => x
  | .rng _ _, _, x => x
  | .tbl _, _, x => x
  | .met _ _, _, x => x
  | .ext _, _, x => x
  | .frz _ u, e, x => ⟨x.1, objok_flat (o := u) e x.2⟩
theorem objok_ex {o : HO} (x : ObjOk P w H h a o) : ∃ ob, h.get? a = some ob := by
  cases o with
  | lst _ => exact ⟨_, x.2.choose_spec.choose_spec.2⟩
  | tup _ => obtain ⟨_, _, _, ob, e, _⟩ := x; exact ⟨ob, e⟩
  | dK _ => obtain ⟨_, _, _, _, o, _, _, e, _⟩ := x; exact ⟨o, e⟩
  | dT _ => obtain ⟨_, _, _, _, o, _, _, e, _⟩ := x; exact ⟨o, e⟩
  | set _ _ => obtain ⟨o, _, _, _, e, _⟩ := x; exact ⟨o, e⟩
  | ins _ _ _ => exact ⟨_, x.2.2.2.1⟩
  | own _ => exact x
  | xd _ => obtain ⟨_, ⟨o, _, _, e, _⟩, _⟩ := x; exact ⟨o, e⟩
  | rng _ _ => obtain ⟨_, _, _, e⟩ := x; exact ⟨_, e⟩
  | frz ob _ => exact ⟨ob, x.1⟩
  | tbl _ => exact ⟨_, x⟩
  | met _ _ => exact ⟨_, x⟩
  | ext _ => exact x.2.1
theorem hok_sub (hs : Same G H) (fl : FlO G) (x : HOk P w H h) : HOk P w G h := fun a o e => by
  have ok := x a o (hs a o e)
  rcases fl a o e with ⟨C, dx, fs, rfl, e2⟩ | ⟨y, rfl, _⟩ | hf
  · obtain ⟨_, r⟩ := ok
    exact ⟨e2, r⟩
  · exact ok
  · exact objok_flat hf ok
/-- what is known behind it -/
def uni (G G' H : Hp) : Hp := fun b => match G' b with
  | some o => some o
  | none => if (G b).isSome = true then none else H b
theorem uni_in (e : G' a = some o) : uni G G' H a = some o := by unfold uni; rw [e]
theorem uni_out (e1 : G' a = none) (e2 : G a = none) : uni G G' H a = H a := by unfold uni; rw [e1, e2]; rfl
theorem uni_ok {fs : List Addr} (hs : Same G H) (fl : FlO G) (x : HOk P w H h) (x' : HOk P w G' h') (u : Un fs [] G G' h h') (hf : ∀ b ∈ fs, H b = none) : HOk P w (uni G G' H) h' ∧ Un fs [] H (uni G G' H) h h' ∧ Same G' (uni G G' H) ∧ (∀ b o, H b = some o → G b = none → uni G G' H b = some o) ∧ ∀ b o, G' b = some o → (G b).isSome = true ∨ H b = none := by
  have ex : ∀ {b o}, H b = some o → ∃ ob, h.get? b = some ob := fun {b o} e => objok_ex (x b o e)
  have out : ∀ {b o}, H b = some o → G b = none → G' b = none := fun {b o} e n => by
    obtain ⟨ob, eo⟩ := ex e
    exact u.free b ob eo n (by simp)
  have keepU : ∀ b o, H b = some o → G b = none → uni G G' H b = some o := fun b o e n => by rw [uni_out (out e n) n]; exact e
  have gnone : ∀ {b}, H b = none → G b = none := fun {b} e => by
    cases q : G b with
    | none => rfl
    | some o => rw [hs b o q] at e; cases e
  have tup : ∀ b xs, H b = some (.tup xs) → uni G G' H b = some (.tup xs) := fun b xs e => by
    cases q : G b with
    | none => exact keepU b _ e q
    | some o =>
      have := hs b o q
      rw [e] at this
      cases this
      exact uni_in (u.tups b xs q)
  refine ⟨fun b o e => ?_, ⟨fun b ob q n hb hx => u.keep b ob q (gnone n) hb hx, fun b ob q n hb hx => u.slot b ob q (gnone n) hb hx, fun b ob q n hx => ?_, u.there, tup, fun b ob v e => ?_, fun b ps e => ?_⟩, fun b o e => uni_in e, keepU, fun b o e => ?_⟩
  · cases q : G' b with
    | some o' =>
      rw [uni_in q] at e
      cases e
      exact (x' b o q).stay (fun _ _ _ z => z) (fun c z => uni_in z) fun c xs z => uni_in z
    | none =>
      have n : G b = none := by
        cases r : G b with
        | none => rfl
        | some o' => unfold uni at e; rw [q, r] at e; simp at e
      rw [uni_out q n] at e
      have nb : b ∉ fs := fun z => by rw [hf b z] at e; cases e
      have own : ∀ c, H c = some (.own b) → G c = none := fun c ec => by
        cases r : G c with
        | none => rfl
        | some o' =>
          have := hs c o' r
          rw [ec] at this
          cases this
          rcases fl c _ r with ⟨_, _, _, z, _⟩ | ⟨y, z, k⟩ | z
          · cases z
          · cases z; rw [n] at k; cases k
          · cases z
      refine (x b o e).stay (fun c v hc z => ?_) (fun c ec => keepU c _ ec (own c ec)) tup
      rcases hc with rfl | hc
      · exact u.keep c v z n nb (by simp)
      · exact u.keep c v z (own c hc) (fun zz => by rw [hf c zz] at hc; cases hc) (by simp)
  · rw [uni_out (u.free b ob q (gnone n) hx) (gnone n)]
    exact n
  · cases q : G b with
    | none => exact keepU b _ e q
    | some o =>
      have := hs b o q
      rw [e] at this
      cases this
      exact uni_in (u.frzs b ob v q)
  · cases q : G b with
    | none => exact ⟨#[], by rw [keepU b _ e q]; simp⟩
    | some o =>
      have := hs b o q
      rw [e] at this
      cases this
      obtain ⟨more, z⟩ := u.tbls b ps q
      exact ⟨more, uni_in z⟩
  · cases q : H b with
    | none => exact .inr rfl
    | some v =>
      cases r : G b with
      | some _ => exact .inl rfl
      | none => rw [out q r] at e; cases e
end
section
variable {P : Program} {w : World} {K : PySem.W.Frag} {mg : Str → Option Value} {base : Heap} {k : Nat} {f : Addr} {fd : FuncData} {ps : List Str} {sp : Sp}
/-- sp, asked of a part G of the heap; the rest stays -/
def frm (sp : Sp) : Sp := fun vs H Q E => ∃ G : Hp, Same G H ∧ FlO G ∧ sp vs G (fun v G' => ∀ H', Same G' H' → (∀ b o, H b = some o → G b = none → H' b = some o) → (∀ b o, G' b = some o → (G b).isSome = true ∨ H b = none) → Q v H') E
theorem frm_run {A : Around} {outer : List Env} {s : Shared} {H : Hp} {args : Args} {vs : List V} {Q : VK} {E : XK} (run : ∀ (H : Hp) (Q : VK), Env0 P w K mg base A outer s H → sp vs H Q E → codeAny (model P w) A (.call (.ref f) args) (CR CX0 outer P w H s Q E) s)
    (e0 : Env0 P w K mg base A outer s H) (h : frm sp vs H Q E) : codeAny (model P w) A (.call (.ref f) args) (CR CX0 outer P w H s Q E) s := by
  obtain ⟨G, hs, fl, h⟩ := h
  have gn : ∀ {b}, H b = none → G b = none := fun {b} e => hs.free e
  refine codeAny_mono (run G _ ⟨e0.frames, e0.mod, fun b o e => ⟨(e0.bs b o e).1, gn (e0.bs b o e).2⟩, e0.bsz, e0.funs, fun b hb => gn (e0.frf b hb), hok_sub hs fl e0.hok, e0.bare⟩ h) fun r s' hr => ?_
  match r, hr with
  | .ok (.ret u), ⟨v, G', os, bare, un, hok, rv, q⟩ =>
    obtain ⟨h1, h2, h3, h4, h5⟩ := uni_ok hs fl e0.hok hok un e0.frf
    exact ⟨v, uni G G' H, os, bare, h2, h1, rv, q _ h3 h4 h5⟩
  | .ok .next, hr => exact hr.elim
  | .ok .brk, hr => exact hr.elim
  | .ok .cont, hr => exact hr.elim
  | .error e, hr => exact hr.elim
theorem _root_.L2.FnOk.frm (F : FnOk P w K mg base CX0 k f fd ps sp) : FnOk P w K mg base CX0 k f fd ps (DE.frm sp) :=
  ⟨fun vs H Q E ⟨G, _, _, h⟩ => F.len vs G _ E h, fun A outer s H args us vs Q E hr e0 hb hv h => frm_run (fun H Q e1 h1 => F.run A outer s H args us vs Q E hr e1 hb hv h1) e0 h⟩
theorem _root_.VX.RunG.frm (F : RunG P w K mg base CX0 k f fd ps sp) : RunG P w K mg base CX0 k f fd ps (DE.frm sp) :=
  fun A outer s H args us vs Q E hg hr e0 hb hv h => frm_run (fun H Q e1 h1 => F A outer s H args us vs Q E hg hr e1 hb hv h1) e0 h
theorem _root_.VX.RunG.imp {CX : CXT} {sp' : Sp} (F : RunG P w K mg base CX k f fd ps sp) (h : ∀ vs H Q E, sp' vs H Q E → sp vs H Q E) : RunG P w K mg base CX k f fd ps sp' :=
  fun A outer s H args us vs Q E hg hr e0 hb hv hh => F A outer s H args us vs Q E hg hr e0 hb hv (h _ _ _ _ hh)
/-- what is new and leans on nothing -/
def flt (G G' : Hp) : Hp := fun b => match G b with
  | some o => some o
  | none => match G' b with
    | some o => if flatO o = true then some o else none
    | none => none
theorem flt_same {G G' : Hp} : Same G (flt G G') := fun b o e => by unfold flt; rw [e]
theorem flt_up {G G' : Hp} (s : Same G G') : Same (flt G G') G' := fun b o e => by
  unfold flt at e
  cases q : G b with
  | some u => rw [q] at e; cases e; exact s b _ q
  | none =>
    rw [q] at e
    cases r : G' b with
    | none => rw [r] at e; cases e
    | some u =>
      rw [r] at e
      by_cases hf : flatO u = true
      · simp [hf] at e; rw [e]
      · simp [hf] at e
theorem flt_fl {G G' : Hp} (f : FlO G) : FlO (flt G G') := fun b o e => by
  cases q : G b with
  | some u =>
    have : flt G G' b = some u := flt_same b u q
    rw [this] at e
    cases e
    rcases f b _ q with ⟨C, dx, fs, e1, e2⟩ | ⟨x, e1, e2⟩ | h
    · exact .inl ⟨C, dx, fs, e1, flt_same _ _ e2⟩
    · refine .inr (.inl ⟨x, e1, ?_⟩)
      cases r : G x with
      | none => rw [r] at e2; cases e2
      | some o => rw [flt_same _ _ r]; rfl
    · exact .inr (.inr h)
  | none =>
    unfold flt at e
    rw [q] at e
    cases r : G' b with
    | none => rw [r] at e; cases e
    | some u =>
      rw [r] at e
      by_cases hf : flatO u = true
      · simp [hf] at e; subst e; exact .inr (.inr hf)
      · simp [hf] at e
theorem flt_in {G G' : Hp} (s : Same G G') {b : Addr} {o : HO} (e : G' b = some o) (hf : flatO o = true) : flt G G' b = some o := by
  unfold flt
  cases q : G b with
  | some u =>
    have := s b u q
    rw [e] at this
    cases this
    rfl
  | none => rw [e]; simp [hf]
theorem flt_rd {G G' : Hp} (s : Same G G') {a : Addr} {u : HO} (h : Rd G' a u) (hf : flatO u = true) : Rd (flt G G') a u := by
  rcases h with h | ⟨o, h⟩
  · exact .inl (flt_in s h hf)
  · exact .inr ⟨o, flt_in s h hf⟩
mutual
theorem flt_dp {G G' : Hp} (s : Same G G') : ∀ {v : V} {y : PyData}, Dp K G' v y → Dp K (flt G G') v y
  | _, _, .non => .non
  | _, _, .bl b => .bl b
  | _, _, .int i => .int i
  | _, _, .str x => .str x
  | _, _, .lst h1 h2 => .lst (h1.imp (fun z => flt_rd s z rfl) id) (flt_dpA s h2)
  | _, _, .tup h1 h2 => .tup (h1.imp (fun z => flt_rd s z rfl) id) (flt_dpA s h2)
theorem flt_dpA {G G' : Hp} (s : Same G G') : ∀ {vs : List V} {ys : List PyData}, DpAll K G' vs ys → DpAll K (flt G G') vs ys
  | _, _, .nil => .nil
  | _, _, .cons h1 h2 => .cons (flt_dp s h1) (flt_dpA s h2)
end
/-- behind a call of the elder kind that hands back data -/
theorem HoldG.oldD {b : Bs} {G G' H H' : Hp} {v : V} {y : PyData} {L : List Cl} (h : HoldG K b G H L) (s : Same G G') (d : Dp K G' v y) (h1 : Same G' H') (h2 : ∀ b o, H b = some o → G b = none → H' b = some o) (h3 : ∀ b o, G' b = some o → (G b).isSome = true ∨ H b = none) : Hold K ⟨G, H, []⟩ H' [(some v, .d y)] :=
  ⟨flt G G', flt_same, (flt_up s).trans h1, fun a o e => (h3 a o (flt_up s a o e)).imp (fun z => by
      cases q : G a with
      | none => rw [q] at z; cases z
      | some o' => rw [flt_same a o' q] at e; cases e; exact q) id, fun a o e _ => by
      cases q : G a with
      | none => exact h2 a o e q
      | some o' =>
        have e1 := h.up a o' q
        have e2 : H a = some o := e
        rw [e2] at e1
        cases e1
        exact h1 a o (s a o q), fun a ha => (nomatch ha), fun c hc => by
      rw [List.mem_singleton.mp hc]
      exact ⟨v, rfl, flt_dp s d⟩, by cases v <;> simp [ads], flt_fl h.fl⟩
end

end DE

namespace DE
open PySem PySem.Spec PyProof.Rows L2 SZ VR VX StX RT
/-! ### words of the elder kind; defs that show; menus -/
section
variable {K : PySem.W.Frag} {b : Bs} {G H H' : Hp} {L : List Cl}
theorem SlOk.same {c : Cl} (s : Same H H') (h : SlOk K b G H c) : SlOk K b G H' c := by
  obtain ⟨x, sl⟩ := c
  cases sl with
  | un => trivial
  | d y => exact h
  | own ys => obtain ⟨p, vs, e, h1, h2, h3, h4⟩ := h; exact ⟨p, vs, e, h1, h2, s _ _ h3, h4⟩
  | bor ys => obtain ⟨p, vs, e, h1, h2, h3, h4⟩ := h; exact ⟨p, vs, e, h1, h2, s _ _ h3, h4⟩
  | fact φ st => exact h
  | dct o kvs => obtain ⟨p, vs, e, h1, h2, h3, h4⟩ := h; exact ⟨p, vs, e, h1, h2, s _ _ h3, h4⟩
theorem HoldG.same (h : HoldG K b G H L) (s : Same H H') : HoldG K b G H' L := ⟨h.old, h.up.trans s, h.new, fun a o e n => s _ _ (h.rest a o e n), fun a ha => by
  refine ⟨?_, (h.bs a ha).2.of fun c u e _ _ => s c u e⟩
  have := (h.bs a ha).1
  cases e : H a with
  | none => rw [e] at this; cases this
  | some o => rw [s _ _ e]; rfl, fun c hc => (h.ok c hc).same s, h.nd, h.fl⟩
theorem Hold.same (h : Hold K b H L) (s : Same H H') : Hold K b H' L := let ⟨G, h⟩ := h; ⟨G, h.same s⟩
/-- an object of one's own, new -/
theorem HoldG.obj (h : HoldG K b G H L) {x dx C : Addr} {fs : List (Str × V)} (s : Same H H') (nx : H x = none) (nd : H dx = none) (ne : dx ≠ x) (h1 : H' x = some (.ins C dx fs)) (h2 : H' dx = some (.own x)) : HoldG K b (upd (upd G dx (.own x)) x (.ins C dx fs)) H' L := by
  have gn : ∀ {c}, H c = none → G c = none := fun {c} e => h.up.free e
  have sG : Same G (upd (upd G dx (.own x)) x (.ins C dx fs)) := fun c o e => by
    rw [upd_ne (ne_of_none e (gn nx)), upd_ne (ne_of_none e (gn nd))]
    exact e
  have hb : ∀ {c}, H c = none → b.H c = none ∨ c ∈ b.B := fun {c} e => by
    by_cases hc : c ∈ b.B
    · exact .inr hc
    · cases e2 : b.H c with
      | none => exact .inl rfl
      | some o => rw [h.rest c o e2 hc] at e; cases e
  have nB : ∀ {c}, H c = none → c ∉ b.B := fun {c} e hc => by
    have := (h.bs c hc).1
    rw [e] at this
    cases this
  have hbn : ∀ {c}, H c = none → b.H c = none := fun {c} e => (hb e).resolve_right (nB e)
  refine ⟨h.old.trans sG, fun c o e => ?_, fun c o e => ?_, fun a o e n => s _ _ (h.rest a o e n), (h.same s).bs, fun c hc => ?_, h.nd, fun c o e => ?_⟩
  · by_cases e1 : c = x
    · subst e1; rw [upd_same] at e; cases e; exact h1
    · rw [upd_ne e1] at e
      by_cases e2 : c = dx
      · subst e2; rw [upd_same] at e; cases e; exact h2
      · rw [upd_ne e2] at e
        exact s _ _ (h.up _ _ e)
  · by_cases e1 : c = x
    · subst e1; exact .inr (hbn nx)
    · rw [upd_ne e1] at e
      by_cases e2 : c = dx
      · subst e2; exact .inr (hbn nd)
      · rw [upd_ne e2] at e
        exact h.new _ _ e
  · have ok := h.ok c hc
    obtain ⟨y, sl⟩ := c
    have ow : ∀ {p : Addr} {o : HO}, H p = some o → G p = none → (upd (upd G dx (.own x)) x (.ins C dx fs)) p = none := fun {p o} hp gp => by
      rw [upd_ne (ne_of_none hp nx), upd_ne (ne_of_none hp nd)]
      exact gp
    cases sl with
    | un => trivial
    | d z => obtain ⟨v, e, hd⟩ := ok; exact ⟨v, e, Dp.keep sG hd⟩
    | own ys => obtain ⟨p, vs, e, h1, h2, h3, h4⟩ := ok; exact ⟨p, vs, e, h1, ow h3 h2, s _ _ h3, DpAll.keep sG h4⟩
    | bor ys => obtain ⟨p, vs, e, h1, h2, h3, h4⟩ := ok; exact ⟨p, vs, e, h1, ow h3 h2, s _ _ h3, DpAll.keep sG h4⟩
    | fact φ st => obtain ⟨v, e, hp⟩ := ok; exact ⟨v, e, st _ _ _ sG hp⟩
    | dct o kvs => obtain ⟨p, vs, e, h1, h2, h3, h4⟩ := ok; exact ⟨p, vs, e, h1, ow h3 h2, s _ _ h3, DpK.keep sG h4⟩
  · by_cases e1 : c = x
    · subst e1
      rw [upd_same] at e
      cases e
      exact .inl ⟨C, dx, fs, rfl, by rw [upd_ne ne, upd_same]⟩
    · rw [upd_ne e1] at e
      by_cases e2 : c = dx
      · subst e2
        rw [upd_same] at e
        cases e
        exact .inr (.inl ⟨x, rfl, by rw [upd_same]; rfl⟩)
      · rw [upd_ne e2] at e
        rcases h.fl c o e with ⟨C', d', fs', e3, e4⟩ | ⟨y, e3, e4⟩ | h3
        · refine .inl ⟨C', d', fs', e3, ?_⟩
          exact sG _ _ e4
        · refine .inr (.inl ⟨y, e3, ?_⟩)
          cases e5 : G y with
          | none => rw [e5] at e4; cases e4
          | some o' => rw [sG _ _ e5]; rfl
        · exact .inr (.inr h3)
end
section
variable {X : Cx} {b : Bs} {ρ : List Sl} {e e1 e2 : Expr} {es : List Expr} {r : Sl} {c : Bool} {pos : Pos}
theorem r_oldS {te : TE} {z : Str} (he : PE X e te) (h : ∀ σ H L (Q : VK), σ.length = ρ.length → Hold X.K b H (σ.zip ρ ++ L) → (∀ H', Same H H' → Q (.str z) H') → te σ H Q) : EVr X b ρ e (.d (.str z)) := fun _ k σ H L Q l hh q =>
  ⟨te, he, h σ H L Q l hh fun H' s => q _ ρ _ H' k l ((hh.same s).str z)⟩
theorem t_old {te : TT} (he : PT X e te) (h : ∀ σ H L (Q : Bool → Hp → Prop), σ.length = ρ.length → Hold X.K b H (σ.zip ρ ++ L) → (∀ H', Same H H' → Q c H') → te σ H Q) : ETr X b ρ e c := fun _ k σ H L Q l hh q =>
  ⟨te, he, h σ H L Q l hh fun H' s => q _ ρ H' k l (hh.same s)⟩
structure CalG (P : Program) (w : World) (K : PySem.W.Frag) (mg : Str → Option Value) (base : Heap) (CX : CXT) (x : Str) (k : Nat) (Pre : List Sl → Prop) (Res : List Sl → Sl → Prop) : Prop where
  ex : ∃ f fd ps, RunG P w K mg base CX k f fd ps (spP K Pre Res) ∧ (∀ as, Pre as → as.length = ps.length) ∧ mg x = some (.ref f) ∧ PySem.W.keepIn K (.ref f) = true ∧ Binds K fd ps []
theorem ev_calG {CX : CXT} {k : Nat} {Pre : List Sl → Prop} {Res : List Sl → Sl → Prop} {x : Str} {p1 cp : Pos} {p : Sl → List Sl → Prop} (C : CalG X.prog X.w X.K X.mg X.base CX x k Pre Res) (gd : X.A.guards = some []) (hr : Room k X.A) {E : XK} (hx : Passes CX X E)
    (h : EA X b ρ (e :: es) fun rs ρ' => ∃ ys, datas rs = some ys ∧ Pre (ys.map .d) ∧ ∀ r, Res (ys.map .d) r → (∀ ys, r ≠ .bor ys) ∧ p r ρ') (hg : Gl X x := by rfl)
    (hdb : (x == ("__debug__" : Str)) = false := by decide) (he : starEach (e :: es) X.env = (false, eval e X.env) :: starEach es X.env := by rfl) (hpl : (backTo cp (starEach es X.env)).any (·.1) = false := by rfl) : EV X b ρ (.Call (.Name x p1) (e :: es) [] cp) p := fun σ H L Q l hh q => by
  obtain ⟨f, fd, ps, F, ln, hm, hk, hb⟩ := C.ex
  refine ⟨_, pe_callSh F gd hr (fun vs H Q E z => by obtain ⟨G, as, l, _, hp, _⟩ := z; exact l.trans (ln as hp)) hg hm hk hb hx (wa_pa _) hdb he hpl, h σ H L _ l hh fun rs ρ' vs H' ⟨ys, ed, hp, h2⟩ l' lv hh' => ?_⟩
  have ec := datas_cool ed
  obtain ⟨G, hG⟩ := hh'.coolAll
  rw [ec] at hG
  have hsub := HoldG.sub0 hG (flat_zip (vs := vs) fun r hr => by
    obtain ⟨y, _, rfl⟩ := List.mem_map.mp hr
    rfl)
  refine ⟨G, ys.map .d, by rw [← ec]; simp [lv], by rw [List.append_nil]; exact hsub, hp, fun r hr n v H2 hh2 => ?_⟩
  exact q r ρ' v H2 (h2 r hr).2 l' (hG.dropM.after hh2 n)
theorem r_calG {CX : CXT} {k : Nat} {Pre : List Sl → Prop} {Res : List Sl → Sl → Prop} {x : Str} {p1 cp : Pos} {rs : List Sl} {ys : List PyData} (C : CalG X.prog X.w X.K X.mg X.base CX x k Pre Res) (gd : X.A.guards = some []) (hr : Room k X.A) {E : XK} (hx : Passes CX X E)
    (h : EAr X b ρ (e :: es) rs) (ed : datas rs = some ys) (h1 : Pre (ys.map .d)) (h2 : ∀ r', Res (ys.map .d) r' → r' = r) (nb : ∀ ys, r ≠ .bor ys := by intro _; nofun) (hg : Gl X x := by rfl)
    (hdb : (x == ("__debug__" : Str)) = false := by decide) (he : starEach (e :: es) X.env = (false, eval e X.env) :: starEach es X.env := by rfl) (hpl : (backTo cp (starEach es X.env)).any (·.1) = false := by rfl) : EVr X b ρ (.Call (.Name x p1) (e :: es) [] cp) r := fun _ q =>
  ev_calG C gd hr hx (h _ ⟨ys, ed, h1, fun r' hr' => by rw [h2 r' hr']; exact ⟨nb, q⟩⟩) hg hdb he hpl
theorem r_cool {ys : List PyData} (h : EVr X b ρ e (.own ys)) : EVr X b ρ e (.d (.list ys)) := fun _ k σ H L Q l hh q =>
  h (fun r ρ' => r = .own ys ∧ ρ' = ρ) ⟨rfl, rfl⟩ σ H L Q l hh fun r ρ' v H' ⟨e1, e2⟩ l' hh' => by
    subst e1 e2
    exact q _ ρ' v H' k l' hh'.cool
theorem ev_cool {p : Sl → List Sl → Prop} (h : EV X b ρ e fun r ρ' => p (cool r) ρ') : EV X b ρ e p := fun σ H L Q l hh q =>
  h σ H L Q l hh fun r ρ' v H' k l' hh' => q _ ρ' v H' k l' hh'.cool
/-- a list at hand and a drawn place -/
theorem ev_menu {ys : List PyData} {p : Sl → List Sl → Prop} (h1 : EVr X b ρ e1 r) (er : cool r = .d (.list ys) ∨ cool r = .d (.tuple ys)) (h2 : EV X b ρ e2 fun r2 ρ' => ∃ i : Int, r2 = .d (.int i) ∧ 0 ≤ i ∧ i < ys.length ∧ ∀ y, ys[i.toNat]? = some y → p (.d y) ρ') (hs : PlainIx e2 := by intro _ _; rfl) : EV X b ρ (.Subscript e1 e2 pos) p :=
  ev_ix hs (h1 _ (h2.imp fun r2 ρ' ⟨i, e, i0, i1, k⟩ => by
    subst e
    have hl : i.toNat < ys.length := by omega
    have hy : ys[i.toNat]? = some ys[i.toNat] := List.getElem?_eq_getElem hl
    refine ir_at er ?_ _ (k _ hy)
    unfold atI
    have : ixN ys.length i = some i.toNat := by
      have := ixN_nat (k := i.toNat) hl
      rwa [Int.toNat_of_nonneg i0] at this
    rw [this]
    exact hy))
/-- repr of plain data -/
theorem r_repr {y : PyData} {ps cp : Pos} (gd : X.A.guards = some []) (hu : X.A.units + 64 < cLine) (hm : X.mg "repr" = none) (h : EVr X b ρ e (.d y)) (h1 : y.showable = true) (h2 : y.hasDict = false) (h3 : y.depth ≤ 8) (h4 : y.shown.length ≤ sizeLine) (hg : Gl X "repr" := by rfl)
    (he : starEach [e] X.env = (false, eval e X.env) :: starEach [] X.env := by rfl) : EVr X b ρ (.Call (.Name "repr" ps) [e] [] cp) (.d (.str y.shown)) :=
  r_callB (id := "repr") hm (a_cons h a_nil he) (fun p k => ⟨_, call_reprD gd hu, fun vs H L Q lv hh q => by
    obtain ⟨v, rfl⟩ := one_in (rs := [.d y]) (r := .d y) lv
    exact ⟨v, y, rfl, hh.dp, h1, h2, h3, h4, q _ _ _ k (hh.drop.str _)⟩⟩) (hg := hg) (he := he)
end
section
variable {P : Program} {w : World} {K : PySem.W.Frag} {mg : Str → Option Value} {base : Heap}
theorem fn_PG {x qual : Str} {st : Stmt} {f : Addr} {fd : FuncData} {N ps : List Str} {k : Nat} {Pre : List Sl → Prop} {Res : List Sl → Sl → Prop} (F : Fun K x qual st f fd) (S : FnScope N ps (defScope st)) (len : ∀ as, Pre as → as.length = ps.length) (hN : ps.length ≤ N.length)
    (h : ∀ (cdv : Value) (A : Around) (outer : List Env) (s : Shared) (H : Hp) (E : XK), A.guards = some [] → Room k (A.deeper (envOfC qual (defScope st) s.heap.objs.size f cdv)) → ∀ (b : Bs) (as : List Sl), Pre as → XB (cxOf CX0 P w K mg base N qual (defScope st) f cdv A outer s H E).nox b (as ++ List.replicate (N.length - as.length) .un) (defBody st)
      ⟨fun _ => Res as (.d .none), fun r _ => Res as r ∧ ∀ ys, r ≠ .bor ys, fun _ => False, fun _ => False⟩) : RunG P w K mg base CX0 (k + 1) f fd ps (spP K Pre Res) := by
  refine okG F S (fun vs H Q E z => ?_) (fun cdv A outer s H vs Q E hg hr z => ?_)
  · obtain ⟨G, as, l, _, hp, _⟩ := z
    exact l.trans (len as hp)
  · obtain ⟨G, as, l, hG, hp, q⟩ := z
    obtain ⟨t, ht, hq⟩ := h cdv A outer s H E hg hr ⟨G, H, []⟩ as hp (L2.start N vs) H [] { nx := fun _ H' => Q .non H', rt := Q } (by unfold L2.start; have := len as hp; simp [l])
      (by rw [List.append_nil, zip_start l]; exact hold_start _ ⟨G, hG⟩)
      ⟨fun ρ' σ' H' hn l' n' hh => q (.d .none) hn (by simp) .non H' (hh.dropL (M := σ'.zip ρ') (L := []) |>.non), fun r ρ' v σ' H' hn l' n' hh => q r hn.1 hn.2 v H' ((hh.perm (L' := σ'.zip ρ' ++ [(some v, r)]) (by rw [List.append_nil]; exact List.perm_append_singleton _ _)).dropL), fun _ _ _ z => z.elim, fun _ _ _ z => z.elim⟩
    exact ⟨t, ht, hq⟩
end

end DE

namespace DE
open PySem PySem.Spec PyProof.Rows L2 SZ VR VX StX RT
/-! ### lists joined, also lists that stay -/
section
open Builtin
theorem add_lists (l : Addr) (xs : Array Value) (n : Nat) (t : Array (Option Value)) (b : Addr) (ys : Array Value) (m : Nat) (u : Array (Option Value)) (hc0 : xs.size + ys.size ≤ sizeLine) :
    Meets (Builtin.«list.__add__» ⟨[.ref l, .ref b], []⟩) (fun _ R s =>
      (s.heap.get? l = some ⟨.type "list", none, .seq xs n, t⟩ ∧ s.heap.get? b = some ⟨.type "list", none, .seq ys m, u⟩) ∧
        R (.ok (.ret (Value.ref s.heap.objs.size))) { s with heap := s.heap.push { cls := Value.type "list", data := Data.seq (xs ++ ys) }, toks := s.toks }) :=
  .of_wp fun prog w A R s h => by
    obtain ⟨hp, g, d, tk, os⟩ := s
    obtain ⟨⟨hl, hb⟩, h⟩ := h
    have f1 := PySem.AutoSeq1.idx_int
    have f3 := PySem.AutoSeq1.sub_list_list
    have f2 := PySem.AutoSeq1.sub_tuple_tuple
    have f4 := PySem.AutoSeq1.sub_tuple_list
    have f5 := PySem.AutoSeq1.sub_list_tuple
    wp_walk using PySem.AutoSeq1.wpAny_loadPart' hl, PySem.AutoSeq1.wpAny_loadPart' hb
    exact ⟨_, rfl, h⟩
end
theorem op_catS {X : Cx} : OpR X (binaryOp .Add) (fun x y H Q => ∃ a b xs zs, x = .ref a ∧ y = .ref b ∧ SqL X.K H a xs ∧ SqL X.K H b zs ∧ xs.length + zs.length ≤ sizeLine ∧ ∀ p, H p = none → Q (.ref p) (upd H p (.lst (xs ++ zs)))) := by
  intro pins s σ H x y v u Q I rx ry h
  obtain ⟨l, b, xs, zs, rfl, rfl, hH, hB, hz, q⟩ := h
  cases rx
  cases ry
  obtain ⟨its, r, ⟨o, n, e, c1, c2, c3⟩, z⟩ := I.list hH
  obtain ⟨its2, r2, ⟨o2, n2, e2, d1, d2, d3⟩, z2⟩ := I.list hB
  obtain ⟨cls, dict, data, slots⟩ := o
  obtain ⟨cls2, dict2, data2, slots2⟩ := o2
  simp only at c1 c2 c3 d1 d2 d3
  subst c1 c2 c3 d1 d2 d3
  have l1 := r.length
  have l2 := r2.length
  have ea : its.toArray ++ its2.toArray = (its ++ its2).toArray := by simp
  refine concat_meets ⟨_, e, rfl⟩ ⟨_, e2, rfl⟩ noFill_list_add seq_list_add F.slot_list_add F.entry_list_add (F.args_list_add_2 _ _) (add_lists l its.toArray n slots b its2.toArray n2 slots2 (by rw [List.size_toArray, List.size_toArray]; omega)) ⟨⟨e, e2⟩, ?_⟩
  rw [ea]
  exact ⟨.ref _, _, I.lnew (t' := s.toks) (r.append r2) (by rw [List.length_append]; omega), rfl, q _ I.fresh⟩
section
variable {X : Cx} {b : Bs} {r1 r2 : Sl} {xs ys : List PyData}
theorem or_catS (e1 : cool r1 = .d (.list xs)) (e2 : cool r2 = .d (.list ys)) (hz : xs.length + ys.length ≤ sizeLine) : OVr X b (binaryOp .Add) r1 r2 (.own (xs ++ ys)) := fun p h => OV.cool (by
  rw [e1, e2]
  refine ⟨_, op_catS, fun v1 v2 H L Q hh k => ?_⟩
  obtain ⟨G, hg⟩ := hh
  obtain ⟨_, f1, d1⟩ := hg.ok (some v1, .d (.list xs)) List.mem_cons_self
  obtain ⟨_, f2, d2⟩ := hg.ok (some v2, .d (.list ys)) (List.mem_cons_of_mem _ List.mem_cons_self)
  cases f1
  cases f2
  cases d1 with
  | @lst a us _ s1 t1 =>
    cases d2 with
    | @lst c ws _ s2 t2 =>
      exact ⟨a, c, us, ws, rfl, rfl, hg.up.seq s1, hg.up.seq s2, by rw [DpAll.len t1, DpAll.len t2]; exact hz, fun q hq => k _ _ _ h ⟨G, hg.drop.drop.newL hq (DpAll.app t1 t2)⟩⟩)
/-- a list that is nobody's, n times -/
theorem or_rep {n : Int} (h0 : -(2 ^ 63) ≤ n) (h1 : n < 2 ^ 63) (hz : xs.length * n.toNat ≤ sizeLine) : OVr X b (binaryOp .Mult) (.own xs) (.d (.int n)) (.own (List.replicate n.toNat xs).flatten) := fun p h => ⟨_, op_rep, fun v1 v2 H L Q hh k => by
  have hi := (hh.perm (List.Perm.swap ..)).isI
  subst hi
  obtain ⟨G, hg⟩ := hh
  obtain ⟨l1, us, e1, _, _, h1', d1⟩ := hg.ok _ List.mem_cons_self
  cases e1
  refine ⟨l1, n, us, rfl, rfl, h1', h0, h1, by rw [DpAll.len d1]; exact hz, fun q hq => k _ _ _ h ⟨G, hg.drop.drop.newL hq ?_⟩⟩
  generalize n.toNat = m
  induction m with
  | zero => exact .nil
  | succ m ih =>
    rw [List.replicate_succ, List.replicate_succ, List.flatten_cons, List.flatten_cons]
    exact DpAll.app d1 ih⟩
end

end DE

namespace DE
open PySem PySem.Spec PyProof.Rows L2 SZ VR VX StX RT
/-! ### written parts of a text -/
section
variable {X : Cx} {b : Bs} {ρ : List Sl} {e : Expr} {es : List Expr} {pos : Pos}
theorem r_fmtS {z : Str} (h : EVr X b ρ e (.d (.str z))) (hz : z.length ≤ sizeLine) : EVr X b ρ (.FormattedValue e (-1) none pos) (.d (.str z)) := fun p k σ H L Q l hh q =>
  ⟨_, pe_fmt (we_pe e), h (fun r ρ' => r = .d (.str z) ∧ ρ' = ρ) ⟨rfl, rfl⟩ σ H L _ l hh fun r ρ' v H' ⟨e1, e2⟩ l' hh' => by
    subst e1 e2
    have ev := hh'.isS
    subst ev
    exact .inl ⟨z, rfl, hz, q _ ρ' _ H' k l' hh'⟩⟩
theorem r_fmtI {i : Int} (h : EVr X b ρ e (.d (.int i))) (hz : i.natAbs.log2 < 1920) : EVr X b ρ (.FormattedValue e (-1) none pos) (.d (.str (toString i))) := fun p k σ H L Q l hh q =>
  ⟨_, pe_fmt (we_pe e), h (fun r ρ' => r = .d (.int i) ∧ ρ' = ρ) ⟨rfl, rfl⟩ σ H L _ l hh fun r ρ' v H' ⟨e1, e2⟩ l' hh' => by
    subst e1 e2
    have ev := hh'.isI
    subst ev
    exact .inr ⟨i, rfl, hz, q _ ρ' _ H' k l' (hh'.drop.str _)⟩⟩
/-- texts side by side -/
inductive FJ (X : Cx) (b : Bs) (ρ : List Sl) : List Expr → List Str → Prop
  | nil : FJ X b ρ [] []
  | cons {e : Expr} {z : Str} {es : List Expr} {zs : List Str} : EVr X b ρ e (.d (.str z)) → FJ X b ρ es zs → FJ X b ρ (e :: es) (z :: zs)
theorem fj_pj : ∀ es : List Expr, PJ X es (es.map (WE X))
  | [] => .nil
  | e :: es => .cons (we_pe e) (fj_pj es)
theorem fj_go {zs : List Str} (h : FJ X b ρ es zs) : ∀ (acc : Str) (σ : L2.St) (H : Hp) (L : List Cl) (Q : Str → Hp → Prop), σ.length = ρ.length → Hold X.K b H (σ.zip ρ ++ L) → acc.length + (zs.map (·.length)).sum ≤ sizeLine → (∀ H', Hold X.K b H' (σ.zip ρ ++ L) → Q (zs.foldl (· ++ ·) acc) H') → tJs (es.map (WE X)) acc σ H Q := by
  induction h with
  | nil => exact fun acc σ H L Q l hh hz k => k H hh
  | @cons e z es zs he _ ih =>
    intro acc σ H L Q l hh hz k
    rw [List.map_cons, List.sum_cons] at hz
    refine he (fun r ρ' => r = .d (.str z) ∧ ρ' = ρ) ⟨rfl, rfl⟩ σ H L _ l hh fun r ρ' v H' ⟨e1, e2⟩ l' hh' => ?_
    subst e1 e2
    have ev := hh'.isS
    subst ev
    exact ⟨z, rfl, by rw [Str.length_append]; omega, ih (acc ++ z) σ H' L Q l' hh'.drop (by rw [Str.length_append]; omega) k⟩
theorem r_joined {v1 v2 : Expr} {zs : List Str} (h : FJ X b ρ (v1 :: v2 :: es) zs) (hz : (zs.map (·.length)).sum ≤ sizeLine) : EVr X b ρ (.JoinedStr (v1 :: v2 :: es) pos) (.d (.str (zs.foldl (· ++ ·) Str.empty))) := fun p k σ H L Q l hh q =>
  ⟨_, pe_joined (fj_pj _), fj_go h Str.empty σ H L _ l hh (by have : Str.empty.length = 0 := rfl; omega) fun H' hh' => q _ ρ _ H' k l (hh'.str _)⟩
end
/-! ### reversed(range(n)) -/
def revD (n : Nat) : List PyData := (List.range n).map fun i : Nat => .int ((n : Int) - 1 + (i : Int) * (-1))
theorem revD_len (n : Nat) : (revD n).length = n := by unfold revD; simp
theorem revD_at {n i : Nat} (h : i < n) : (revD n)[i]? = some (.int ((n : Int) - 1 + (i : Int) * (-1))) := by unfold revD; simp [h]
theorem walk_rangeN {lo c : Int} {n : Nat} : Walk (Itc lo c n) n (fun _ => True) (YFn fun i => .int (lo + (i : Nat) * c)) where
  goes := fun i H hi _ => hi
  stops := fun H _ => Nat.le_refl n
  yields := fun i H x H' _ _ h => h
section
variable {X : Cx} {b : Bs} {ρ : List Sl} {tg : Expr}
theorem ei_revRange {a : Expr} {p0 p1 p2 p3 : Pos} {p : List PyData → List Sl → Prop} (hg1 : Gl X "reversed") (hm1 : X.mg "reversed" = none) (hg : Gl X "range") (hm : X.mg "range" = none) (h : EV X b ρ a fun r ρ' => ∃ n : Int, r = .d (.int n) ∧ 0 ≤ n ∧ n < 2 ^ 62 ∧ p (revD n.toNat) ρ')
    (hs : starEach [a] X.env = [(false, eval a X.env)] := by rfl) (hs1 : starEach [.Call (.Name "range" p1) [a] [] p2] X.env = (false, eval (.Call (.Name "range" p1) [a] [] p2) X.env) :: starEach [] X.env := by rfl) : EI X b ρ tg (.Call (.Name "reversed" p0) [.Call (.Name "range" p1) [a] [] p2] [] p3) p :=
  ⟨_, pi_revR hg1 hm1 (prg_1 hg hm (we_pe a) hs) hs1, fun σ H L R l hh k => h σ H L _ l hh fun r ρ' v H' ⟨n, er, b0, b2, hp⟩ l' hh' => by
    subst er
    have ev := hh'.isI
    subst ev
    refine ⟨n, rfl, by omega, by omega, by omega, by omega, ?_⟩
    have e1 : ((0 : Int) + (((n - 0).toNat : Nat) : Int) - 1) = (n.toNat : Int) - 1 := by omega
    have e2 : (n - 0).toNat = n.toNat := by rw [Int.sub_zero]
    rw [e1, e2]
    refine k _ ρ' H' _ _ _ (none, .un) hp l' (wlen (revD_len n.toNat) (walk_rangeN (c := -1))) (hh'.drop.un.perm perm_in.symm) (fun _ _ _ => trivial) fun i x H1 H2 L2 hi ⟨e1, e2⟩ hz => ?_
    subst e1 e2
    rw [revD_len] at hi
    exact ⟨_, revD_at hi, hz.int _⟩⟩
end

end DE

namespace DE
open PySem PySem.Spec PyProof.Rows L2 SZ VR VX StX RT
/-! ### data that is flat, numerals -/
theorem eqv_nilL {ys : List PyData} : PyData.eqv (.list ys) (.list []) = ys.isEmpty := by
  cases ys <;> simp [PyData.eqv, PyData.eqvAll]
theorem eqv_nilT {ys : List PyData} : PyData.eqv (.tuple ys) (.tuple []) = ys.isEmpty := by
  cases ys <;> simp [PyData.eqv, PyData.eqvAll]
theorem layA : ∀ {ys : List PyData}, (∀ y ∈ ys, y.canLay0 = true) → PyData.canLayAll0 ys = true
  | [], _ => rfl
  | y :: ys, h => by
    unfold PyData.canLayAll0
    rw [h y List.mem_cons_self, layA fun z hz => h z (List.mem_cons_of_mem _ hz)]
    rfl
theorem depthA : ∀ {ys : List PyData} {n : Nat}, (∀ y ∈ ys, y.depth ≤ n) → PyData.depthAll ys ≤ n
  | [], _, _ => by simp [PyData.depthAll]
  | y :: ys, n, h => by
    unfold PyData.depthAll
    exact Nat.max_le.mpr ⟨h y List.mem_cons_self, depthA fun z hz => h z (List.mem_cons_of_mem _ hz)⟩
/-- what may be laid out, n deep -/
def Lay (n : Nat) (y : PyData) : Prop := y.canLay0 = true ∧ y.depth ≤ n
theorem Lay.mono {n m : Nat} {y : PyData} (h : Lay n y) (k : n ≤ m) : Lay m y := ⟨h.1, Nat.le_trans h.2 k⟩
theorem Lay.lst {n : Nat} {ys : List PyData} (h : ∀ y ∈ ys, Lay n y) : Lay (n + 1) (.list ys) := by
  have h1 := layA fun y hy => (h y hy).1
  have h2 := depthA fun y hy => (h y hy).2
  refine ⟨by simpa only [PyData.canLay0] using h1, ?_⟩
  simp only [PyData.depth]
  omega
theorem Lay.tup {n : Nat} {ys : List PyData} (h : ∀ y ∈ ys, Lay n y) : Lay (n + 1) (.tuple ys) := by
  have h1 := layA fun y hy => (h y hy).1
  have h2 := depthA fun y hy => (h y hy).2
  refine ⟨by simpa only [PyData.canLay0] using h1, ?_⟩
  simp only [PyData.depth]
  omega
theorem Lay.str {z : Str} (h : PyData.strOk z = true) : Lay 0 (.str z) := ⟨h, Nat.le_refl _⟩
theorem Lay.int {i : Int} : Lay 0 (.int i) := ⟨rfl, Nat.le_refl _⟩
theorem Lay.shaped {n : Nat} {y : PyData} (h : Lay n y) (hn : n ≤ 64) : SeqAt.shaped y = true := by
  unfold SeqAt.shaped
  rw [h.1, decide_eq_true (Nat.le_trans h.2 hn)]
  rfl
theorem ofS (s : String) : Str.ofString s = ⟨(s.toList.map Char.toNat).toArray⟩ := congrFun Str.ofString_eq_byList s
theorem ofS_len (s : String) : (Str.ofString s).length = s.length := by
  rw [ofS]
  show (s.toList.map Char.toNat).toArray.size = s.length
  rw [List.size_toArray, List.length_map, String.length_toList]
theorem ofS_ok (s : String) : PyData.strOk (Str.ofString s) = true := by
  show (Str.ofString s).cps.all (· < 0x110000) = true
  rw [ofS, ← Array.all_toList, List.all_eq_true]
  intro c hc
  simp only [List.mem_map] at hc
  obtain ⟨ch, _, rfl⟩ := hc
  have hv : ch.val.toNat < 0x110000 := by
    have := ch.valid
    rcases this with h | h <;> (have h2 : ch.val.toNat = ch.toNat := rfl; omega)
  exact decide_eq_true hv
theorem num_len {n : Int} (h0 : 0 ≤ n) {k : Nat} (hk : 0 < k) (h1 : n < 10 ^ k) : (Str.ofString (toString n)).length ≤ k := by
  rw [ofS_len]
  obtain ⟨m, rfl⟩ : ∃ m : Nat, n = m := ⟨n.toNat, (Int.toNat_of_nonneg h0).symm⟩
  have hm : m < 10 ^ k := by exact_mod_cast h1
  exact (Nat.length_repr_le_iff hk).mpr hm

end DE

namespace DE
open PySem PySem.Spec PyProof.Rows L2 SZ VR VX StX RT
theorem cutA_to {α : Type} (xs : List α) (i : Nat) : (xs.drop (HT.sIx xs.length 0 none)).take (HT.sIx xs.length xs.length (some (i : Int)) - HT.sIx xs.length 0 none) = xs.take i := by
  rw [HT.sIx_nat, HT.sIx_none, List.drop_zero, Nat.sub_zero, List.take_eq_take_iff]
  omega
theorem cutA_from {α : Type} (xs : List α) (i : Nat) : (xs.drop (HT.sIx xs.length 0 (some (i : Int)))).take (HT.sIx xs.length xs.length none - HT.sIx xs.length 0 (some (i : Int))) = xs.drop i := by
  rw [HT.sIx_nat, HT.sIx_none]
  by_cases h : i ≤ xs.length
  · rw [Nat.min_eq_left h, List.take_of_length_le (by rw [List.length_drop]; omega)]
  · rw [Nat.min_eq_right (by omega), List.drop_length, List.take_nil, List.drop_eq_nil_of_le (by omega)]
theorem cut_take {r : Sl} {ys : List PyData} {i : Int} {p : Sl → Prop} (er : cool r = .d (.list ys)) (i0 : 0 ≤ i) (h : p (.own (ys.take i.toNat))) : Cut r none (some i) p := .lst er (by
  have := cutA_to ys i.toNat
  rw [Int.toNat_of_nonneg i0] at this
  rw [this]
  exact h)
theorem cut_drop {r : Sl} {ys : List PyData} {i : Int} {p : Sl → Prop} (er : cool r = .d (.list ys)) (i0 : 0 ≤ i) (h : p (.own (ys.drop i.toNat))) : Cut r (some i) none p := .lst er (by
  have := cutA_from ys i.toNat
  rw [Int.toNat_of_nonneg i0] at this
  rw [this]
  exact h)

end DE

namespace DE
open PySem PySem.Spec PyProof.Rows L2 SZ VR VX StX RT
/-! ### tuples joined, lists reversed, list(range(n)) -/
theorem DpAll.rev {K : PySem.W.Frag} {G : Hp} : ∀ {vs : List V} {ys : List PyData}, DpAll K G vs ys → DpAll K G vs.reverse ys.reverse
  | _, _, .nil => .nil
  | _, _, .cons h r => by
    rw [List.reverse_cons, List.reverse_cons]
    exact DpAll.app (DpAll.rev r) (.cons h .nil)
theorem rg_dp {K : PySem.W.Frag} {G : Hp} {lo : Int} : ∀ l : List Nat, DpAll K G (l.map fun i => V.int (lo + (i : Nat))) (l.map fun i : Nat => PyData.int (lo + (i : Int)))
  | [] => .nil
  | i :: l => .cons (.int _) (rg_dp l)
section
variable {X : Cx} {b : Bs} {ρ : List Sl} {r1 r2 r : Sl} {xs ys : List PyData} {e : Expr}
theorem or_catT (hz : xs.length + ys.length ≤ sizeLine) : OVr X b (binaryOp .Add) (.d (.tuple xs)) (.d (.tuple ys)) (.d (.tuple (xs ++ ys))) := fun p h => ⟨_, op_catA, fun v1 v2 H L Q hh k => by
  obtain ⟨G, hg⟩ := hh
  obtain ⟨_, f1, d1⟩ := hg.ok (some v1, .d (.tuple xs)) List.mem_cons_self
  obtain ⟨_, f2, d2⟩ := hg.ok (some v2, .d (.tuple ys)) (List.mem_cons_of_mem _ List.mem_cons_self)
  cases f1
  cases f2
  have d1' := d1
  have d2' := d2
  cases d1 with
  | @tup a us _ s1 t1 =>
    cases d2 with
    | @tup c ws _ s2 t2 =>
      refine ⟨a, c, us, ws, rfl, rfl, hg.up.tup s1, hg.up.tup s2, by rw [DpAll.len t1, DpAll.len t2]; exact hz, fun e => ?_, fun _ e => ?_, fun _ _ q hq => ?_⟩
      · subst e
        cases t1
        exact k _ _ _ h ⟨G, hg.drop.drop.add d2'⟩
      · subst e
        cases t2
        rw [List.append_nil] at h
        exact k _ _ _ h ⟨G, hg.drop.drop.add d1'⟩
      · have gq : G q = none := hg.up.free hq
        have sg := Same.new (o := .tup (us ++ ws)) gq
        exact k _ _ _ h ⟨_, (hg.drop.drop.grow hq (o := .tup (us ++ ws)) rfl).add (.tup (.of upd_same) (DpAll.app (DpAll.keep sg t1) (DpAll.keep sg t2)))⟩⟩
theorem r_revL {p1 p2 p3 p4 : Pos} {kk : Nat} (h : EVr X b ρ e r) (er : cool r = .d (.list xs)) : EVr X b ρ (.Subscript e (.Slice none none (some (.UnaryOp .USub (.Constant (.int 1) kk p1) p2)) p3) p4) (.own xs.reverse) := fun p k σ H L Q l hh q =>
  ⟨_, pe_revL (we_pe e), h (fun r' ρ' => r' = r ∧ ρ' = ρ) ⟨rfl, rfl⟩ σ H L _ l hh fun r' ρ' v H' ⟨e1, e2⟩ l' hh' => by
    subst e1 e2
    have hc := hh'.cool
    rw [er] at hc
    obtain ⟨G, hg⟩ := hc
    obtain ⟨_, f1, d1⟩ := hg.ok (some v, .d (.list xs)) List.mem_cons_self
    cases f1
    cases d1 with
    | @lst a us _ s1 t1 =>
      exact ⟨a, us, rfl, hg.up.seq s1, fun p2 hp2 => q _ ρ' _ _ k l' ⟨G, hg.drop.newL hp2 (DpAll.rev t1)⟩⟩⟩
theorem r_listRg {n : Int} {p1 p2 p3 p4 : Pos} (hm1 : X.mg "list" = none) (hm2 : X.mg "range" = none) (hc : X.calm = true) (h : EVr X b ρ e (.d (.int n))) (h0 : 0 ≤ n) (h1 : n ≤ 16777216) (hg1 : Gl X "list" := by rfl) (hg2 : Gl X "range" := by rfl)
    (hs : starEach [e] X.env = [(false, eval e X.env)] := by rfl) (hs1 : starEach [.Call (.Name "range" p1) [e] [] p2] X.env = [(false, eval (.Call (.Name "range" p1) [e] [] p2) X.env)] := by rfl) : EVr X b ρ (.Call (.Name "list" p3) [.Call (.Name "range" p1) [e] [] p2] [] p4) (.own (rngD 0 n.toNat)) := fun p k σ H L Q l hh q =>
  ⟨_, pe_listRg hc hg1 hm1 (prg_1 hg2 hm2 (we_pe e) hs) hs1, h (fun r' ρ' => r' = .d (.int n) ∧ ρ' = ρ) ⟨rfl, rfl⟩ σ H L _ l hh fun r' ρ' v H' ⟨e1, e2⟩ l' hh' => by
    subst e1 e2
    have ev := hh'.isI
    subst ev
    refine ⟨n, rfl, RgOk.of_le (by decide) h1 (by decide) h0, fun p2 hp2 => q _ ρ' _ _ k l' ?_⟩
    obtain ⟨G, hg⟩ := hh'
    refine ⟨G, hg.drop.newL hp2 ?_⟩
    unfold rgV rngD
    rw [Int.sub_zero]
    exact rg_dp _⟩
end

end DE

namespace DE
open PySem PySem.Spec PyProof.Rows L2 SZ VR VX StX RT
/-! ### x[i] = e, x a list that the name at a slot holds alone -/
theorem DpAll.set {K : PySem.W.Frag} {G : Hp} : ∀ {vs : List V} {ys : List PyData} (j : Nat) {v : V} {y : PyData}, DpAll K G vs ys → Dp K G v y → DpAll K G (vs.set j v) (ys.set j y)
  | _, _, _, _, _, .nil, _ => .nil
  | _, _, 0, _, _, .cons _ h, k => .cons k h
  | _, _, j + 1, _, _, .cons g h, k => .cons g (DpAll.set j h k)
section
variable {X : Cx} {b : Bs} {ρ : List Sl}
theorem eg_sub (i : Nat) {ts : List Nat} {idx : Expr} {r s : Sl} {ys : List PyData} {k : Int} {j : Nat} {z : PyData} {x : Str} {p1 pos : Pos} {p : List Sl → Prop} (hN : X.N[i]? = some x) (hv : Vis X.env.scope x) (hr : ρ[i]? = some s) (hs : s = .own ys ∨ s = .bor ys) (hi : EVr X b ρ idx (.d (.int k))) (hj : ixN ys.length k = some j) (er : cool r = .d z) (h : p (ρ.set i (setS s (ys.set j z))))
    (hd : (x == ("__debug__" : Str)) = false := by decide) (hcd : (x == ("__classdict__" : Str)) = false := by decide)
    (ha : ∀ v, assign (.Subscript (.Name x p1) idx pos) X.env v = (do
      let ov ← holding [v] (eval (.Name x p1) X.env)
      let iv ← holding [v, ov] (eval idx X.env)
      standAt pos
      holding [v, ov, iv] (setItem ov iv v)
      release [v, ov, iv] []) := by intro _; rfl) : EG X b ts ρ (.Subscript (.Name x p1) idx pos) r p := fun σ H L v Q l hh q => by
  obtain ⟨a, hx⟩ := slot_ref l hr hs (hh.drop)
  refine ⟨_, pg_sub (pe_var hN hv hd hcd) (we_pe idx) set_list ha, .ref a, hx, ?_⟩
  refine hi (fun r' ρ' => r' = .d (.int k) ∧ ρ' = ρ) ⟨rfl, rfl⟩ σ H ((some v, r) :: L) _ l (hh.perm perm_in.symm) fun r' ρ' u H' ⟨e1, e2⟩ l' hh' => ?_
  subst e1 e2
  have eu := hh'.isI
  subst eu
  have h3 : Hold X.K b H' ((some v, r) :: (σ.zip ρ' ++ L)) := hh'.drop.perm perm_in
  have h4 := h3.cool
  rw [er] at h4
  obtain ⟨M, q1, q2⟩ := set_perm (s' := setS s (ys.set j z)) hr hx
  obtain ⟨G, hG⟩ := h4
  have hG2 : HoldG X.K b G H' ((some (.ref a), s) :: (some v, .d z) :: (M ++ L)) := hG.perm ((List.Perm.swap ..).trans (List.Perm.cons _ (q1.symm.append_right L)))
  obtain ⟨us, e1, e2, e3⟩ := cell_lst hG2 hs
  have hz : Dp X.K G v z := hG.seq
  refine ⟨a, us, k, j, rfl, rfl, e1, by rw [e2]; exact hj, ?_⟩
  have hput := hG2.put (s' := setS s (ys.set j z)) (ys := ys) (ys' := ys.set j z) (vs := us.set j v) (by rcases hs with rfl | rfl <;> simp [setS]) (DpAll.set j e3 hz)
  exact q _ σ _ h (by simp [l']) (by simp) rfl ⟨G, ((hput.perm ((List.Perm.swap ..))).drop).perm (q2.append_right L)⟩
end

end DE

namespace DE
open PySem PySem.Spec PyProof.Rows L2 SZ VR VX StX RT
/-! ### powers -/
theorem or_pow {X : Cx} {b : Bs} {i j : Int} (hc : CPow i j) : OVr X b (binaryOp .Pow) (.d (.int i)) (.d (.int j)) (.d (.int (i ^ j.toNat))) := fun _ h => ov_intC (g := fun i j => i ^ j.toNat) op_pow hc h
/-- .. of greater numbers -/
theorem or_mulW {X : Cx} {b : Bs} {i j : Int} (hc : CMulW i j) : OVr X b (binaryOp .Mult) (.d (.int i)) (.d (.int j)) (.d (.int (i * j))) := fun _ h => ov_intC (g := fun i j => i * j) op_mulW hc h
theorem u_neg {X : Cx} {b : Bs} {i : Int} : UVr X b (unaryOp .USub) (.d (.int i)) (.d (.int (-i))) := fun _ h => ⟨_, un_neg, fun v1 H L Q hh k => by
  have e1 := hh.isI
  subst e1
  exact ⟨i, rfl, k _ _ _ h (hh.drop.int _)⟩⟩

end DE

namespace DE
open PySem PySem.Spec PyProof.Rows L2 SZ VR VX StX RT
/-! ### sorted(texts) -/
section
variable {X : Cx} {b : Bs}
theorem dp_strsI {K : PySem.W.Frag} {G : Hp} : ∀ ws : List Str, DpAll K G (ws.map V.str) (ws.map PyData.str)
  | [] => .nil
  | w :: ws => .cons (.str w) (dp_strsI ws)
/-- some order of them, sorted -/
theorem cv_sortedS {ws : List Str} {r : Sl} {p : Sl → Prop} (er : cool r = .d (.list (ws.map .str))) (hn : ws.length < 64) (h : ∀ ys : List Str, ys.Perm ws → PyProof.Rows.sortedS ys = true → p (.own (ys.map .str))) : CV X b (.builtin "sorted") [r] p := ⟨_, cr_sortedS, fun vs H L Q lv hh k => by
  obtain ⟨v, rfl⟩ := one_in (rs := [r]) (r := r) lv
  have hc : Hold X.K b H ((some v, r) :: L) := hh
  have hc := hc.cool
  rw [er] at hc
  obtain ⟨G, hg⟩ := hc
  obtain ⟨_, f1, d1⟩ := hg.ok (some v, .d (.list (ws.map .str))) List.mem_cons_self
  cases f1
  cases d1 with
  | @lst a us _ s1 t1 =>
    have e := dp_strs t1
    subst e
    exact ⟨a, ws, rfl, hg.up.seq s1, hn, fun ys q hp hs hq => k _ _ _ (h ys hp hs) ⟨G, hg.drop.newL hq (dp_strsI ys)⟩⟩⟩
end

end DE

namespace DE
open PySem PySem.Spec PyProof.Rows L2 SZ VR VX StX RT
/-! ### max, min of two, repr, a list that is kept from here on -/
section
variable {X : Cx} {b : Bs}
theorem cr_max2 {i j : Int} (hc : X.calm = true) : CVr X b (.builtin "max") [.d (.int i), .d (.int j)] (.d (.int (if j > i then j else i))) := fun _ h => ⟨_, call_max2 hc, fun vs H L Q lv hh k => by
  match vs, lv with
  | [u1, u2], _ =>
    have e1 := hh.isI
    subst e1
    have e2 := hh.drop.isI
    subst e2
    exact ⟨i, j, rfl, k _ _ _ h (hh.drop.drop.int _)⟩⟩
theorem cr_min2 {i j : Int} (hc : X.calm = true) : CVr X b (.builtin "min") [.d (.int i), .d (.int j)] (.d (.int (if j < i then j else i))) := fun _ h => ⟨_, call_min2 hc, fun vs H L Q lv hh k => by
  match vs, lv with
  | [u1, u2], _ =>
    have e1 := hh.isI
    subst e1
    have e2 := hh.drop.isI
    subst e2
    exact ⟨i, j, rfl, k _ _ _ h (hh.drop.drop.int _)⟩⟩
end
section
variable {X : Cx} {b : Bs} {ρ : List Sl} {p : Sl → List Sl → Prop} {e : Expr} {pos : Pos}
theorem ev_repr {ps cp : Pos} (gd : X.A.guards = some []) (hu : X.A.units + 64 < cLine) (hm : X.mg "repr" = none) (h : EV X b ρ e fun r ρ' => ∃ y, r = .d y ∧ (y.showable = true ∧ y.hasDict = false ∧ y.depth ≤ 8 ∧ y.shown.length ≤ sizeLine) ∧ p (.d (.str y.shown)) ρ') (hg : Gl X "repr" := by rfl)
    (he : starEach [e] X.env = (false, eval e X.env) :: starEach [] X.env := by rfl) : EV X b ρ (.Call (.Name "repr" ps) [e] [] cp) p :=
  ev_callB (id := "repr") hg hm (by decide +kernel) (ea_cons (hs := he) (h := h.imp fun r ρ' ⟨y, er, ⟨h1, h2, h3, h4⟩, k⟩ => ea_nil ⟨_, call_reprD gd hu, fun vs H L Q lv hh q => by
    subst er
    obtain ⟨v, rfl⟩ := one_in (rs := [.d y]) (r := .d y) lv
    exact ⟨v, y, rfl, hh.dp, h1, h2, h3, h4, q _ _ _ k (hh.drop.str _)⟩⟩)) (by decide) (by decide) he (by rfl)
theorem xb_frz (i : Nat) {ys : List PyData} {st : List Stmt} {q : Po} {ρ2 : List Sl} (hs : ρ[i]? = some (.own ys)) (h2 : ρ.set i (.d (.list ys)) = ρ2) (h : XB X b ρ2 st q) : XB X b ρ st q := by
  subst h2
  intro σ H L D l hh k
  obtain ⟨x, hx, _⟩ := zip_mem l hs
  obtain ⟨M, p1, p2⟩ := set_perm (s' := .d (.list ys)) hs hx
  exact h σ H L D (by rw [List.length_set]; exact l) (((hh.perm ((p1.append_right L).symm)).freeze).perm (p2.append_right L)) (by rw [List.length_set]; exact k)
end

end DE

namespace DE
open PySem PySem.Spec PyProof.Rows L2 SZ VR VX StX RT
/-! ### a dict of texts, held by a name; defs that change a list and a dict -/
def getK (kvs : List (Str × PyData)) (k : Str) : Option PyData := (kvs.find? fun p => decide (p.1 = k)).map (·.2)
def setK (kvs : List (Str × PyData)) (k : Str) (y : PyData) : List (Str × PyData) := kvs.map fun p => if p.1 = k then (p.1, y) else p
section
variable {K : PySem.W.Frag} {b : Bs} {G H H' : Hp} {L : List Cl}
theorem inr_ne {a k : Str} (h : ¬ a = k) : ¬ (.inr a : Key) = .inr k := fun e => h (by injection e)
theorem dpk_get {k : Str} {y : PyData} : ∀ {us : List (Key × V)} {kvs : List (Str × PyData)}, DpK K G us kvs → getK kvs k = some y → ∃ v, valV us (.inr k) = some v ∧ Dp K G v y
  | [], [], _, h => by cases h
  | [], _ :: _, h, _ => h.elim
  | _ :: _, [], h, _ => h.elim
  | u :: us, p :: kvs, ⟨h1, h2, h3⟩, h => by
    by_cases e : p.1 = k
    · unfold getK at h
      rw [List.find?_cons, decide_eq_true e] at h
      cases h
      exact ⟨u.2, valV_pos (h1.trans (by rw [e])), h2⟩
    · unfold getK at h
      rw [List.find?_cons, decide_eq_false e] at h
      obtain ⟨v, a, c⟩ := dpk_get h3 h
      exact ⟨v, (valV_neg (by rw [h1]; exact inr_ne e)).trans a, c⟩
theorem dpk_map {k : Str} {v : V} {y : PyData} (hv : Dp K G v y) : ∀ {us : List (Key × V)} {kvs : List (Str × PyData)}, DpK K G us kvs → DpK K G (us.map fun kv => if kv.1 = .inr k then (kv.1, v) else kv) (setK kvs k y)
  | [], [], _ => trivial
  | [], _ :: _, h => h.elim
  | _ :: _, [], h => h.elim
  | u :: us, p :: kvs, ⟨h1, h2, h3⟩ => by
    have ih := dpk_map hv (k := k) h3
    show DpK K G ((if u.1 = .inr k then (u.1, v) else u) :: us.map _) ((if p.1 = k then (p.1, y) else p) :: setK kvs k y)
    by_cases e : p.1 = k
    · rw [if_pos e, if_pos (h1.trans (by rw [e]))]
      exact ⟨h1, hv, ih⟩
    · rw [if_neg e, if_neg (by rw [h1]; exact inr_ne e)]
      exact ⟨h1, h2, ih⟩
theorem dpk_put {k : Str} {v : V} {y y0 : PyData} {us : List (Key × V)} {kvs : List (Str × PyData)} (h : DpK K G us kvs) (hk : getK kvs k = some y0) (hv : Dp K G v y) : DpK K G (putK us (.inr k) v) (setK kvs k y) := by
  obtain ⟨w, e, _⟩ := dpk_get h hk
  unfold putK
  rw [valV_any, e]
  exact dpk_map hv h
theorem dpk_len : ∀ {us : List (Key × V)} {kvs : List (Str × PyData)}, DpK K G us kvs → us.length = kvs.length
  | [], [], _ => rfl
  | [], _ :: _, h => h.elim
  | _ :: _, [], h => h.elim
  | _ :: _, _ :: _, ⟨_, _, h⟩ => by rw [List.length_cons, List.length_cons, dpk_len h]
theorem HoldG.putD {p : Addr} {o : Bool} {kvs kvs' : List (Str × PyData)} {us : List (Key × V)} (h : HoldG K b G H ((some (.ref p), .dct o kvs) :: L)) (hv : DpK K G us kvs') : HoldG K b G (upd H p (.dK us)) ((some (.ref p), .dct o kvs') :: L) := by
  obtain ⟨q0, us0, e0, b0, g0, h0, d0⟩ := h.ok _ List.mem_cons_self
  cases e0
  have nd' := (List.nodup_cons.mp (show (p :: ads L).Nodup from h.nd)).1
  refine ⟨h.old, fun a u e => ?_, h.new, fun a u e n => ?_, fun a ha => ?_, fun c hc => ?_, h.nd, h.fl⟩
  · have := h.up a u e
    rw [upd_ne (ne_of_none e g0)]; exact this
  · by_cases ha : a = p
    · subst ha
      rcases b0 with z | z
      · rw [z.2] at e; cases e
      · exact absurd z.2.1 n
    · rw [upd_ne ha]; exact h.rest a u e n
  · refine ⟨?_, (h.bs a ha).2.of fun c u e _ n2 => ?_⟩
    · by_cases e : a = p
      · subst e; rw [upd_same]; rfl
      · rw [upd_ne e]; exact (h.bs a ha).1
    · have n : c ≠ p := fun z => by
        subst z; rw [h0] at e; cases e; exact n2 _ rfl
      rw [upd_ne n]
      exact e
  · rcases List.mem_cons.mp hc with rfl | hm
    · exact ⟨p, us, rfl, b0, g0, upd_same, hv⟩
    · have ok := h.ok c (List.mem_cons_of_mem _ hm)
      rcases c with ⟨x, t⟩
      cases t with
      | un => trivial
      | d y => exact ok
      | fact φ st => exact ok
      | dct o kvs =>
        obtain ⟨q, vs', e, k1, k2, k3, k4⟩ := ok
        have n : q ≠ p := fun n => by
          subst n; subst e
          exact nd' (ads_memD hm)
        exact ⟨q, vs', e, k1, k2, by rw [upd_ne n]; exact k3, k4⟩
      | own ys2 =>
        obtain ⟨q, vs', e, k1, k2, k3, k4⟩ := ok
        have n : q ≠ p := fun n => by
          subst n; subst e
          exact nd' (ads_mem (.inl ⟨_, rfl⟩) hm)
        exact ⟨q, vs', e, k1, k2, by rw [upd_ne n]; exact k3, k4⟩
      | bor ys2 =>
        obtain ⟨q, vs', e, k1, k2, k3, k4⟩ := ok
        have n : q ≠ p := fun n => by
          subst n; subst e
          exact nd' (ads_mem (.inr ⟨_, rfl⟩) hm)
        exact ⟨q, vs', e, k1, k2, by rw [upd_ne n]; exact k3, k4⟩
theorem HoldG.newD (h : HoldG K b G H L) {p : Addr} (hp : H p = none) : HoldG K b G (upd H p (.dK [])) ((some (.ref p), .dct true []) :: L) := by
  have g := h.growH (o := .dK []) hp
  refine ⟨g.old, g.up, g.new, g.rest, g.bs, fun c hc => ?_, ?_, g.fl⟩
  · rcases List.mem_cons.mp hc with rfl | hc
    · exact ⟨p, [], rfl, .inl ⟨rfl, h.fresh hp⟩, h.up.free hp, upd_same, trivial⟩
    · exact g.ok c hc
  · show (p :: ads L).Nodup
    refine List.nodup_cons.mpr ⟨fun hm => ?_, h.nd⟩
    obtain ⟨_, vs', e⟩ := h.adsH hm
    rw [hp] at e; cases e
theorem HoldG.subD {M : List Cl} {a d : Addr} {o : Bool} {s : Sl} {ys : List PyData} {kvs : List (Str × PyData)} (h : HoldG K b G H ((some (.ref a), s) :: (some (.ref d), .dct o kvs) :: (M ++ L))) (hs : s = .own ys ∨ s = .bor ys) (hf : ∀ c ∈ M, flatS c.2 = true) : HoldG K ⟨G, H, [a, d]⟩ G H ((some (.ref a), .bor ys) :: (some (.ref d), .dct false kvs) :: M) := by
  have h0 : G a = none ∧ ∃ vs, H a = some (.lst vs) ∧ DpAll K G vs ys := by
    have ok := h.ok _ List.mem_cons_self
    rcases hs with rfl | rfl
    · obtain ⟨q, vs, e, _, h2, h3, h4⟩ := ok; cases e; exact ⟨h2, vs, h3, h4⟩
    · obtain ⟨q, vs, e, _, h2, h3, h4⟩ := ok; cases e; exact ⟨h2, vs, h3, h4⟩
  obtain ⟨g, vs, h3, h4⟩ := h0
  obtain ⟨d', us, e, _, gd, hd, kd⟩ := h.ok _ (List.mem_cons_of_mem _ List.mem_cons_self)
  cases e
  have f := (HoldG.sub0 h.drop.drop hf)
  have nd : a ≠ d := fun e => by
    subst e
    rw [h3] at hd; cases hd
  refine ⟨Same.refl _, h.up, fun a o e => .inl e, fun a o e _ => e, fun c hc => ?_, fun c hc => ?_, ?_, h.fl⟩
  · simp only [List.mem_cons, List.not_mem_nil, or_false] at hc
    rcases hc with rfl | rfl
    · show (H c).isSome = true ∧ TbOk H H c; rw [h3]; exact ⟨rfl, TbOk.refl _ _⟩
    · show (H c).isSome = true ∧ TbOk H H c; rw [hd]; exact ⟨rfl, TbOk.refl _ _⟩
  · rcases List.mem_cons.mp hc with rfl | hc
    · exact ⟨a, vs, rfl, List.mem_cons_self, g, h3, h4⟩
    · rcases List.mem_cons.mp hc with rfl | hc
      · exact ⟨d, us, rfl, .inr ⟨rfl, by simp, us, hd⟩, gd, hd, kd⟩
      · have ok := f.ok c hc
        have := hf c hc
        rcases c with ⟨x, s⟩
        cases s with
        | un => trivial
        | d y => exact ok
        | fact φ st => exact ok
        | own ys => exact absurd this Bool.false_ne_true
        | bor ys => exact absurd this Bool.false_ne_true
        | dct o kvs => exact absurd this Bool.false_ne_true
  · show (a :: d :: ads M).Nodup
    rw [flat_ads hf]
    simp [nd]
theorem HoldG.afterD {a d : Addr} {o : Bool} {s s' : Sl} {ys ys' : List PyData} {kvs kvs' : List (Str × PyData)} (h : HoldG K b G H ((some (.ref a), s) :: (some (.ref d), .dct o kvs) :: L)) {v : V} {y : PyData} (k : Hold K ⟨G, H, [a, d]⟩ H' [(some v, .d y), (some (.ref a), .bor ys'), (some (.ref d), .dct false kvs')]) (hs : (s = .own ys ∧ s' = .own ys') ∨ (s = .bor ys ∧ s' = .bor ys')) : Hold K b H' ((some v, .d y) :: (some (.ref a), s') :: (some (.ref d), .dct o kvs') :: L) := by
  obtain ⟨G', k⟩ := k
  have keep : ∀ c o, H c = some o → c ≠ a → c ≠ d → H' c = some o := fun c o e n m => k.rest c o e (by simp [n, m])
  have gn : ∀ c, G c = none → (H c).isSome = true → G' c = none := fun c e hs => by
    cases q : G' c with
    | none => rfl
    | some o =>
      rcases k.new c o q with z | z
      · have z : G c = some o := z; rw [e] at z; cases z
      · have z : H c = none := z; rw [z] at hs; cases hs
  obtain ⟨q0, us, e0, _, g0, h0, d0⟩ := k.ok _ (List.mem_cons_of_mem _ List.mem_cons_self)
  cases e0
  obtain ⟨q1, ks, e1, _, g1, h1, d1⟩ := k.ok _ (List.mem_cons_of_mem _ (List.mem_cons_of_mem _ List.mem_cons_self))
  cases e1
  have nd : (a :: d :: ads L).Nodup := by rcases hs with ⟨rfl, _⟩ | ⟨rfl, _⟩ <;> exact h.nd
  have na := (List.nodup_cons.mp nd).1
  have nd2 := (List.nodup_cons.mp (List.nodup_cons.mp nd).2).1
  have nal : a ∉ ads L := fun z => na (List.mem_cons_of_mem _ z)
  have as : ads ((some (V.ref a), s') :: (some (V.ref d), Sl.dct o kvs') :: L) = a :: d :: ads L := by rcases hs with ⟨_, rfl⟩ | ⟨_, rfl⟩ <;> rfl
  have base : b.H a = none ∨ a ∈ b.B := by
    have ok := h.ok _ List.mem_cons_self
    rcases hs with ⟨rfl, _⟩ | ⟨rfl, _⟩
    · obtain ⟨q, _, e, z, _⟩ := ok; cases e; exact .inl z
    · obtain ⟨q, _, e, z, _⟩ := ok; cases e; exact .inr z
  have based : (o = true ∧ b.H d = none) ∨ (o = false ∧ d ∈ b.B ∧ ∃ u0, b.H d = some (.dK u0)) := by
    obtain ⟨q, _, e, z, _⟩ := h.ok _ (List.mem_cons_of_mem _ List.mem_cons_self)
    cases e; exact z
  refine ⟨G', h.old.trans k.old, k.up, fun c o e => ?_, fun c o e n => ?_, fun c hc => ?_, fun c hc => ?_, ?_, k.fl⟩
  · rcases k.new c o e with z | z
    · exact h.new c o z
    · exact .inr (h.fresh z)
  · refine keep c o (h.rest c o e n) (fun z => ?_) (fun z => ?_)
    · subst z
      rcases base with z | z
      · rw [z] at e; cases e
      · exact n z
    · subst z
      rcases based with z | z
      · rw [z.2] at e; cases e
      · exact n z.2.1
  · refine ⟨?_, (h.bs c hc).2.of fun c2 u e n1 n2 => keep c2 u e (fun z => ?_) (fun z => ?_)⟩
    · by_cases z : c = a
      · subst z; rw [h0]; rfl
      · by_cases z2 : c = d
        · subst z2; rw [h1]; rfl
        · have := (h.bs c hc).1
          cases q : H c with
          | none => rw [q] at this; cases this
          | some o => rw [keep c o q z z2]; rfl
    · subst z
      have ok := h.ok _ List.mem_cons_self
      rcases hs with ⟨rfl, _⟩ | ⟨rfl, _⟩
      · obtain ⟨q, us, e2, _, _, h3, _⟩ := ok; cases e2; rw [h3] at e; cases e; exact n1 _ rfl
      · obtain ⟨q, us, e2, _, _, h3, _⟩ := ok; cases e2; rw [h3] at e; cases e; exact n1 _ rfl
    · subst z
      obtain ⟨q, us, e2, _, _, h3, _⟩ := h.ok _ (List.mem_cons_of_mem _ List.mem_cons_self)
      cases e2; rw [h3] at e; cases e; exact n2 _ rfl
  · rcases List.mem_cons.mp hc with rfl | hc
    · exact k.ok _ List.mem_cons_self
    · rcases List.mem_cons.mp hc with rfl | hm1
      · have ok := h.ok _ List.mem_cons_self
        rcases hs with ⟨rfl, rfl⟩ | ⟨rfl, rfl⟩
        · obtain ⟨q, _, e, z, _⟩ := ok; cases e; exact ⟨a, us, rfl, z, g0, h0, d0⟩
        · obtain ⟨q, _, e, z, _⟩ := ok; cases e; exact ⟨a, us, rfl, z, g0, h0, d0⟩
      · rcases List.mem_cons.mp hm1 with rfl | hm
        · exact ⟨d, ks, rfl, based, g1, h1, d1⟩
        · clear hm1 hc
          have ok := h.ok c (List.mem_cons_of_mem _ (List.mem_cons_of_mem _ hm))
          rcases c with ⟨x, t⟩
          cases t with
          | un => trivial
          | d y => obtain ⟨v, e, z⟩ := ok; exact ⟨v, e, Dp.keep k.old z⟩
          | fact φ st => obtain ⟨v, e, z⟩ := ok; exact ⟨v, e, st _ _ _ k.old z⟩
          | own zs =>
            obtain ⟨q, vs, e, h1, h2, h3, h4⟩ := ok
            have n : q ≠ a := fun n => nal (by subst n; subst e; exact ads_mem (.inl ⟨_, rfl⟩) hm)
            have m : q ≠ d := fun n => nd2 (by subst n; subst e; exact ads_mem (.inl ⟨_, rfl⟩) hm)
            exact ⟨q, vs, e, h1, gn q h2 (by rw [h3]; rfl), keep _ _ h3 n m, DpAll.keep k.old h4⟩
          | bor zs =>
            obtain ⟨q, vs, e, h1, h2, h3, h4⟩ := ok
            have n : q ≠ a := fun n => nal (by subst n; subst e; exact ads_mem (.inr ⟨_, rfl⟩) hm)
            have m : q ≠ d := fun n => nd2 (by subst n; subst e; exact ads_mem (.inr ⟨_, rfl⟩) hm)
            exact ⟨q, vs, e, h1, gn q h2 (by rw [h3]; rfl), keep _ _ h3 n m, DpAll.keep k.old h4⟩
          | dct o zs =>
            obtain ⟨q, vs, e, h1, h2, h3, h4⟩ := ok
            have n : q ≠ a := fun n => nal (by subst n; subst e; exact ads_memD hm)
            have m : q ≠ d := fun n => nd2 (by subst n; subst e; exact ads_memD hm)
            exact ⟨q, vs, e, h1, gn q h2 (by rw [h3]; rfl), keep _ _ h3 n m, DpK.keep k.old h4⟩
  · rw [ads_cons, as]
    cases v <;> simpa [ads] using nd
end
/-- a def that changes the list in its first place and the dict in its second, and hands out data -/
def spD (K : PySem.W.Frag) (Pre : List PyData → List (Str × PyData) → List Sl → Prop) (Res : List PyData → List (Str × PyData) → List Sl → PyData → List PyData → List (Str × PyData) → Prop) : Sp := fun vs H Q _ => ∃ (G : Hp) (a d : Addr) (us : List V) (ys : List PyData) (kvs : List (Str × PyData)) (as : List Sl), vs = .ref a :: .ref d :: us ∧ us.length = as.length ∧ HoldG K ⟨G, H, [a, d]⟩ G H ((some (.ref a), .bor ys) :: (some (.ref d), .dct false kvs) :: (us.map some).zip as) ∧
  Pre ys kvs as ∧ ∀ y ys' kvs', Res ys kvs as y ys' kvs' → ∀ v H', Hold K ⟨G, H, [a, d]⟩ H' [(some v, .d y), (some (.ref a), .bor ys'), (some (.ref d), .dct false kvs')] → Q v H'
structure CalD (P : Program) (w : World) (K : PySem.W.Frag) (mg : Str → Option Value) (base : Heap) (CX : CXT) (x : Str) (k : Nat) (Pre : List PyData → List (Str × PyData) → List Sl → Prop) (Res : List PyData → List (Str × PyData) → List Sl → PyData → List PyData → List (Str × PyData) → Prop) : Prop where
  ex : ∃ f fd ps, FnOk P w K mg base CX k f fd ps (spD K Pre Res) ∧ mg x = some (.ref f) ∧ PySem.W.keepIn K (.ref f) = true ∧ Binds K fd ps []
section
variable {X : Cx} {b : Bs} {ρ : List Sl} {p : Sl → List Sl → Prop} {e : Expr} {es : List Expr}
theorem slot_dct {i : Nat} {o : Bool} {σ : L2.St} {H : Hp} {L : List Cl} {kvs : List (Str × PyData)} (l : σ.length = ρ.length) (hs : ρ[i]? = some (.dct o kvs)) (hh : Hold X.K b H (σ.zip ρ ++ L)) : ∃ a us, σ[i]? = some (some (.ref a)) ∧ H a = some (.dK us) := by
  obtain ⟨x0, hx0, hm0⟩ := zip_mem l hs
  obtain ⟨G, hG⟩ := hh
  obtain ⟨q, us, e, _, _, h, _⟩ := hG.ok _ (List.mem_append_left _ hm0)
  exact ⟨q, us, by rw [hx0, e], h⟩
theorem r_dget (i : Nat) {o : Bool} {kvs : List (Str × PyData)} {x k : Str} {y : PyData} {p1 pos : Pos} (hu : X.A.units + 1 < cLine) (hN : X.N[i]? = some x) (hv : Vis X.env.scope x) (hs : ρ[i]? = some (.dct o kvs)) (he : EVr X b ρ e (.d (.str k))) (hk : getK kvs k = some y) (hsl : NoSl e := by intro _ _; rfl)
    (hd : (x == ("__debug__" : Str)) = false := by decide) (hcd : (x == ("__classdict__" : Str)) = false := by decide) : EVr X b ρ (.Subscript (.Name x p1) e pos) (.d y) := fun p kp σ H L Q l hh q => by
  obtain ⟨a, us0, hx, _⟩ := slot_dct l hs hh
  refine ⟨_, pe_dget hu (pe_var hN hv hd hcd) (we_pe e) hsl, .ref a, hx, ?_⟩
  refine he (fun r' ρ' => r' = .d (.str k) ∧ ρ' = ρ) ⟨rfl, rfl⟩ σ H L _ l hh fun r' ρ' u H' ⟨e1, e2⟩ l' hh' => ?_
  subst e1 e2
  obtain ⟨G, hG⟩ := hh'
  obtain ⟨u', eu, du⟩ := hG.ok _ List.mem_cons_self
  cases eu
  cases du
  obtain ⟨x0, hx0, hm0⟩ := zip_mem l' hs
  obtain ⟨a', us, e2, _, _, h3, h4⟩ := hG.ok _ (List.mem_cons_of_mem _ (List.mem_append_left _ hm0))
  rw [hx] at hx0
  cases hx0
  cases e2
  obtain ⟨v, ev, dv⟩ := dpk_get h4 hk
  refine ⟨a, v, rfl, ?_, ?_⟩
  · have := DGet.k (k := .inr k) h3
    rw [ev] at this
    exact this
  · exact q _ ρ' v H' kp l' ⟨G, hG.drop.add dv⟩
theorem eg_dset (i : Nat) {o : Bool} {ts : List Nat} {idx : Expr} {r : Sl} {kvs : List (Str × PyData)} {k : Str} {z y0 : PyData} {x : Str} {p1 pos : Pos} {p : List Sl → Prop} (hu : X.A.units + 1 < cLine) (hN : X.N[i]? = some x) (hv : Vis X.env.scope x) (hr : ρ[i]? = some (.dct o kvs)) (hi : EVr X b ρ idx (.d (.str k))) (hk : getK kvs k = some y0) (hl : kvs.length ≤ 100) (er : cool r = .d z) (h : p (ρ.set i (.dct o (setK kvs k z))))
    (hd : (x == ("__debug__" : Str)) = false := by decide) (hcd : (x == ("__classdict__" : Str)) = false := by decide)
    (ha : ∀ v, assign (.Subscript (.Name x p1) idx pos) X.env v = (do
      let ov ← holding [v] (eval (.Name x p1) X.env)
      let iv ← holding [v, ov] (eval idx X.env)
      standAt pos
      holding [v, ov, iv] (setItem ov iv v)
      release [v, ov, iv] []) := by intro _; rfl) : EG X b ts ρ (.Subscript (.Name x p1) idx pos) r p := fun σ H L v Q l hh q => by
  obtain ⟨a, us0, hx, _⟩ := slot_dct l hr hh.drop
  refine ⟨_, pg_sub (pe_var hN hv hd hcd) (we_pe idx) (set_dict hu) ha, .ref a, hx, ?_⟩
  refine hi (fun r' ρ' => r' = .d (.str k) ∧ ρ' = ρ) ⟨rfl, rfl⟩ σ H ((some v, r) :: L) _ l (hh.perm perm_in.symm) fun r' ρ' u H' ⟨e1, e2⟩ l' hh' => ?_
  subst e1 e2
  have eu : u = .str k := by
    obtain ⟨G, hG⟩ := hh'
    obtain ⟨u', eu, du⟩ := hG.ok _ List.mem_cons_self
    cases eu
    cases du
    rfl
  subst eu
  have h3 : Hold X.K b H' ((some v, r) :: (σ.zip ρ' ++ L)) := hh'.drop.perm perm_in
  have h4 := h3.cool
  rw [er] at h4
  obtain ⟨M, q1, q2⟩ := set_perm (s' := .dct o (setK kvs k z)) hr hx
  obtain ⟨G, hG⟩ := h4
  have hG2 : HoldG X.K b G H' ((some (.ref a), .dct o kvs) :: (some v, .d z) :: (M ++ L)) := hG.perm ((List.Perm.swap ..).trans (List.Perm.cons _ (q1.symm.append_right L)))
  obtain ⟨a', us, e2, _, _, hH, hD⟩ := hG2.ok _ List.mem_cons_self
  cases e2
  obtain ⟨v', ev, dz⟩ := hG2.ok _ (List.mem_cons_of_mem _ List.mem_cons_self)
  cases ev
  have hput := hG2.putD (us := putK us (.inr k) v) (dpk_put hD hk dz)
  refine ⟨a, _, rfl, DPut.k (k := .inr k) hH (by rw [dpk_len hD, sizeLine_eq]; omega), ?_⟩
  exact q _ σ _ h (by simp [l']) (by simp) rfl ⟨G, ((hput.perm ((List.Perm.swap ..))).drop).perm (q2.append_right L)⟩
end

end DE

namespace DE
open PySem PySem.Spec PyProof.Rows L2 SZ VR VX StX RT
/-! ### calls of defs that change a list and a dict; a dict's display -/
section
variable {X : Cx} {b : Bs} {ρ : List Sl} {p : Sl → List Sl → Prop} {e : Expr} {es : List Expr}
theorem set_perm2 {σ : L2.St} {i j : Nat} {s t s' t' : Sl} {x y : Option V} (hij : i ≠ j) (hi : ρ[i]? = some s) (hj : ρ[j]? = some t) (hx : σ[i]? = some x) (hy : σ[j]? = some y) : ∃ M, (σ.zip ρ).Perm ((x, s) :: (y, t) :: M) ∧ (σ.zip ((ρ.set i s').set j t')).Perm ((x, s') :: (y, t') :: M) := by
  obtain ⟨M1, a1, a2⟩ := set_perm (s' := s') hi hx
  have hj2 : (ρ.set i s')[j]? = some t := by rw [List.getElem?_set_ne hij]; exact hj
  obtain ⟨M2, c1, c2⟩ := set_perm (s' := t') hj2 hy
  -- (y, t) stands in M1
  have hm : (y, t) ∈ M1 := by
    have hz : (σ.zip ρ)[j]? = some (y, t) := by
      rw [List.getElem?_zip_eq_some]
      exact ⟨hy, hj⟩
    have hz2 : (σ.zip (ρ.set i s'))[j]? = some (y, t) := by
      rw [List.getElem?_zip_eq_some]
      exact ⟨hy, hj2⟩
    have e1 : ((σ.zip ρ).eraseIdx i)[(if j < i then j else j - 1)]? = some (y, t) := by
      by_cases h : j < i
      · rw [if_pos h, List.getElem?_eraseIdx, if_pos h]
        exact hz
      · rw [if_neg h, List.getElem?_eraseIdx, if_neg (by omega), show j - 1 + 1 = j by omega]
        exact hz
    have e2 : (σ.zip ρ).Perm ((x, s) :: (σ.zip ρ).eraseIdx i) := by
      have hl : i < (σ.zip ρ).length := by
        have h1 := (List.getElem?_eq_some_iff.mp hi).1
        have h2 := (List.getElem?_eq_some_iff.mp hx).1
        rw [List.length_zip]; omega
      have h3 : (σ.zip ρ)[i] = (x, s) := by
        have : (σ.zip ρ)[i]? = some (x, s) := by rw [List.getElem?_zip_eq_some]; exact ⟨hx, hi⟩
        rw [List.getElem?_eq_getElem hl] at this
        exact Option.some.inj this
      have h4 : σ.zip ρ = (σ.zip ρ).take i ++ (x, s) :: (σ.zip ρ).drop (i + 1) := by
        rw [← h3, ← List.drop_eq_getElem_cons hl, List.take_append_drop]
      rw [List.eraseIdx_eq_take_drop_succ]
      conv => lhs; rw [h4]
      exact List.perm_middle
    have e3 : M1.Perm ((σ.zip ρ).eraseIdx i) := (a1.symm.trans e2).cons_inv
    exact e3.mem_iff.mpr (List.mem_of_getElem? e1)
  obtain ⟨l1, l2, el⟩ := List.append_of_mem hm
  have pm : M1.Perm ((y, t) :: (l1 ++ l2)) := by rw [el]; exact List.perm_middle
  refine ⟨l1 ++ l2, a1.trans (List.Perm.cons _ pm), ?_⟩
  -- behind both
  have q1 : ((y, t) :: M2).Perm ((x, s') :: (y, t) :: (l1 ++ l2)) := c1.symm.trans (a2.trans (List.Perm.cons _ pm))
  have q2 : M2.Perm ((x, s') :: (l1 ++ l2)) := (q1.trans (List.Perm.swap ..)).cons_inv
  exact c2.trans ((List.Perm.cons _ q2).trans (List.Perm.swap ..))
/-- f(x, z, e, ..): the list at slot i and the dict at slot j are changed -/
theorem ev_calD (i j : Nat) {CX : CXT} {k : Nat} {Pre : List PyData → List (Str × PyData) → List Sl → Prop} {Res : List PyData → List (Str × PyData) → List Sl → PyData → List PyData → List (Str × PyData) → Prop} {x y z : Str} {p1 p2 p3 cp : Pos} (C : CalD X.prog X.w X.K X.mg X.base CX x k Pre Res) (hij : i ≠ j) (hr : Room k X.A) (hg : Gl X x) {E : XK} (hx : Passes CX X E)
    (hN : X.N[i]? = some y) (hv : Vis X.env.scope y) (hN2 : X.N[j]? = some z) (hv2 : Vis X.env.scope z)
    (h : EA X b ρ es fun rs ρ' => ∃ zs, datas rs = some zs ∧ ∃ s ys o kvs, ρ'[i]? = some s ∧ (s = .own ys ∨ s = .bor ys) ∧ ρ'[j]? = some (.dct o kvs) ∧ Pre ys kvs (zs.map .d) ∧ ∀ r ys' kvs', Res ys kvs (zs.map .d) r ys' kvs' → p (.d r) ((ρ'.set i (setS s ys')).set j (.dct o kvs')))
    (hs0 : ∃ s ys, ρ[i]? = some s ∧ (s = .own ys ∨ s = .bor ys)) (hs1 : ∃ o kvs, ρ[j]? = some (.dct o kvs))
    (hdy : (y == ("__debug__" : Str)) = false := by decide) (hcy : (y == ("__classdict__" : Str)) = false := by decide) (hdz : (z == ("__debug__" : Str)) = false := by decide) (hcz : (z == ("__classdict__" : Str)) = false := by decide) (hdb : (x == ("__debug__" : Str)) = false := by decide)
    (he : starEach (.Name y p2 :: .Name z p3 :: es) X.env = (false, eval (.Name y p2) X.env) :: starEach (.Name z p3 :: es) X.env := by rfl) (he2 : starEach (.Name z p3 :: es) X.env = (false, eval (.Name z p3) X.env) :: starEach es X.env := by rfl) (hpl : (backTo cp (starEach (.Name z p3 :: es) X.env)).any (·.1) = false := by rfl) : EV X b ρ (.Call (.Name x p1) (.Name y p2 :: .Name z p3 :: es) [] cp) p := fun σ H L Q l hh q => by
  obtain ⟨f, fd, ps, F, hm, hk, hb⟩ := C.ex
  obtain ⟨s0, ys0, h0, k0⟩ := hs0
  obtain ⟨o0, kvs0, h1⟩ := hs1
  obtain ⟨a, hx0⟩ := slot_ref l h0 k0 hh
  obtain ⟨d, us0, hx1, _⟩ := slot_dct l h1 hh
  refine ⟨_, pe_call F hr hg hm hk hb .nil hx (pa_cons (pe_var hN hv hdy hcy) (pa_cons (pe_var hN2 hv2 hdz hcz) (wa_pa es) he2) he) hdb he hpl, .ref a, hx0, .ref d, hx1, ?_⟩
  refine h σ H L _ l hh fun rs ρ' vs H' ⟨zs, ed, s, ys, o, kvs, hs, ks, hd, hp, h2⟩ l' lv hh' => ?_
  have ec := datas_cool ed
  obtain ⟨G, hG⟩ := hh'.coolAll
  rw [ec] at hG
  have hf : ∀ c ∈ (vs.map some).zip (zs.map Sl.d), flatS c.2 = true := flat_zip fun r hr => by
    obtain ⟨y, _, rfl⟩ := List.mem_map.mp hr
    rfl
  obtain ⟨M0, m1, _⟩ := set_perm2 (s' := s) (t' := .dct o kvs) hij hs hd hx0 hx1
  have hG2 : HoldG X.K b G H' ((some (.ref a), s) :: (some (.ref d), .dct o kvs) :: (((vs.map some).zip (zs.map Sl.d)) ++ (M0 ++ L))) := hG.perm (by
    have q0 := m1.append_right L
    refine List.Perm.trans ?_ (List.Perm.append_left _ q0.symm)
    show ((some (V.ref a), s) :: (some (V.ref d), Sl.dct o kvs) :: _).Perm (_ ++ ((some (V.ref a), s) :: (some (V.ref d), Sl.dct o kvs) :: (M0 ++ L)))
    exact (List.Perm.cons _ perm_in).trans perm_in)
  refine ⟨G, a, d, vs, ys, kvs, zs.map .d, by simp, by rw [← ec]; simp [lv], HoldG.subD hG2 ks hf, hp, fun r ys' kvs' hr v H2 hh2 => ?_⟩
  have hG3 : HoldG X.K b G H' ((some (.ref a), s) :: (some (.ref d), .dct o kvs) :: (M0 ++ L)) := (hG.dropM (M := (vs.map some).zip (zs.map Sl.d))).perm (m1.symm.append_right L)
  obtain ⟨M, n1, n2⟩ := set_perm2 (s' := setS s ys') (t' := .dct o kvs') hij hs hd hx0 hx1
  have hMM : M0.Perm M := ((m1.symm.trans n1).cons_inv).cons_inv
  refine q _ _ v H2 (h2 r ys' kvs' hr) (by rw [List.length_set, List.length_set]; exact l') ?_
  have hA := hG3.afterD (ys := ys) (s' := setS s ys') hh2 (by rcases ks with rfl | rfl <;> simp [setS])
  refine hA.perm (List.Perm.cons _ ?_)
  exact (n2.append_right L).trans (List.Perm.cons _ (List.Perm.cons _ (hMM.symm.append_right L)))
/-- {'..': e1, '..': e2, '..': e3} -/
theorem ev_dict3 {k1 k2 k3 : String} {n1 n2 n3 : Nat} {q1 q2 q3 pos : Pos} {e1 e2 e3 : Expr} (hd : ([k1, k2, k3].map Str.ofString).Nodup)
    (h : EV X b ρ e1 fun r1 ρ1 => ∃ y1, cool r1 = .d y1 ∧ EV X b ρ1 e2 fun r2 ρ2 => ∃ y2, cool r2 = .d y2 ∧ EV X b ρ2 e3 fun r3 ρ3 => ∃ y3, cool r3 = .d y3 ∧ p (.dct true [(Str.ofString k1, y1), (Str.ofString k2, y2), (Str.ofString k3, y3)]) ρ3) :
    EV X b ρ (.Dict [some (.Constant (.str (Str.ofString k1)) n1 q1), some (.Constant (.str (Str.ofString k2)) n2 q2), some (.Constant (.str (Str.ofString k3)) n3 q3)] [e1, e2, e3] pos) p := fun σ H L Q l hh q => by
  refine ⟨_, pe_disp (pps_cons pe_str (we_pe e1) (pps_cons pe_str (we_pe e2) (pps_cons pe_str (we_pe e3) pps_nil))) (by rfl) rfl (by simp) (show (3 : Nat) ≤ 15 by decide), fun a ha => ?_⟩
  obtain ⟨G, hG⟩ := hh
  have h0 : Hold X.K b (upd H a (.dK [])) (σ.zip ρ ++ ((some (.ref a), .dct true []) :: L)) := (show Hold X.K b _ ((some (V.ref a), Sl.dct true []) :: (σ.zip ρ ++ L)) from ⟨G, hG.newD ha⟩).perm perm_in.symm
  refine h σ _ _ _ l h0 fun r1 ρ1 v1 H1 ⟨y1, c1, h1⟩ l1 hh1 => ?_
  have hh1 := hh1.cool
  rw [c1] at hh1
  refine h1 σ H1 ((some v1, .d y1) :: (some (.ref a), .dct true []) :: L) _ l1 (hh1.perm perm_in.symm) fun r2 ρ2 v2 H2 ⟨y2, c2, h2⟩ l2 hh2 => ?_
  have hh2 := hh2.cool
  rw [c2] at hh2
  refine h2 σ H2 ((some v2, .d y2) :: (some v1, .d y1) :: (some (.ref a), .dct true []) :: L) _ l2 (hh2.perm perm_in.symm) fun r3 ρ3 v3 H3 ⟨y3, c3, hp⟩ l3 hh3 => ?_
  have hh3 := hh3.cool
  rw [c3] at hh3
  obtain ⟨G3, hG3⟩ := hh3
  have ok : ∀ c ∈ [(some v3, Sl.d y3), (some v2, Sl.d y2), (some v1, Sl.d y1), (some (V.ref a), Sl.dct true [])], SlOk X.K b G3 H3 c := fun c hc => hG3.ok c (by
    simp only [List.mem_cons, List.not_mem_nil, or_false] at hc
    rcases hc with rfl | rfl | rfl | rfl <;> simp)
  obtain ⟨w3, e3', d3⟩ := ok (some v3, .d y3) (by simp)
  cases e3'
  obtain ⟨w2, e2', d2⟩ := ok (some v2, .d y2) (by simp)
  cases e2'
  obtain ⟨w1, e1', d1⟩ := ok (some v1, .d y1) (by simp)
  cases e1'
  obtain ⟨a', us, ea, _, _, hH, hD⟩ := ok (some (.ref a), .dct true []) (by simp)
  cases ea
  have hus : us = [] := List.length_eq_zero_iff.mp (dpk_len hD)
  subst hus
  refine ⟨hH, [(.inr (Str.ofString k1), v1), (.inr (Str.ofString k2), v2), (.inr (Str.ofString k3), v3)], rfl, by simp, ?_⟩
  have n12 : Str.ofString k1 ≠ Str.ofString k2 := fun e => by simp [e] at hd
  have n13 : Str.ofString k1 ≠ Str.ofString k3 := fun e => by simp [e] at hd
  have n23 : Str.ofString k2 ≠ Str.ofString k3 := fun e => by simp [e] at hd
  have em : mergeK [] [((.inr (Str.ofString k1) : Key), v1), (.inr (Str.ofString k2), v2), (.inr (Str.ofString k3), v3)] = [(.inr (Str.ofString k1), v1), (.inr (Str.ofString k2), v2), (.inr (Str.ofString k3), v3)] := by
    have a12 : ¬ ((.inr (Str.ofString k1) : Key) = .inr (Str.ofString k2)) := inr_ne n12
    have a13 : ¬ ((.inr (Str.ofString k1) : Key) = .inr (Str.ofString k3)) := inr_ne n13
    have a23 : ¬ ((.inr (Str.ofString k2) : Key) = .inr (Str.ofString k3)) := inr_ne n23
    unfold mergeK
    simp only [List.foldl_cons, List.foldl_nil]
    unfold putK
    simp [n12, n13, n23]
  rw [em]
  have hP : HoldG X.K b G3 H3 ((some (.ref a), .dct true []) :: (some v3, .d y3) :: (some v2, .d y2) :: (some v1, .d y1) :: (σ.zip ρ3 ++ L)) := hG3.perm (by
    have b1 : ((some (V.ref a), Sl.dct true []) :: (some v3, Sl.d y3) :: (some v2, Sl.d y2) :: (some v1, Sl.d y1) :: (σ.zip ρ3 ++ L)).Perm ((some v3, Sl.d y3) :: (some v2, Sl.d y2) :: (some v1, Sl.d y1) :: (some (V.ref a), Sl.dct true []) :: (σ.zip ρ3 ++ L)) :=
      (List.Perm.swap ..).trans (List.Perm.cons _ ((List.Perm.swap ..).trans (List.Perm.cons _ (List.Perm.swap ..))))
    refine b1.trans (List.Perm.cons _ ?_)
    have b2 : ((some v2, Sl.d y2) :: (some v1, Sl.d y1) :: (some (V.ref a), Sl.dct true []) :: (σ.zip ρ3 ++ L)).Perm (σ.zip ρ3 ++ ((some v2, Sl.d y2) :: (some v1, Sl.d y1) :: (some (V.ref a), Sl.dct true []) :: L)) :=
      (List.Perm.cons _ (List.Perm.cons _ perm_in)).trans ((List.Perm.cons _ perm_in).trans perm_in)
    exact b2)
  have hput := hP.putD (us := [(.inr (Str.ofString k1), v1), (.inr (Str.ofString k2), v2), (.inr (Str.ofString k3), v3)]) (kvs' := [(Str.ofString k1, y1), (Str.ofString k2, y2), (Str.ofString k3, y3)]) ⟨rfl, d1, rfl, d2, rfl, d3, trivial⟩
  refine q _ ρ3 (.ref a) _ hp l3 ⟨G3, ?_⟩
  exact ((((hput.perm (List.Perm.swap ..)).drop.perm (List.Perm.swap ..)).drop.perm (List.Perm.swap ..)).drop)
end

end DE

namespace DE
open PySem PySem.Spec PyProof.Rows L2 SZ VR VX StX RT
/-! ### the body of a def that changes a list and a dict -/
section
variable {P : Program} {w : World} {K : PySem.W.Frag} {mg : Str → Option Value} {base : Heap}
theorem fn_D {x qual : Str} {st : Stmt} {f : Addr} {fd : FuncData} {N ps : List Str} {k : Nat} {Pre : List PyData → List (Str × PyData) → List Sl → Prop} {Res : List PyData → List (Str × PyData) → List Sl → PyData → List PyData → List (Str × PyData) → Prop} (F : Fun K x qual st f fd) (S : FnScope N ps (defScope st)) (len : ∀ ys kvs as, Pre ys kvs as → as.length + 2 = ps.length)
    (h : ∀ (cdv : Value) (A : Around) (outer : List Env) (s : Shared) (H : Hp) (E : XK), Room k (A.deeper (envOfC qual (defScope st) s.heap.objs.size f cdv)) → ∀ (b : Bs) (ys : List PyData) (kvs : List (Str × PyData)) (as : List Sl), Pre ys kvs as → XB (cxOf CX0 P w K mg base N qual (defScope st) f cdv A outer s H E).nox b (.bor ys :: .dct false kvs :: (as ++ List.replicate (N.length - (as.length + 2)) .un)) (defBody st)
      ⟨fun _ => False, fun r ρ' => ∃ y ys' kvs', r = .d y ∧ ρ'[0]? = some (.bor ys') ∧ ρ'[1]? = some (.dct false kvs') ∧ Res ys kvs as y ys' kvs', fun _ => False, fun _ => False⟩) : FnOk P w K mg base CX0 (k + 1) f fd ps (spD K Pre Res) := by
  refine F.ok S (fun vs H Q E z => ?_) (fun cdv A outer s H vs Q E hr z => ?_)
  · obtain ⟨G, a, d, us, ys, kvs, as, rfl, l, _, hp, _⟩ := z
    rw [List.length_cons, List.length_cons, l]
    exact len ys kvs as hp
  · obtain ⟨G, a, d, us, ys, kvs, as, rfl, l, hG, hp, q⟩ := z
    have nd0 : a ≠ d := by
      obtain ⟨q1, v1, e1, _, _, h1, _⟩ := hG.ok _ List.mem_cons_self
      obtain ⟨q2, v2, e2, _, _, h2, _⟩ := hG.ok _ (List.mem_cons_of_mem _ List.mem_cons_self)
      cases e1; cases e2
      intro e
      subst e
      rw [h1] at h2
      cases h2
    have hHa : ∃ vs, H a = some (.lst vs) := by
      obtain ⟨q1, v1, e1, _, _, h1, _⟩ := hG.ok _ List.mem_cons_self
      cases e1
      exact ⟨_, h1⟩
    have hHd : ∃ vs, H d = some (.dK vs) := by
      obtain ⟨q1, v1, e1, _, _, h1, _⟩ := hG.ok _ (List.mem_cons_of_mem _ List.mem_cons_self)
      cases e1
      exact ⟨_, h1⟩
    have get : ∀ {ρ' : List Sl} {σ' : L2.St} {H' : Hp} {zs : List PyData} {ks : List (Str × PyData)} {v : V} {y : PyData}, ρ'[0]? = some (.bor zs) → ρ'[1]? = some (.dct false ks) → σ'.length = ρ'.length → Hold K ⟨G, H, [a, d]⟩ H' ((some v, .d y) :: (σ'.zip ρ' ++ [])) → Hold K ⟨G, H, [a, d]⟩ H' [(some v, .d y), (some (.ref a), .bor zs), (some (.ref d), .dct false ks)] := fun {ρ' σ' H' zs ks v y} h0 h1 l' hh => by
      rw [List.append_nil] at hh
      obtain ⟨x0, hx0, hm0⟩ := zip_mem l' h0
      obtain ⟨x1, hx1, hm1⟩ := zip_mem l' h1
      obtain ⟨G', hG'⟩ := id hh
      obtain ⟨q9, vs, e0, hq, _, h3, _⟩ := hG'.ok _ (List.mem_cons_of_mem _ hm0)
      obtain ⟨p, ws, e1, hp', _, h4, _⟩ := hG'.ok _ (List.mem_cons_of_mem _ hm1)
      obtain ⟨va, ea⟩ := hHa
      have hpd : p = d := by
        obtain ⟨_, hpm, u0, hpH⟩ := hp'.resolve_left (fun z => by cases z.1)
        have hpm : p ∈ [a, d] := hpm
        have hpH : H p = some (.dK u0) := hpH
        simp only [List.mem_cons, List.not_mem_nil, or_false] at hpm
        rcases hpm with rfl | rfl
        · exact absurd (ea.symm.trans hpH) (fun z => by cases z)
        · rfl
      have hqa : q9 = a := by
        have hq : q9 ∈ [a, d] := hq
        simp only [List.mem_cons, List.not_mem_nil, or_false] at hq
        rcases hq with rfl | rfl
        · rfl
        · rw [hpd, h3] at h4; cases h4
      subst hpd
      subst hqa
      subst e0
      subst e1
      obtain ⟨M, m1, _⟩ := set_perm2 (s' := .un) (t' := .un) (show (0 : Nat) ≠ 1 by decide) h0 h1 hx0 hx1
      refine (hh.perm (L' := M ++ [(some v, .d y), (some (.ref q9), .bor zs), (some (.ref p), .dct false ks)]) ?_).dropL
      refine List.Perm.trans ?_ (List.Perm.cons _ m1.symm)
      exact (List.perm_append_comm).trans (List.Perm.refl _)
    obtain ⟨t, ht, hq⟩ := h cdv A outer s H E hr ⟨G, H, [a, d]⟩ ys kvs as hp (L2.start N (.ref a :: .ref d :: us)) H [] { nx := fun _ H' => Q .non H', rt := Q } (by
        have := len ys kvs as hp
        unfold L2.start; simp [l])
      (by
        rw [List.append_nil]
        have := zip_start (N := N) (vs := .ref a :: .ref d :: us) (as := .bor ys :: .dct false kvs :: as) (by simp [l])
        rw [List.cons_append, List.cons_append] at this
        rw [show (List.length as + 2) = (Sl.bor ys :: Sl.dct false kvs :: as).length from rfl, this]
        exact hold_start _ ⟨G, hG⟩)
      ⟨fun ρ' σ' H' hn l' n' hh => hn.elim, fun r ρ' v σ' H' ⟨y, ys', kvs', er, e0, e1, hn⟩ l' n' hh => by
        subst er
        exact q y ys' kvs' hn v H' (get e0 e1 l' hh), fun _ _ _ z => z.elim, fun _ _ _ z => z.elim⟩
    exact ⟨t, ht, hq⟩
end

end DE

namespace DE
open PySem PySem.Spec PyProof.Rows L2 SZ VR VX StX RT
/-! ### a comprehension whose element changes what is held -/
section
variable {X : Cx} {b : Bs} {ρ : List Sl} {tg elt : Expr}
theorem lc_turnE {scope : Scope} {vs : List Nat} {y : PyData} {ρ2 : List Sl} {acc : List PyData} {J : List PyData → List Sl → Prop} (hg : AllB X scope fun Y => EGr Y b vs ρ tg (.d y) ρ2) (hl : acc.length < sizeLine)
    (he : AllB X scope fun Y => EV Y b ρ2 elt fun r ρ4 => ∃ z, cool r = .d z ∧ J (acc ++ [z]) (wipeR ρ4 vs)) : LcTurn X b scope tg elt [] vs y ρ acc J :=
  ⟨fun ρ' => ρ' = ρ2, fun s H C cl fp => hg s H C cl fp _ rfl, fun ρ' e => by
    subst e
    refine ⟨fun c' ρ3 => c' = true ∧ ρ3 = ρ', fun s H C cl fp => ts_nil _ ⟨rfl, rfl⟩, fun c' ρ3 ⟨e1, e2⟩ => ?_⟩
    subst e1 e2
    exact ⟨(fun e => (nomatch e)), fun _ => ⟨hl, he⟩⟩⟩
end

end DE

namespace DE
open PySem PySem.Spec PyProof.Rows L2 SZ VR VX StX RT
/-! ### list.count of texts -/
def eqkS (k : Str) (v : Value) : Bool := match v with
  | .str n _ => n == k
  | _ => false
theorem eqkS_gives {k : Str} {t : Tok} : ∀ {us : List Value} {ns : List Str}, StrsAre us ns → ∀ y ∈ us, MeetsSeq.EqGives y (.str k t) (eqkS k y)
  | _, _, .nil => fun y hy => by cases hy
  | _, _, .cons n t' h => fun y hy => by
    rcases List.mem_cons.mp hy with e | e
    · rw [e]
      exact PyProof.Rows.eqGives_str n k t' t
    · exact eqkS_gives h y e
theorem eqkS_count {k : Str} : ∀ {us : List Value} {ns : List Str}, StrsAre us ns → us.countP (eqkS k) = ns.count k
  | _, _, .nil => rfl
  | _, _, .cons n t h => by
    have ih := eqkS_count (k := k) h
    rw [List.countP_cons, List.count_cons, ih] <;> rfl
theorem strs_of_valsD : ∀ {ns : List Str} {us : List Value}, Vals (ns.map V.str) us → StrsAre us ns
  | [], us, r => by
    rw [List.map_nil] at r
    cases r
    exact StrsAre.nil
  | n :: ns, us, r => by
    rw [List.map_cons] at r
    cases r with
    | cons r1 r2 =>
      obtain ⟨t, rfl⟩ := r1
      exact StrsAre.cons n t (strs_of_valsD r2)
def rCntS (K : PySem.W.Frag) : V → List V → Hp → VK → Prop := fun x xs H Q => ∃ (p : Addr) (ns : List Str) (k : Str), x = .ref p ∧ xs = [.str k] ∧ SqL K H p (ns.map V.str) ∧ Q (.int (ns.count k : Nat)) H
section
variable {X : Cx} {b : Bs} {ρ : List Sl} {e1 e2 : Expr} {r : Sl}
theorem mt_lcountS : MtR X "list.count" (rCntS X.K) := by
  intro pins s σ H x xs v us Q I rx rxs h
  obtain ⟨p, ns, k, rfl, rfl, hs, q⟩ := h
  cases rx
  obtain ⟨u, rfl, ru⟩ := rxs.one
  obtain ⟨t, rfl⟩ := ru
  obtain ⟨its, rv, ⟨⟨cls, dd, data, sl⟩, n, ho, hc, hdn, hd⟩, hlen⟩ := I.list hs
  simp only at hc hd
  subst hc hd
  have hi := strs_of_valsD rv
  refine call_meets PySem.F.slot_list_count ⟨_, ho, rfl⟩ PySem.F.entry_list_count (PySem.F.args_list_count_2 _ _)
    (SeqAt.list_countAt p its.toArray n dd sl (.str k t) (eqkS k)) ⟨ho, fun y hy => (eqkS_gives hi y (by simpa using hy)).at _ _, ?_⟩
  have ec : its.toArray.toList.countP (eqkS k) = ns.count k := eqkS_count hi
  refine ⟨.int (ns.count k : Nat), H, I.tok _, ⟨s.toks, ?_⟩, q⟩
  show Value.int ((its.toArray.toList.countP (eqkS k) : Nat) : Int) s.toks = Value.int ((ns.count k : Nat) : Int) s.toks
  rw [ec]
theorem dp_strsC {K : PySem.W.Frag} {G : Hp} : ∀ {ns : List Str} {xs : List V}, DpAll K G xs (ns.map .str) → xs = ns.map V.str
  | [], _, h => by cases h; rfl
  | n :: ns, _, h => by
    rw [List.map_cons] at h
    cases h with
    | cons h1 h2 =>
      cases h1
      rw [dp_strsC h2]
      rfl
theorem r_count {ys : List Str} {z : Str} {p1 p2 : Pos} (h1 : EVr X b ρ e1 r) (er : cool r = .d (.list (ys.map .str))) (h2 : EVr X b ρ e2 (.d (.str z)))
    (hbase : attributeBase e1 "count" X.env (eval e1 X.env) = eval e1 X.env := by rfl)
    (hfew : ((backTo p2 (starEach [e2] X.env)).all (fun x => !x.1) && (backToKw p2 (keywordEach [] X.env)).all (fun x => x.1.isSome) && decide (([e2] : List Expr).length + ([] : List Keyword).length + (if ([] : List Keyword).isEmpty then 0 else 1) < 30)) = true := by rfl)
    (hline : (p1.endLine == p2.line) = true := by rfl) (hse : starEach [e2] X.env = (false, eval e2 X.env) :: starEach [] X.env := by rfl) (hpl : (backTo p2 (starEach [] X.env)).any (·.1) = false := by rfl) :
    EVr X b ρ (.Call (.Attribute e1 "count" p1) [e2] [] p2) (.d (.int (ys.count z : Nat))) := fun p kp σ H L Q l hh q => by
  refine ⟨_, pe_bm PySem.F.plainAttrs_list PySem.F.slot_list_count PySem.F.type_list_count mt_lcountS (we_pe e1) (pa_cons (we_pe e2) pa_nil hse) hbase hfew hline hse hpl, ?_⟩
  refine h1 (fun r' ρ' => r' = r ∧ ρ' = ρ) ⟨rfl, rfl⟩ σ H L _ l hh fun r' ρ1 v1 H1 ⟨c1, c2⟩ l1 hh1 => ?_
  subst c1 c2
  have hh1 := hh1.cool
  rw [er] at hh1
  have hl : ∃ a us, v1 = .ref a ∧ SqL X.K H1 a us := by
    obtain ⟨G, hG⟩ := hh1
    obtain ⟨v', e, hd⟩ := hG.ok _ List.mem_cons_self
    cases e
    cases hd with
    | lst g1 g2 => exact ⟨_, _, rfl, hG.up.seq g1⟩
  obtain ⟨a, us, rfl, hus⟩ := hl
  refine ⟨.inl ⟨rfl, us, hus⟩, ?_⟩
  refine h2 (fun r' ρ' => r' = .d (.str z) ∧ ρ' = ρ1) ⟨rfl, rfl⟩ σ H1 ((some (.ref a), .d (.list (ys.map .str))) :: L) _ l1 (hh1.perm perm_in.symm) fun r2 ρ2 v2 H2 ⟨c3, c4⟩ l2 hh2 => ?_
  subst c3 c4
  have ev : v2 = .str z := by
    obtain ⟨G, hG⟩ := hh2
    obtain ⟨v', e, hd⟩ := hG.ok _ List.mem_cons_self
    cases e
    cases hd
    rfl
  subst ev
  have hh3 : Hold X.K b H2 ((some (.ref a), .d (.list (ys.map .str))) :: (σ.zip ρ2 ++ L)) := hh2.drop.perm perm_in
  obtain ⟨G, hG⟩ := hh3
  obtain ⟨v', e, hd⟩ := hG.ok _ List.mem_cons_self
  cases e
  cases hd with
  | lst g1 g2 =>
    have := dp_strsC g2
    subst this
    exact ⟨a, ys, z, rfl, rfl, hG.up.seq g1, q _ ρ2 _ H2 kp l2 ((show Hold X.K b H2 _ from ⟨G, hG⟩).drop.int _)⟩
end

end DE

namespace SS
open PySem PySem.Spec PyProof.Rows L2 PySem.Froz
theorem str_at : ∀ {vs : List Value} {zs : List Str}, StrsAre vs zs → ∀ (i : Nat) (v : Value), vs[i]? = some v → ∃ t, v = .str (zs.getD i "") t
  | [], [], _, i, v, h => by simp at h
  | u :: vs, z :: zs, h, 0, v, e => by
    cases h with
    | cons y t h2 =>
      cases e
      exact ⟨_, rfl⟩
  | u :: vs, z :: zs, h, i + 1, v, e => by
    cases h with
    | cons y t h2 => exact str_at h2 i v e

/-! ### set(texts), sorted(set of texts) -/
/-- a set of these texts that can be walked -/
def GS (P : Program) (w : World) (h : Heap) (a : Addr) (l : List Str) : Prop := ∃ D : SD, h.get? a = some (sObj "set" D) ∧ TxOk P w D l ∧ Ris D.2.2.place.toList ∧ (w.params.followText "set-order" = true ∨ D.2.2.led = true)
theorem GS.at {P : Program} {w : World} {h h' : Heap} {a : Addr} {l : List Str} (g : GS P w h a l) (k : ∀ o, h.get? a = some o → h'.get? a = some o) : GS P w h' a l := by
  obtain ⟨D, ho, r⟩ := g
  exact ⟨D, k _ ho, r⟩
theorem tail_ris {c : Prop} {ep : Nat} {es : Array (Int × Value)} {t : SetTable} {wd : Bool} (r : Ris t.place.toList) (l : c ∨ t.led = true) : Ris (tailTx ep es t wd).2.2.place.toList ∧ (c ∨ (tailTx ep es t wd).2.2.led = true) := by
  unfold tailTx
  split
  · exact ⟨relayAll_ris _ _ _, l.imp id fun z => (relayAll_led _ _ _).trans z⟩
  · exact ⟨r, l⟩
theorem add_ris {c : Prop} {D : SD} {hh : Int} {v : Value} (r : Ris D.2.2.place.toList) (l : c ∨ D.2.2.led = true) : Ris (addTx hh v D).2.2.place.toList ∧ (c ∨ (addTx hh v D).2.2.led = true) := by
  unfold addTx
  refine tail_ris ?_ (l.imp id fun z => ?_)
  · split
    · exact layNew_ris _ _ _ _ r
    · exact layNew_ris _ _ _ _ r
  · split
    · exact (layNew_led _ _ _ _).trans z
    · exact (layNew_led _ _ _ _).trans z
section
variable {P : Program} {w : World} {A : Around} {R : Result → Shared → Prop} {I : Addr} {fp wr : List Addr} {G : Array GenState → Array GenState → Prop} {n : Nat} {Pv : Nat → Value → Prop} {St : Nat → Shared → Prop}
/-- new texts into a set, one by one -/
theorem set_loop (W : WalksS P w A.in1 I fp wr G n Pv St) (S : Addr) (hS : S ∉ fp) (zs : List Str) (hn : n = zs.length) (hv : ∀ i v, i < n → Pv i v → ∃ t, v = .str (zs.getD i "") t) (nd : zs.Nodup) (hb : n + 1 < scanBound) :
    ∀ (k i : Nat) (s : Shared), n - i = k → i ≤ n → St i s → GS P w s.heap S (zs.take i).reverse → (∀ s', Moved (S :: wr) G s s' → GS P w s'.heap S zs.reverse → R (.ok (.ret .none)) s') →
      codeAny (model P w) A (.builtin "set.update.loop" ⟨[.ref S, .ref I], []⟩) R s := by
  have sw : S ∉ wr := fun h => hS (W.sub _ h)
  have sub : ∀ b ∈ wr, b ∈ S :: wr := fun b h => List.mem_cons_of_mem _ h
  intro k
  induction k with
  | zero =>
    intro i s hk hi st hg hR
    obtain rfl : i = n := by omega
    rw [hn, List.take_length] at hg
    refine codeAny_builtin F.entry_set_update_loop ?_
    rw [Around.under_plainId F.plain_set_update_loop _]
    show wpAny _ A.in1 (pyNext (.ref I) >>= _) _ _ s
    refine wpAny_bind (W.done s _ _ st fun s' m => ?_)
    show wpAny _ A.in1 (ret Value.none) _ _ s'
    exact wpAny_pure (hR s' (m.mono sub) (hg.at fun o e => m.heap S o sw e))
  | succ k ih =>
    intro i s hk hi st hg hR
    have lt : i < n := by omega
    have lz : i < zs.length := by omega
    refine codeAny_builtin F.entry_set_update_loop ?_
    rw [Around.under_plainId F.plain_set_update_loop _]
    show wpAny _ A.in1 (pyNext (.ref I) >>= _) _ _ s
    refine wpAny_bind (W.item i s _ _ lt st fun v s' hp st' m => ?_)
    obtain ⟨t, rfl⟩ := hv i v lt hp
    obtain ⟨D, ho, TX, rs, ld⟩ := hg.at fun o e => m.heap S o sw e
    have ez : zs.getD i "" = zs[i] := by rw [List.getD_eq_getElem?_getD, List.getElem?_eq_getElem lz]; rfl
    have er : (zs.take (i + 1)).reverse = zs.getD i "" :: (zs.take i).reverse := by
      rw [List.take_succ_eq_append_getElem lz, List.reverse_append, ez] <;> rfl
    have nk : zs.getD i "" ∉ (zs.take i).reverse := fun h => by
      rw [List.mem_reverse, ez] at h
      have h2 : (zs.take i ++ zs[i] :: zs.drop (i + 1)).Nodup := by
        rw [← List.drop_eq_getElem_cons lz, List.take_append_drop]; exact nd
      exact (List.nodup_append.mp h2).2.2 _ h _ List.mem_cons_self rfl
    have hl : (zs.take i).reverse.length = i := by rw [List.length_reverse, List.length_take]; omega
    show wpAny _ A.in1 (holding [Value.str (zs.getD i "") t] (setAdd S (.str (zs.getD i "") t)) >>= _) _ _ s'
    refine wpAny_bind (wpAny_holding ?_)
    unfold setAdd
    refine wpAny_holding ?_
    refine wpAny_bind ((strKind P w).pyHash (k := zs.getD i "") (is_str _ _) ?_)
    refine add_x (s := { s' with toks := s'.toks + 1 }) ho TX nk (by rw [hl]; omega) ?_
    have g2 : GS P w (s'.heap.update S (fun _ => sObj "set" (addTx (hashStr w (zs.getD i "")) (.str (zs.getD i "") t) D))) S (zs.take (i + 1)).reverse := by
      rw [er]
      obtain ⟨q1, q2⟩ := add_ris (hh := hashStr w (zs.getD i "")) (v := .str (zs.getD i "") t) rs ld
      exact ⟨_, get_upd _ ho rfl, add_ok t TX, q1, q2⟩
    refine wpAny_pure ⟨plainId_quiet F.plain_set_update_loop _, ih (i + 1) _ (by omega) lt (W.frame _ s' _ _ st' (Nat.le_succ _) fun b hb o e => ?_) g2 fun s'' m2 g3 => ?_⟩
    · exact (Heap.get?_update_other _ _ (fun h : S = b => hS (by rw [h]; exact hb))).trans e
    · refine hR s'' (Moved.trans W.gtrans ((m.mono sub).then_heap (Nat.le_succ _) fun b o hb e => ?_) m2) g3
      exact (Heap.get?_update_other _ _ (fun h : S = b => hb (by rw [← h]; exact List.mem_cons_self))).trans e
end
section
variable {P : Program} {w : World} {A : Around} {E : Value → Shared → Prop} {s : Shared}
/-- the new set, its table led by nothing -/
theorem set_made (a : Value) {Q₁ : Value → Shared → Prop}
    (h : Q₁ (.ref s.heap.objs.size) { s with heap := s.heap.push { cls := .type "set", dict := none, data := .set #[] 0 (.fresh 0 0 (!w.params.followText "set-order")) } }) :
    codeAny (model P w) A (.call (.builtin "set.__new__") ⟨[.type "set", a], []⟩) (wants Q₁ E) s := by
  refine codeAny_of_tree ?_
  show wpAny _ A.in1 (do checkBuiltinCall "set.__new__" ⟨[.type "set", a], []⟩; again (.builtin "set.__new__" ⟨[.type "set", a], []⟩)) _ _ s
  refine wpAny_bind (wpAny_of_eq (F.newCall_set_1 a) (wpAny_pure ⟨plainId_quiet F.plain_set_new _, codeAny_builtin F.entry_set_new ?_⟩))
  rw [Around.under_plainId F.plain_set_new _]
  unfold Builtin.«set.__new__» Builtin.Frozenset.newClass
  have hsub := sub_set_self
  obtain ⟨hp, g, d, tk, os⟩ := s
  dsimp only
  wp_walk
  refine wpAny_askSetting (wpAny_pure ?_)
  dsimp only
  simp only [newObj]
  refine wpAny_bind (wpAny_alloc (wpAny_pure ?_))
  exact wpAny_pure h
theorem set_empty (h : Heap) (P : Program) (w : World) : GS P w (h.push { cls := .type "set", dict := none, data := .set #[] 0 (.fresh 0 0 (!w.params.followText "set-order")) }) h.objs.size [] := by
  refine ⟨(#[], 0, .fresh 0 0 (!w.params.followText "set-order")), Heap.get?_push_size _ rfl, TxOk.nil rfl, List.Pairwise.nil, ?_⟩
  show _ ∨ (!w.params.followText "set-order") = true
  cases w.params.followText "set-order"
  · exact .inr rfl
  · exact .inl rfl
set_option maxRecDepth 100000 in
set_option maxHeartbeats 3200000 in
/-- set(texts), each once -/
theorem call_setS {l : Addr} {items : Array Value} {zs : List Str} {Q : Value → Shared → Prop} (hh : A.handled = none) (hl : s.heap.IsList l items) (hi : StrsAre items.toList zs) (nd : zs.Nodup) (hb : items.size + 1 < scanBound)
    (h : ∀ (h' : Heap) (tk : Nat), GS P w h' s.heap.objs.size zs.reverse → (∀ b o, b < s.heap.objs.size → s.heap.get? b = some o → h'.get? b = some o) → Q (.ref s.heap.objs.size) { s with heap := h', toks := tk }) :
    wpAny (model P w) A (call (.type "set") [.ref l]) Q E s := by
  obtain ⟨c, tl, hmro⟩ := F.called_set.mro
  have hmade := F.called_set.made
  have hsub := F.called_set.sub
  refine wpAny_call (codeAny_of_tree ?_)
  show wpAny _ _ (callAny (.type "set") _) _ _ _
  refine wpAny_pure ⟨Code.quiet_builtin _ (by decide +kernel), codeAny_builtin F.entry_type_call ?_⟩
  rw [Around.under_plain (weight_type_call_type "set" [.ref l] []) rfl]
  have h1 := F.called_set.notType
  have h2 := F.called_set.canCreate
  have hct := F.typeCall_set_1 (.ref l)
  repeat (any_goals (first | assumption | wp_step))
  refine codeAny_mono (set_made (.ref l) (E := E) (Q₁ := fun obj s₁ => obj = .ref s.heap.objs.size ∧ s₁ = { s with heap := s.heap.push { cls := .type "set", dict := none, data := .set #[] 0 (.fresh 0 0 (!w.params.followText "set-order")) } }) ⟨rfl, rfl⟩) fun r s₁ hr => ?_
  cases r with
  | error e => exact hr
  | ok fl =>
    cases fl with
    | ret obj =>
      obtain ⟨rfl, rfl⟩ := hr
      have g0 := set_empty s.heap P w
      generalize hS : s.heap.push { cls := .type "set", dict := none, data := .set #[] 0 (.fresh 0 0 (!w.params.followText "set-order")) } = hp1 at g0 ⊢
      have zz : hp1.objs.size = s.heap.objs.size + 1 := by rw [← hS, Heap.size_push]
      have kk : ∀ b o, s.heap.get? b = some o → hp1.get? b = some o := fun b o e => by rw [← hS]; exact Heap.get?_push_of_some _ e
      have hS1 : hp1.get? s.heap.objs.size = some { cls := .type "set", dict := none, data := .set #[] 0 (.fresh 0 0 (!w.params.followText "set-order")) } := by rw [← hS]; exact Heap.get?_push_size _ rfl
      have hT : Shared.TypeIs { s with heap := hp1 } (.ref s.heap.objs.size) "set" := ⟨_, hS1, rfl⟩
      have hli := F.called_set.init.lookup
      have hbi := F.called_set.init.bind (.ref s.heap.objs.size)
      repeat (any_goals (first | assumption | wp_step))
      refine codeAny_mono (codeAny_call_builtin (R := wants (fun r s₂ => r = .none ∧ ∃ h' tk, s₂ = { s with heap := h', toks := tk } ∧ GS P w h' s.heap.objs.size zs.reverse ∧
          (∀ b o, b < s.heap.objs.size → s.heap.get? b = some o → h'.get? b = some o)) E) F.called_set.init.plain F.entry_set_init (check_set_init_1 hT ?_)) fun r₂ s₂ hr₂ => ?_
      · have hlS : l < s.heap.objs.size := by obtain ⟨ol, hol, _⟩ := hl; exact Heap.lt_size hol
        obtain ⟨ol, hol, hcl, nl, hdl⟩ := hl
        obtain ⟨ocls, odict, odata, oslots⟩ := ol
        simp only at hcl hdl
        subst hcl; subst hdl
        have hol' := kk _ _ hol
        have hsls := F.sub_list_set
        have hslf := F.sub_list_frozenset
        have hne : (Value.type "list" == Value.type "dict") = false := by decide
        have hl1 : hp1.IsList l items := ⟨_, hol', rfl, nl, rfl⟩
        unfold Builtin.«set.__init__» noKeywords Builtin.Frozenset.updateFrom
        generalize hPI : pyIter = PI
        wp_walk
        subst hPI
        refine wpAny_pyIter_list (s := { s with heap := hp1 }) hl1 ?_
        refine wpAny_bind (wpAny_runValue ?_)
        have hh3 : A.in1.in1.in1.handled = none := by simp [hh]
        have hneI : l ≠ hp1.objs.size := by rw [zz]; exact Nat.ne_of_lt (Nat.lt_succ_of_lt hlS)
        have hSf : s.heap.objs.size ∉ [hp1.objs.size, l] := by
          rw [zz]
          simp only [List.mem_cons, List.not_mem_nil, or_false, not_or]
          exact ⟨Nat.ne_of_lt (Nat.lt_succ_self _), Nat.ne_of_gt hlS⟩
        have hz : items.size = zs.length := by rw [← Array.length_toList]; exact hi.length
        have hval : ∀ (i : Nat) (v : Value), i < items.size → items[i]? = some v → ∃ t, v = .str (zs.getD i "") t := fun i v hlt hv => str_at hi i v (by rw [Array.getElem?_toList]; exact hv)
        refine set_loop ((Walks.list hh3 _ l hneI items).toS) s.heap.objs.size hSf zs hz hval nd hb (items.size - 0) 0 _ (by omega) (Nat.zero_le _) ⟨⟨_, Heap.get?_push_size _ rfl, rfl, rfl⟩, (hl1.push _)⟩ ?hS0 ?hR
        case hS0 => exact g0.at fun o e => Heap.get?_push_of_some _ e
        case hR =>
          intro s' hm hS'
          obtain ⟨h', g', d', tk', os'⟩ := s'
          have eg : g' = s.gens := hm.gens
          have ed : d' = s.drawn := hm.drawn
          have eo : os' = s.os := hm.os
          subst eg; subst ed; subst eo
          show wpAny _ _ _ _ _ _
          refine wpAny_pure ?_
          show wpAny _ _ (ret Value.none) _ _ _
          refine wpAny_pure ⟨rfl, h', tk', rfl, hS', fun b o hb e => ?_⟩
          have b2 : b ≠ hp1.objs.size := by rw [zz]; exact Nat.ne_of_lt (Nat.lt_succ_of_lt hb)
          exact hm.heap b o (by simp only [List.mem_cons, List.not_mem_nil, or_false, not_or]; exact ⟨Nat.ne_of_lt hb, b2⟩) (Heap.get?_push_of_some _ (kk _ _ e))
      · cases r₂ with
        | error e => exact hr₂
        | ok fl₂ =>
          cases fl₂ with
          | ret r =>
            obtain ⟨rfl, h', tk, rfl, hS', hk'⟩ := hr₂
            repeat (any_goals (first | assumption | wp_step))
            exact h _ _ hS' hk'
          | _ => exact hr₂.elim
    | _ => exact hr.elim
end

end SS

namespace SS
open PySem PySem.Spec PyProof.Rows L2 PySem.Froz
theorem perm_of_sub {α : Type} [DecidableEq α] : ∀ {l m : List α}, l.Nodup → (∀ x ∈ l, x ∈ m) → m.length = l.length → m.Perm l
  | [], m, _, _, h => by
    have : m = [] := List.length_eq_zero_iff.mp h
    rw [this]
  | x :: l, m, nd, hs, h => by
    have hx := hs x List.mem_cons_self
    have p := List.perm_cons_erase hx
    have nd2 := List.nodup_cons.mp nd
    refine p.trans (List.Perm.cons x (perm_of_sub nd2.2 (fun y hy => ?_) ?_))
    · have hy2 := p.mem_iff.mp (hs y (List.mem_cons_of_mem _ hy))
      rcases List.mem_cons.mp hy2 with e | e
      · subst e; exact absurd hy nd2.1
      · exact e
    · have := p.length_eq
      rw [List.length_cons, h, List.length_cons] at this
      omega
theorem is_strOf {P : Program} {w : World} {k : Str} {v : Value} (h : (strKind P w).is k v = true) : ∃ t, v = .str k t := by
  have h : Value.isStrOf k v = true := h
  cases v <;> simp [Value.isStrOf] at h
  subst h
  exact ⟨_, rfl⟩
theorem gs_vals {P : Program} {w : World} {D : SD} {l : List Str} (F : TxOk P w D l) (nd : l.Nodup) : (∀ v ∈ D.1.toList.map (·.2), ∃ x t, v = Value.str x t) ∧ ((D.1.toList.map (·.2)).map strOf).Perm l := by
  have h1 : ∀ v ∈ D.1.toList.map (·.2), ∃ x t, v = Value.str x t := fun v hv => by
    obtain ⟨e, he, rfl⟩ := List.mem_map.mp hv
    obtain ⟨⟨k, hk, _⟩, _⟩ := F.el e he
    obtain ⟨t, ht⟩ := is_strOf hk
    exact ⟨k, t, ht⟩
  refine ⟨h1, perm_of_sub nd (fun x hx => ?_) ?_⟩
  · obtain ⟨e, he, hk⟩ := (F.mem x).mp hx
    obtain ⟨t, ht⟩ := is_strOf hk
    refine List.mem_map.mpr ⟨e.2, List.mem_map.mpr ⟨e, he, rfl⟩, ?_⟩
    rw [ht] <;> rfl
  · rw [List.length_map, List.length_map, Array.length_toList]
    exact F.sz
section
variable {P : Program} {w : World} {A : Around} {E : Value → Shared → Prop} {s : Shared}
/-- sorted(set), fewer than 64 texts -/
theorem sorted_setS {a : Addr} {l : List Str} {Q : Value → Shared → Prop} (R : GS P w s.heap a l) (hh : A.handled = none) (h64 : l.length < 64) (nd : l.Nodup)
    (hQ : ∀ s' p (out : Array Value) (c : Nat) (ys : List Str), (∀ b o, s.heap.get? b = some o → s'.heap.get? b = some o) → s'.gens = s.gens → s'.os = s.os → s.heap.objs.size ≤ p →
      s'.heap.get? p = some (seqObj "list" out c) → StrsAre out.toList ys → ys.Perm l → sortedS ys = true → Q (.ref p) s') :
    wpAny (model P w) A (call (.builtin "sorted") [.ref a]) Q E s := by
  obtain ⟨⟨es, ep, t⟩, ho, TX, r, ld⟩ := R
  obtain ⟨g1, g2⟩ := gs_vals TX nd
  have hsz : es.size = l.length := TX.sz
  have hf : t.fits es.size = true := TX.fit
  have hb : es.size < scanBound := by unfold scanBound; omega
  refine Calls.call_function_entry kind_sorted plain_sorted entry_sorted (args_sorted1 _) ?_
  unfold Builtin.«sorted»
  refine wpAny_bind (m := checkCount "sorted" 1 1 _) (wpAny_pure ?_)
  refine wpAny_bind (collect_set (A := A.in1) hh ⟨_, ho, rfl, rfl⟩ hf hb r ld fun s1 vs k1 hz q1 o1 pm => ?_)
  have hvl : vs.length = l.length := by rw [pm.length_eq, List.length_map, Array.length_toList]; exact hsz
  have hS : StrsAre vs (vs.map strOf) := strsAre_map vs fun v hv => g1 v (pm.mem_iff.mp hv)
  have pk : (vs.map strOf).Perm l := (pm.map strOf).trans g2
  refine wpAny_bind (wpAny_newList ?_ (by rw [hvl, sizeLine_eq]; omega))
  have hoL : (s1.heap.push (seqObj "list" vs.toArray 0)).get? s1.heap.objs.size = some (seqObj "list" vs.toArray 0) := Heap.get?_push_size _ rfl
  refine wpAny_bind (wpAny_holding (wpAny_call_entry slot_list_sort ⟨_, hoL, rfl⟩ entry_list_sort (list_sort_treeK strKind_oneLt hoL hS.keysOf (fun v₁ v₂ rest e => keyKind_strs (by rw [← e]; exact hS)) (by rw [hvl]; exact h64) fun st' a1 a2 => ⟨_, rfl, ?_⟩) (args_list_sort _)))
  obtain ⟨ys, b1, b2, b3⟩ := sorted_out_str hS a1 a2
  obtain ⟨c, hc⟩ := sortedHeap_at (vs := vs) (out := (arrOf st').map (·.2)) hoL
  refine wpAny_pure ⟨_, rfl, hQ _ s1.heap.objs.size _ c ys (fun b u e => ?_) q1 o1 hz hc b1 (b2.trans pk) b3⟩
  have q := k1 b u e
  have hlt := Heap.lt_size q
  show (sortedHeap (s1.heap.push (seqObj "list" vs.toArray 0)) s1.heap.objs.size vs _).get? b = some u
  rw [sortedHeap_old (Nat.ne_of_lt hlt) (by rw [size_push']; exact Nat.lt_succ_of_lt hlt)]
  exact Heap.get?_push_of_some _ q
end
/-! ### as the walk has them -/
/-- the set of these texts at a -/
def SetS (P : Program) (w : World) (a : Addr) (l : List Str) : HO := .ext fun h => GS P w h a l
section
variable {X : Cx}
theorem setS_new {w : World} {P : Program} {H : Hp} {h : Heap} {a : Addr} {l : List Str} (R : GS P w h a l) : ObjOk P w H h a (SetS P w a l) := by
  have ⟨D, ho, _⟩ := R
  exact ⟨R, ⟨_, ho⟩, fun h1 h2 p k => GS.at p k⟩
theorem setS_get {pins : List (Addr × Obj)} {σ : L2.St} {H : Hp} {s : Shared} {a : Addr} {l : List Str} (I : Inv X pins σ H s) (ha : H a = some (SetS X.prog X.w a l)) : GS X.prog X.w s.heap a l := (I.hok a _ ha).1
/-- set(list of texts) -/
def rSetL (K : PySem.W.Frag) (P : Program) (w : World) : List V → Hp → VK → Prop := fun vs H Q => ∃ (a : Addr) (zs : List Str), vs = [.ref a] ∧ SqL K H a (zs.map V.str) ∧ zs.Nodup ∧ zs.length ≤ 60 ∧ ∀ p, H p = none → Q (.ref p) (upd H p (SetS P w p zs.reverse))
theorem cr_setL (hc : X.calm = true) : CallR X (.type "set") (rSetL X.K X.prog X.w) := by
  intro pins s σ H vs us Q I r h
  obtain ⟨a, zs, rfl, hs, nd, h60, q⟩ := h
  obtain ⟨its, rv, hl, _⟩ := I.list hs
  rw [Vals.ref1 r]
  have hlen := rv.length
  rw [List.length_map] at hlen
  have e : its.toArray.size = zs.length := by rw [List.size_toArray]; exact hlen.symm
  refine call_setS (I.ok.hd hc) hl.isList rv.strs nd (by rw [e]; unfold scanBound; omega) fun h' tk g k => ?_
  have kp : ∀ b o, s.heap.get? b = some o → h'.get? b = some o := fun b o e => k b o (Heap.lt_size e) e
  exact ⟨.ref _, _, I.laid (t' := tk) kp (Nat.le_refl _) (setS_new g), rfl, q _ (I.hok.fresh (Nat.le_refl _))⟩
/-- sorted(set of texts) -/
def rSortedSS (P : Program) (w : World) : List V → Hp → VK → Prop := fun vs H Q => ∃ (a : Addr) (l : List Str), vs = [V.ref a] ∧ H a = some (SetS P w a l) ∧ l.Nodup ∧ l.length < 64 ∧
  ∀ (ys : List Str) (p : Addr), ys.Perm l → sortedS ys = true → H p = none → Q (.ref p) (upd H p (.lst (ys.map V.str)))
theorem cr_sortedSS (hc : X.calm = true) : CallR X (.builtin "sorted") (rSortedSS X.prog X.w) := by
  intro pins s σ H vs us Q I r h
  obtain ⟨a, l, rfl, ha, nd, h64, q⟩ := h
  have R := setS_get I ha
  rw [Vals.ref1 r]
  refine sorted_setS R (I.ok.hd hc) h64 nd fun s' p out c ys k g o hp hg hi hm hs => ?_
  have hlen : (ys.map V.str).length ≤ sizeLine := by rw [List.length_map, hm.length_eq, sizeLine_eq]; omega
  have hn : H p = none := I.hok.fresh hp
  have J : Inv X pins σ (upd H p (.lst (ys.map V.str))) { s with heap := s'.heap, gens := s'.gens, drawn := s'.drawn, toks := s'.toks } :=
    I.call (ch := []) (Un.laid k hp hn) (I.hok.laid k hp ⟨hlen, out.toList, c, vals_of_strs hi, hg⟩) (by rw [g]; exact I.bare) (fun _ z => nomatch z)
  have e : s' = { s with heap := s'.heap, gens := s'.gens, drawn := s'.drawn, toks := s'.toks } := by
    cases s'
    cases s
    cases o
    rfl
  rw [e]
  exact ⟨.ref p, _, J, rfl, q ys p hm hs hn⟩
end

end SS

namespace DE
open PySem PySem.Spec PyProof.Rows L2 SZ VR VX StX RT
/-! ### set(texts), sorted(set(texts)) -/
def SetF (P : Program) (w : World) (l : List Str) : V → Hp → Prop := fun v H => ∃ p, v = .ref p ∧ H p = some (SS.SetS P w p l)
theorem SetF.st (P : Program) (w : World) (l : List Str) : ∀ v G G', Same G G' → SetF P w l v G → SetF P w l v G' := fun v G G' s ⟨p, e, h⟩ => ⟨p, e, s p _ h⟩
abbrev SetSl (P : Program) (w : World) (l : List Str) : Sl := .fact (SetF P w l) (SetF.st P w l)
section
variable {X : Cx} {b : Bs} {ρ : List Sl} {e : Expr}
theorem cv_setL {zs : List Str} {r : Sl} {p : Sl → Prop} (hc : X.calm = true) (er : cool r = .d (.list (zs.map .str))) (nd : zs.Nodup) (hn : zs.length ≤ 60) (h : p (SetSl X.prog X.w zs.reverse)) : CV X b (.type "set") [r] p := ⟨_, SS.cr_setL hc, fun vs H L Q lv hh k => by
  obtain ⟨v, rfl⟩ := one_in (rs := [r]) (r := r) lv
  have hc : Hold X.K b H ((some v, r) :: L) := hh
  have hc := hc.cool
  rw [er] at hc
  obtain ⟨G, hg⟩ := hc
  obtain ⟨_, f1, d1⟩ := hg.ok (some v, .d (.list (zs.map .str))) List.mem_cons_self
  cases f1
  cases d1 with
  | @lst a us _ s1 t1 =>
    have e := dp_strs t1
    subst e
    exact ⟨a, zs, rfl, hg.up.seq s1, nd, hn, fun q hq => k _ _ _ h ⟨_, (hg.drop.grow (o := SS.SetS X.prog X.w q zs.reverse) hq rfl).addF ⟨q, rfl, upd_same⟩⟩⟩⟩
theorem cv_sortedSS {l : List Str} {p : Sl → Prop} (hc : X.calm = true) (nd : l.Nodup) (hn : l.length < 64) (h : ∀ ys : List Str, ys.Perm l → PyProof.Rows.sortedS ys = true → p (.own (ys.map .str))) : CV X b (.builtin "sorted") [SetSl X.prog X.w l] p := ⟨_, SS.cr_sortedSS hc, fun vs H L Q lv hh k => by
  obtain ⟨v, rfl⟩ := one_in (rs := [SetSl X.prog X.w l]) (r := SetSl X.prog X.w l) lv
  have hc : Hold X.K b H ((some v, SetSl X.prog X.w l) :: L) := hh
  obtain ⟨G, hg⟩ := hc
  obtain ⟨_, f1, d1⟩ := hg.ok (some v, SetSl X.prog X.w l) List.mem_cons_self
  cases f1
  obtain ⟨q, rfl, hq⟩ := d1
  exact ⟨q, l, rfl, hg.up q _ hq, nd, hn, fun ys p2 hp hs h2 => k _ _ _ (h ys hp hs) ⟨G, hg.drop.newL h2 (dp_strsI ys)⟩⟩⟩
/-- sorted(set(texts)) where the texts stand sorted, each once -/
theorem ev_sortedSet {zs : List Str} {r : Sl} {p : Sl → List Sl → Prop} {p1 p2 c1 c2 : Pos} (hc : X.calm = true) (m1 : X.mg "sorted" = none) (m2 : X.mg "set" = none) (he : EVr X b ρ e r) (er : cool r = .d (.list (zs.map .str))) (nd : zs.Nodup) (hn : zs.length ≤ 60)
    (h : ∀ ys : List Str, ys.Perm zs → PyProof.Rows.sortedS ys = true → p (.own (ys.map .str)) ρ) (g1 : Gl X "sorted" := by rfl) (g2 : Gl X "set" := by rfl) (hs : starEach [.Call (.Name "set" p2) [e] [] c2] X.env = (false, eval (.Call (.Name "set" p2) [e] [] c2) X.env) :: starEach [] X.env := by rfl) (he2 : starEach [e] X.env = (false, eval e X.env) :: starEach [] X.env := by rfl) (hp1 : (backTo c1 (starEach [] X.env)).any (·.1) = false := by rfl) (hp2 : (backTo c2 (starEach [] X.env)).any (·.1) = false := by rfl) :
    EV X b ρ (.Call (.Name "sorted" p1) [.Call (.Name "set" p2) [e] [] c2] [] c1) p :=
  ev_callB (id := "sorted") g1 m1 (by decide +kernel) ((a_cons (r_callTy (T := "set") m2 (a_cons he a_nil he2) (fun _ k => cv_setL hc er nd hn k) g2 (by decide +kernel) (by decide) (by decide) he2 hp2) a_nil hs) _ (cv_sortedSS hc ((List.reverse_perm zs).nodup_iff.mpr nd) (by rw [List.length_reverse]; omega) fun ys a1 a2 => h ys (a1.trans (List.reverse_perm zs)) a2)) (by decide) (by decide) hs hp1
end

end DE

namespace DE
open PySem PySem.Spec PyProof.Rows L2 SZ VR VX StX RT
/-! ### all, any of tests with one answer -/
section
variable {X : Cx} {b : Bs}
theorem cr_allT {zs : List PyData} (hc : X.calm = true) (h : ∀ z ∈ zs, z = .bool true) : CVr X b (.builtin "all") [.own zs] (.d (.bool true)) := fun p k => by
  have e : zs = (zs.map fun _ => true).map .bool := by
    rw [List.map_map]
    exact (List.map_id zs).symm.trans (List.map_congr_left fun z hz => h z hz)
  have e2 : (zs.map fun _ => true).all id = true := by
    rw [List.all_map]
    exact List.all_eq_true.mpr fun _ _ => rfl
  rw [e]
  exact cv_all hc (by rw [e2]; exact k)
theorem cr_anyF {zs : List PyData} (hc : X.calm = true) (h : ∀ z ∈ zs, z = .bool false) : CVr X b (.builtin "any") [.own zs] (.d (.bool false)) := fun p k => by
  have e : zs = (zs.map fun _ => false).map .bool := by
    rw [List.map_map]
    exact (List.map_id zs).symm.trans (List.map_congr_left fun z hz => h z hz)
  have e2 : (zs.map fun _ => false).any id = false := by
    rw [List.any_map]
    exact List.any_eq_false.mpr fun _ _ => by simp
  rw [e]
  exact cv_any hc (by rw [e2]; exact k)
end

section
variable {X : Cx} {b : Bs} {ρ : List Sl} {p : Po}
/-- name = [f(x) for x in xs if c(x)] in one row -/
theorem x_setLc {α : Type} {tg iter elt : Expr} {ifs : List Expr} {scope : Scope} (i : Nat) (own : List (Str × Nat)) (l : List α) (g : α → PyData) (cf : α → Bool) (f : α → PyData) (ρt : α → List Sl) {ys : List PyData} {y : Str} {py spos pos : Pos} {ρ2 : List Sl} (hi : EIr X b ρ tg iter ys) (ey : ys = l.map g) (hc : X.calm = true) (hN : X.N.Nodup) (ok : BlkOk X.N X.env.scope scope own) (hun : ∀ v ∈ own.map (·.2), ρ[v]? = some .un) (hlen : l.length ≤ 100000)
    (hg : ∀ y ∈ l, AllB X scope fun Y => EGr Y b (own.map (·.2)) ρ tg (.d (g y)) (ρt y)) (hw : ∀ y ∈ l, wipeR (ρt y) (own.map (·.2)) = ρ) (ht : ∀ y ∈ l, AllB X scope fun Y => ETsr Y b (ρt y) ifs (cf y))
    (he : ∀ y ∈ l, cf y = true → ∃ r, (AllB X scope fun Y => EVr Y b (ρt y) elt r) ∧ cool r = .d (f y)) (h2 : ρ.set i (.own ((l.filter cf).map f)) = ρ2) (k : p.nx ρ2) (hy : X.N[i]? = some y := by rfl) (hl : i < ρ.length := by first | decide | simp) (hyl : X.env.scope.names.lookup y = some .local := by rfl)
    (hsw : swapsWith (.ListComp elt [⟨tg, iter, ifs, 0⟩] scope pos) (some (.Name y py)) spos.line X.env = pure true := by rfl) (hs : ∀ x, foldedSetIterable iter X.env x = pure x := by intro _; rfl) : XS X b ρ (.Assign [.Name y py] (.ListComp elt [⟨tg, iter, ifs, 0⟩] scope pos) spos) p := by
  refine xs_setLc i own hc hN hy hl hyl hsw ok (hi _ fun _ => ⟨fun j acc ρ' => acc = (((l.take j).filter cf).map f) ∧ ρ' = ρ, ⟨by simp, rfl⟩, fun j acc ρ' ⟨_, e⟩ => by subst e; exact hun, fun j y acc ρ' hy _ ⟨ea, e⟩ => ?_, fun acc ρ' ⟨ea, e⟩ _ => by subst ea e ey; rw [List.length_map, List.take_length, h2]; exact k⟩) hs
  subst e ey
  rw [List.getElem?_map] at hy
  cases hx : l[j]? with
  | none => rw [hx] at hy; cases hy
  | some x =>
    rw [hx] at hy
    cases hy
    have hm : x ∈ l := List.mem_of_getElem? hx
    have htk : l.take (j + 1) = l.take j ++ [x] := by rw [List.take_add_one, hx]; rfl
    refine lc_turn (hg x hm) (ht x hm) (hw x hm) (fun e => ⟨?_, rfl⟩) fun e => ?_
    · rw [htk, List.filter_append, List.filter_cons, e, ea]
      simp
    · obtain ⟨r, hr, er⟩ := he x hm e
      refine ⟨r, f x, hr, er, ?_, ?_, rfl⟩
      · rw [ea, List.length_map, sizeLine_eq]
        have h1 := List.length_filter_le cf (l.take j)
        have hb : j < l.length := (List.getElem?_eq_some_iff.mp hx).1
        rw [List.length_take] at h1
        omega
      · rw [htk, List.filter_append, List.filter_cons, e, ea]
        simp
end

end DE

namespace DE
open PySem PySem.Spec PyProof.Rows L2 SZ VR VX StX RT
/-! ### comprehensions of two fors -/
def lcI (X : Cx) (scope : Scope) (tg iter : Expr) : TI := fun σ H R => ∀ (s : Shared) (H0 : Hp) (C : Addr) (cl : List (Str × Addr)) (fp : List Addr), ∃ wi, PI (X.blk s H0 scope (compEnvC scope cl C X.env) fp) tg iter wi ∧ wi σ H R
section
variable {X : Cx} {b : Bs} {ρ : List Sl} {iter tg tg1 iter1 elt : Expr}
theorem r_lc2 {α : Type} {scope : Scope} (own : List (Str × Nat)) (vs1 : List Nat) (l : List α) (g : α → PyData) (y1 : α → List PyData) (f : α → PyData → PyData) (ρt : α → List Sl) (ρu : α → PyData → List Sl) {ys : List PyData} {pos : Pos} (hi : EIr X b ρ tg iter ys) (ey : ys = l.map g) (hc : X.calm = true) (hN : X.N.Nodup) (ok : BlkOk X.N X.env.scope scope own) (hv : ∀ i ∈ vs1, i ∈ own.map (·.2)) (hun : ∀ v ∈ own.map (·.2), ρ[v]? = some .un)
    (hlen : (l.flatMap fun a => (y1 a).map (f a)).length ≤ 100000)
    (hg : ∀ a ∈ l, AllB X scope fun Y => EGr Y b (own.map (·.2)) ρ tg (.d (g a)) (ρt a)) (hw : ∀ a ∈ l, wipeR (ρt a) (own.map (·.2)) = ρ) (hu1 : ∀ a ∈ l, ∀ v ∈ vs1, (ρt a)[v]? = some .un)
    (hi1 : ∀ a ∈ l, AllB X scope fun Y => EIr Y b (ρt a) tg1 iter1 (y1 a)) (hg1 : ∀ a ∈ l, ∀ y ∈ y1 a, AllB X scope fun Y => EGr Y b vs1 (ρt a) tg1 (.d y) (ρu a y)) (hw1 : ∀ a ∈ l, ∀ y ∈ y1 a, wipeR (ρu a y) vs1 = ρt a)
    (he : ∀ a ∈ l, ∀ y ∈ y1 a, ∃ r, (AllB X scope fun Y => EVr Y b (ρu a y) elt r) ∧ cool r = .d (f a y))
    (hs : ∀ x, foldedSetIterable iter X.env x = pure x := by intro _; rfl) (hs1 : ∀ env x, foldedSetIterable iter1 env x = pure x := by intro _ _; rfl) :
    EVr X b ρ (.ListComp elt [⟨tg, iter, [], 0⟩, ⟨tg1, iter1, [], 0⟩] scope pos) (.own (l.flatMap fun a => (y1 a).map (f a))) := fun p kp σ H L Q ls hh k => by
  obtain ⟨wi, hpi, hh2⟩ := hi (fun ys' ρ' => ys' = ys ∧ ρ' = ρ) ⟨rfl, rfl⟩
  refine ⟨_, pe_lc2 (vs1 := vs1) (g := lcG X scope tg) (tt := lcT X scope []) (wi1 := lcI X scope tg1 iter1) (g1 := lcG X scope tg1) (tt1 := lcT X scope []) (te := lcE X scope elt) hc hN hpi ok hv
    (fun s H C cl fp => ⟨fun pins s' σ H' v u Q I r q => (wg_pg tg).run pins s' σ H' v u Q I r (q s H C cl fp)⟩) (fun s H C cl fp => ⟨fun pins s' σ H' Q I q => (wts_pts []).run pins s' σ H' Q I (q s H C cl fp)⟩)
    (fun s H C cl fp => ⟨fun pins s' σ H' R I q => let ⟨wi, h, q⟩ := q s H C cl fp; h.run pins s' σ H' R I q⟩)
    (fun s H C cl fp => ⟨fun pins s' σ H' v u Q I r q => (wg_pg tg1).run pins s' σ H' v u Q I r (q s H C cl fp)⟩) (fun s H C cl fp => ⟨fun pins s' σ H' Q I q => (wts_pts []).run pins s' σ H' Q I (q s H C cl fp)⟩)
    (fun s H C cl fp => ⟨fun pins s' σ H' Q I q => (we_pe elt).run pins s' σ H' Q I (q s H C cl fp)⟩) hs hs1, ?_⟩
  refine hh2 σ H L _ ls hh fun ys' ρ' H1 J G Y c ⟨e1, e2⟩ l1 W hh1 hG hY => ?_
  subst e1 e2 ey
  intro D hD
  have lw : (L2.wipe σ (own.map (·.2))).length = ρ'.length := by rw [wipe_length]; exact ls
  have hn : (l.map g).length = l.length := List.length_map _
  let acc : Nat → List PyData := fun i => (l.take i).flatMap fun a => (y1 a).map (f a)
  let Pv : Nat → Hp → Prop := fun i H' => Hold X.K b H' ((L2.wipe σ (own.map (·.2))).zip ρ' ++ (some (.ref D), .own (acc i)) :: c :: L)
  refine ⟨fun i m H' => m = l.length - i ∧ i ≤ l.length ∧ Pv i H', ⟨l.length, by simp, Nat.zero_le _, ?_⟩, ?_⟩
  · obtain ⟨G', h3⟩ := hh1
    have h4 : Hold X.K b (upd H1 D (.lst [])) (σ.zip ρ' ++ (some (.ref D), .own []) :: c :: L) := ⟨G', (h3.newL hD .nil).perm perm_in.symm⟩
    have h5 := hold_wipe ls h4 (own.map (·.2))
    rw [wipeR_un hun] at h5
    exact h5
  rintro i m H2 ⟨rfl, hil, hP⟩
  have swp : ∀ (A M : List Cl) (u v : Cl), (A ++ u :: v :: M).Perm (v :: (A ++ u :: M)) := fun A M u v => (List.Perm.append_left A (List.Perm.swap v u M)).trans perm_in.symm
  have hq := hG H2 _ (hP.perm (swp _ L _ c).symm)
  by_cases hlt : i < l.length
  · refine .inr ⟨W.goes i H2 (by omega) hq, Pv (i + 1), fun H' p' => ⟨l.length - (i + 1), by omega, rfl, hlt, p'⟩, fun x H3 yl => ?_⟩
    obtain ⟨y, ey, hz⟩ := hY i x H2 H3 _ (by omega) (W.yields i H2 x H3 (by omega) hq yl) (hP.perm (swp _ L _ c).symm)
    rw [List.getElem?_map, List.getElem?_eq_getElem hlt] at ey
    cases ey
    have ha : l[i] ∈ l := List.getElem_mem hlt
    generalize hla : l[i] = a at ha hz
    have hacc : acc (i + 1) = acc i ++ (y1 a).map (f a) := by
      show (l.take (i + 1)).flatMap _ = _
      rw [List.take_succ_eq_append_getElem hlt, List.flatMap_append, hla]
      simp
      rfl
    have hbnd : (acc i).length + (y1 a).length ≤ 100000 := by
      have e : (l.flatMap fun a => (y1 a).map (f a)) = acc (i + 1) ++ (l.drop (i + 1)).flatMap fun a => (y1 a).map (f a) := by
        show _ = (l.take (i + 1)).flatMap _ ++ _
        rw [← List.flatMap_append, List.take_append_drop]
      rw [e, List.length_append, hacc, List.length_append, List.length_map] at hlen
      omega
    intro s H0 C cl fp
    have hgg : EG (X.blk s H0 scope (compEnvC scope cl C X.env) fp) b (own.map (·.2)) ρ' tg (.d (g a)) (fun ρ2 => ρ2 = ρt a) := hg a ha s H0 C cl fp _ rfl
    have hz' : Hold X.K b H3 ((some x, .d (g a)) :: ((L2.wipe σ (own.map (·.2))).zip ρ' ++ (some (.ref D), .own (acc i)) :: c :: L)) := hz.perm (List.Perm.cons _ (swp _ L _ c))
    refine hgg (L2.wipe σ (own.map (·.2))) H3 _ x _ lw hz' ?_
    intro ρ2 σ2 H4 h2 l2 n2 w2 hh4
    refine ⟨?_, ?_⟩
    · rw [w2]
      exact wipe_sub _ _ fun _ h => h
    subst h2
    have w2' : L2.wipe σ2 (own.map (·.2)) = L2.wipe σ (own.map (·.2)) := by
      rw [w2]
      exact wipe_sub _ _ fun _ h => h
    intro s H0 C cl fp
    refine ⟨_, pts_nil, ?_⟩
    intro s H0 C cl fp
    obtain ⟨wi1, hp1, hk1⟩ := hi1 a ha s H0 C cl fp (fun ys' ρ'' => ys' = y1 a ∧ ρ'' = ρt a) ⟨rfl, rfl⟩
    refine ⟨wi1, hp1, hk1 σ2 H4 _ _ l2 hh4 fun ys' ρ'' H5 J1 G1 Y1 c1 ⟨f1, f2⟩ l5 W1 hh5 hG1 hY1 => ?_⟩
    subst f1 f2
    let P1 : Nat → Hp → Prop := fun j H' => Hold X.K b H' (σ2.zip (ρt a) ++ c1 :: (some (.ref D), .own (acc i ++ ((y1 a).take j).map (f a))) :: c :: L)
    refine ⟨fun j k H' => k = (y1 a).length - j ∧ j ≤ (y1 a).length ∧ P1 j H', ⟨(y1 a).length, by simp, Nat.zero_le _, ?_⟩, ?_⟩
    · show Hold X.K b H5 (σ2.zip (ρt a) ++ c1 :: (some (.ref D), .own (acc i ++ ((y1 a).take 0).map (f a))) :: c :: L)
      rw [List.take_zero, List.map_nil, List.append_nil]
      exact hh5
    rintro j k2 H6 ⟨rfl, hjl, hP1⟩
    have hq1 := hG1 H6 _ (hP1.perm perm_in)
    by_cases hjt : j < (y1 a).length
    · refine .inr ⟨W1.goes j H6 hjt hq1, P1 (j + 1), fun H' p' => ⟨(y1 a).length - (j + 1), by omega, rfl, hjt, p'⟩, fun x1 H7 yl1 => ?_⟩
      obtain ⟨y, ey, hz1⟩ := hY1 j x1 H6 H7 _ hjt (W1.yields j H6 x1 H7 hjt hq1 yl1) (hP1.perm perm_in)
      have hy : y ∈ y1 a := List.mem_of_getElem? ey
      have hz2 : Hold X.K b H7 ((some x1, .d y) :: (σ2.zip (ρt a) ++ c1 :: (some (.ref D), .own (acc i ++ ((y1 a).take j).map (f a))) :: c :: L)) := hz1.perm (List.Perm.cons _ perm_in.symm)
      have hz3 : Hold X.K b H7 ((some x1, .d y) :: ((L2.wipe σ2 vs1).zip (ρt a) ++ c1 :: (some (.ref D), .own (acc i ++ ((y1 a).take j).map (f a))) :: c :: L)) := by
        have q := hold_wipe (L := (some x1, .d y) :: c1 :: (some (.ref D), .own (acc i ++ ((y1 a).take j).map (f a))) :: c :: L) l2 (hz2.perm perm_in.symm) vs1
        rw [wipeR_un (hu1 a ha)] at q
        exact q.perm perm_in
      intro s H0 C cl fp
      have hgg1 : EG (X.blk s H0 scope (compEnvC scope cl C X.env) fp) b vs1 (ρt a) tg1 (.d y) (fun ρ2 => ρ2 = ρu a y) := hg1 a ha y hy s H0 C cl fp _ rfl
      refine hgg1 (L2.wipe σ2 vs1) H7 _ x1 _ (by rw [wipe_length]; exact l2) hz3 ?_
      intro ρ3 σ3 H8 h3 l3 n3 w3 hh8
      refine ⟨?_, ?_⟩
      · rw [w3]
        exact wipe_sub _ _ fun _ h => h
      subst h3
      have w3' : L2.wipe σ3 vs1 = L2.wipe σ2 vs1 := by
        rw [w3]
        exact wipe_sub _ _ fun _ h => h
      intro s H0 C cl fp
      refine ⟨_, pts_nil, ?_⟩
      intro s H0 C cl fp
      obtain ⟨r, hr, er⟩ := he a ha y hy
      have hrr : EV (X.blk s H0 scope (compEnvC scope cl C X.env) fp) b (ρu a y) elt (fun r' ρ' => r' = r ∧ ρ' = ρu a y) := hr s H0 C cl fp _ ⟨rfl, rfl⟩
      refine hrr σ3 H8 _ _ l3 hh8 ?_
      intro r' ρ4 v H9 ⟨e1, e2⟩ l9 hh9
      subst e1 e2
      have h5 := hh9.cool
      rw [er] at h5
      obtain ⟨G', hG'⟩ := h5
      obtain ⟨us, g1, g2, hA⟩ := HoldG.app (hG'.perm (L' := (some v, .d (f a y)) :: (some (.ref D), .own (acc i ++ ((y1 a).take j).map (f a))) :: (σ3.zip (ρu a y) ++ c1 :: c :: L)) (List.Perm.cons _ (swp _ (c :: L) c1 _).symm))
      have hal : (acc i ++ ((y1 a).take j).map (f a)).length < sizeLine := by
        rw [List.length_append, List.length_map, List.length_take, sizeLine_eq]
        omega
      show ∃ acc, H9 D = some (.lst acc) ∧ acc.length < sizeLine ∧ Hold X.K b (upd H9 D (.lst (acc ++ [v]))) (σ2.zip (ρt a) ++ c1 :: (some (.ref D), .own ((l.take i).flatMap (fun a => (y1 a).map (f a)) ++ ((y1 a).take (j + 1)).map (f a))) :: c :: L)
      refine ⟨us, g1, by rw [g2]; exact hal, ?_⟩
      show Hold X.K b _ (σ2.zip (ρt a) ++ c1 :: (some (.ref D), .own (acc i ++ ((y1 a).take (j + 1)).map (f a))) :: c :: L)
      have et : (y1 a).take (j + 1) = (y1 a).take j ++ [y] := by rw [List.take_add_one, ey]; rfl
      rw [et, List.map_append, ← List.append_assoc]
      have h6 : Hold X.K b (upd H9 D (.lst (us ++ [v]))) (σ3.zip (ρu a y) ++ c1 :: (some (.ref D), .own (acc i ++ ((y1 a).take j).map (f a) ++ [f a y])) :: c :: L) := ⟨G', hA.perm (swp _ (c :: L) c1 _)⟩
      have h7 := hold_wipe l3 h6 vs1
      rw [hw1 a ha y hy, w3'] at h7
      exact hold_unwipe l2 vs1 (hu1 a ha) h7
    · obtain rfl : j = (y1 a).length := by omega
      refine .inl ⟨W1.stops H6 hq1, ?_⟩
      show Hold X.K b H6 ((L2.wipe σ (own.map (·.2))).zip ρ' ++ (some (.ref D), .own (acc (i + 1))) :: c :: L)
      rw [hacc]
      have h8 : Hold X.K b H6 (c1 :: (σ2.zip (ρt a) ++ (some (.ref D), .own (acc i ++ ((y1 a).take (y1 a).length).map (f a))) :: c :: L)) := hP1.perm perm_in
      rw [List.take_length] at h8
      have h9 := hold_wipe l2 h8.drop (own.map (·.2))
      rw [hw a ha, w2'] at h9
      exact h9
  · obtain rfl : i = l.length := by omega
    refine .inl ⟨by rw [← hn]; exact W.stops H2 hq, ?_⟩
    have e : acc l.length = l.flatMap fun a => (y1 a).map (f a) := by
      show (l.take l.length).flatMap _ = _
      rw [List.take_length]
    have h2 := hold_unwipe ls _ hun hP
    rw [e] at h2
    exact k _ ρ' _ H2 kp ls ((h2.perm (L' := c :: (some (.ref D), .own (l.flatMap fun a => (y1 a).map (f a))) :: (σ.zip ρ' ++ L)) ((List.Perm.swap ..).trans ((List.Perm.cons _ perm_in).trans perm_in))).drop)
end

end DE

namespace DE
open PySem PySem.Spec PyProof.Rows L2 SZ VR VX StX RT
/-! ### max of a list; x in a list held alone -/
section
variable {X : Cx} {b : Bs} {ρ : List Sl} {e : Expr} {pos : Pos}
theorem cr_maxO {ns : List Int} {m : Int} (hc : X.calm = true) (hm : m ∈ ns) (hb : ∀ y ∈ ns, y ≤ m) : CVr X b (.builtin "max") [.own (ns.map .int)] (.d (.int m)) := fun p h => ⟨_, cr_max hc, fun vs H L Q lv hh k => by
  obtain ⟨v, rfl⟩ := one_in (rs := []) lv
  have hh : Hold X.K b H ((some v, .own (ns.map .int)) :: L) := hh
  obtain ⟨G, hg⟩ := hh
  obtain ⟨l1, us, e1, _, _, h1, d1⟩ := hg.ok _ List.mem_cons_self
  cases e1
  have e := dp_ints d1
  subst e
  refine ⟨_, ns, rfl, .of h1, List.length_pos_of_mem hm, fun m' a1 a2 => ?_⟩
  obtain rfl : m' = m := Int.le_antisymm (hb m' a1) (a2 m hm)
  exact k _ _ _ h ⟨G, hg.drop.add (.int _)⟩⟩
theorem r_inO (i : Nat) {z : Str} {l : List Str} {x : Str} {p2 : Pos} (he : EVr X b ρ e (.d (.str z))) (hN : X.N[i]? = some x) (hv : Vis X.env.scope x) (hr : ρ[i]? = some (.own (l.map .str))) (hd : (x == ("__debug__" : Str)) = false := by decide) (hcd : (x == ("__classdict__" : Str)) = false := by decide) (hm : behindInMarks .In (.Name x p2) = false := by first | exact nomark _ | rfl | with_unfolding_all rfl) :
    ETr X b ρ (.Compare e [.In] [.Name x p2] pos) (l.contains z) := fun p kk σ H L Q ls hh q => by
  obtain ⟨a, ha⟩ := slot_ref ls hr (.inl rfl) hh
  refine ⟨_, pt_cmpR op_in_seq (we_pe e) (pe_var hN hv hd hcd) hm, he (fun r ρ' => r = .d (.str z) ∧ ρ' = ρ) ⟨rfl, rfl⟩ σ H L _ ls hh fun r ρ' v H' ⟨er, e⟩ l' hh' => ?_⟩
  subst er e
  have ev := hh'.isS
  subst ev
  refine ⟨.ref a, ha, ?_⟩
  obtain ⟨M, p1, _⟩ := set_perm (s' := .un) hr ha
  obtain ⟨G, hG⟩ := hh'.drop
  obtain ⟨us, u1, _, u3⟩ := cell_lst (hG.perm (p1.symm.append_right L)) (.inl rfl)
  have e := dp_strs u3
  subst e
  refine ⟨_, _, rfl, .inl (.of u1), rfl, strFlat _, ?_⟩
  rw [strIn]
  exact ⟨_, rfl, q _ ρ' H' kk ls ⟨G, hG⟩⟩
end

end DE

namespace DE
open PySem PySem.Spec PyProof.Rows L2 SZ VR VX StX RT
/-! ### a list that stays and is known to be a plain one -/
def LstF (K : PySem.W.Frag) (ys : List PyData) : Sl := .fact (fun v G => ∃ a us, v = .ref a ∧ G a = some (.lst us) ∧ DpAll K G us ys) (fun _ _ _ s ⟨a, us, e, h1, h2⟩ => ⟨a, us, e, s _ _ h1, DpAll.keep s h2⟩)
section
variable {K : PySem.W.Frag} {b : Bs} {G H : Hp} {L : List Cl}
theorem HoldG.freezeL {x : Option V} {ys : List PyData} (h : HoldG K b G H ((x, .own ys) :: L)) : Hold K b H ((x, LstF K ys) :: L) := by
  obtain ⟨p, vs, rfl, h1, h2, h3, h4⟩ := h.ok _ List.mem_cons_self
  have nd := h.nd
  have nd' : p ∉ ads L := (List.nodup_cons.mp (show (p :: ads L).Nodup from nd)).1
  have sG : Same G (upd G p (.lst vs)) := Same.new h2
  refine ⟨upd G p (.lst vs), h.old.trans sG, fun a u e => ?_, fun a u e => ?_, h.rest, h.bs, fun c hc => ?_, ?_, h.fl.upd h2 rfl⟩
  · by_cases ha : a = p
    · subst ha; rw [upd_same] at e; rw [h3]; exact e
    · rw [upd_ne ha] at e; exact h.up a u e
  · by_cases ha : a = p
    · subst ha; exact .inr h1
    · rw [upd_ne ha] at e; exact h.new a u e
  · rcases List.mem_cons.mp hc with rfl | hm
    · exact ⟨_, rfl, p, vs, rfl, upd_same, DpAll.keep sG h4⟩
    · have ok := h.ok c (List.mem_cons_of_mem _ hm)
      rcases c with ⟨x, s⟩
      cases s with
      | un => trivial
      | d y => obtain ⟨v, e, k⟩ := ok; exact ⟨v, e, Dp.keep sG k⟩
      | fact φ st => obtain ⟨v, e, k⟩ := ok; exact ⟨v, e, st _ _ _ sG k⟩
      | dct o kvs =>
        obtain ⟨q, vs', e, k1, k2, k3, k4⟩ := ok
        have n : q ≠ p := fun n => by
          subst n; subst e
          exact nd' (ads_memD hm)
        exact ⟨q, vs', e, k1, by rw [upd_ne n]; exact k2, k3, DpK.keep sG k4⟩
      | own ys' =>
        obtain ⟨q, vs', e, k1, k2, k3, k4⟩ := ok
        have n : q ≠ p := fun n => by
          subst n; subst e
          exact nd' (ads_mem (.inl ⟨_, rfl⟩) hm)
        exact ⟨q, vs', e, k1, by rw [upd_ne n]; exact k2, k3, DpAll.keep sG k4⟩
      | bor ys' =>
        obtain ⟨q, vs', e, k1, k2, k3, k4⟩ := ok
        have n : q ≠ p := fun n => by
          subst n; subst e
          exact nd' (ads_mem (.inr ⟨_, rfl⟩) hm)
        exact ⟨q, vs', e, k1, by rw [upd_ne n]; exact k2, k3, DpAll.keep sG k4⟩
  · exact (List.nodup_cons.mp (show (p :: ads L).Nodup from nd)).2
end
section
variable {X : Cx} {b : Bs} {ρ : List Sl} {e e1 e2 : Expr} {pos : Pos} {r : Sl}
theorem xb_frzL (i : Nat) {ys : List PyData} {st : List Stmt} {q : Po} {ρ2 : List Sl} (hs : ρ[i]? = some (.own ys)) (h2 : ρ.set i (LstF X.K ys) = ρ2) (h : XB X b ρ2 st q) : XB X b ρ st q := by
  subst h2
  intro σ H L D l hh k
  obtain ⟨x, hx, _⟩ := zip_mem l hs
  obtain ⟨M, p1, p2⟩ := set_perm (s' := LstF X.K ys) hs hx
  obtain ⟨G, hG⟩ := hh.perm ((p1.append_right L).symm)
  exact h σ H L D (by rw [List.length_set]; exact l) ((HoldG.freezeL hG).perm (p2.append_right L)) (by rw [List.length_set]; exact k)
theorem r_varF (i : Nat) {φ : V → Hp → Prop} {st} {x : Str} (hN : X.N[i]? = some x) (hv : Vis X.env.scope x) (hr : ρ[i]? = some (.fact φ st)) (hd : (x == ("__debug__" : Str)) = false := by decide) (hcd : (x == ("__classdict__" : Str)) = false := by decide) : EVr X b ρ (.Name x pos) (.fact φ st) := fun _ h => ev_varF i hN hv hr h hd hcd
theorem r_varL (i : Nat) {ys : List PyData} {x : Str} (hN : X.N[i]? = some x) (hv : Vis X.env.scope x) (hr : ρ[i]? = some (LstF X.K ys)) (hd : (x == ("__debug__" : Str)) = false := by decide) (hcd : (x == ("__classdict__" : Str)) = false := by decide) : EVr X b ρ (.Name x pos) (.d (.list ys)) := fun p h σ H L Q l hh q => by
  obtain ⟨x', hx, hm⟩ := zip_mem l hr
  obtain ⟨G, hg⟩ := hh
  obtain ⟨v, e, a, us, e2, h1, h2⟩ := hg.ok _ (List.mem_append_left _ hm)
  subst e2
  subst e
  exact ⟨_, pe_var hN hv hd hcd, .ref a, hx, q _ _ _ H h l ⟨G, hg.add (.lst (.of h1) h2)⟩⟩
theorem or_repF {xs : List PyData} {n : Int} (h0 : -(2 ^ 63) ≤ n) (h1 : n < 2 ^ 63) (hz : xs.length * n.toNat ≤ sizeLine) : OVr X b (binaryOp .Mult) (LstF X.K xs) (.d (.int n)) (.own (List.replicate n.toNat xs).flatten) := fun p h => ⟨_, op_rep, fun v1 v2 H L Q hh k => by
  have hi := (hh.perm (List.Perm.swap ..)).isI
  subst hi
  obtain ⟨G, hg⟩ := hh
  obtain ⟨v, e, l1, us, e1, h1', d1⟩ := hg.ok _ List.mem_cons_self
  cases e
  subst e1
  refine ⟨l1, n, us, rfl, rfl, hg.up _ _ h1', h0, h1, by rw [DpAll.len d1]; exact hz, fun q hq => k _ _ _ h ⟨G, hg.drop.drop.newL hq ?_⟩⟩
  generalize n.toNat = m
  induction m with
  | zero => exact .nil
  | succ m ih =>
    rw [List.replicate_succ, List.replicate_succ, List.flatten_cons, List.flatten_cons]
    exact DpAll.app d1 ih⟩
theorem r_ifT {t : Expr} (h : ETr X b ρ t true) (h1 : EVr X b ρ e1 r) : EVr X b ρ (.IfExp t e1 e2 pos) r := fun _ k => ev_if (h _ ⟨fun _ => h1 _ k, fun e => nomatch e⟩)
theorem r_ifF {t : Expr} (h : ETr X b ρ t false) (h1 : EVr X b ρ e2 r) : EVr X b ρ (.IfExp t e1 e2 pos) r := fun _ k => ev_if (h _ ⟨fun e => (nomatch e), fun _ => h1 _ k⟩)
/-- a text in a text: its first sign is in no place of it -/
theorem or_inW {u z : Str} {c : Nat} {t : List Nat} (hu : u.cps.toList = c :: t) (hc : c ∉ z.cps.toList) : OVr X b (compareOp .In) (.d (.str u)) (.d (.str z)) (.d (.bool false)) := fun p h => ⟨_, op_in_str, fun v1 v2 H L Q hh k => by
  have h1 := hh.isS
  subst h1
  have h2 := hh.drop.isS
  subst h2
  refine ⟨u, z, rfl, rfl, ?_⟩
  have e : (!(Builtin.Str.occurrences z u 0 z.length 1).isEmpty) = false := by
    rw [Bool.eq_false_iff]
    intro hf
    obtain ⟨i, hi, hs⟩ := (PySem.StrLaws.found_iff z u).mp hf
    rw [PySem.StrLaws.subAt_eq, hu] at hs
    have hs := eq_of_beq hs
    refine hc ?_
    have hm : c ∈ (z.cps.toList.drop i).take u.length := by rw [hs]; exact List.mem_cons_self
    exact List.mem_of_mem_drop (List.mem_of_mem_take hm)
  rw [e]
  exact k _ _ H h (hh.drop.drop.bl _)⟩
end

end DE

namespace DE
open PySem PySem.Spec PyProof.Rows L2 SZ VR VX StX RT
/-! ### repr of data, deep ones too -/
def rReprW (K : PySem.W.Frag) : List V → Hp → VK → Prop := fun xs H Q => ∃ (v : V) (d : PyData), xs = [v] ∧ Dp K H v d ∧ d.showable = true ∧ d.hasDict = false ∧ d.depth ≤ 50 ∧ d.shown.length ≤ sizeLine ∧ Q (.str d.shown) H
theorem call_reprW {X : Cx} (hg : X.A.guards = some []) (hu : X.A.units + 64 < cLine) : CallR X (.builtin "repr") (rReprW X.K) := by
  intro pins s σ H xs us Q I r h
  obtain ⟨v, d, rfl, hd, hs, hn, hp, hz, q⟩ := h
  obtain ⟨u, rfl, r1⟩ := vals1 r
  cases hd with
  | non =>
    obtain rfl : u = Value.none := r1
    exact PySem.P.repr_of_none ⟨.str _, H, I.tok _, ⟨_, rfl⟩, by simpa [PyData.shown] using q⟩
  | bl b =>
    obtain rfl : u = Value.bool b := r1
    exact PySem.P.repr_of_bool ⟨.str _, H, I.tok _, ⟨_, rfl⟩, by simpa [PyData.shown] using q⟩
  | int i =>
    obtain ⟨t, rfl⟩ := r1
    exact PySem.P.repr_of_int (by simpa [PyData.showable] using hs) ⟨.str _, H, I.tok _, ⟨_, rfl⟩, by simpa [PyData.shown] using q⟩
  | str x =>
    obtain ⟨t, rfl⟩ := r1
    exact PySem.P.repr_of_str ⟨.str _, H, I.tok _, ⟨_, rfl⟩, by simpa [PyData.shown] using q⟩ (by simpa [PyData.shown] using hz)
  | @lst a xs ds h1 h2 =>
    obtain rfl : u = Value.ref a := r1
    obtain ⟨as, ra⟩ := Dp.reads I _ _ _ (Dp.lst h1 h2) rfl
    exact repr_of_reads' ra hs (fun z => by rw [hn] at z; cases z) hg (by omega) (fun _ _ e => e) (fun h' u tk hk => ⟨.str _, H, I.kept hk, ⟨_, rfl⟩, q⟩) hz
  | @tup a xs ds h1 h2 =>
    obtain rfl : u = Value.ref a := r1
    obtain ⟨as, ra⟩ := Dp.reads I _ _ _ (Dp.tup h1 h2) rfl
    exact repr_of_reads' ra hs (fun z => by rw [hn] at z; cases z) hg (by omega) (fun _ _ e => e) (fun h' u tk hk => ⟨.str _, H, I.kept hk, ⟨_, rfl⟩, q⟩) hz
section
variable {X : Cx} {b : Bs} {ρ : List Sl} {e : Expr}
theorem r_reprW {y : PyData} {ps cp : Pos} (gd : X.A.guards = some []) (hu : X.A.units + 64 < cLine) (hm : X.mg "repr" = none) (h : EVr X b ρ e (.d y)) (h1 : y.showable = true) (h2 : y.hasDict = false) (h3 : y.depth ≤ 50) (h4 : y.shown.length ≤ sizeLine) (hg : Gl X "repr" := by rfl)
    (he : starEach [e] X.env = (false, eval e X.env) :: starEach [] X.env := by rfl) : EVr X b ρ (.Call (.Name "repr" ps) [e] [] cp) (.d (.str y.shown)) :=
  r_callB (id := "repr") hm (a_cons h a_nil he) (fun p k => ⟨_, call_reprW gd hu, fun vs H L Q lv hh q => by
    obtain ⟨v, rfl⟩ := one_in (rs := [.d y]) (r := .d y) lv
    exact ⟨v, y, rfl, hh.dp, h1, h2, h3, h4, q _ _ _ k (hh.drop.str _)⟩⟩) (hg := hg) (he := he)
end

end DE

namespace DE
open PySem PySem.Spec PyProof.Rows L2 SZ VR VX StX RT
/-! ### tuple(dict); x in an object with its own __contains__ -/
section
open PySem.W
variable {prog : Program} {w : World} {T : String} {A : Around} {s : Shared} {E : Value → Shared → Prop} {n : Nat} {d r : Addr} {OK : Heap → Prop} {P : Nat → Value → Prop}
theorem gather {Q : List Value → Shared → Prop} (K : KdlSrc prog w T r d n P OK) (ha : A.handled = none) (ok : OK s.heap) (hn : n ≤ sizeLine)
    (q : ∀ (h' : Heap) (tk : Nat) (acc : Array Value), (∀ b o, s.heap.get? b = some o → h'.get? b = some o) → ItemsOf P acc n → Q acc.toList { s with heap := h', toks := tk }) : wpAny (model prog w) A (collect (.ref r)) Q E s := by
  have lt := K.there _ ok
  unfold collect
  refine wpAny_bind (wpAny_runValue (codeAny_builtin PySem.F.entry_proto_collect (?_ : _)))
  rw [Around.under_plainId PySem.F.plain_proto_collect (_ : Args)]
  show wpAny _ A.in1 (newList [] >>= fun z => again (.builtin "list.__iadd__" ⟨[z, .ref r], []⟩)) _ _ s
  refine wpAny_bind (wpAny_newObj_type (wpAny_pure ⟨plainId_quiet PySem.F.plain_list_iadd _, codeAny_builtin PySem.F.entry_list_iadd ?_⟩))
  rw [Around.under_plainId PySem.F.plain_list_iadd (_ : Args)]
  show wpAny _ A.in1 (Builtin.List.listExtendWith (.ref s.heap.objs.size) (Value.ref r) (.ref s.heap.objs.size)) _ _ _
  have hS : (s.heap.push { cls := .type "list", data := .seq ([] : List Value).toArray }).get? s.heap.objs.size = some { cls := .type "list", data := .seq #[] 0 } := by exact Heap.get?_push_size _ rfl
  refine wpAny_mono (kdl_extend (A := A) (R := fun rr s' => rr = .ok (.ret (.ref s.heap.objs.size)) ∧ ∃ (h' : Heap) (tk : Nat) (acc : Array Value) (c' : Nat), s' = { s with heap := h', toks := tk } ∧ (∀ b o, s.heap.get? b = some o → h'.get? b = some o) ∧ h'.get? s.heap.objs.size = some { cls := .type "list", dict := none, data := .seq acc c', slots := #[] } ∧ ItemsOf P acc n) (s := { s with heap := s.heap.push { cls := .type "list", data := .seq ([] : List Value).toArray } }) K ha (K.keep _ _ ok fun b _ o e => Heap.get?_push_of_some _ e) s.heap.objs.size (Nat.ne_of_gt lt.1) (Nat.ne_of_gt lt.2) _ 0 hS (fun h' tk acc c' hk e hi => ⟨rfl, h', tk, acc, c', rfl, fun b o z => hk b o (Nat.ne_of_lt (Heap.lt_size z)) (Heap.get?_push_of_some _ z), e, hi⟩) hn) (fun f1 s1 h1 => ?_) (fun e s1 h1 => absurd h1.1 (by simp))
  cases f1 with
  | done f =>
    obtain ⟨e, h', tk, acc, c', rfl, hk, hS', hi⟩ := h1
    cases e
    exact wpAny_bind (wpAny_load hS' (wpAny_pure (q h' tk acc hk hi)))
  | again c1 =>
    refine ⟨h1.1, codeAny_mono h1.2 fun rr s2 ⟨er, h', tk, acc, c', es, hk, hS', hi⟩ => ?_⟩
    subst er es
    exact wpAny_bind (wpAny_load hS' (wpAny_pure (q h' tk acc hk hi)))
end
section
open PySem.W
variable {prog : Program} {w : World} {A : Around} {E : Value → Shared → Prop} {s : Shared} {r d : Addr} {n : Nat} {P : Nat → Value → Prop} {OK : Heap → Prop}
theorem code_tup {Q1 : Value → Shared → Prop} (K : KdlSrc prog w "dict" r d n P OK) (ha : A.handled = none) (ok : OK s.heap) (hn : n ≤ sizeLine) (q : ∀ (h' : Heap) (tk : Nat) (acc : Array Value), (∀ b o, s.heap.get? b = some o → h'.get? b = some o) → ItemsOf P acc n → Q1 (.ref h'.objs.size) { s with heap := h'.push { cls := .type "tuple", data := .seq acc }, toks := tk }) :
    codeAny (model prog w) A (.call (.builtin "tuple.__new__") ⟨[.type "tuple", .ref r], []⟩) (wants Q1 E) s := by
  have ty := K.type s ok
  have ha1 : A.in1.handled = none := ha
  refine codeAny_of_tree (show wpAny _ A.in1 (do checkBuiltinCall "tuple.__new__" ⟨[.type "tuple", .ref r], []⟩; again (.builtin "tuple.__new__" ⟨[.type "tuple", .ref r], []⟩)) _ _ s from ?_)
  refine wpAny_bind (wpAny_of_eq (PySem.F.newCall_tuple_1 (.ref r)) (wpAny_pure ⟨plainId_quiet PySem.F.plain_tuple_new _, codeAny_builtin PySem.F.entry_tuple_new ?_⟩))
  rw [Around.under_plainId PySem.F.plain_tuple_new (_ : Args)]
  have k1 := sub_tuple_self; have k2 := init_tuple_lookup; have k3 := madeHere_tuple
  wp_walk using wpAny_typeOf ty, gather (A := A.in1) K ha1 ok hn
  intro h' tk acc hk hi
  show wpAny _ _ (Builtin.Tuple.tupleExact (acc.toList.toArray) >>= fun z => ret z) _ _ _
  unfold Builtin.Tuple.tupleExact
  refine wpAny_bind (wpAny_newObj_type ?_ (by show acc.toList.toArray.size ≤ sizeLine; rw [Array.toArray_toList, hi.1]; exact hn))
  refine wpAny_pure ?_
  rw [show acc.toList.toArray = acc by simp]
  exact q h' tk acc hk hi
theorem call_tup {Q : Value → Shared → Prop} (K : KdlSrc prog w "dict" r d n P OK) (ha : A.handled = none) (ok : OK s.heap) (hn : n ≤ sizeLine) (q : ∀ (h' : Heap) (tk : Nat) (acc : Array Value), (∀ b o, s.heap.get? b = some o → h'.get? b = some o) → ItemsOf P acc n → Q (.ref h'.objs.size) { s with heap := h'.push { cls := .type "tuple", data := .seq acc }, toks := tk }) :
  wpAny (model prog w) A (call (.type "tuple") [Value.ref r]) Q E s := by
  refine callType_codes (Q₁ := fun z s1 => s1.TypeIs z "tuple" ∧ Q z s1) PySem.F.called_tuple (PySem.F.typeCall_tuple_1 _) PySem.F.entry_object_init (code_tup (A := A.in1) K ha ok hn fun h' tk acc hk hi => ⟨⟨_, Heap.get?_push_size _ rfl, rfl⟩, q h' tk acc hk hi⟩) fun z s1 h1 => ⟨h1.1, PySem.F.args_object_init_2 z _, ?_⟩
  exact object_init_meets PySem.F.called_tuple.init.lookup PySem.F.called_tuple.made (by decide) prog w A.in1 _ s1 ⟨h1.1, rfl, h1.2⟩
end
def rTupD : List V → Hp → VK → Prop := fun xs H Q => ∃ p kvs, xs = [.ref p] ∧ H p = some (.dK kvs) ∧ ∀ q, H q = none → Q (.ref q) (upd H q (.tup (kvs.map fun kv => kV kv.1)))
theorem call_tupD {X : Cx} (hc : X.calm = true) : CallR X (.type "tuple") rTupD := by
  intro pins s σ H xs us Q I r h
  obtain ⟨p, kvs, rfl, hk, q⟩ := h
  obtain ⟨u, rfl, rx⟩ := vals1 r
  obtain rfl : u = Value.ref p := rx
  obtain ⟨z, low, vs, rk, isd⟩ := (show ObjOk X.prog X.w H s.heap p (.dK kvs) from I.hok _ _ hk)
  obtain ⟨ep, hat⟩ := isd.dictAt
  have hl : kvs.length = vs.length := rk.length
  refine call_tup (PySem.W.kdl_dict (knd := mixKind X.prog X.w) (kvs := vs) (ep := ep) low) (I.ok.hd hc) hat (by rw [← hl]; exact z) fun h' tk acc hkeep hi => ?_
  have I1 : Inv X pins σ H { s with heap := h', toks := tk } := I.kept (t' := tk) hkeep
  have hv : Vals (kvs.map fun kv => kV kv.1) acc.toList := by
    have el : acc.toList.length = acc.size := by simp
    refine vals_of_at (by rw [List.length_map, el, hi.1, hl]) fun j x v h1 h2 => ?_
    obtain ⟨k, y, hky, hi2⟩ := hi.2 j v (by rw [← Array.getElem?_toList]; exact h2)
    have e1 : (kvs.map (·.1))[j]? = some k := by rw [KV.keys rk, List.getElem?_map, hky]; rfl
    have e2 : (kvs.map fun c => kV c.1)[j]? = some (kV k) := by
      rw [show (kvs.map fun kv => kV kv.1) = (kvs.map (·.1)).map kV by rw [List.map_map]; rfl, List.getElem?_map, e1]; rfl
    rw [e2] at h1
    cases h1
    exact keyIs_rel hi2
  have hz : (kvs.map fun kv => kV kv.1).length ≤ sizeLine := by rw [List.length_map]; exact z
  have I2 : Inv X pins σ (upd H h'.objs.size (.tup (kvs.map fun kv => kV kv.1))) { s with heap := h'.push { cls := .type "tuple", data := .seq acc }, toks := tk } :=
    I1.laid (t' := tk) (fun b o e => Heap.get?_push_of_some _ e) (Nat.le_refl _) (show ObjOk X.prog X.w _ _ _ (.tup (kvs.map fun kv => kV kv.1)) from ⟨hz, acc.toList, hv, by rw [Array.toArray_toList]; exact IsTup.new _ _⟩)
  exact ⟨.ref h'.objs.size, _, I2, rfl, q _ (I1.hok.fresh (Nat.le_refl _))⟩
/-- x in o, o an object with its own __contains__ that tells a bool -/
def rOwnI (C : Addr) (sp : Sp) (E : XK) (neg : Bool) : R2 := fun x y H Q => ∃ a dx fs, y = .ref a ∧ H a = some (.ins C dx fs) ∧ sp [y, x] H (fun v H' => ∃ c, v = .bl c ∧ Q (.bl (if neg then !c else c)) H') E
section
variable {X : Cx} {CX : CXT} {k : Nat} {C f : Addr} {fd : FuncData} {ps : List Str} {sp : Sp} {E : XK}
theorem op_ownIn (he : PySem.W.findIn X.K (.ref C) "__contains__" = some (some (.ref f))) (hf : PySem.W.isFn X.K (.ref f) = true) (F : FnOk X.prog X.w X.K X.mg X.base CX k f fd ps sp) (hr : Room k X.A) (hb : Binds X.K fd ps []) (hx : Passes CX X E) : OpR X (compareOp .In) (rOwnI C sp E false) := by
  intro pins s σ H x y v u Q I rx ry h
  obtain ⟨a, dx, fs, rfl, ha, q⟩ := h
  cases ry
  obtain ⟨mA, O, _⟩ := ins_get I.hok ha
  obtain ⟨od, J, _⟩ := O.look
  obtain ⟨m, hF⟩ := I.fr
  refine PySem.W.in_K hF I.ok.mod.kin J he hf (wpAny_mono (run_fn (us := [.ref a, v]) (vs := [.ref a, x]) (dvs := []) F hr hb .nil hx I (.cons rfl (.cons rx .nil)) q) (fun r s' hq => ?_) fun _ _ z => z)
  obtain ⟨z, H', I', rz, c, ez, hz⟩ := hq
  subst ez
  cases rz
  exact wpAny_truthy_bool ⟨.bl c, H', I', rfl, hz⟩
theorem op_ownNotIn (he : PySem.W.findIn X.K (.ref C) "__contains__" = some (some (.ref f))) (hf : PySem.W.isFn X.K (.ref f) = true) (F : FnOk X.prog X.w X.K X.mg X.base CX k f fd ps sp) (hr : Room k X.A) (hb : Binds X.K fd ps []) (hx : Passes CX X E) : OpR X (compareOp .NotIn) (rOwnI C sp E true) := by
  intro pins s σ H x y v u Q I rx ry h
  obtain ⟨a, dx, fs, rfl, ha, q⟩ := h
  cases ry
  obtain ⟨mA, O, _⟩ := ins_get I.hok ha
  obtain ⟨od, J, _⟩ := O.look
  obtain ⟨m, hF⟩ := I.fr
  refine PySem.W.notIn_K hF I.ok.mod.kin J he hf (wpAny_mono (run_fn (us := [.ref a, v]) (vs := [.ref a, x]) (dvs := []) F hr hb .nil hx I (.cons rfl (.cons rx .nil)) q) (fun r s' hq => ?_) fun _ _ z => z)
  obtain ⟨z, H', I', rz, c, ez, hz⟩ := hq
  subst ez
  cases rz
  exact wpAny_truthy_bool ⟨.bl (!c), H', I', rfl, hz⟩
end

end DE

namespace SS
open PySem PySem.Spec PyProof.Rows L2 PySem.Froz
/-! ### set(texts) where a text may come twice -/
def ddR (l : List Str) (z : Str) : List Str := if z ∈ l then l else z :: l
def ddS (zs : List Str) : List Str := zs.foldl ddR []
theorem ddR_nodup {l : List Str} {z : Str} (h : l.Nodup) : (ddR l z).Nodup := by
  unfold ddR
  split
  · exact h
  · rename_i c; exact List.nodup_cons.mpr ⟨c, h⟩
theorem ddR_mem {l : List Str} {z x : Str} : x ∈ ddR l z ↔ x = z ∨ x ∈ l := by
  unfold ddR
  split
  · rename_i c
    constructor
    · exact fun h => .inr h
    · rintro (rfl | h)
      · exact c
      · exact h
  · exact List.mem_cons
theorem dd_nodup : ∀ {zs l : List Str}, l.Nodup → (zs.foldl ddR l).Nodup
  | [], _, h => h
  | _ :: zs, _, h => dd_nodup (zs := zs) (ddR_nodup h)
theorem dd_mem : ∀ {zs l : List Str} {x : Str}, x ∈ zs.foldl ddR l ↔ x ∈ l ∨ x ∈ zs
  | [], _, _ => by simp
  | z :: zs, l, x => by
    rw [List.foldl_cons, dd_mem (zs := zs), ddR_mem, List.mem_cons]
    constructor
    · rintro ((h | h) | h)
      · exact .inr (.inl h)
      · exact .inl h
      · exact .inr (.inr h)
    · rintro (h | h | h)
      · exact .inl (.inr h)
      · exact .inl (.inl h)
      · exact .inr h
theorem dd_len : ∀ {zs l : List Str}, (zs.foldl ddR l).length ≤ l.length + zs.length
  | [], _ => Nat.le_refl _
  | z :: zs, l => by
    rw [List.foldl_cons]
    refine Nat.le_trans (dd_len (zs := zs)) ?_
    have : (ddR l z).length ≤ l.length + 1 := by
      unfold ddR
      split
      · omega
      · rw [List.length_cons]; omega
    rw [List.length_cons]
    omega
theorem ddS_nodup (zs : List Str) : (ddS zs).Nodup := dd_nodup List.nodup_nil
theorem ddS_mem {zs : List Str} {x : Str} : x ∈ ddS zs ↔ x ∈ zs := by
  unfold ddS
  rw [dd_mem]
  simp
theorem ddS_len (zs : List Str) : (ddS zs).length ≤ zs.length := by
  have := dd_len (zs := zs) (l := [])
  simpa [ddS] using this
theorem ddS_snoc (zs : List Str) (z : Str) : ddS (zs ++ [z]) = ddR (ddS zs) z := by
  unfold ddS
  rw [List.foldl_append]
  rfl
section
variable {P : Program} {w : World} {A : Around} {E : Value → Shared → Prop} {s : Shared}
/-- a text that is there already -/
theorem old_x {a : Addr} {T : String} {D : SD} {l : List Str} {k : Str} {u : Tok} {Q : Bool → Shared → Prop} (ho : s.heap.get? a = some (sObj T D)) (F : TxOk P w D l) (hk : k ∈ l) (hb : l.length + 1 < scanBound)
    (h : Q false s) : wpAny (model P w) A (setAddHashed a (.str k u) (hashStr w k)) Q E s := by
  obtain ⟨es, ep, t⟩ := D
  have hd : (sObj T (es, ep, t)).data = .set es ep t := rfl
  have hf : t.fits es.size = true := F.fit
  have hel : ElemsOf (strKind P w) es.toList := F.el
  have hsz : es.size = l.length := F.sz
  have hb0 : es.size < scanBound := by omega
  have hkey : (strKind P w).is k (.str k u) = true := is_str k u
  obtain ⟨j, hsome⟩ : ∃ j, List.findIdx? (fun e => (strKind P w).is k e.2) es.toList = some j := by
    cases hr : List.findIdx? (fun e => (strKind P w).is k e.2) es.toList with
    | some j => exact ⟨j, rfl⟩
    | none =>
      obtain ⟨e, he, hi⟩ := (F.mem k).mp hk
      have := List.findIdx?_eq_none_iff.mp hr e he
      rw [this] at hi
      cases hi
  unfold setAddHashed setAddHashedIn
  refine wpAny_holding (wpAny_bind (wpAny_setState_of ho hd hf ?_))
  dsimp only
  rw [byScan_of rfl hb0 hel]
  simp only [↓reduceIte]
  unfold setAddByScan
  refine wpAny_bind ?_
  refine wpAny_bind (wpAny_rule ?_)
  refine wpAny_bind (wpAny_setScan_of (knd := strKind P w) (k := k) hkey ho hd hf hel ?_)
  rw [hsome]
  dsimp only
  exact wpAny_pure (wpAny_pure h)
end
section
variable {P : Program} {w : World} {A : Around} {R : Result → Shared → Prop} {I : Addr} {fp wr : List Addr} {G : Array GenState → Array GenState → Prop} {n : Nat} {Pv : Nat → Value → Prop} {St : Nat → Shared → Prop}
/-- texts into a set, one by one -/
theorem set_loopD (W : WalksS P w A.in1 I fp wr G n Pv St) (S : Addr) (hS : S ∉ fp) (zs : List Str) (hn : n = zs.length) (hv : ∀ i v, i < n → Pv i v → ∃ t, v = .str (zs.getD i "") t) (hb : n + 1 < scanBound) :
    ∀ (k i : Nat) (s : Shared), n - i = k → i ≤ n → St i s → GS P w s.heap S (ddS (zs.take i)) → (∀ s', Moved (S :: wr) G s s' → GS P w s'.heap S (ddS zs) → R (.ok (.ret .none)) s') →
      codeAny (model P w) A (.builtin "set.update.loop" ⟨[.ref S, .ref I], []⟩) R s := by
  have sw : S ∉ wr := fun h => hS (W.sub _ h)
  have sub : ∀ b ∈ wr, b ∈ S :: wr := fun b h => List.mem_cons_of_mem _ h
  intro k
  induction k with
  | zero =>
    intro i s hk hi st hg hR
    obtain rfl : i = n := by omega
    rw [hn, List.take_length] at hg
    refine codeAny_builtin F.entry_set_update_loop ?_
    rw [Around.under_plainId F.plain_set_update_loop _]
    show wpAny _ A.in1 (pyNext (.ref I) >>= _) _ _ s
    refine wpAny_bind (W.done s _ _ st fun s' m => ?_)
    show wpAny _ A.in1 (ret Value.none) _ _ s'
    exact wpAny_pure (hR s' (m.mono sub) (hg.at fun o e => m.heap S o sw e))
  | succ k ih =>
    intro i s hk hi st hg hR
    have lt : i < n := by omega
    have lz : i < zs.length := by omega
    refine codeAny_builtin F.entry_set_update_loop ?_
    rw [Around.under_plainId F.plain_set_update_loop _]
    show wpAny _ A.in1 (pyNext (.ref I) >>= _) _ _ s
    refine wpAny_bind (W.item i s _ _ lt st fun v s' hp st' m => ?_)
    obtain ⟨t, rfl⟩ := hv i v lt hp
    obtain ⟨D, ho, TX, rs, ld⟩ := hg.at fun o e => m.heap S o sw e
    have ez : zs.getD i "" = zs[i] := by rw [List.getD_eq_getElem?_getD, List.getElem?_eq_getElem lz]; rfl
    have er : ddS (zs.take (i + 1)) = ddR (ddS (zs.take i)) (zs.getD i "") := by
      rw [List.take_succ_eq_append_getElem lz, ddS_snoc, ez] <;> rfl
    have hl : (ddS (zs.take i)).length ≤ i := by
      have := ddS_len (zs.take i)
      rw [List.length_take] at this
      omega
    show wpAny _ A.in1 (holding [Value.str (zs.getD i "") t] (setAdd S (.str (zs.getD i "") t)) >>= _) _ _ s'
    refine wpAny_bind (wpAny_holding ?_)
    unfold setAdd
    refine wpAny_holding ?_
    refine wpAny_bind ((strKind P w).pyHash (k := zs.getD i "") (is_str _ _) ?_)
    by_cases nk : zs.getD i "" ∈ ddS (zs.take i)
    · refine old_x (s := { s' with toks := s'.toks + 1 }) ho TX nk (by omega) ?_
      have g2 : GS P w s'.heap S (ddS (zs.take (i + 1))) := by
        rw [er, ddR, if_pos nk]
        exact ⟨_, ho, TX, rs, ld⟩
      refine wpAny_pure ⟨plainId_quiet F.plain_set_update_loop _, ih (i + 1) { s' with toks := s'.toks + 1 } (by omega) lt (W.frame _ s' _ _ st' (Nat.le_succ _) fun b hb o e => e) g2 fun s'' m2 g3 => ?_⟩
      refine hR s'' (Moved.trans W.gtrans ((m.mono sub).then_heap (Nat.le_succ _) fun b o hb e => ?_) m2) g3
      exact e
    · refine add_x (s := { s' with toks := s'.toks + 1 }) ho TX nk (by omega) ?_
      have g2 : GS P w (s'.heap.update S (fun _ => sObj "set" (addTx (hashStr w (zs.getD i "")) (.str (zs.getD i "") t) D))) S (ddS (zs.take (i + 1))) := by
        rw [er, ddR, if_neg nk]
        obtain ⟨q1, q2⟩ := add_ris (hh := hashStr w (zs.getD i "")) (v := .str (zs.getD i "") t) rs ld
        exact ⟨_, get_upd _ ho rfl, add_ok t TX, q1, q2⟩
      refine wpAny_pure ⟨plainId_quiet F.plain_set_update_loop _, ih (i + 1) _ (by omega) lt (W.frame _ s' _ _ st' (Nat.le_succ _) fun b hb o e => ?_) g2 fun s'' m2 g3 => ?_⟩
      · exact (Heap.get?_update_other _ _ (fun h : S = b => hS (by rw [h]; exact hb))).trans e
      · refine hR s'' (Moved.trans W.gtrans ((m.mono sub).then_heap (Nat.le_succ _) fun b o hb e => ?_) m2) g3
        exact (Heap.get?_update_other _ _ (fun h : S = b => hb (by rw [← h]; exact List.mem_cons_self))).trans e
end
section
variable {P : Program} {w : World} {A : Around} {E : Value → Shared → Prop} {s : Shared}
set_option maxRecDepth 100000 in
set_option maxHeartbeats 3200000 in
theorem call_setD {l : Addr} {items : Array Value} {zs : List Str} {Q : Value → Shared → Prop} (hh : A.handled = none) (hl : s.heap.IsList l items) (hi : StrsAre items.toList zs) (hb : items.size + 1 < scanBound)
    (h : ∀ (h' : Heap) (tk : Nat), GS P w h' s.heap.objs.size (ddS zs) → (∀ b o, b < s.heap.objs.size → s.heap.get? b = some o → h'.get? b = some o) → Q (.ref s.heap.objs.size) { s with heap := h', toks := tk }) :
    wpAny (model P w) A (call (.type "set") [.ref l]) Q E s := by
  obtain ⟨c, tl, hmro⟩ := F.called_set.mro
  have hmade := F.called_set.made
  have hsub := F.called_set.sub
  refine wpAny_call (codeAny_of_tree ?_)
  show wpAny _ _ (callAny (.type "set") _) _ _ _
  refine wpAny_pure ⟨Code.quiet_builtin _ (by decide +kernel), codeAny_builtin F.entry_type_call ?_⟩
  rw [Around.under_plain (weight_type_call_type "set" [.ref l] []) rfl]
  have h1 := F.called_set.notType
  have h2 := F.called_set.canCreate
  have hct := F.typeCall_set_1 (.ref l)
  repeat (any_goals (first | assumption | wp_step))
  refine codeAny_mono (set_made (.ref l) (E := E) (Q₁ := fun obj s₁ => obj = .ref s.heap.objs.size ∧ s₁ = { s with heap := s.heap.push { cls := .type "set", dict := none, data := .set #[] 0 (.fresh 0 0 (!w.params.followText "set-order")) } }) ⟨rfl, rfl⟩) fun r s₁ hr => ?_
  cases r with
  | error e => exact hr
  | ok fl =>
    cases fl with
    | ret obj =>
      obtain ⟨rfl, rfl⟩ := hr
      have g0 := set_empty s.heap P w
      generalize hS : s.heap.push { cls := .type "set", dict := none, data := .set #[] 0 (.fresh 0 0 (!w.params.followText "set-order")) } = hp1 at g0 ⊢
      have zz : hp1.objs.size = s.heap.objs.size + 1 := by rw [← hS, Heap.size_push]
      have kk : ∀ b o, s.heap.get? b = some o → hp1.get? b = some o := fun b o e => by rw [← hS]; exact Heap.get?_push_of_some _ e
      have hS1 : hp1.get? s.heap.objs.size = some { cls := .type "set", dict := none, data := .set #[] 0 (.fresh 0 0 (!w.params.followText "set-order")) } := by rw [← hS]; exact Heap.get?_push_size _ rfl
      have hT : Shared.TypeIs { s with heap := hp1 } (.ref s.heap.objs.size) "set" := ⟨_, hS1, rfl⟩
      have hli := F.called_set.init.lookup
      have hbi := F.called_set.init.bind (.ref s.heap.objs.size)
      repeat (any_goals (first | assumption | wp_step))
      refine codeAny_mono (codeAny_call_builtin (R := wants (fun r s₂ => r = .none ∧ ∃ h' tk, s₂ = { s with heap := h', toks := tk } ∧ GS P w h' s.heap.objs.size (ddS zs) ∧
          (∀ b o, b < s.heap.objs.size → s.heap.get? b = some o → h'.get? b = some o)) E) F.called_set.init.plain F.entry_set_init (check_set_init_1 hT ?_)) fun r₂ s₂ hr₂ => ?_
      · have hlS : l < s.heap.objs.size := by obtain ⟨ol, hol, _⟩ := hl; exact Heap.lt_size hol
        obtain ⟨ol, hol, hcl, nl, hdl⟩ := hl
        obtain ⟨ocls, odict, odata, oslots⟩ := ol
        simp only at hcl hdl
        subst hcl; subst hdl
        have hol' := kk _ _ hol
        have hsls := F.sub_list_set
        have hslf := F.sub_list_frozenset
        have hne : (Value.type "list" == Value.type "dict") = false := by decide
        have hl1 : hp1.IsList l items := ⟨_, hol', rfl, nl, rfl⟩
        unfold Builtin.«set.__init__» noKeywords Builtin.Frozenset.updateFrom
        generalize hPI : pyIter = PI
        wp_walk
        subst hPI
        refine wpAny_pyIter_list (s := { s with heap := hp1 }) hl1 ?_
        refine wpAny_bind (wpAny_runValue ?_)
        have hh3 : A.in1.in1.in1.handled = none := by simp [hh]
        have hneI : l ≠ hp1.objs.size := by rw [zz]; exact Nat.ne_of_lt (Nat.lt_succ_of_lt hlS)
        have hSf : s.heap.objs.size ∉ [hp1.objs.size, l] := by
          rw [zz]
          simp only [List.mem_cons, List.not_mem_nil, or_false, not_or]
          exact ⟨Nat.ne_of_lt (Nat.lt_succ_self _), Nat.ne_of_gt hlS⟩
        have hz : items.size = zs.length := by rw [← Array.length_toList]; exact hi.length
        have hval : ∀ (i : Nat) (v : Value), i < items.size → items[i]? = some v → ∃ t, v = .str (zs.getD i "") t := fun i v hlt hv => str_at hi i v (by rw [Array.getElem?_toList]; exact hv)
        refine set_loopD ((Walks.list hh3 _ l hneI items).toS) s.heap.objs.size hSf zs hz hval hb (items.size - 0) 0 _ (by omega) (Nat.zero_le _) ⟨⟨_, Heap.get?_push_size _ rfl, rfl, rfl⟩, (hl1.push _)⟩ ?hS0 ?hR
        case hS0 => exact g0.at fun o e => Heap.get?_push_of_some _ e
        case hR =>
          intro s' hm hS'
          obtain ⟨h', g', d', tk', os'⟩ := s'
          have eg : g' = s.gens := hm.gens
          have ed : d' = s.drawn := hm.drawn
          have eo : os' = s.os := hm.os
          subst eg; subst ed; subst eo
          show wpAny _ _ _ _ _ _
          refine wpAny_pure ?_
          show wpAny _ _ (ret Value.none) _ _ _
          refine wpAny_pure ⟨rfl, h', tk', rfl, hS', fun b o hb e => ?_⟩
          have b2 : b ≠ hp1.objs.size := by rw [zz]; exact Nat.ne_of_lt (Nat.lt_succ_of_lt hb)
          exact hm.heap b o (by simp only [List.mem_cons, List.not_mem_nil, or_false, not_or]; exact ⟨Nat.ne_of_lt hb, b2⟩) (Heap.get?_push_of_some _ (kk _ _ e))
      · cases r₂ with
        | error e => exact hr₂
        | ok fl₂ =>
          cases fl₂ with
          | ret r =>
            obtain ⟨rfl, h', tk, rfl, hS', hk'⟩ := hr₂
            repeat (any_goals (first | assumption | wp_step))
            exact h _ _ hS' hk'
          | _ => exact hr₂.elim
    | _ => exact hr.elim
end
section
variable {X : Cx}
/-- set(list of texts), each as often as it comes -/
def rSetD (K : PySem.W.Frag) (P : Program) (w : World) : List V → Hp → VK → Prop := fun vs H Q => ∃ (a : Addr) (zs : List Str), vs = [.ref a] ∧ SqL K H a (zs.map V.str) ∧ zs.length ≤ 60 ∧ ∀ p, H p = none → Q (.ref p) (upd H p (SetS P w p (ddS zs)))
theorem cr_setD (hc : X.calm = true) : CallR X (.type "set") (rSetD X.K X.prog X.w) := by
  intro pins s σ H vs us Q I r h
  obtain ⟨a, zs, rfl, hs, h60, q⟩ := h
  obtain ⟨its, rv, hl, _⟩ := I.list hs
  rw [Vals.ref1 r]
  have hlen := rv.length
  rw [List.length_map] at hlen
  have e : its.toArray.size = zs.length := by rw [List.size_toArray]; exact hlen.symm
  refine call_setD (I.ok.hd hc) hl.isList rv.strs (by rw [e]; unfold scanBound; omega) fun h' tk g k => ?_
  have kp : ∀ b o, s.heap.get? b = some o → h'.get? b = some o := fun b o e => k b o (Heap.lt_size e) e
  exact ⟨.ref _, _, I.laid (t' := tk) kp (Nat.le_refl _) (setS_new g), rfl, q _ (I.hok.fresh (Nat.le_refl _))⟩
end

end SS

namespace DE
open PySem PySem.Spec PyProof.Rows L2 SZ VR VX StX RT
/-! ### sorted(set(texts)) where a text may come twice -/
section
variable {X : Cx} {b : Bs} {ρ : List Sl} {e : Expr}
theorem cv_setD {zs : List Str} {r : Sl} {p : Sl → Prop} (hc : X.calm = true) (er : cool r = .d (.list (zs.map .str))) (hn : zs.length ≤ 60) (h : p (SetSl X.prog X.w (SS.ddS zs))) : CV X b (.type "set") [r] p := ⟨_, SS.cr_setD hc, fun vs H L Q lv hh k => by
  obtain ⟨v, rfl⟩ := one_in (rs := [r]) (r := r) lv
  have hc : Hold X.K b H ((some v, r) :: L) := hh
  have hc := hc.cool
  rw [er] at hc
  obtain ⟨G, hg⟩ := hc
  obtain ⟨_, f1, d1⟩ := hg.ok (some v, .d (.list (zs.map .str))) List.mem_cons_self
  cases f1
  cases d1 with
  | @lst a us _ s1 t1 =>
    have e := dp_strs t1
    subst e
    exact ⟨a, zs, rfl, hg.up.seq s1, hn, fun q hq => k _ _ _ h ⟨_, (hg.drop.grow (o := SS.SetS X.prog X.w q (SS.ddS zs)) hq rfl).addF ⟨q, rfl, upd_same⟩⟩⟩⟩
/-- sorted(set(texts)) -/
theorem ev_sortedSetD {zs : List Str} {r : Sl} {p : Sl → List Sl → Prop} {p1 p2 c1 c2 : Pos} (hc : X.calm = true) (m1 : X.mg "sorted" = none) (m2 : X.mg "set" = none) (he : EVr X b ρ e r) (er : cool r = .d (.list (zs.map .str))) (hn : zs.length ≤ 60)
    (h : ∀ ys : List Str, ys.Perm (SS.ddS zs) → PyProof.Rows.sortedS ys = true → p (.own (ys.map .str)) ρ) (g1 : Gl X "sorted" := by rfl) (g2 : Gl X "set" := by rfl) (hs : starEach [.Call (.Name "set" p2) [e] [] c2] X.env = (false, eval (.Call (.Name "set" p2) [e] [] c2) X.env) :: starEach [] X.env := by rfl) (he2 : starEach [e] X.env = (false, eval e X.env) :: starEach [] X.env := by rfl) (hp1 : (backTo c1 (starEach [] X.env)).any (·.1) = false := by rfl) (hp2 : (backTo c2 (starEach [] X.env)).any (·.1) = false := by rfl) :
    EV X b ρ (.Call (.Name "sorted" p1) [.Call (.Name "set" p2) [e] [] c2] [] c1) p :=
  ev_callB (id := "sorted") g1 m1 (by decide +kernel) ((a_cons (r_callTy (T := "set") m2 (a_cons he a_nil he2) (fun _ k => cv_setD hc er hn k) g2 (by decide +kernel) (by decide) (by decide) he2 hp2) a_nil hs) _ (cv_sortedSS hc (SS.ddS_nodup zs) (by have := SS.ddS_len zs; omega) fun ys a1 a2 => h ys a1 a2)) (by decide) (by decide) hs hp1
end

end DE

namespace DE
open PySem PySem.Spec PyProof.Rows L2 SZ VR VX StX RT
/-! ### data and the empty dict -/
def Dq (K : PySem.W.Frag) (G : Hp) (v : V) (y : PyData) : Prop := Dp K G v y ∨ (y = .dict [] ∧ ∃ a, v = .ref a ∧ G a = some (.dK []))
theorem Dq.keep {K : PySem.W.Frag} {G G' : Hp} {v : V} {y : PyData} (s : Same G G') : Dq K G v y → Dq K G' v y
  | .inl h => .inl (Dp.keep s h)
  | .inr ⟨e, a, e2, h⟩ => .inr ⟨e, a, e2, s _ _ h⟩
def DqAll (K : PySem.W.Frag) (G : Hp) : List V → List PyData → Prop
  | [], [] => True
  | v :: vs, y :: ys => Dq K G v y ∧ DqAll K G vs ys
  | _, _ => False
theorem DqAll.keep {K : PySem.W.Frag} {G G' : Hp} (s : Same G G') : ∀ {vs : List V} {ys : List PyData}, DqAll K G vs ys → DqAll K G' vs ys
  | [], [], _ => trivial
  | _ :: _, _ :: _, ⟨h1, h2⟩ => ⟨h1.keep s, h2.keep s⟩
  | [], _ :: _, h => h
  | _ :: _, [], h => h
theorem DqAll.len {K : PySem.W.Frag} {G : Hp} : ∀ {vs : List V} {ys : List PyData}, DqAll K G vs ys → vs.length = ys.length
  | [], [], _ => rfl
  | _ :: vs, _ :: ys, ⟨_, h2⟩ => by rw [List.length_cons, List.length_cons, h2.len]
  | [], _ :: _, h => h.elim
  | _ :: _, [], h => h.elim
theorem DqAll.app {K : PySem.W.Frag} {G : Hp} : ∀ {vs us : List V} {ys zs : List PyData}, DqAll K G vs ys → DqAll K G us zs → DqAll K G (vs ++ us) (ys ++ zs)
  | [], _, [], _, _, h => h
  | _ :: _, _, _ :: _, _, ⟨h1, h2⟩, h => ⟨h1, h2.app h⟩
  | [], _, _ :: _, _, h, _ => h.elim
  | _ :: _, _, [], _, h, _ => h.elim
theorem DqAll.of {K : PySem.W.Frag} {G : Hp} : ∀ {vs : List V} {ys : List PyData}, DpAll K G vs ys → DqAll K G vs ys
  | [], [], _ => trivial
  | _ :: _, _ :: _, .cons h1 h2 => ⟨.inl h1, DqAll.of h2⟩
theorem DqAll.at {K : PySem.W.Frag} {G : Hp} : ∀ {vs : List V} {ys : List PyData} {i : Nat} {x : V}, DqAll K G vs ys → vs[i]? = some x → ∃ y, ys[i]? = some y ∧ Dq K G x y
  | _ :: _, y :: _, 0, _, ⟨h1, _⟩, e => by cases e; exact ⟨y, rfl, h1⟩
  | _ :: vs, _ :: ys, i + 1, x, ⟨_, h2⟩, e => by
    obtain ⟨y, h3, h4⟩ := DqAll.at (i := i) h2 (by simpa using e)
    exact ⟨y, by simpa using h3, h4⟩
  | [], [], i, _, _, e => by simp at e
abbrev qS (K : PySem.W.Frag) (y : PyData) : Sl := .fact (fun v G => Dq K G v y) (fun _ _ _ s h => h.keep s)
abbrev lqS (K : PySem.W.Frag) (ys : List PyData) : Sl := .fact (fun v G => ∃ a vs, v = .ref a ∧ SqL K G a vs ∧ DqAll K G vs ys) (fun _ _ _ s ⟨a, vs, e, h1, h2⟩ => ⟨a, vs, e, s.seq h1, h2.keep s⟩)
abbrev iqS (K : PySem.W.Frag) (xs : List V) (ys : List PyData) : Sl := .fact (fun v G => ∃ a, v = .ref a ∧ SqL K G a xs ∧ DqAll K G xs ys) (fun _ _ _ s ⟨a, e, h1, h2⟩ => ⟨a, e, s.seq h1, h2.keep s⟩)
theorem allQ {K : PySem.W.Frag} {b : Bs} {G H : Hp} {L : List Cl} {y : PyData} : ∀ {vs : List V} {ys : List PyData}, vs.length = ys.length + 1 → HoldG K b G H ((vs.map some).zip (ys.map .d ++ [qS K y]) ++ L) → DqAll K G vs (ys ++ [y])
  | [v], [], _, h => by
    obtain ⟨v', e, hd⟩ := h.ok (some v, qS K y) (by simp)
    cases e
    exact ⟨hd, trivial⟩
  | v :: vs, z :: ys, l, h => by
    obtain ⟨v', e, hd⟩ := HoldG.data (show HoldG K b G H ((some v, .d z) :: ((vs.map some).zip (ys.map .d ++ [qS K y]) ++ L)) from h)
    cases e
    exact ⟨.inl hd, allQ (by simpa using l) (HoldG.drop (show HoldG K b G H ((some v, .d z) :: ((vs.map some).zip (ys.map .d ++ [qS K y]) ++ L)) from h))⟩
  | v :: w :: vs, [], l, _ => by simp at l
  | [], _, l, _ => by simp at l
theorem last_split {α : Type} {l : List α} {x : α} (h : l.getLast? = some x) : l = l.dropLast ++ [x] := by
  have hn : l ≠ [] := fun e => by rw [e] at h; cases h
  have := List.dropLast_concat_getLast hn
  rw [List.getLast?_eq_some_getLast hn] at h
  cases h
  exact this.symm
section
variable {X : Cx} {b : Bs} {ρ : List Sl} {e : Expr} {es : List Expr} {pos : Pos} {r r1 r2 : Sl}
/-- {} that stays -/
theorem r_dict0 : EVr X b ρ (.Dict [] [] pos) (qS X.K (.dict [])) := fun p h σ H L Q l hh q => by
  obtain ⟨G, hG⟩ := hh
  refine ⟨_, pe_dnewK, fun a ha => ?_⟩
  exact q _ ρ _ _ h l ⟨_, (hG.grow (o := .dK []) ha rfl).addF (.inr ⟨rfl, a, rfl, upd_same⟩)⟩
/-- a list whose last is such a one -/
theorem r_lstQ {rs : List Sl} {ys : List PyData} {y : PyData} (h : EAr X b ρ es rs) (e1 : rs.getLast? = some (qS X.K y)) (e2 : datas rs.dropLast = some ys) (n : ys.length ≤ 10000 := by simp) : EVr X b ρ (.List es pos) (lqS X.K (ys ++ [y])) := fun p k σ H L Q l hh q => by
  refine ⟨_, pe_lst (wa_pa es), h (fun rs' ρ' => rs' = rs ∧ ρ' = ρ) ⟨rfl, rfl⟩ σ H L _ l hh fun rs' ρ' vs H' ⟨er, eρ⟩ l' lv hh' => ?_⟩
  subst er eρ
  have h2 := hh'.coolAll
  have ec : rs'.map DE.cool = ys.map .d ++ [qS X.K y] := by
    rw [last_split e1, List.map_append, datas_cool e2]
    rfl
  rw [ec] at h2
  obtain ⟨G, hg⟩ := h2
  have lr : rs'.length = ys.length + 1 := by have := congrArg List.length ec; simpa using this
  have hq := allQ (lv.trans lr) hg
  refine ⟨by rw [lv, lr, sizeLine_eq]; omega, fun a ha => ?_⟩
  have hG := hg.dropM
  exact q _ ρ' _ _ k l' ⟨_, (hG.grow (o := .lst vs) ha rfl).addF ⟨a, vs, rfl, .of upd_same, hq.keep (Same.new (hG.up.free ha))⟩⟩
theorem or_catQ {xs ys : List PyData} (e2 : cool r2 = .d (.list ys)) (hz : xs.length + ys.length ≤ sizeLine) : OVr X b (binaryOp .Add) (lqS X.K xs) r2 (lqS X.K (xs ++ ys)) := fun p h => OV.cool (by
  rw [e2]
  refine ⟨_, op_catS, fun v1 v2 H L Q hh k => ?_⟩
  obtain ⟨G, hg⟩ := hh
  obtain ⟨_, f1, a, us, rfl, s1, t1⟩ := hg.ok (some v1, lqS X.K xs) List.mem_cons_self
  obtain ⟨_, f2, d2⟩ := hg.ok (some v2, .d (.list ys)) (List.mem_cons_of_mem _ List.mem_cons_self)
  cases f1
  cases f2
  cases d2 with
  | @lst c ws _ s2 t2 =>
    have hG := hg.drop.drop
    exact ⟨a, c, us, ws, rfl, rfl, hg.up.seq s1, hg.up.seq s2, by rw [t1.len, DpAll.len t2]; exact hz, fun q hq => k _ _ _ h ⟨_, (hG.grow (o := .lst (us ++ ws)) hq rfl).addF ⟨q, _, rfl, .of upd_same, (t1.app (.of t2)).keep (Same.new (hG.up.free hq))⟩⟩⟩)
theorem xs_forQ {p : Po} {tg iter : Expr} {body : List Stmt} {ts : List Nat} {ys : List PyData} (hp : PassesOwn (model X.prog X.w) X.A X.env X.xe) (hc : X.calm = true) (hst : ∀ x, foldedSetIterable iter X.env x = pure x := by intro _; rfl)
    (h : EVr X b ρ iter (lqS X.K ys)) (I : Nat → List Sl → Prop) (i0 : I 0 ρ) (hs : ∀ i y ρ', ys[i]? = some y → ρ'.length = ρ.length → I i ρ' → EG X b ts ρ' tg (qS X.K y) fun ρ2 => ρ2.length = ρ.length → XB X b ρ2 body (loopI p I i)) (hd : ∀ ρ', I ys.length ρ' → p.nx ρ') : XS X b ρ (.For tg iter body [] pos) p := fun σ H L D l hh k => by
  refine ⟨_, ps_for hp hc (pi_list (we_pe iter)) (wg_pg tg) (wss_pss body) hst, ?_⟩
  refine h (fun r ρ' => r = lqS X.K ys ∧ ρ' = ρ) ⟨rfl, rfl⟩ σ H L _ l hh fun r ρ1 v H1 ⟨er, eρ⟩ l1 hh1 => ?_
  subst er eρ
  obtain ⟨G, hg⟩ := hh1
  obtain ⟨_, f1, a, xs, rfl, s1, t1⟩ := hg.ok (some v, lqS X.K ys) List.mem_cons_self
  cases f1
  have lx : xs.length = ys.length := t1.len
  have h2 : Hold X.K b H1 ((some (.ref a), iqS X.K xs ys) :: (σ.zip ρ1 ++ L)) := ⟨G, hg.drop.addF ⟨a, rfl, s1, t1⟩⟩
  have hG : ∀ H2 L2, Hold X.K b H2 ((some (V.ref a), iqS X.K xs ys) :: L2) → SqL X.K H2 a xs := fun H2 L2 ⟨G2, g2⟩ => by
    obtain ⟨_, f1, a', e1, s2, _⟩ := g2.ok (some (.ref a), iqS X.K xs ys) List.mem_cons_self
    cases f1
    cases e1
    exact g2.up.seq s2
  refine ⟨a, rfl, ⟨xs, hG _ _ h2⟩, ?_⟩
  refine for_it (wlen lx.symm walk_list) (fun i σ' H' => ∃ ρ', I i ρ' ∧ σ'.length = ρ'.length ∧ ρ'.length = ρ1.length ∧ Hold X.K b H' (σ'.zip ρ' ++ (some (.ref a), iqS X.K xs ys) :: L)) ⟨ρ1, i0, l1, rfl, h2.perm perm_in.symm⟩ (fun i σ' H' _ ⟨ρ', _, _, _, hh'⟩ => hG H' _ (hh'.perm perm_in)) (fun i x σ' H1' H2' hi ⟨ρ', hI, l', n', hh'⟩ hy => ?_) (fun σ' H' ⟨ρ', hI, l', n', hh'⟩ => k.nx ρ' σ' H' (hd ρ' hI) l' n' ((hh'.perm perm_in).drop))
  obtain ⟨e1, e2⟩ := hy
  subst e1
  have hz : ∃ y, ys[i]? = some y ∧ Hold X.K b H2' ((some x, qS X.K y) :: (σ'.zip ρ' ++ (some (V.ref a), iqS X.K xs ys) :: L)) := by
    obtain ⟨G2, g2⟩ := hh'
    obtain ⟨_, f1, a', e1, s2, t2⟩ := g2.ok (some (V.ref a), iqS X.K xs ys) (by simp)
    cases f1
    cases e1
    obtain ⟨y, ey, hq⟩ := t2.at e2
    exact ⟨y, ey, G2, g2.addF (φ := fun v G => Dq X.K G v y) hq⟩
  obtain ⟨y, ey, hz⟩ := hz
  refine hs i y ρ' ey n' hI σ' H2' ((some (V.ref a), iqS X.K xs ys) :: L) x _ l' hz fun ρ2 σ2 H2 h3 l2 n2 _ hh2 => ?_
  exact h3 (n2.trans n') σ2 H2 _ { D with nx := _, ct := _, bk := D.nx } l2 hh2 ⟨fun ρ3 σ3 H3 z l3 n3 hh3 => ⟨ρ3, z, l3, n3.trans (n2.trans n'), hh3⟩, fun r ρ3 v σ3 H3 z l3 n3 hh3 => k.rt r ρ3 v σ3 H3 z l3 (n3.trans (n2.trans n')) ((hh3.perm (L' := (some (V.ref a), iqS X.K xs ys) :: ((some v, r) :: (σ3.zip ρ3 ++ L))) ((List.Perm.swap ..).trans (List.Perm.cons _ perm_in))).drop),
          fun ρ3 σ3 H3 z l3 n3 hh3 => k.nx ρ3 σ3 H3 z l3 (n3.trans (n2.trans n')) ((hh3.perm perm_in).drop), fun ρ3 σ3 H3 z l3 n3 hh3 => ⟨ρ3, z, l3, n3.trans (n2.trans n'), hh3⟩⟩
end
/-! ### repr of it -/
structure ShQ (y : PyData) : Prop where
  s : y.showable = true
  n : y.hasDict = false ∨ y = .dict []
  d : y.depth ≤ 50
  l : y.shown.length ≤ sizeLine
def rReprQ (K : PySem.W.Frag) : List V → Hp → VK → Prop := fun xs H Q => ∃ (v : V) (d : PyData), xs = [v] ∧ Dq K H v d ∧ ShQ d ∧ Q (.str d.shown) H
theorem call_reprQ {X : Cx} (hg : X.A.guards = some []) (hu : X.A.units + 64 < cLine) : CallR X (.builtin "repr") (rReprQ X.K) := by
  intro pins s σ H xs us Q I r h
  obtain ⟨v, d, rfl, hd, hs, q⟩ := h
  rcases hd with hd | ⟨rfl, a, rfl, ha⟩
  · refine call_reprW hg hu pins s σ H [v] us Q I r ⟨v, d, rfl, hd, hs.s, ?_, hs.d, hs.l, q⟩
    rcases hs.n with h | rfl
    · exact h
    · cases hd
  · obtain ⟨u, rfl, r1⟩ := vals1 r
    obtain rfl : u = Value.ref a := r1
    obtain ⟨_, hsm, vs, kv, o, es, ep, ho, ex, he, _, hp, _⟩ := dk_of I.hok ha
    have hv : vs = [] := by cases kv; rfl
    subst hv
    have hes : es.toList = [] := by
      cases hh : es.toList with
      | nil => rfl
      | cons x l =>
        rw [hh] at hp
        cases hp
    have ra : Reads s.heap (.ref a) (.dict []) (a :: [] ++ []) := .dict ho ex.1 he (by rw [hes]; exact .nil) (by rw [hes]; exact .nil)
    exact repr_of_reads' ra hs.s (fun _ => by
      simp only [List.append_nil, List.mem_singleton]
      intro e
      rw [e] at hsm
      simp at hsm) hg (by have := hs.d; omega) (fun _ _ e => e) (fun h' u tk hk => ⟨.str _, H, I.kept hk, ⟨_, rfl⟩, q⟩) hs.l
section
variable {X : Cx} {b : Bs} {ρ : List Sl} {e : Expr}
theorem r_reprQ {y : PyData} {ps cp : Pos} (gd : X.A.guards = some []) (hu : X.A.units + 64 < cLine) (hm : X.mg "repr" = none) (h : EVr X b ρ e (qS X.K y)) (h1 : ShQ y) (hg : Gl X "repr" := by rfl)
    (he : starEach [e] X.env = (false, eval e X.env) :: starEach [] X.env := by rfl) : EVr X b ρ (.Call (.Name "repr" ps) [e] [] cp) (.d (.str y.shown)) :=
  r_callB (id := "repr") hm (a_cons h a_nil he) (fun p k => ⟨_, call_reprQ gd hu, fun vs H L Q lv hh q => by
    obtain ⟨v, rfl⟩ := one_in (rs := [qS X.K y]) (r := qS X.K y) lv
    obtain ⟨G, hG⟩ := hh
    obtain ⟨_, f1, hd⟩ := hG.ok (some v, qS X.K y) List.mem_cons_self
    cases f1
    exact ⟨v, y, rfl, hd.keep hG.up, h1, q _ _ _ k ⟨G, hG.drop.add (.str _)⟩⟩⟩) (hg := hg) (he := he)
end
theorem dq_ty {K : PySem.W.Frag} {H : Hp} {v : V} {d : PyData} (h : Dq K H v d) : TyX K H v (.type (tyD d)) := by
  rcases h with h | ⟨rfl, a, rfl, h⟩
  · exact dp_ty h
  · exact .base (.dK h)
section
variable {X : Cx} {b : Bs} {ρ : List Sl} {e : Expr} {es : List Expr}
theorem r_isiQ {y : PyData} {t : String} {x : Str} {ps cp pn : Pos} (hm : X.mg "isinstance" = none) (hmt : X.mg x = none) (h : EVr X b ρ e (qS X.K y)) (hg : Gl X "isinstance" := by rfl) (hgt : Gl X x := by rfl) (hv : bootBuiltins x = some (.type t) := by decide +kernel) (ht : t = "int" ∨ t = "bool" ∨ t = "str" ∨ t = "tuple" ∨ t = "list" ∨ t = "dict" := by decide)
    (hn : x ≠ "__name__" := by decide) (hd : (x == ("__debug__" : Str)) = false := by decide) (he : starEach [e, .Name x pn] X.env = (false, eval e X.env) :: starEach [.Name x pn] X.env := by rfl) (hpl : (backTo cp (starEach [.Name x pn] X.env)).any (·.1) = false := by rfl) :
    EVr X b ρ (.Call (.Name "isinstance" ps) [e, .Name x pn] [] cp) (.d (.bool (subTy (tyD y) t))) := fun p k σ H L Q l hh q =>
  ⟨_, pe_callB call_isi hg hm (by decide +kernel) (pa_cons (we_pe e) (pa_cons (pe_bltn hgt hmt (u := .type t) (v := .ty t) hv rfl hn hd) pa_nil) he) (by decide) (by decide) he hpl, h (fun r ρ' => r = qS X.K y ∧ ρ' = ρ) ⟨rfl, rfl⟩ σ H L _ l hh fun r ρ' v H' ⟨er, eρ⟩ l' hh' => by
    subst er eρ
    obtain ⟨G, hG⟩ := hh'
    obtain ⟨_, f1, hd⟩ := hG.ok (some v, qS X.K y) List.mem_cons_self
    cases f1
    exact ⟨v, .ty t, .type (tyD y), .type t, subTy (tyD y) t, rfl, .ty _, dq_ty (hd.keep hG.up), kit_d ht y, q _ ρ' _ H' k l' ⟨G, hG.drop.add (.bl _)⟩⟩⟩
theorem r_calF {CX : CXT} {k : Nat} {Pre : List Sl → Prop} {Res : List Sl → Sl → Prop} {x : Str} {p1 cp : Pos} {rs : List Sl} {r : Sl} (C : CalP X.prog X.w X.K X.mg X.base CX x k Pre Res) (hr : Room k X.A) {E : XK} (hx : Passes CX X E)
    (h : EAr X b ρ (e :: es) rs) (hf : (rs.map cool).all flatS = true) (h1 : Pre (rs.map cool)) (h2 : ∀ r', Res (rs.map cool) r' → r' = r) (nb : ∀ ys, r ≠ .bor ys := by intro _; nofun) (hg : Gl X x := by rfl)
    (hdb : (x == ("__debug__" : Str)) = false := by decide) (he : starEach (e :: es) X.env = (false, eval e X.env) :: starEach es X.env := by rfl) (hpl : (backTo cp (starEach es X.env)).any (·.1) = false := by rfl) : EVr X b ρ (.Call (.Name x p1) (e :: es) [] cp) r := fun _ q => by
  obtain ⟨f, fd, ps, F, hm, hk, hb⟩ := C.ex
  refine ev_call F hr hg hm hk hb hx (h _ ⟨?_, h1, fun r' hr' => by rw [h2 r' hr']; exact ⟨nb, q⟩⟩) hdb he hpl
  exact List.all_eq_true.mp hf
/-- a call that knows what is being shown, its arguments data or what stays -/
theorem r_calGF {CX : CXT} {k : Nat} {f : Addr} {fd : FuncData} {ps : List Str} {Pre : List Sl → Prop} {Res : List Sl → Sl → Prop} {x : Str} {p1 cp : Pos} {rs : List Sl} {r : Sl} (F : RunG X.prog X.w X.K X.mg X.base CX k f fd ps (spP X.K Pre Res)) (ln : ∀ as, Pre as → as.length = ps.length) (hm : X.mg x = some (.ref f)) (hk : PySem.W.keepIn X.K (.ref f) = true) (hb : Binds X.K fd ps []) (gd : X.A.guards = some []) (hr : Room k X.A) {E : XK} (hx : Passes CX X E)
    (h : EAr X b ρ (e :: es) rs) (hf : ∀ r ∈ rs, flatS r = true) (h1 : Pre rs) (h2 : ∀ r', Res rs r' → r' = r) (nb : ∀ ys, r ≠ .bor ys := by intro _; nofun) (hg : Gl X x := by rfl)
    (hdb : (x == ("__debug__" : Str)) = false := by decide) (he : starEach (e :: es) X.env = (false, eval e X.env) :: starEach es X.env := by rfl) (hpl : (backTo cp (starEach es X.env)).any (·.1) = false := by rfl) : EVr X b ρ (.Call (.Name x p1) (e :: es) [] cp) r := fun p q σ H L Q l hh qq => by
  refine ⟨_, pe_callSh F gd hr (fun vs H Q E z => by obtain ⟨G, as, l, _, hp, _⟩ := z; exact l.trans (ln as hp)) hg hm hk hb hx (wa_pa _) hdb he hpl, h (fun rs' ρ' => rs' = rs ∧ ρ' = ρ) ⟨rfl, rfl⟩ σ H L _ l hh fun rs' ρ' vs H' ⟨e1, e2⟩ l' lv hh' => ?_⟩
  subst e1 e2
  obtain ⟨G, hG⟩ := hh'
  refine ⟨G, rs', by rw [List.append_nil]; exact lv, by rw [List.append_nil]; exact HoldG.sub0 hG (flat_zip hf), h1, fun r' hr' n v H2 hh2 => ?_⟩
  rw [h2 r' hr'] at hh2
  exact qq _ ρ' v H2 q l' (hG.dropM.after hh2 nb)
end

end DE

namespace DE
open PySem PySem.Spec PyProof.Rows L2 SZ VR VX StX RT
/-! ### lambdas handed to a def -/
structure LamB (b : Bs) (P : Addr) : Prop where
  B : b.B = [P]
  t : LamX.TabS b.H P lamQ
  only : ∀ a ps, b.H a = some (.tbl ps) → a = P
theorem HoldG.tab {K : PySem.W.Frag} {b : Bs} {P : Addr} {G H : Hp} {L : List Cl} (h : HoldG K b G H L) (lb : LamB b P) : LamX.TabS H P lamQ := (h.bs P (by rw [lb.B]; exact List.mem_singleton.mpr rfl)).2 lb.t
theorem HoldG.extN {K : PySem.W.Frag} {b : Bs} {P : Addr} {G H H1 : Hp} {L : List Cl} (h : HoldG K b G H L) (lb : LamB b P) (e : LamX.ExtN H H1) (ht : LamX.TabS H1 P lamQ) : HoldG K b G H1 L := by
  have k : ∀ a o, H a = some o → (∀ ps, o ≠ .tbl ps) → H1 a = some o := e
  refine ⟨h.old, fun a o g => k a o (h.up a o g) fun ps z => ?_, h.new, fun a o g n => k a o (h.rest a o g n) fun ps z => ?_, fun a ha => ?_, fun c hc => ?_, h.nd, h.fl⟩
  · subst z
    rcases h.fl a _ g with ⟨_, _, _, z, _⟩ | ⟨_, z, _⟩ | z <;> cases z
  · subst z
    exact n (by rw [lb.B]; exact List.mem_singleton.mpr (lb.only a ps g))
  · rw [lb.B] at ha
    rw [List.mem_singleton.mp ha]
    obtain ⟨ps, h1, h2⟩ := ht
    exact ⟨by rw [h1]; rfl, fun _ => ⟨ps, h1, h2⟩⟩
  · have ok := h.ok c hc
    obtain ⟨x, s⟩ := c
    cases s with
    | un => trivial
    | d y => exact ok
    | fact φ st => exact ok
    | own ys => obtain ⟨q, vs, e1, h1, h2, h3, h4⟩ := ok; exact ⟨q, vs, e1, h1, h2, k _ _ h3 nofun, h4⟩
    | bor ys => obtain ⟨q, vs, e1, h1, h2, h3, h4⟩ := ok; exact ⟨q, vs, e1, h1, h2, k _ _ h3 nofun, h4⟩
    | dct o kvs => obtain ⟨q, vs, e1, h1, h2, h3, h4⟩ := ok; exact ⟨q, vs, e1, h1, h2, k _ _ h3 nofun, h4⟩
/-- x(lambda: body): what x makes of it -/
theorem r_lam {X : Cx} {b : Bs} {ρ : List Sl} {x : Str} {params : Arguments} {body : Expr} {scope : Scope} {p lpos pos : Pos} {P : Addr} {TT : (XK → Hp → VK → Prop) → Hp → VK → Prop} {t : XK → TE} {r : Sl} (lb : LamB b P)
    (raw : PE X (.Call (.Name x p) [.Lambda params body scope lpos] [] pos) (LamX.tLam [(P, lamQ)] TT t))
    (h : ∀ (σ : L2.St) (H1 : Hp) (L : List Cl) (Q : VK), σ.length = ρ.length → Hold X.K b H1 (σ.zip ρ ++ L) → (∀ v H', Hold X.K b H' ((some v, r) :: (σ.zip ρ ++ L)) → Q v H') → TT (fun E H' Q' => t E σ H' Q') H1 Q) :
    EVr X b ρ (.Call (.Name x p) [.Lambda params body scope lpos] [] pos) r := fun p' k σ H L Q l hh q => by
  obtain ⟨G, hG⟩ := hh
  refine ⟨_, raw, fun a ha => ?_, fun H1 eN T1 => ?_⟩
  · rw [List.mem_singleton.mp ha]
    exact hG.tab lb
  · exact h σ H1 L Q l ⟨G, hG.extN lb eN (T1 _ List.mem_cons_self)⟩ fun v H' hh' => q r ρ v H' k l hh'
/-- a new list, found behind what one did not see -/
theorem HoldG.newLs {K : PySem.W.Frag} {b : Bs} {G H H' : Hp} {L : List Cl} (h : HoldG K b G H L) (s : Same H H') {p : Addr} {vs : List V} {ys : List PyData} (hp : H p = none) (e : H' p = some (.lst vs)) (hv : DpAll K G vs ys) : HoldG K b G H' ((some (.ref p), .own ys) :: L) := by
  have g := h.same s
  refine ⟨g.old, g.up, g.new, g.rest, g.bs, fun c hc => ?_, ?_, g.fl⟩
  · rcases List.mem_cons.mp hc with rfl | hc
    · exact ⟨p, vs, rfl, h.fresh hp, h.up.free hp, e, hv⟩
    · exact g.ok c hc
  · show (p :: ads L).Nodup
    refine List.nodup_cons.mpr ⟨fun hm => ?_, h.nd⟩
    obtain ⟨_, vs', e⟩ := h.adsH hm
    rw [hp] at e; cases e

end DE

namespace DE
open PySem PySem.Spec PyProof.Rows L2 SZ VR VX StX RT
/-! ### a list of defs -/
def VF (x : V) : Sl := .fact (fun v _ => v = x) (fun _ _ _ _ h => h)
def lrS (K : PySem.W.Frag) (vs : List V) : Sl := .fact (fun v G => ∃ a, v = .ref a ∧ SqL K G a vs) (fun _ _ _ s ⟨a, e, h⟩ => ⟨a, e, s.seq h⟩)
theorem vf_all {K : PySem.W.Frag} {b : Bs} {G H : Hp} {M : List Cl} : ∀ {us vs : List V}, us.length = vs.length → HoldG K b G H ((us.map some).zip (vs.map VF) ++ M) → us = vs
  | [], [], _, _ => rfl
  | u :: us, v :: vs, l, h => by
    obtain ⟨v', e, hv⟩ := h.ok (some u, VF v) List.mem_cons_self
    cases e
    have hv : u = v := hv
    rw [hv, vf_all (us := us) (vs := vs) (by simpa using l) (HoldG.drop h)]
  | [], _ :: _, l, _ => by simp at l
  | _ :: _, [], l, _ => by simp at l
section
variable {X : Cx} {b : Bs} {ρ : List Sl} {e : Expr} {es : List Expr} {pos : Pos}
theorem r_fnG {x : Str} {fD : Addr} (hd : X.mg x = some (.ref fD)) (hgd : Gl X x) (hdd : (x == ("__debug__" : Str)) = false := by decide) : EVr X b ρ (.Name x pos) (VF (.ref fD)) := fun p h σ H L Q l hh q =>
  ⟨_, pe_glob (v := .ref fD) hgd hd rfl hdd, q (VF (.ref fD)) ρ (.ref fD) H h l (let ⟨G, hG⟩ := hh; ⟨G, hG.addF rfl⟩)⟩
theorem r_lstR {vs : List V} (h : EAr X b ρ es (vs.map VF)) (n : vs.length ≤ 10000 := by simp) : EVr X b ρ (.List es pos) (lrS X.K vs) := fun p k σ H L Q l hh q => by
  refine ⟨_, pe_lst (wa_pa es), h (fun rs' ρ' => rs' = vs.map VF ∧ ρ' = ρ) ⟨rfl, rfl⟩ σ H L _ l hh fun rs' ρ' us H' ⟨er, eρ⟩ l' lv hh' => ?_⟩
  subst er eρ
  obtain ⟨G, hg⟩ := hh'
  have lr : us.length = vs.length := lv.trans (List.length_map _)
  have hq := vf_all lr hg
  subst hq
  refine ⟨by rw [lr, sizeLine_eq]; omega, fun a ha => ?_⟩
  have hG := hg.dropM
  exact q _ ρ' _ _ k l' ⟨_, (hG.grow (o := .lst us) ha rfl).addF ⟨a, rfl, .of upd_same⟩⟩
theorem xs_forR {p : Po} {tg iter : Expr} {body : List Stmt} {ts : List Nat} {xs : List V} (hp : PassesOwn (model X.prog X.w) X.A X.env X.xe) (hc : X.calm = true) (hst : ∀ x, foldedSetIterable iter X.env x = pure x := by intro _; rfl)
    (h : EVr X b ρ iter (lrS X.K xs)) (I : Nat → List Sl → Prop) (i0 : I 0 ρ) (hs : ∀ i x ρ', xs[i]? = some x → ρ'.length = ρ.length → I i ρ' → EG X b ts ρ' tg (VF x) fun ρ2 => ρ2.length = ρ.length → XB X b ρ2 body (loopI p I i)) (hd : ∀ ρ', I xs.length ρ' → p.nx ρ') : XS X b ρ (.For tg iter body [] pos) p := fun σ H L D l hh k => by
  refine ⟨_, ps_for hp hc (pi_list (we_pe iter)) (wg_pg tg) (wss_pss body) hst, ?_⟩
  refine h (fun r ρ' => r = lrS X.K xs ∧ ρ' = ρ) ⟨rfl, rfl⟩ σ H L _ l hh fun r ρ1 v H1 ⟨er, eρ⟩ l1 hh1 => ?_
  subst er eρ
  obtain ⟨G, hg⟩ := hh1
  obtain ⟨_, f1, a, rfl, s1⟩ := hg.ok (some v, lrS X.K xs) List.mem_cons_self
  cases f1
  have h2 : Hold X.K b H1 ((some (.ref a), lrS X.K xs) :: (σ.zip ρ1 ++ L)) := ⟨G, hg⟩
  have hG : ∀ H2 L2, Hold X.K b H2 ((some (V.ref a), lrS X.K xs) :: L2) → SqL X.K H2 a xs := fun H2 L2 ⟨G2, g2⟩ => by
    obtain ⟨_, f1, a', e1, s2⟩ := g2.ok (some (.ref a), lrS X.K xs) List.mem_cons_self
    cases f1
    cases e1
    exact g2.up.seq s2
  refine ⟨a, rfl, ⟨xs, hG _ _ h2⟩, ?_⟩
  refine for_it (wlen rfl walk_list) (fun i σ' H' => ∃ ρ', I i ρ' ∧ σ'.length = ρ'.length ∧ ρ'.length = ρ1.length ∧ Hold X.K b H' (σ'.zip ρ' ++ (some (.ref a), lrS X.K xs) :: L)) ⟨ρ1, i0, l1, rfl, h2.perm perm_in.symm⟩ (fun i σ' H' _ ⟨ρ', _, _, _, hh'⟩ => hG H' _ (hh'.perm perm_in)) (fun i x σ' H1' H2' hi ⟨ρ', hI, l', n', hh'⟩ hy => ?_) (fun σ' H' ⟨ρ', hI, l', n', hh'⟩ => k.nx ρ' σ' H' (hd ρ' hI) l' n' ((hh'.perm perm_in).drop))
  obtain ⟨e1, e2⟩ := hy
  subst e1
  have hz : Hold X.K b H2' ((some x, VF x) :: (σ'.zip ρ' ++ (some (V.ref a), lrS X.K xs) :: L)) := by
    obtain ⟨G2, g2⟩ := hh'
    exact ⟨G2, g2.addF rfl⟩
  refine hs i x ρ' e2 n' hI σ' H2' ((some (V.ref a), lrS X.K xs) :: L) x _ l' hz fun ρ2 σ2 H2 h3 l2 n2 _ hh2 => ?_
  exact h3 (n2.trans n') σ2 H2 _ { D with nx := _, ct := _, bk := D.nx } l2 hh2 ⟨fun ρ3 σ3 H3 z l3 n3 hh3 => ⟨ρ3, z, l3, n3.trans (n2.trans n'), hh3⟩, fun r ρ3 v σ3 H3 z l3 n3 hh3 => k.rt r ρ3 v σ3 H3 z l3 (n3.trans (n2.trans n')) ((hh3.perm (L' := (some (V.ref a), lrS X.K xs) :: ((some v, r) :: (σ3.zip ρ3 ++ L))) ((List.Perm.swap ..).trans (List.Perm.cons _ perm_in))).drop),
          fun ρ3 σ3 H3 z l3 n3 hh3 => k.nx ρ3 σ3 H3 z l3 (n3.trans (n2.trans n')) ((hh3.perm perm_in).drop), fun ρ3 σ3 H3 z l3 n3 hh3 => ⟨ρ3, z, l3, n3.trans (n2.trans n'), hh3⟩⟩
theorem var_F {K : PySem.W.Frag} {H : Hp} {σ : L2.St} {L : List Cl} {i : Nat} {x : V} (hh : Hold K b H (σ.zip ρ ++ L)) (l : σ.length = ρ.length) (hr : ρ[i]? = some (VF x)) : σ[i]? = some (some x) := by
  obtain ⟨x', hx, hm⟩ := zip_mem l hr
  obtain ⟨G, hg⟩ := hh
  obtain ⟨v, e, hv⟩ := hg.ok _ (List.mem_append_left _ hm)
  have hv : v = x := hv
  subst e hv
  exact hx
end
/-! ### the law that makes lambdas -/
def spL (K : PySem.W.Frag) (P : Addr) : Sp := fun vs H Q _ => ∃ (a : Addr) (ns : List Int), vs = [.ref a] ∧ ns.length ≤ 63 ∧ SqL K H a (ns.map V.int) ∧ H P = some (.tbl #[]) ∧ (∀ b, H b = none ∨ b = P ∨ ∃ o xs, H b = some (.frz o (.lst xs))) ∧ ∀ H', Q (.bl true) H'
theorem hold_law {K : PySem.W.Frag} {P a : Addr} {H : Hp} {ns : List Int} (hs : SqL K H a (ns.map V.int)) (hP : H P = some (.tbl #[])) (ho : ∀ b, H b = none ∨ b = P ∨ ∃ o xs, H b = some (.frz o (.lst xs))) :
    Hold K ⟨fun c => if c = P then none else H c, H, [P]⟩ H [(some (.ref a), .d (.list (ns.map .int)))] ∧ LamB ⟨fun c => if c = P then none else H c, H, [P]⟩ P := by
  have up : Same (fun c => if c = P then none else H c) H := fun c o e => by
    dsimp only at e
    split at e
    · cases e
    · exact e
  have hd : ∀ ms : List Int, DpAll K (fun c => if c = P then none else H c) (ms.map V.int) (ms.map PyData.int) := by
    intro ms
    induction ms with
    | nil => exact .nil
    | cons n l ih => exact .cons (.int n) ih
  have hs' : SqL K (fun c => if c = P then none else H c) a (ns.map V.int) := by
    rcases hs with (h | ⟨o, h⟩) | h
    · have ne : a ≠ P := fun e => by rw [e, hP] at h; cases h
      exact .inl (.inl ((if_neg ne).trans h))
    · have ne : a ≠ P := fun e => by rw [e, hP] at h; cases h
      exact .inl (.inr ⟨o, (if_neg ne).trans h⟩)
    · exact .inr h
  refine ⟨⟨fun c => if c = P then none else H c, ⟨Same.refl _, up, fun a o e => .inl e, fun a o e _ => e, fun c hc => ?_, fun c hc => ?_, by simp [ads], fun c o e => ?_⟩⟩, ⟨rfl, LamX.TabS.nil hP, fun c ps e => ?_⟩⟩
  · rw [List.mem_singleton.mp hc]
    exact ⟨by show (H P).isSome = true; rw [hP]; rfl, TbOk.refl _ _⟩
  · rw [List.mem_singleton.mp hc]
    exact ⟨.ref a, rfl, .lst hs' (hd ns)⟩
  · have e' := up _ _ e
    rcases ho c with h | h | ⟨o', xs, h⟩
    · rw [h] at e'; cases e'
    · have e : (if c = P then none else H c) = some o := e
      rw [if_pos h] at e
      cases e
    · rw [h] at e'
      cases e'
      exact .inr (.inr rfl)
  · rcases ho c with h | h | ⟨o', xs, h⟩
    · rw [show H c = some (.tbl ps) from e] at h; cases h
    · exact h
    · rw [show H c = some (.tbl ps) from e] at h; cases h
theorem fn_PL {P : Program} {w : World} {K : PySem.W.Frag} {mg : Str → Option Value} {base : Heap} {x qual : Str} {st : Stmt} {f : Addr} {fd : FuncData} {N : List Str} {pn : Str} {k : Nat} {c T : Addr} (F : Fun K x qual st f fd) (S : FnScope N [pn] (defScope st)) (hc : fd.code = .ref c) (hN : 1 ≤ N.length)
    (h : ∀ (A : Around) (outer : List Env) (s : Shared) (H : Hp) (E : XK), A.guards = some [] → Room k (A.deeper (PyProof.Rows.envOfC qual (defScope st) s.heap.objs.size f (.ref c))) → ∀ (b : Bs) (ns : List Int), LamB b T → ns.length ≤ 63 → XB (cxOf CX0 P w K mg base N qual (defScope st) f (.ref c) A outer s H E).nox b (.d (.list (ns.map .int)) :: List.replicate (N.length - 1) .un) (defBody st)
      ⟨fun _ => False, fun r _ => r = .d (.bool true), fun _ => False, fun _ => False⟩) : RunG P w K mg base CX0 (k + 1) f fd [pn] (spL K T) := by
  obtain ⟨oc, od, kV, doc, pm, an, cdv, ct, osl, rfl, lk, hcd⟩ := F.ex
  have hc : cdv = .ref c := hc
  subst hc
  refine runG_of lk hcd S (fun vs H Q E z => by obtain ⟨a, ns, rfl, _⟩ := z; rfl) fun A outer s H vs Q E hg hr z => ?_
  obtain ⟨a, ns, rfl, hn, hs, hP, ho, q⟩ := z
  obtain ⟨hold, lb⟩ := hold_law hs hP ho
  obtain ⟨t, ht, hq⟩ := h A outer s H E hg hr _ ns lb hn (L2.start N [.ref a]) H [] { nx := fun _ H' => Q .non H', rt := Q } (by unfold L2.start; simp)
    (by
      rw [List.append_nil]
      have e := zip_start (N := N) (vs := [V.ref a]) (as := [Sl.d (.list (ns.map .int))]) rfl
      have e2 : ([Sl.d (.list (ns.map .int))] ++ List.replicate (N.length - [Sl.d (.list (ns.map .int))].length) Sl.un) = (Sl.d (.list (ns.map .int)) :: List.replicate (N.length - 1) Sl.un) := rfl
      rw [← e2, e]
      exact hold_start _ hold)
    ⟨fun _ _ _ z => z.elim, fun r ρ' v σ' H' hn l' n' hh => by
      subst hn
      have e := hh.isB
      subst e
      exact q H', fun _ _ _ z => z.elim, fun _ _ _ z => z.elim⟩
  exact ⟨t, ht.nox, hq⟩
section
variable {X : Cx} {b : Bs} {ρ : List Sl}
theorem hold_set {K : PySem.W.Frag} {H : Hp} {σ : L2.St} {L : List Cl} {i : Nat} {v : V} {r : Sl} (li : i < ρ.length) (l : σ.length = ρ.length) (h : Hold K b H ((some v, r) :: (σ.zip ρ ++ L))) : Hold K b H ((σ.set i (some v)).zip (ρ.set i r) ++ L) := by
  obtain ⟨c, M, p1, p2⟩ := zip_set (r := r) (x := some v) li l
  have h2 : Hold K b H (c :: ((some v, r) :: (M ++ L))) := h.perm ((List.Perm.swap ..).trans (List.Perm.cons _ (p1.symm.append_right L)))
  exact h2.drop.perm (p2.append_right L)
theorem xs_par3 (i j m : Nat) {p : Po} {x y z : Str} {e1 e2 e3 : Expr} {px py pz pt pos : Pos} {kt k2 : Nat} {pt2 : Pos} (hc : X.calm = true) (hN : X.N.Nodup) (hi : X.N[i]? = some x) (hj : X.N[j]? = some y) (hm : X.N[m]? = some z) (hij : i ≠ j) (him : i ≠ m) (hjm : j ≠ m) (li : i < ρ.length) (lj : j < ρ.length) (lm : m < ρ.length)
    (hx : X.env.scope.names.lookup x = some .local) (hy : X.env.scope.names.lookup y = some .local) (hz : X.env.scope.names.lookup z = some .local) (h : EA X b ρ [e1, e2, e3] fun rs ρ' => ρ'.length = ρ.length → ∃ r1 r2 r3, rs = [r1, r2, r3] ∧ p.nx (((ρ'.set i r1).set j r2).set m r3))
    (hw : swappedStores [.Tuple [.Name x px, .Name y py, .Name z pz] kt pt] (.Tuple [e1, e2, e3] k2 pt2) X.env = pure (some [x, y, z]))
    (hs : swapsWithSole [.Tuple [.Name x px, .Name y py, .Name z pz] kt pt] (.Tuple [e1, e2, e3] k2 pt2) pos.line X.env = pure false := by rfl) :
    XS X b ρ (.Assign [.Tuple [.Name x px, .Name y py, .Name z pz] kt pt] (.Tuple [e1, e2, e3] k2 pt2) pos) p := fun σ H L D l hh k =>
  ⟨_, ps_par3 hc hN hi hj hm hij him hjm hx hy hz (wa_pa _) hw hs, h σ H L _ l hh fun rs ρ' vs H' h1 l' lv hh' => by
    have n' := l'.symm.trans l
    obtain ⟨r1, r2, r3, er, hp⟩ := h1 n'
    subst er
    match vs, lv with
    | [v1, v2, v3], _ =>
      refine ⟨v1, v2, v3, rfl, k.nx _ _ H' hp (by simp [l']) (by simp [n']) ?_⟩
      have hh2 : Hold X.K b H' ((some v1, r1) :: (some v2, r2) :: (some v3, r3) :: (σ.zip ρ' ++ L)) := hh'
      have q1 : Hold X.K b H' ((σ.set i (some v1)).zip (ρ'.set i r1) ++ ((some v2, r2) :: (some v3, r3) :: L)) := hold_set (L := (some v2, r2) :: (some v3, r3) :: L) (by rw [n']; exact li) l' (hh2.perm (by
        refine List.Perm.cons _ ?_
        exact (List.perm_append_comm (l₁ := σ.zip ρ') (l₂ := (some v2, r2) :: (some v3, r3) :: L)).trans (by
          show ((some v2, r2) :: (some v3, r3) :: (L ++ σ.zip ρ')).Perm ((some v2, r2) :: (some v3, r3) :: (σ.zip ρ' ++ L))
          exact List.Perm.cons _ (List.Perm.cons _ List.perm_append_comm))))
      have q2 : Hold X.K b H' (((σ.set i (some v1)).set j (some v2)).zip ((ρ'.set i r1).set j r2) ++ ((some v3, r3) :: L)) := hold_set (L := (some v3, r3) :: L) (by rw [List.length_set, n']; exact lj) (by simp [l']) (q1.perm (by
        exact (List.perm_middle (a := (some v2, r2)) (l₁ := (σ.set i (some v1)).zip (ρ'.set i r1)) (l₂ := (some v3, r3) :: L)).symm))
      exact hold_set (by rw [List.length_set, List.length_set, n']; exact lm) (by simp [l']) (q2.perm (List.perm_middle (a := (some v3, r3)) (l₁ := ((σ.set i (some v1)).set j (some v2)).zip ((ρ'.set i r1).set j r2)) (l₂ := L)).symm)⟩
end

end DE

namespace DE
open PySem PySem.Spec PyProof.Rows L2 SZ VR VX StX RT
/-! ### behind a call of the elder kind that hands back own objects -/
section
variable {K : PySem.W.Frag}
def KpO (G' : Hp) (b : Addr) (o : HO) : Prop := flatO o = true ∨ (∃ C dx fs, o = .ins C dx fs ∧ G' dx = some (.own b)) ∨ ∃ x C fs, o = .own x ∧ G' x = some (.ins C b fs)
open Classical in
/-- what is new, own objects among it -/
noncomputable def fltO (G G' : Hp) : Hp := fun b => match G b with
  | some o => some o
  | none => match G' b with
    | some o => if KpO G' b o then some o else none
    | none => none
theorem fltO_same {G G' : Hp} : Same G (fltO G G') := fun b o e => by unfold fltO; rw [e]
theorem fltO_in {G G' : Hp} (s : Same G G') {b : Addr} {o : HO} (e : G' b = some o) (hf : KpO G' b o) : fltO G G' b = some o := by
  unfold fltO
  cases q : G b with
  | some u =>
    have := s b u q
    rw [e] at this
    cases this
    rfl
  | none =>
    rw [e]
    exact if_pos hf
theorem fltO_new {G G' : Hp} {b : Addr} {o : HO} (q : G b = none) (e : fltO G G' b = some o) : G' b = some o ∧ KpO G' b o := by
  unfold fltO at e
  rw [q] at e
  cases r : G' b with
  | none => rw [r] at e; cases e
  | some u =>
    rw [r] at e
    by_cases h : KpO G' b u
    · simp [h] at e
      subst e
      exact ⟨rfl, h⟩
    · simp [h] at e
theorem fltO_up {G G' : Hp} (s : Same G G') : Same (fltO G G') G' := fun b o e => by
  cases q : G b with
  | some u =>
    have h : fltO G G' b = some u := fltO_same b u q
    rw [h] at e
    cases e
    exact s b _ q
  | none => exact (fltO_new q e).1
theorem fltO_fl {G G' : Hp} (s : Same G G') (f : FlO G) : FlO (fltO G G') := fun b o e => by
  cases q : G b with
  | some u =>
    have h : fltO G G' b = some u := fltO_same b u q
    rw [h] at e
    cases e
    rcases f b _ q with ⟨C, dx, fs, e1, e2⟩ | ⟨x, e1, e2⟩ | h
    · exact .inl ⟨C, dx, fs, e1, fltO_same _ _ e2⟩
    · refine .inr (.inl ⟨x, e1, ?_⟩)
      cases r : G x with
      | none => rw [r] at e2; cases e2
      | some o => rw [fltO_same _ _ r]; rfl
    · exact .inr (.inr h)
  | none =>
    obtain ⟨e1, hk⟩ := fltO_new q e
    rcases hk with h | ⟨C, dx, fs, rfl, e2⟩ | ⟨x, C, fs, rfl, e2⟩
    · exact .inr (.inr h)
    · exact .inl ⟨C, dx, fs, rfl, fltO_in s e2 (.inr (.inr ⟨b, C, fs, rfl, e1⟩))⟩
    · refine .inr (.inl ⟨x, rfl, ?_⟩)
      rw [fltO_in s e2 (.inr (.inl ⟨C, b, fs, rfl, e1⟩))]
      rfl
theorem fltO_rd {G G' : Hp} (s : Same G G') {a : Addr} {u : HO} (h : Rd G' a u) (hf : flatO u = true) : Rd (fltO G G') a u := by
  rcases h with h | ⟨o, h⟩
  · exact .inl (fltO_in s h (.inl hf))
  · exact .inr ⟨o, fltO_in s h (.inl hf)⟩
theorem fltO_tup {G G' : Hp} (s : Same G G') {a : Addr} {xs : List V} (h : SqT K G' a xs) : SqT K (fltO G G') a xs := h.imp (fun z => fltO_rd s z rfl) id
mutual
theorem fltO_dp {G G' : Hp} (s : Same G G') : ∀ {v : V} {y : PyData}, Dp K G' v y → Dp K (fltO G G') v y
  | _, _, .non => .non
  | _, _, .bl b => .bl b
  | _, _, .int i => .int i
  | _, _, .str x => .str x
  | _, _, .lst h1 h2 => .lst (h1.imp (fun z => fltO_rd s z rfl) id) (fltO_dpA s h2)
  | _, _, .tup h1 h2 => .tup (h1.imp (fun z => fltO_rd s z rfl) id) (fltO_dpA s h2)
theorem fltO_dpA {G G' : Hp} (s : Same G G') : ∀ {vs : List V} {ys : List PyData}, DpAll K G' vs ys → DpAll K (fltO G G') vs ys
  | _, _, .nil => .nil
  | _, _, .cons h1 h2 => .cons (fltO_dp s h1) (fltO_dpA s h2)
end
theorem HoldG.oldF {b : Bs} {G G' H H' : Hp} {v : V} {φ : V → Hp → Prop} {st} {L : List Cl} (h : HoldG K b G H L) (s : Same G G') (d : φ v (fltO G G')) (h1 : Same G' H') (h2 : ∀ b o, H b = some o → G b = none → H' b = some o) (h3 : ∀ b o, G' b = some o → (G b).isSome = true ∨ H b = none) : Hold K ⟨G, H, []⟩ H' [(some v, .fact φ st)] :=
  ⟨fltO G G', fltO_same, (fltO_up s).trans h1, fun a o e => (h3 a o (fltO_up s a o e)).imp (fun z => by
      cases q : G a with
      | none => rw [q] at z; cases z
      | some o' => rw [fltO_same a o' q] at e; cases e; exact q) id, fun a o e _ => by
      cases q : G a with
      | none => exact h2 a o e q
      | some o' =>
        have e1 := h.up a o' q
        have e2 : H a = some o := e
        rw [e2] at e1
        cases e1
        exact h1 a o (s a o q), fun a ha => (nomatch ha), fun c hc => by
      rw [List.mem_singleton.mp hc]
      exact ⟨v, rfl, d⟩, by cases v <;> simp [ads], fltO_fl s h.fl⟩
end
/-! ### calls with keywords alone -/
theorem _root_.VX.FnW.frm {P : Program} {w : World} {K : PySem.W.Frag} {mg : Str → Option Value} {base : Heap} {k : Nat} {f : Addr} {ks : List Str} {sp : Sp} (F : FnW P w K mg base CX0 k f ks sp) : FnW P w K mg base CX0 k f ks (DE.frm sp) :=
  fun A outer s H us vs Q E hr e0 r hl h => DE.frm_run (fun H Q e1 h1 => F A outer s H us vs Q E hr e1 r hl h1) e0 h
theorem _root_.VX.FnW.imp {CX : CXT} {P : Program} {w : World} {K : PySem.W.Frag} {mg : Str → Option Value} {base : Heap} {k : Nat} {f : Addr} {ks : List Str} {sp sp' : Sp} (F : FnW P w K mg base CX k f ks sp) (h : ∀ vs H Q E, sp' vs H Q E → sp vs H Q E) : FnW P w K mg base CX k f ks sp' :=
  fun A outer s H us vs Q E hr e0 r hl hh => F A outer s H us vs Q E hr e0 r hl (h _ _ _ _ hh)
def WK (X : Cx) (kws : List Keyword) (σ : L2.St) (H : Hp) (Q : List V → Hp → Prop) : Prop := ∃ t, PK X kws t ∧ t σ H Q
theorem wk_pk {X : Cx} (kws : List Keyword) : PK X kws (WK X kws) := ⟨fun pos pins s σ H Q I ⟨_, h, q⟩ => h.run pos pins s σ H Q I q⟩
def EK (X : Cx) (b : Bs) (ρ : List Sl) (kws : List Keyword) (p : List Sl → List Sl → Prop) : Prop := ∀ σ H L Q, σ.length = ρ.length → Hold X.K b H (σ.zip ρ ++ L) →
  (∀ rs ρ' vs H', p rs ρ' → σ.length = ρ'.length → vs.length = rs.length → Hold X.K b H' ((vs.map some).zip rs ++ (σ.zip ρ' ++ L)) → Q vs H') → WK X kws σ H Q
def EKr (X : Cx) (b : Bs) (ρ : List Sl) (kws : List Keyword) (rs : List Sl) : Prop := ∀ p : List Sl → List Sl → Prop, p rs ρ → EK X b ρ kws p
section
variable {X : Cx} {b : Bs} {ρ : List Sl} {e : Expr} {kws : List Keyword} {r : Sl}
theorem k_nil : EKr X b ρ [] [] := fun p h σ H L Q l hh k => ⟨_, pk_nil, k [] ρ [] H h l rfl hh⟩
theorem k_cons {rs : List Sl} {nm : Option Str} {kpos : Pos} (h1 : EVr X b ρ e r) (h2 : EKr X b ρ kws rs) : EKr X b ρ (⟨nm, e, kpos⟩ :: kws) (r :: rs) := fun p hp σ H L Q l hh k =>
  ⟨_, pk_cons (we_pe e) (wk_pk kws), h1 (fun r' ρ' => r' = r ∧ ρ' = ρ) ⟨rfl, rfl⟩ σ H L _ l hh fun r' ρ' v H' ⟨er, eρ⟩ l' hh' => by
    subst er eρ
    exact h2 (fun rs' ρ2 => rs' = rs ∧ ρ2 = ρ') ⟨rfl, rfl⟩ σ H' ((some v, r') :: L) _ l' (hh'.perm perm_in.symm) fun rs' ρ2 vs H2 ⟨e1, e2⟩ l2 lv hh2 => by
      subst e1 e2
      exact k (r' :: rs') ρ2 (v :: vs) H2 hp l2 (by simp [lv]) (by
        rw [List.map_cons, List.zip_cons_cons, List.cons_append]
        refine hh2.perm ?_
        rw [← List.append_assoc, ← List.append_assoc]
        exact perm_in)⟩
theorem r_callW {CX : CXT} {k : Nat} {f : Addr} {ks : List Str} {Pre : List Sl → Prop} {Res : List Sl → Sl → Prop} {x : Str} {p1 pos : Pos} {rs : List Sl} (F : FnW X.prog X.w X.K X.mg X.base CX k f ks (spP X.K Pre Res)) (hr : Room k X.A) (hm : X.mg x = some (.ref f)) (hk : PySem.W.keepIn X.K (.ref f) = true) {E : XK} (hx : Passes CX X E)
    (h : EKr X b ρ kws rs) (hl : rs.length = ks.length) (hf : ∀ r ∈ rs.map cool, flatS r = true) (h1 : Pre (rs.map cool)) (h2 : ∀ r', Res (rs.map cool) r' → r' = r) (nb : ∀ ys, r ≠ .bor ys := by intro _; nofun) (hg : Gl X x := by rfl)
    (hall : (backToKw pos (keywordEach kws X.env)).all (·.1.isSome) = true := by rfl) (hks : (backToKw pos (keywordEach kws X.env)).filterMap (·.1) = ks := by rfl) (hdb : (x == ("__debug__" : Str)) = false := by decide)
    (hpl : ((backTo pos (starEach [] X.env)).any (·.1) || (backToKw pos (keywordEach kws X.env)).any (·.1.isNone)) = false := by rfl) : EVr X b ρ (.Call (.Name x p1) [] kws pos) r := fun p hp σ H L Q l hh q =>
  ⟨_, pe_callW F hr hk hg hm hx (wk_pk kws) hall hks hdb hpl, h (fun rs' ρ' => rs' = rs ∧ ρ' = ρ) ⟨rfl, rfl⟩ σ H L _ l hh fun rs' ρ' vs H' ⟨e1, e2⟩ l' lv hh' => by
    subst e1 e2
    obtain ⟨G, hG⟩ := hh'.coolAll
    refine ⟨lv.trans hl, G, rs'.map cool, by simp [lv], HoldG.sub0 hG (flat_zip hf), h1, fun r' hr' n v H2 hh2 => ?_⟩
    have e := h2 r' hr'
    subst e
    exact q r' ρ' v H2 hp l' (hG.dropM.after hh2 n)⟩
end

end DE

namespace K82
open PySem L2 SZ VR VX StX RT
def top (i : Nat) : Stmt := PySem.Challenge.pw_farmisses_k82_texts_of_conditions.main.body.getD i (.Pass ⟨0, 0, 0, 0⟩)
abbrev S_InvalidText___init__ : Stmt := inClass (top 2) 0
theorem sc_InvalidText___init__ : FnScope ["self", "value"] ["self", "value"] (defScope S_InvalidText___init__) := ⟨rfl, rfl, rfl, by decide +kernel, rfl, by decide +kernel, by decide +kernel⟩
abbrev S_InvalidSyntax___init__ : Stmt := inClass (top 3) 0
theorem sc_InvalidSyntax___init__ : FnScope ["self", "position"] ["self", "position"] (defScope S_InvalidSyntax___init__) := ⟨rfl, rfl, rfl, by decide +kernel, rfl, by decide +kernel, by decide +kernel⟩
abbrev S_UnknownName___init__ : Stmt := inClass (top 4) 0
theorem sc_UnknownName___init__ : FnScope ["self", "name"] ["self", "name"] (defScope S_UnknownName___init__) := ⟨rfl, rfl, rfl, by decide +kernel, rfl, by decide +kernel, by decide +kernel⟩
abbrev S_TooLarge___init__ : Stmt := inClass (top 5) 0
theorem sc_TooLarge___init__ : FnScope ["self", "word"] ["self", "word"] (defScope S_TooLarge___init__) := ⟨rfl, rfl, rfl, by decide +kernel, rfl, by decide +kernel, by decide +kernel⟩
abbrev S_InvalidQuestion___init__ : Stmt := inClass (top 6) 0
theorem sc_InvalidQuestion___init__ : FnScope ["self", "position"] ["self", "position"] (defScope S_InvalidQuestion___init__) := ⟨rfl, rfl, rfl, by decide +kernel, rfl, by decide +kernel, by decide +kernel⟩
abbrev S_is_word : Stmt := top 12
theorem sc_is_word : FnScope ["text"] ["text"] (defScope S_is_word) := ⟨rfl, rfl, rfl, by decide +kernel, rfl, by decide +kernel, by decide +kernel⟩
abbrev S_is_number : Stmt := top 13
theorem sc_is_number : FnScope ["text", "character"] ["text"] (defScope S_is_number) := ⟨rfl, rfl, rfl, by decide +kernel, rfl, by decide +kernel, by decide +kernel⟩
abbrev S_end_of_run : Stmt := top 14
theorem sc_end_of_run : FnScope ["text", "begin", "end"] ["text", "begin"] (defScope S_end_of_run) := ⟨rfl, rfl, rfl, by decide +kernel, rfl, by decide +kernel, by decide +kernel⟩
abbrev S_tokens_of : Stmt := top 15
theorem sc_tokens_of : FnScope ["text", "found", "at", "end"] ["text"] (defScope S_tokens_of) := ⟨rfl, rfl, rfl, by decide +kernel, rfl, by decide +kernel, by decide +kernel⟩
abbrev S_Reader___init__ : Stmt := inClass (top 16) 0
theorem sc_Reader___init__ : FnScope ["self", "text"] ["self", "text"] (defScope S_Reader___init__) := ⟨rfl, rfl, rfl, by decide +kernel, rfl, by decide +kernel, by decide +kernel⟩
abbrev S_Reader_token : Stmt := inClass (top 16) 1
theorem sc_Reader_token : FnScope ["self", "token", "_"] ["self"] (defScope S_Reader_token) := ⟨rfl, rfl, rfl, by decide +kernel, rfl, by decide +kernel, by decide +kernel⟩
abbrev S_Reader_place : Stmt := inClass (top 16) 2
theorem sc_Reader_place : FnScope ["self", "_", "place"] ["self"] (defScope S_Reader_place) := ⟨rfl, rfl, rfl, by decide +kernel, rfl, by decide +kernel, by decide +kernel⟩
abbrev S_Reader_pass_any : Stmt := inClass (top 16) 3
theorem sc_Reader_pass_any : FnScope ["self", "token"] ["self"] (defScope S_Reader_pass_any) := ⟨rfl, rfl, rfl, by decide +kernel, rfl, by decide +kernel, by decide +kernel⟩
abbrev S_Reader_passes : Stmt := inClass (top 16) 4
theorem sc_Reader_passes : FnScope ["self", "token"] ["self", "token"] (defScope S_Reader_passes) := ⟨rfl, rfl, rfl, by decide +kernel, rfl, by decide +kernel, by decide +kernel⟩
abbrev S_Reader_pass_only : Stmt := inClass (top 16) 5
theorem sc_Reader_pass_only : FnScope ["self", "token"] ["self", "token"] (defScope S_Reader_pass_only) := ⟨rfl, rfl, rfl, by decide +kernel, rfl, by decide +kernel, by decide +kernel⟩
abbrev S_Reader_pass_one : Stmt := inClass (top 16) 6
theorem sc_Reader_pass_one : FnScope ["self", "tokens"] ["self", "tokens"] (defScope S_Reader_pass_one) := ⟨rfl, rfl, rfl, by decide +kernel, rfl, by decide +kernel, by decide +kernel⟩
abbrev S_Reader_pass_number : Stmt := inClass (top 16) 7
theorem sc_Reader_pass_number : FnScope ["self"] ["self"] (defScope S_Reader_pass_number) := ⟨rfl, rfl, rfl, by decide +kernel, rfl, by decide +kernel, by decide +kernel⟩
abbrev S_Reader_pass_end : Stmt := inClass (top 16) 8
theorem sc_Reader_pass_end : FnScope ["self"] ["self"] (defScope S_Reader_pass_end) := ⟨rfl, rfl, rfl, by decide +kernel, rfl, by decide +kernel, by decide +kernel⟩
abbrev S_is_name : Stmt := top 19
theorem sc_is_name : FnScope ["value"] ["value"] (defScope S_is_name) := ⟨rfl, rfl, rfl, by decide +kernel, rfl, by decide +kernel, by decide +kernel⟩
abbrev S_Condition___init__ : Stmt := inClass (top 26) 0
theorem sc_Condition___init__ : FnScope ["self", "parts"] ["self", "parts"] (defScope S_Condition___init__) := ⟨rfl, rfl, rfl, by decide +kernel, rfl, by decide +kernel, by decide +kernel⟩
abbrev S_Condition_parts : Stmt := inClass (top 26) 1
theorem sc_Condition_parts : FnScope ["self"] ["self"] (defScope S_Condition_parts) := ⟨rfl, rfl, rfl, by decide +kernel, rfl, by decide +kernel, by decide +kernel⟩
abbrev S_Condition___call__ : Stmt := inClass (top 26) 2
theorem sc_Condition___call__ : FnScope ["self", "row", "word", "one", "other"] ["self", "row"] (defScope S_Condition___call__) := ⟨rfl, rfl, rfl, by decide +kernel, rfl, by decide +kernel, by decide +kernel⟩
abbrev S_Condition___and__ : Stmt := inClass (top 26) 3
theorem sc_Condition___and__ : FnScope ["self", "other"] ["self", "other"] (defScope S_Condition___and__) := ⟨rfl, rfl, rfl, by decide +kernel, rfl, by decide +kernel, by decide +kernel⟩
abbrev S_Condition___or__ : Stmt := inClass (top 26) 4
theorem sc_Condition___or__ : FnScope ["self", "other"] ["self", "other"] (defScope S_Condition___or__) := ⟨rfl, rfl, rfl, by decide +kernel, rfl, by decide +kernel, by decide +kernel⟩
abbrev S_Condition___invert__ : Stmt := inClass (top 26) 5
theorem sc_Condition___invert__ : FnScope ["self"] ["self"] (defScope S_Condition___invert__) := ⟨rfl, rfl, rfl, by decide +kernel, rfl, by decide +kernel, by decide +kernel⟩
abbrev S_Condition___eq__ : Stmt := inClass (top 26) 6
theorem sc_Condition___eq__ : FnScope ["self", "other"] ["self", "other"] (defScope S_Condition___eq__) := ⟨rfl, rfl, rfl, by decide +kernel, rfl, by decide +kernel, by decide +kernel⟩
abbrev S_where : Stmt := top 27
theorem sc_where : FnScope ["wanted", "found", "word", "value", "one"] ["wanted"] (defScope S_where) := ⟨rfl, rfl, rfl, by decide +kernel, rfl, by decide +kernel, by decide +kernel⟩
abbrev S_read_condition : Stmt := top 28
theorem sc_read_condition : FnScope ["text", "reader", "found", "wrong"] ["text"] (defScope S_read_condition) := ⟨rfl, rfl, rfl, by decide +kernel, rfl, by decide +kernel, by decide +kernel⟩
abbrev S_condition : Stmt := top 29
theorem sc_condition : FnScope ["reader", "depth", "found"] ["reader", "depth"] (defScope S_condition) := ⟨rfl, rfl, rfl, by decide +kernel, rfl, by decide +kernel, by decide +kernel⟩
abbrev S_both : Stmt := top 30
theorem sc_both : FnScope ["reader", "depth", "found"] ["reader", "depth"] (defScope S_both) := ⟨rfl, rfl, rfl, by decide +kernel, rfl, by decide +kernel, by decide +kernel⟩
abbrev S_one : Stmt := top 31
theorem sc_one : FnScope ["reader", "depth", "found", "word"] ["reader", "depth"] (defScope S_one) := ⟨rfl, rfl, rfl, by decide +kernel, rfl, by decide +kernel, by decide +kernel⟩
abbrev S_value : Stmt := top 32
theorem sc_value : FnScope ["reader", "field"] ["reader", "field"] (defScope S_value) := ⟨rfl, rfl, rfl, by decide +kernel, rfl, by decide +kernel, by decide +kernel⟩
abbrev S_law_pool : Stmt := top 34
theorem sc_law_pool : FnScope ["_law_script", "_law_k", "_law_cell", "_law_heavy", "_law_blend", "_law_seed"] ["_law_script", "_law_k"] (defScope S_law_pool) := ⟨rfl, rfl, rfl, by decide +kernel, rfl, by decide +kernel, by decide +kernel⟩
abbrev S_law_take : Stmt := top 35
theorem sc_law_take : FnScope ["_law_pool_here", "_law_wide", "_law_result"] ["_law_pool_here", "_law_wide"] (defScope S_law_take) := ⟨rfl, rfl, rfl, by decide +kernel, rfl, by decide +kernel, by decide +kernel⟩
abbrev S_law_atoms : Stmt := top 36
theorem sc_law_atoms : FnScope ["_law_pool_here", "_law_kinds", "_law_some"] ["_law_pool_here"] (defScope S_law_atoms) := ⟨rfl, rfl, rfl, by decide +kernel, rfl, by decide +kernel, by decide +kernel⟩
abbrev S_law_form : Stmt := top 37
theorem sc_law_form : FnScope ["_law_pool_here", "_law_depth", "_law_way"] ["_law_pool_here", "_law_depth"] (defScope S_law_form) := ⟨rfl, rfl, rfl, by decide +kernel, rfl, by decide +kernel, by decide +kernel⟩
abbrev S_law_words : Stmt := top 38
theorem sc_law_words : FnScope ["_law_form_here", "_law_rank", "_law_own", "_law_found"] ["_law_form_here", "_law_rank"] (defScope S_law_words) := ⟨rfl, rfl, rfl, by decide +kernel, rfl, by decide +kernel, by decide +kernel⟩
abbrev S_law_is_like : Stmt := top 39
theorem sc_law_is_like : FnScope ["_law_condition", "_law_form_here", "_law_parts"] ["_law_condition", "_law_form_here"] (defScope S_law_is_like) := ⟨rfl, rfl, rfl, by decide +kernel, rfl, by decide +kernel, by decide +kernel⟩
abbrev S_law_atom : Stmt := top 40
theorem sc_law_atom : FnScope ["_law_field", "_law_thing"] ["_law_field", "_law_thing"] (defScope S_law_atom) := ⟨rfl, rfl, rfl, by decide +kernel, rfl, by decide +kernel, by decide +kernel⟩
abbrev S_law_built : Stmt := top 41
theorem sc_law_built : FnScope ["_law_form_here", "_law_one", "_law_two"] ["_law_form_here"] (defScope S_law_built) := ⟨rfl, rfl, rfl, by decide +kernel, rfl, by decide +kernel, by decide +kernel⟩
abbrev S_law_text : Stmt := top 42
theorem sc_law_text : FnScope ["_law_pool_here", "_law_tokens", "_law_gaps", "_law_text_here", "_law_token", "_law_gap", "_law_is_tight"] ["_law_pool_here", "_law_tokens"] (defScope S_law_text) := ⟨rfl, rfl, rfl, by decide +kernel, rfl, by decide +kernel, by decide +kernel⟩
abbrev S_law_more : Stmt := top 43
theorem sc_law_more : FnScope ["_law_pool_here", "_law_form_here", "_law_found", "_law_turn"] ["_law_pool_here", "_law_form_here"] (defScope S_law_more) := ⟨rfl, rfl, rfl, by decide +kernel, rfl, by decide +kernel, by decide +kernel⟩
abbrev S_law : Stmt := top 44
theorem sc_law : FnScope ["_law_script", "_law_k", "_law_pool_here", "_law_turn", "_law_form_here", "_law_texts", "_law_text_here", "_law_told", "_law_more_here", "_law_one", "_law_two", "_law_three", "_law_words_here", "_law_link", "_law_due", "_law_loose"] ["_law_script"] (defScope S_law) := ⟨rfl, rfl, rfl, by decide +kernel, rfl, by decide +kernel, by decide +kernel⟩

/-! ### tokens: the signs -/
abbrev LET : Str := "abcdefghijklmnopqrstuvwxyz"
abbrev DIG : Str := "0123456789"
abbrev GAP : Str := " \n"
/-- a lowercase letter, a digit, either -/
def lc (c : Nat) : Bool := decide (c ∈ LET.cps.toList)
def dg (c : Nat) : Bool := decide (c ∈ DIG.cps.toList)
def gp (c : Nat) : Bool := decide (c ∈ GAP.cps.toList)
def an (c : Nat) : Bool := lc c || dg c
/-- the end of the run of letters and digits from b on -/
def runE (s : List Nat) (b : Nat) : Nat := b + ((s.drop b).takeWhile an).length
theorem runE_le {s : List Nat} {b : Nat} (h : b ≤ s.length) : runE s b ≤ s.length := by
  have h1 := (List.takeWhile_sublist an (l := s.drop b)).length_le
  rw [List.length_drop] at h1
  unfold runE
  omega
theorem runE_step {s : List Nat} {b : Nat} {c : Nat} (h : s[b]? = some c) (a : an c = true) : runE s b = runE s (b + 1) := by
  have hl : b < s.length := (List.getElem?_eq_some_iff.mp h).1
  have e : s.drop b = c :: s.drop (b + 1) := by
    rw [List.drop_eq_getElem_cons hl]
    congr 1
    have := List.getElem?_eq_getElem hl
    rw [h] at this
    exact (Option.some.inj this).symm
  unfold runE
  rw [e, List.takeWhile_cons, if_pos a, List.length_cons]
  omega
theorem runE_stop {s : List Nat} {b : Nat} {c : Nat} (h : s[b]? = some c) (a : an c = false) : runE s b = b := by
  have hl : b < s.length := (List.getElem?_eq_some_iff.mp h).1
  have e : s.drop b = c :: s.drop (b + 1) := by
    rw [List.drop_eq_getElem_cons hl]
    congr 1
    have := List.getElem?_eq_getElem hl
    rw [h] at this
    exact (Option.some.inj this).symm
  unfold runE
  rw [e, List.takeWhile_cons, if_neg (by rw [a]; exact Bool.false_ne_true)]
  rfl
theorem runE_end {s : List Nat} : runE s s.length = s.length := by
  unfold runE
  rw [List.drop_length]
  rfl
/-- the module's constants and Python's own names in it -/
structure TkB (mg : Str → Option Value) : Prop where
  let_ : ∃ t, mg "_LETTERS" = some (.str LET t)
  dig : ∃ t, mg "_DIGITS" = some (.str DIG t)
  gap : ∃ t, mg "_GAPS" = some (.str GAP t)
  len : mg "len" = none
  max : mg "max" = none
  all : mg "all" = none
def spEnd : Sp := fun vs H Q _ => ∃ (z : Str) (b : Nat), vs = [.str z, .int b] ∧ z.length ≤ 100000 ∧ b ≤ z.length ∧ Q (.int (runE z.cps.toList b : Nat)) H
theorem atN {α : Type} {xs : List α} {j : Nat} {x : α} (h : xs[j]? = some x) : atI xs (j : Int) = some x := by
  have hl : j < xs.length := (List.getElem?_eq_some_iff.mp h).1
  unfold atI
  rw [ixN_nat hl]
  exact h
theorem lenS {n : Nat} (h : n ≤ 100) : n ≤ sizeLine := smallL (by omega)
theorem zL {n : Nat} (h : n ≤ 100000) : n ≤ sizeLine := by rw [sizeLine_eq]; omega
section
variable {P : Program} {w : World} {K : PySem.W.Frag} {mg : Str → Option Value} {base : Heap}
theorem ok_end {f : Addr} {fd : FuncData} (F : Fun K "_end_of_run" "_end_of_run" S_end_of_run f fd) (B : TkB mg) : FnOk P w K mg base CX0 1 f fd ["text", "begin"] spEnd := by
  refine F.ok sc_end_of_run (fun vs H Q E h => ?_) (fun cdv A outer s H vs Q E hr h => ?_)
  · obtain ⟨z, b, rfl, _⟩ := h; rfl
  · obtain ⟨z, b, rfl, hz, hb, q⟩ := h
    obtain ⟨t1, m1⟩ := B.let_
    obtain ⟨t2, m2⟩ := B.dig
    refine ⟨_, pss_cons (ps_set (i := 2) sc_end_of_run.nd rfl (Or.inl rfl) (pv 1))
      (pss_cons (ps_while PassesOwn.never (PW.pt (pw_and (pt_cmpR op_lt (pv 2) (pe_callB call_len_str (by rfl) B.len PySem.boot_len (pa_cons (pv 0) pa_nil)) (nomark _))
          (pw_and1 (PW.pt (pw_or (pt_cmpR op_inS (pe_ix ix_str (pv 0) (pv 2) (fun _ _ => rfl)) (pe_glob (by rfl) m1 (v := .str LET) ⟨t1, rfl⟩) (by rfl))
            (pw_or1 (pt_cmpR op_inS (pe_ix ix_str (pv 0) (pv 2) (fun _ _ => rfl)) (pe_glob (by rfl) m2 (v := .str DIG) ⟨t2, rfl⟩) (by rfl))))))))
        (pss_one (ps_aug (i := 2) sc_end_of_run.nd rfl (.inl rfl) pe_int ip_add)))
      (pss_one (ps_ret (pv 2)))), ?_⟩
    refine ⟨_, rfl, ?_⟩
    have hsz : z.cps.toList.length = z.length := rfl
    refine ⟨fun m σ H' => ∃ e : Nat, m = z.length - e ∧ b ≤ e ∧ e ≤ z.length ∧ σ = [some (.str z), some (.int b), some (.int e)] ∧ H' = H ∧ runE z.cps.toList b = runE z.cps.toList e, ⟨_, b, rfl, Nat.le_refl _, hb, rfl, rfl, rfl⟩, ?_⟩
    rintro m σ H' ⟨e, rfl, hbe, hez, rfl, rfl, hrun⟩
    refine ⟨_, rfl, _, rfl, z, rfl, zL hz, _, _, rfl, rfl, _, rfl, ?_⟩
    have step : ∀ {c : Nat}, z.cps.toList[e]? = some c → an c = true → ∃ N : L2.St → Hp → Prop, (∀ σ' H'', N σ' H'' → ∃ m', m' < z.length - e ∧ ∃ e' : Nat, m' = z.length - e' ∧ b ≤ e' ∧ e' ≤ z.length ∧ σ' = [some (.str z), some (.int b), some (.int e')] ∧ H'' = H' ∧ runE z.cps.toList b = runE z.cps.toList e') ∧
        N [some (.str z), some (.int b), some (.int ((e : Int) + 1))] H' := fun {c} hc ha => by
      have hl : e < z.length := (List.getElem?_eq_some_iff.mp hc).1
      refine ⟨fun σ' H'' => σ' = [some (.str z), some (.int b), some (.int ((e + 1 : Nat) : Int))] ∧ H'' = H', ?_, ?_, rfl⟩
      · rintro σ' H'' ⟨rfl, rfl⟩
        exact ⟨_, by omega, e + 1, rfl, by omega, by omega, rfl, rfl, hrun.trans (runE_step hc ha)⟩
      · have e1 : ((e + 1 : Nat) : Int) = (e : Int) + 1 := by omega
        rw [e1]
    refine ite2 (fun h0 => ?_) (fun h0 => ?_)
    · have hl : e < z.length := by have := of_decide_eq_true h0; omega
      have hc : z.cps.toList[e]? = some (z.cps.toList[e]) := List.getElem?_eq_getElem hl
      generalize z.cps.toList[e] = c at hc
      refine ⟨_, rfl, _, rfl, z, _, c, rfl, rfl, zL hz, atN hc, c, LET, rfl, rfl, _, rfl, ?_⟩
      refine ite2 (fun h1 => ?_) (fun h1 => ?_)
      · obtain ⟨N, n1, n2⟩ := step hc (by unfold an lc; rw [h1]; rfl)
        exact ⟨N, n1, _, rfl, _, _, rfl, rfl, n2⟩
      · refine ⟨_, rfl, _, rfl, z, _, c, rfl, rfl, zL hz, atN hc, c, DIG, rfl, rfl, _, rfl, ?_⟩
        refine ite2 (fun h2 => ?_) (fun h2 => ?_)
        · obtain ⟨N, n1, n2⟩ := step hc (by unfold an dg; rw [h2, Bool.or_true])
          exact ⟨N, n1, _, rfl, _, _, rfl, rfl, n2⟩
        · have hs := runE_stop hc (by unfold an lc dg; rw [Bool.eq_false_iff.mpr h1, Bool.eq_false_iff.mpr h2]; rfl)
          rw [hs] at hrun
          rw [hrun] at q
          exact ⟨_, rfl, q⟩
    · have he : e = z.length := by
        have h1 : ¬ (e : Int) < (z.length : Int) := by simpa using h0
        omega
      subst he
      rw [hrun, ← hsz, runE_end] at q
      exact ⟨_, rfl, q⟩
/-- a lowercase letter, then letters and digits -/
def isW (s : List Nat) : Bool := match s with
  | [] => false
  | c :: r => lc c && r.all an
theorem takeWhile_all {α : Type} (p : α → Bool) : ∀ l : List α, ((l.takeWhile p).length = l.length) ↔ l.all p = true
  | [] => by simp
  | x :: l => by
    rw [List.takeWhile_cons, List.all_cons]
    cases h : p x with
    | false => simp
    | true => simp [takeWhile_all p l]
theorem isW_run {c : Nat} {r : List Nat} (h : lc c = true) : decide (runE (c :: r) 0 = (c :: r).length) = r.all an := by
  have ha : an c = true := by unfold an; rw [h]; rfl
  have e : runE (c :: r) 0 = 1 + (r.takeWhile an).length := by
    unfold runE
    rw [List.drop_zero, List.takeWhile_cons, if_pos ha, List.length_cons]
    omega
  rw [e, List.length_cons]
  have k := takeWhile_all an r
  cases h2 : r.all an with
  | true => rw [decide_eq_true_eq]; have := k.mpr h2; omega
  | false =>
    rw [decide_eq_false_iff_not]
    intro z
    have := k.mp (by omega)
    rw [h2] at this
    cases this
def spWord : Sp := fun vs H Q _ => ∃ z : Str, vs = [.str z] ∧ z.length ≤ 100000 ∧ Q (.bl (isW z.cps.toList)) H
theorem str_nil {z : Str} (h : z.cps.toList = []) : z = Str.empty := by
  obtain ⟨⟨l⟩⟩ := z
  simp only at h
  rw [h]
  rfl
theorem ok_is_word {f fE : Addr} {fd dE : FuncData} (F : Fun K "is_word" "is_word" S_is_word f fd) (FE : Fun K "_end_of_run" "_end_of_run" S_end_of_run fE dE) (bE : Binds K dE ["text", "begin"] []) (gE : mg "_end_of_run" = some (.ref fE)) (B : TkB mg) : FnOk P w K mg base CX0 2 f fd ["text"] spWord := by
  have GE : FnOk P w K mg base CX0 1 fE dE ["text", "begin"] spEnd := ok_end FE B
  refine F.ok sc_is_word (fun vs H Q E h => ?_) (fun cdv A outer s H vs Q E hr h => ?_)
  · obtain ⟨z, rfl, _⟩ := h; rfl
  · obtain ⟨z, rfl, hz, q⟩ := h
    obtain ⟨t1, m1⟩ := B.let_
    refine ⟨_, pss_one (ps_ret (pe_and (pe_cmpR op_ne (pv 0) pe_str (nomark _)) (pe_and (pe_cmpR op_inS (pe_ix ix_str (pv 0) pe_int (fun _ _ => rfl)) (pe_glob (by rfl) m1 (v := .str LET) ⟨t1, rfl⟩) (by rfl))
      (pe_one (pe_cmpR op_eq (pe_call GE hr (by rfl) gE FE.kp bE .nil pass0 (pa_cons (pv 0) (pa_cons pe_int pa_nil))) (pe_callB call_len_str (by rfl) B.len PySem.boot_len (pa_cons (pv 0) pa_nil)) (nomark _)))))), ?_⟩
    refine ⟨_, rfl, rfl, _, rfl, ?_⟩
    cases hs : z.cps.toList with
    | nil =>
      have e := str_nil hs
      subst e
      rw [hs] at q
      refine iteF q
    | cons c r =>
      have ne : z ≠ Str.ofString "" := fun e => by
        have e0 : (Str.ofString "").cps.toList = [] := by decide +kernel
        rw [e, e0] at hs
        cases hs
      rw [hs] at q
      rw [decide_eq_false (p := V.str z = V.str (Str.ofString "")) (fun e => ne (V.str.inj e))]
      refine iteT ?_
      refine ⟨_, rfl, z, 0, c, rfl, rfl, zL hz, by rw [hs]; exact atN (j := 0) rfl, c, LET, rfl, rfl, _, rfl, ?_⟩
      refine ite2 (fun h1 => ?_) (fun h1 => ?_)
      · refine ⟨_, rfl, z, 0, rfl, hz, Nat.zero_le _, ?_⟩
        refine ⟨_, rfl, z, rfl, zL hz, rfl, ?_⟩
        have e2 : decide (V.int ((runE z.cps.toList 0 : Nat) : Int) = V.int (z.length : Int)) = r.all an := by
          rw [← isW_run (c := c) (r := r) h1, hs]
          have hl : z.length = (c :: r).length := by rw [← hs]; rfl
          rw [hl]
          exact decide_eq_decide.mpr ⟨fun k => by have := V.int.inj k; omega, fun k => by rw [k]⟩
        rw [e2]
        have e3 : isW (c :: r) = r.all an := by
          show (decide (c ∈ LET.cps.toList) && r.all an) = _
          rw [h1, Bool.true_and]
        rw [← e3]
        exact q
      · have e3 : isW (c :: r) = false := by
          show (decide (c ∈ LET.cps.toList) && r.all an) = _
          rw [Bool.eq_false_iff.mpr h1, Bool.false_and]
        rw [e3] at q
        exact q
end

/-! ### numbers, the list of tokens -/
/-- decimal digits without leading zeros -/
def isN (s : List Nat) : Bool := match s with
  | [] => false
  | c :: r => !(decide (c = 48) && !r.isEmpty) && (c :: r).all dg
def spNum : Sp := fun vs H Q _ => ∃ z : Str, vs = [.str z] ∧ z.length ≤ 50000 ∧ ∀ H', Same H H' → Q (.bl (isN z.cps.toList)) H'
theorem one_str (c : Nat) : (⟨#[c]⟩ : Str).cps.toList = [c] := rfl
section
variable {P : Program} {w : World} {K : PySem.W.Frag} {mg : Str → Option Value} {base : Heap}
theorem ok_is_number {f : Addr} {fd : FuncData} (F : Fun K "is_number" "is_number" S_is_number f fd) (B : TkB mg) : FnOk P w K mg base CX0 1 f fd ["text"] spNum := by
  refine F.ok sc_is_number (fun vs H Q E h => ?_) (fun cdv A outer s H vs Q E hr h => ?_)
  · obtain ⟨z, rfl, _⟩ := h; rfl
  · obtain ⟨z, rfl, hz, q⟩ := h
    obtain ⟨t2, m2⟩ := B.dig
    have hzL : z.length ≤ sizeLine := zL (by omega)
    refine ⟨_, pss_cons (ps_if (PW.pt (pw_or (pt_cmpR op_eq (pv 0) pe_str (nomark _)) (pw_or1 (PW.pt (pw_and (pt_cmpR op_eq (pe_ix ix_str (pv 0) pe_int (fun _ _ => rfl)) pe_str (nomark _)) (pw_and1 (pt_cmpR op_ne (pv 0) pe_str (nomark _))))))))
        (pss_one (ps_ret pe_bl)) pss_nil)
      (pss_one (ps_ret (pe_callB (cr_all (by rfl)) (by rfl) B.all (by decide +kernel) (pa_cons
        (pe_lc (own := [("character", 1)]) (g := gName 1) (by rfl) sc_is_number.nd (pi_str (pv 0)) (blkOk_by (own := [("character", 1)]) (N := ["text", "character"]) (sc := defScope S_is_number) (by decide +kernel)) (fun _ _ _ _ _ => pg_name (i := 1) sc_is_number.nd rfl (Or.inl rfl)) (fun _ _ _ _ _ => pts_nil)
          (fun _ _ _ _ _ => pe_cmpR op_inS (pv 1) (pe_glob (by rfl) m2 (v := .str DIG) ⟨t2, rfl⟩) (by rfl))) pa_nil)))), ?_⟩
    refine ⟨_, rfl, rfl, _, rfl, ?_⟩
    cases hs : z.cps.toList with
    | nil =>
      have e := str_nil hs
      subst e
      have q := q H (Same.refl _)
      rw [hs] at q
      refine iteT ?_
      exact q
    | cons c r =>
      have ne : z ≠ Str.ofString "" := fun e => by
        have e0 : (Str.ofString "").cps.toList = [] := by decide +kernel
        rw [e, e0] at hs
        cases hs
      rw [decide_eq_false (p := V.str z = V.str (Str.ofString "")) (fun e => ne (V.str.inj e))]
      refine iteF ?_
      refine ⟨_, rfl, z, 0, c, rfl, rfl, hzL, by rw [hs]; exact atN (j := 0) rfl, rfl, _, rfl, ?_⟩
      have h0 : (Str.ofString "0") = ⟨#[48]⟩ := by decide +kernel
      have d1 : decide (V.str ⟨#[c]⟩ = V.str (Str.ofString "0")) = decide (c = 48) := by
        rw [h0]
        exact decide_eq_decide.mpr ⟨fun k => by have k := V.str.inj k; injection k with k; simpa using k, fun k => by rw [k]⟩
      have d2 : (!decide (V.str z = V.str (Str.ofString "0"))) = !decide (c = 48 ∧ r = []) := by
        rw [h0]
        congr 1
        refine decide_eq_decide.mpr ⟨fun k => ?_, fun k => ?_⟩
        · have k := V.str.inj k
          rw [k] at hs
          have k2 : [48] = c :: r := hs
          injection k2 with k3 k4
          exact ⟨k3.symm, k4.symm⟩
        · obtain ⟨rfl, rfl⟩ := k
          congr 1
          obtain ⟨⟨l⟩⟩ := z
          simp only at hs
          rw [hs]
      have q' : ∀ H', Same H H' → (decide (c = 48) && !r.isEmpty) = false → Q (.bl ((c :: r).all dg)) H' := fun H' s e => by
        have q := q H' s
        rw [hs] at q
        have e1 : isN (c :: r) = (c :: r).all dg := by
          show (!(decide (c = 48) && !r.isEmpty) && (c :: r).all dg) = _
          rw [e]
          rfl
        rw [← e1]
        exact q
      have walk : (decide (c = 48) && !r.isEmpty) = false → tRet (tCB (rAll K) (tCons (tLc (iStr (tVar 0)) (gName 1) tYes (tOp rInS (tVar 1) (tC (.str DIG))) [1]) tNil)) { nx := fun _ H' => Q .non H', rt := Q } [some (.str z), none] H := fun e => by
        refine ⟨_, rfl, z, rfl, fun D hD => lc_it (walk_str (z := z)) (fun i H' => H' D = some (.lst ((z.cps.toList.take i).map fun c => V.bl (dg c))) ∧ Same H H') ⟨upd_same, Same.new hD⟩ (fun _ _ _ _ => trivial) ?_ ?_⟩
        · rintro i x H1 H2 hi ⟨hd, s1⟩ ⟨rfl, d, hd2, rfl⟩
          have hl : z.cps.toList[i]? = some d := by rw [Array.getElem?_toList]; exact hd2
          refine ⟨rfl, ?_⟩
          refine ⟨_, rfl, d, DIG, rfl, rfl, _, hd, ?_, ?_, s1.upd0 hD⟩
          · rw [List.length_map, List.length_take]
            exact Nat.lt_of_le_of_lt (show _ ≤ 50000 by have : z.cps.size = z.length := rfl; omega) (by decide)
          · rw [upd_same, List.take_add_one, hl]
            simp [dg]
        · rintro H1 ⟨hd, s1⟩
          have hfull : z.cps.toList.take z.cps.size = c :: r := by
            rw [hs]
            have : z.cps.size = (c :: r).length := by rw [← hs]; rfl
            rw [this, List.take_length]
          rw [hfull] at hd
          refine ⟨D, (c :: r).map dg, rfl, .of (by rw [hd, List.map_map]; rfl), ?_⟩
          have := q' H1 s1 e
          rw [List.all_map]
          exact this
      rw [d1]
      refine ite2 (fun h1 => ?_) (fun h1 => ?_)
      · refine ⟨_, rfl, rfl, _, rfl, ?_⟩
        rw [d2]
        have hc : c = 48 := of_decide_eq_true h1
        cases r with
        | nil =>
          rw [decide_eq_true (p := c = 48 ∧ ([] : List Nat) = []) ⟨hc, rfl⟩]
          refine iteF ?_
          exact walk (by simp)
        | cons c2 r2 =>
          rw [decide_eq_false (p := c = 48 ∧ c2 :: r2 = []) (fun k => nomatch k.2)]
          refine iteT ?_
          have q := q H (Same.refl _)
          rw [hs] at q
          have e1 : isN (c :: c2 :: r2) = false := by
            show (!(decide (c = 48) && !(c2 :: r2).isEmpty) && (c :: c2 :: r2).all dg) = _
            rw [h1]
            rfl
          rw [e1] at q
          exact q
      · refine iteF ?_
        exact walk (by rw [Bool.eq_false_iff.mpr h1, Bool.false_and])
end

/-- where the next token may begin -/
def nxt (s : List Nat) (a : Nat) : Nat := max (a + 1) (runE s a)
theorem nxt_gt (s : List Nat) (a : Nat) : a < nxt s a := Nat.lt_of_lt_of_le (Nat.lt_succ_self a) (Nat.le_max_left _ _)
theorem nxt_le {s : List Nat} {a : Nat} (h : a < s.length) : nxt s a ≤ s.length := Nat.max_le.mpr ⟨h, runE_le (Nat.le_of_lt h)⟩
/-- the tokens from a on, each with its position; the end is not among them -/
def toks (s : List Nat) (a : Nat) : List (List Nat × Nat) :=
  if h : a < s.length then (if gp s[a] = true then [] else [((s.drop a).take (nxt s a - a), a)]) ++ toks s (nxt s a) else []
termination_by s.length - a
decreasing_by have := nxt_gt s a; omega
theorem toks_gap {s : List Nat} {a c : Nat} (hc : s[a]? = some c) (g : gp c = true) : toks s a = toks s (nxt s a) := by
  have hl : a < s.length := (List.getElem?_eq_some_iff.mp hc).1
  have e : s[a] = c := by
    rw [List.getElem?_eq_getElem hl] at hc
    exact Option.some.inj hc
  rw [toks, dif_pos hl, e, if_pos g, List.nil_append]
theorem toks_tok {s : List Nat} {a c : Nat} (hc : s[a]? = some c) (g : gp c = false) : toks s a = ((s.drop a).take (nxt s a - a), a) :: toks s (nxt s a) := by
  have hl : a < s.length := (List.getElem?_eq_some_iff.mp hc).1
  have e : s[a] = c := by
    rw [List.getElem?_eq_getElem hl] at hc
    exact Option.some.inj hc
  rw [toks, dif_pos hl, e, if_neg (by rw [g]; exact Bool.false_ne_true), List.singleton_append]
theorem toks_end {s : List Nat} {a : Nat} (h : ¬ a < s.length) : toks s a = [] := by rw [toks, dif_neg h]
/-- v is a pair (token, position) -/
def TokAt (H : Hp) (v : V) (t : List Nat × Nat) : Prop := ∃ p : Addr, v = .ref p ∧ H p = some (.tup [.str ⟨t.1.toArray⟩, .int (t.2 : Int)])
/-- a list of tokens at l -/
def TkL (H : Hp) (l : Addr) (ts : List (List Nat × Nat)) : Prop := ∃ vs : List V, H l = some (.lst vs) ∧ Paired (TokAt H) vs ts
theorem TokAt.same {H H' : Hp} {v : V} {t : List Nat × Nat} (h : TokAt H v t) (s : Same H H') : TokAt H' v t := let ⟨p, e, q⟩ := h; ⟨p, e, s _ _ q⟩
/-- the list grows by a pair that was just laid at p -/
theorem TkL.app {H : Hp} {l p : Addr} {vs : List V} {ts : List (List Nat × Nat)} {t : List Nat × Nat} (hl : H l = some (.lst vs)) (hv : Paired (TokAt H) vs ts) (hp : H p = none) :
    TkL (upd (upd H p (.tup [.str ⟨t.1.toArray⟩, .int (t.2 : Int)])) l (.lst (vs ++ [.ref p]))) l (ts ++ [t]) := by
  have ne : p ≠ l := fun e => by rw [e, hl] at hp; cases hp
  refine ⟨_, upd_same, (L2.Paired.mapP hv fun v t' h => ?_).snoc ⟨p, rfl, by rw [upd_ne ne, upd_same]⟩⟩
  obtain ⟨q, e, hq⟩ := h
  refine ⟨q, e, ?_⟩
  rw [upd_ne (fun z => by rw [z, hl] at hq; cases hq), upd_ne (fun z => by rw [z, hp] at hq; cases hq)]
  exact hq
def spToks : Sp := fun vs H Q _ => ∃ z : Str, vs = [.str z] ∧ z.length ≤ 50000 ∧ ∀ (l : Addr) (H' : Hp), H l = none → Same H H' → TkL H' l (toks z.cps.toList 0 ++ [([], z.length)]) → Q (.ref l) H'
theorem cut_eq {z : Str} {a e : Nat} (ha : a ≤ z.length) (he : e ≤ z.length) : cutS z (some (a : Int)) (some (e : Int)) = ⟨((z.cps.toList.drop a).take (e - a)).toArray⟩ := by
  unfold cutS
  rw [HT.sIx_nat, HT.sIx_nat, Nat.min_eq_left ha, Nat.min_eq_left he]
theorem toks_len (s : List Nat) : ∀ (n a : Nat), s.length - a = n → (toks s a).length ≤ n := by
  intro n
  induction n using Nat.strongRecOn with
  | ind n ih =>
    intro a e
    by_cases hl : a < s.length
    · have hc : s[a]? = some s[a] := List.getElem?_eq_getElem hl
      have h1 := nxt_gt s a
      have h2 := ih (s.length - nxt s a) (by omega) (nxt s a) rfl
      cases g : gp s[a] with
      | true => rw [toks_gap hc g]; omega
      | false => rw [toks_tok hc g, List.length_cons]; omega
    · rw [toks_end hl]; exact Nat.zero_le _
section
variable {P : Program} {w : World} {K : PySem.W.Frag} {mg : Str → Option Value} {base : Heap}
theorem ok_tokens {f fE : Addr} {fd dE : FuncData} (F : Fun K "tokens_of" "tokens_of" S_tokens_of f fd) (FE : Fun K "_end_of_run" "_end_of_run" S_end_of_run fE dE) (bE : Binds K dE ["text", "begin"] []) (gE : mg "_end_of_run" = some (.ref fE)) (B : TkB mg) : FnOk P w K mg base CX0 2 f fd ["text"] spToks := by
  have GE : FnOk P w K mg base CX0 1 fE dE ["text", "begin"] spEnd := ok_end FE B
  refine F.ok sc_tokens_of (fun vs H Q E h => ?_) (fun cdv A outer s H vs Q E hr h => ?_)
  · obtain ⟨z, rfl, _⟩ := h; rfl
  · obtain ⟨z, rfl, hz, q⟩ := h
    obtain ⟨t1, m1⟩ := B.gap
    refine ⟨_, pss_cons (ps_set (i := 1) sc_tokens_of.nd rfl (Or.inl rfl) (pe_lst pa_nil))
      (pss_cons (ps_set (i := 2) sc_tokens_of.nd rfl (Or.inl rfl) pe_int)
      (pss_cons (ps_while PassesOwn.never (pt_cmpR op_lt (pv 2) (pe_callB call_len_str (by rfl) B.len PySem.boot_len (pa_cons (pv 0) pa_nil)) (nomark _))
        (pss_cons (ps_set (i := 3) sc_tokens_of.nd rfl (Or.inl rfl) (pe_callB (call_max2 rfl) (by rfl) B.max (by decide +kernel) (pa_cons (pe_op op_add (pv 2) pe_int) (pa_cons (pe_call GE hr (by rfl) gE FE.kp bE .nil pass0 (pa_cons (pv 0) (pa_cons (pv 2) pa_nil))) pa_nil))))
        (pss_cons (ps_if (pt_cmpR op_notInS (pe_ix ix_str (pv 0) (pv 2) (fun _ _ => rfl)) (pe_glob (by rfl) m1 (v := .str GAP) ⟨t1, rfl⟩) (by rfl))
          (pss_one (ps_expr (pe_bm PySem.F.plainAttrs_list PySem.F.slot_list_append PySem.F.type_list_append mt_append (pv 1) (pa_cons (pe_tup (pa_cons (pe_slice sl_str (pv 0) (po_some (pv 2)) (po_some (pv 3))) (pa_cons (pv 2) pa_nil))) pa_nil)))) pss_nil)
        (pss_one (ps_set (i := 2) sc_tokens_of.nd rfl (Or.inl rfl) (pv 3))))))
      (pss_cons (ps_expr (pe_bm PySem.F.plainAttrs_list PySem.F.slot_list_append PySem.F.type_list_append mt_append (pv 1) (pa_cons (pe_tup (pa_cons pe_str (pa_cons (pe_callB call_len_str (by rfl) B.len PySem.boot_len (pa_cons (pv 0) pa_nil)) pa_nil))) pa_nil)))
      (pss_one (ps_ret (pv 1)))))), ?_⟩
    refine ⟨Nat.zero_le _, fun l hl => ?_⟩
    have hsz : z.cps.toList.length = z.length := rfl
    refine ⟨fun m σ H' => ∃ (a : Nat) (vs : List V) (ts : List (List Nat × Nat)) (v3 : Option V), m = z.length - a ∧ a ≤ z.length ∧ σ = [some (.str z), some (.ref l), some (.int (a : Int)), v3] ∧ Same H H' ∧ H' l = some (.lst vs) ∧ Paired (TokAt H') vs ts ∧ ts ++ toks z.cps.toList a = toks z.cps.toList 0 ∧ ts.length ≤ a,
      ⟨_, 0, [], [], none, rfl, Nat.zero_le _, rfl, Same.new hl, upd_same, .nil, rfl, Nat.zero_le _⟩, ?_⟩
    rintro m σ H' ⟨a, vs, ts, v3, rfl, ha, rfl, s1, hv, hp, ht, hn⟩
    refine ⟨_, rfl, _, rfl, z, rfl, zL (by omega), _, _, rfl, rfl, _, rfl, ?_⟩
    refine ite2 (fun h0 => ?_) (fun h0 => ?_)
    · have hal : a < z.length := by have := of_decide_eq_true h0; omega
      have hc : z.cps.toList[a]? = some (z.cps.toList[a]) := List.getElem?_eq_getElem hal
      generalize z.cps.toList[a] = c at hc
      have g1 := nxt_gt z.cps.toList a
      have g2 : nxt z.cps.toList a ≤ z.length := nxt_le (s := z.cps.toList) hal
      have em : (if ((runE z.cps.toList a : Nat) : Int) > (a : Int) + 1 then ((runE z.cps.toList a : Nat) : Int) else (a : Int) + 1) = ((nxt z.cps.toList a : Nat) : Int) := by
        unfold nxt
        split <;> omega
      have next : ∀ (H2 : Hp) (vs2 : List V) (ts2 : List (List Nat × Nat)), Same H H2 → H2 l = some (.lst vs2) → Paired (TokAt H2) vs2 ts2 → ts2 ++ toks z.cps.toList (nxt z.cps.toList a) = toks z.cps.toList 0 → ts2.length ≤ a + 1 →
          ∃ m', m' < z.length - a ∧ ∃ (a' : Nat) (vs : List V) (ts : List (List Nat × Nat)) (v3 : Option V), m' = z.length - a' ∧ a' ≤ z.length ∧ [some (V.str z), some (.ref l), some (.int ((nxt z.cps.toList a : Nat) : Int)), some (.int ((nxt z.cps.toList a : Nat) : Int))] = [some (.str z), some (.ref l), some (.int (a' : Int)), v3] ∧ Same H H2 ∧ H2 l = some (.lst vs) ∧ Paired (TokAt H2) vs ts ∧ ts ++ toks z.cps.toList a' = toks z.cps.toList 0 ∧ ts.length ≤ a' :=
        fun H2 vs2 ts2 k1 k2 k3 k4 k5 => ⟨z.length - nxt z.cps.toList a, by omega, nxt z.cps.toList a, vs2, ts2, _, rfl, g2, rfl, k1, k2, k3, k4, by omega⟩
      refine ⟨fun σ' H2 => σ' = [some (V.str z), some (.ref l), some (.int ((nxt z.cps.toList a : Nat) : Int)), some (.int ((nxt z.cps.toList a : Nat) : Int))] ∧ ∃ (vs2 : List V) (ts2 : List (List Nat × Nat)), Same H H2 ∧ H2 l = some (.lst vs2) ∧ Paired (TokAt H2) vs2 ts2 ∧ ts2 ++ toks z.cps.toList (nxt z.cps.toList a) = toks z.cps.toList 0 ∧ ts2.length ≤ a + 1, ?_, ?_⟩
      · rintro σ' H2 ⟨rfl, vs2, ts2, k1, k2, k3, k4, k5⟩
        exact next H2 vs2 ts2 k1 k2 k3 k4 k5
      refine ⟨_, rfl, _, _, rfl, rfl, _, rfl, _, rfl, z, a, rfl, by omega, ha, _, _, rfl, ?_⟩
      rw [em]
      refine ⟨_, rfl, _, rfl, z, _, c, rfl, rfl, zL (by omega), atN hc, c, GAP, rfl, rfl, _, rfl, ?_⟩
      refine ite2 (fun h1 => ?_) (fun h1 => ?_)
      · have gf : gp c = false := by unfold gp; simpa using h1
        have vl : vs.length = ts.length := hp.length
        refine ⟨_, rfl, .inl ⟨rfl, _, .of hv⟩, _, rfl, _, rfl, _, rfl, _, rfl, _, rfl, z, rfl, zL (by omega), _, rfl, lenS (by simp), fun p hpn => ?_⟩
        have ne : p ≠ l := fun e => by rw [e, hv] at hpn; cases hpn
        refine ⟨l, vs, .ref p, rfl, rfl, by rw [upd_ne ne.symm]; exact hv, Nat.lt_of_le_of_lt (show vs.length ≤ 50000 by omega) (by decide), ?_⟩
        rw [cut_eq ha g2]
        obtain ⟨vs2, k2, k3⟩ := TkL.app (t := ((z.cps.toList.drop a).take (nxt z.cps.toList a - a), a)) hv hp hpn
        refine ⟨_, rfl, rfl, vs2, _, (s1.upN hpn).upd0 hl, k2, k3, ?_, ?_⟩
        · rw [List.append_assoc, List.singleton_append, ← toks_tok hc gf]
          exact ht
        · rw [List.length_append, List.length_singleton]; omega
      · have gt : gp c = true := by unfold gp; simpa using h1
        refine ⟨_, rfl, rfl, vs, ts, s1, hv, hp, ?_, by omega⟩
        rw [← toks_gap hc gt]
        exact ht
    · have hE : ¬ a < z.length := fun k => h0 (decide_eq_true (by omega))
      rw [toks_end (s := z.cps.toList) hE, List.append_nil] at ht
      subst ht
      have vl : vs.length = (toks z.cps.toList 0).length := hp.length
      refine ⟨_, rfl, .inl ⟨rfl, _, .of hv⟩, _, rfl, z, rfl, zL (by omega), lenS (by simp), fun p hpn => ?_⟩
      have ne : p ≠ l := fun e => by rw [e, hv] at hpn; cases hpn
      refine ⟨l, vs, .ref p, rfl, rfl, by rw [upd_ne ne.symm]; exact hv, Nat.lt_of_le_of_lt (show vs.length ≤ 50000 by omega) (by decide), ?_⟩
      refine ⟨_, rfl, q l _ hl ((s1.upN hpn).upd0 hl) ?_⟩
      exact TkL.app (t := ([], z.length)) hv hp hpn
end

end K82

namespace K82
open PySem L2 SZ VR VX StX RT
/-! ### the class Reader -/
/-- a reader stands at R: its tokens ts, k of them passed -/
def RdAt (C : Addr) (H : Hp) (R : Addr) (ts : List (List Nat × Nat)) (k : Nat) : Prop := ∃ dx l : Addr, H R = some (.ins C dx [("_tokens", .ref l), ("_at", .int (k : Int))]) ∧ H dx = some (.own R) ∧ TkL H l ts
/-- all else is kept -/
def ButR (R : Addr) (H H' : Hp) : Prop := ∀ b o, H b = some o → b ≠ R → H' b = some o
theorem TkL.but {R l : Addr} {H H' : Hp} {ts : List (List Nat × Nat)} {C dx : Addr} {fs : List (Str × V)} (h : TkL H l ts) (hR : H R = some (.ins C dx fs)) (s : ButR R H H') : TkL H' l ts := by
  obtain ⟨vs, h1, h2⟩ := h
  refine ⟨vs, s _ _ h1 (fun e => by rw [e, hR] at h1; cases h1), L2.Paired.mapP h2 fun v t ⟨p, e, hp⟩ => ⟨p, e, s _ _ hp (fun e => by rw [e, hR] at hp; cases hp)⟩⟩
theorem RdAt.step {C R : Addr} {H : Hp} {dx l : Addr} {ts : List (List Nat × Nat)} {k : Nat} {j : Nat} (h1 : H R = some (.ins C dx [("_tokens", .ref l), ("_at", .int (k : Int))])) (h2 : H dx = some (.own R)) (h3 : TkL H l ts) :
    RdAt C (upd H R (.ins C dx [("_tokens", .ref l), ("_at", .int (j : Int))])) R ts j ∧ ButR R H (upd H R (.ins C dx [("_tokens", .ref l), ("_at", .int (j : Int))])) := by
  have b : ButR R H (upd H R (.ins C dx [("_tokens", .ref l), ("_at", .int (j : Int))])) := fun b o e n => by rw [upd_ne n]; exact e
  exact ⟨⟨dx, l, upd_same, b _ _ h2 (fun e => by rw [e, h1] at h2; cases h2), h3.but h1 b⟩, b⟩
/-- what the class's own objects say -/
structure RdC (K : PySem.W.Frag) (mg : Str → Option Value) (C : Addr) : Prop where
  kit : InsKit K C
  nT : NoAttr K C "_tokens"
  nA : NoAttr K C "_at"
theorem Paired.at' {α β : Type} {F : α → β → Prop} : ∀ {xs : List α} {ys : List β} {i : Nat} {y : β}, Paired F xs ys → ys[i]? = some y → ∃ x, xs[i]? = some x ∧ F x y
  | _, _, _, _, .nil, h => by simp at h
  | _, _, 0, _, .cons (a := a) f _, h => by
    simp at h
    subst h
    exact ⟨a, rfl, f⟩
  | _, _, i + 1, _, .cons _ r, h => by
    obtain ⟨x, e, f⟩ := Paired.at' r (by simpa using h)
    exact ⟨x, by simpa using e, f⟩
/-- the next token, the reader as it was -/
def spTok (C : Addr) : Sp := fun vs H Q _ => ∃ (R : Addr) (ts : List (List Nat × Nat)) (k : Nat) (t : List Nat × Nat), vs = [.ref R] ∧ RdAt C H R ts k ∧ ts[k]? = some t ∧ Q (.str ⟨t.1.toArray⟩) H
def spPlace (C : Addr) : Sp := fun vs H Q _ => ∃ (R : Addr) (ts : List (List Nat × Nat)) (k : Nat) (t : List Nat × Nat), vs = [.ref R] ∧ RdAt C H R ts k ∧ ts[k]? = some t ∧ Q (.int (t.2 : Int)) H
def spPassAny (C : Addr) : Sp := fun vs H Q _ => ∃ (R : Addr) (ts : List (List Nat × Nat)) (k : Nat) (t : List Nat × Nat), vs = [.ref R] ∧ RdAt C H R ts k ∧ ts[k]? = some t ∧ ∀ H', RdAt C H' R ts (k + 1) → ButR R H H' → Q (.str ⟨t.1.toArray⟩) H'
def spPasses (C : Addr) : Sp := fun vs H Q _ => ∃ (R : Addr) (ts : List (List Nat × Nat)) (k : Nat) (t : List Nat × Nat) (x : Str), vs = [.ref R, .str x] ∧ RdAt C H R ts k ∧ ts[k]? = some t ∧
  ((⟨t.1.toArray⟩ ≠ x ∧ Q (.bl false) H) ∨ (⟨t.1.toArray⟩ = x ∧ ∀ H', RdAt C H' R ts (k + 1) → ButR R H H' → Q (.bl true) H'))
def spRdInit (C : Addr) : Sp := fun vs H Q _ => ∃ (R dx : Addr) (z : Str), vs = [.ref R, .str z] ∧ H R = some (.ins C dx []) ∧ H dx = some (.own R) ∧ z.length ≤ 50000 ∧ ∀ H' : Hp, ButR R H H' → RdAt C H' R (toks z.cps.toList 0 ++ [([], z.length)]) 0 → Q .non H'
section
variable {P : Program} {w : World} {K : PySem.W.Frag} {mg : Str → Option Value} {base : Heap} {C : Addr}
theorem ok_token {f : Addr} {fd : FuncData} (F : Fun K "token" "Reader.token" S_Reader_token f fd) (Z : RdC K mg C) : FnOk P w K mg base CX0 1 f fd ["self"] (spTok C) := by
  refine F.ok sc_Reader_token (fun vs H Q E h => ?_) (fun cdv A outer s H vs Q E hr h => ?_)
  · obtain ⟨R, ts, k, t, rfl, _⟩ := h; rfl
  · obtain ⟨R, ts, k, t, rfl, ⟨dx, l, hR, ho, vs, hl, hp⟩, hk, q⟩ := h
    obtain ⟨v, hv, p, rfl, hT⟩ := Paired.at' hp hk
    refine ⟨_, pss_cons (ps_asg (pe_ix ix_list (pe_fld (pv 0) rfl) (pe_fld (pv 0) rfl) (fun _ _ => rfl)) (pg_tup rfl (pgs_cons (pg_name (i := 1) sc_Reader_token.nd rfl (Or.inl rfl)) (pgs_cons (pg_name (i := 2) sc_Reader_token.nd rfl (Or.inl rfl)) pgs_nil))))
      (pss_one (ps_ret (pv 1))), ?_⟩
    refine ⟨_, rfl, R, C, dx, _, .ref l, rfl, hR, Z.kit.cl, Z.nT, rfl, _, rfl, R, C, dx, _, .int (k : Int), rfl, hR, Z.kit.cl, Z.nA, rfl, ?_⟩
    refine ⟨l, vs, (k : Int), .ref p, rfl, rfl, .of hl, atN hv, ?_⟩
    refine ⟨p, _, rfl, .of hT, rfl, _, _, rfl, _, _, rfl, rfl, ?_⟩
    exact ⟨_, rfl, q⟩
theorem ok_place {f : Addr} {fd : FuncData} (F : Fun K "place" "Reader.place" S_Reader_place f fd) (Z : RdC K mg C) : FnOk P w K mg base CX0 1 f fd ["self"] (spPlace C) := by
  refine F.ok sc_Reader_place (fun vs H Q E h => ?_) (fun cdv A outer s H vs Q E hr h => ?_)
  · obtain ⟨R, ts, k, t, rfl, _⟩ := h; rfl
  · obtain ⟨R, ts, k, t, rfl, ⟨dx, l, hR, ho, vs, hl, hp⟩, hk, q⟩ := h
    obtain ⟨v, hv, p, rfl, hT⟩ := Paired.at' hp hk
    refine ⟨_, pss_cons (ps_asg (pe_ix ix_list (pe_fld (pv 0) rfl) (pe_fld (pv 0) rfl) (fun _ _ => rfl)) (pg_tup rfl (pgs_cons (pg_name (i := 1) sc_Reader_place.nd rfl (Or.inl rfl)) (pgs_cons (pg_name (i := 2) sc_Reader_place.nd rfl (Or.inl rfl)) pgs_nil))))
      (pss_one (ps_ret (pv 2))), ?_⟩
    refine ⟨_, rfl, R, C, dx, _, .ref l, rfl, hR, Z.kit.cl, Z.nT, rfl, _, rfl, R, C, dx, _, .int (k : Int), rfl, hR, Z.kit.cl, Z.nA, rfl, ?_⟩
    refine ⟨l, vs, (k : Int), .ref p, rfl, rfl, .of hl, atN hv, ?_⟩
    refine ⟨p, _, rfl, .of hT, rfl, _, _, rfl, _, _, rfl, rfl, ?_⟩
    exact ⟨_, rfl, q⟩
theorem succ_int (k : Nat) : V.int ((k : Int) + 1) = V.int ((k + 1 : Nat) : Int) := by congr 1
theorem ok_pass_any {f fT : Addr} {fd dT : FuncData} (F : Fun K "pass_any" "Reader.pass_any" S_Reader_pass_any f fd) (FT : Fun K "token" "Reader.token" S_Reader_token fT dT) (bT : Binds K dT ["self"] []) (MT : Meth K C "token" fT) (Z : RdC K mg C) : FnOk P w K mg base CX0 2 f fd ["self"] (spPassAny C) := by
  have GT : FnOk P w K mg base CX0 1 fT dT ["self"] (spTok C) := ok_token FT Z
  refine F.ok sc_Reader_pass_any (fun vs H Q E h => ?_) (fun cdv A outer s H vs Q E hr h => ?_)
  · obtain ⟨R, ts, k, t, rfl, _⟩ := h; rfl
  · obtain ⟨R, ts, k, t, rfl, hRd, hk, q⟩ := h
    obtain ⟨dx, l, hR, ho, hL⟩ := id hRd
    refine ⟨_, pss_cons (ps_set (i := 1) sc_Reader_pass_any.nd rfl (Or.inl rfl) (pe_meth0 (pv 0) Z.kit.cl MT GT hr bT .nil pass0))
      (pss_cons (ps_fldaug (pv 0) pe_int in_add) (pss_one (ps_ret (pv 1)))), ?_⟩
    refine ⟨_, rfl, R, dx, _, rfl, hR, rfl, R, ts, k, t, rfl, hRd, hk, ?_⟩
    refine ⟨_, rfl, R, C, dx, _, .int (k : Int), rfl, hR, Z.kit.cl, Z.nA, rfl, (k : Int), 1, rfl, rfl, dx, _, hR, (by show 2 < 1000; decide), ?_⟩
    rw [succ_int]
    obtain ⟨s1, s2⟩ := RdAt.step (j := k + 1) hR ho hL
    exact ⟨_, rfl, q _ s1 s2⟩
theorem ok_passes {f fT : Addr} {fd dT : FuncData} (F : Fun K "passes" "Reader.passes" S_Reader_passes f fd) (FT : Fun K "token" "Reader.token" S_Reader_token fT dT) (bT : Binds K dT ["self"] []) (MT : Meth K C "token" fT) (Z : RdC K mg C) : FnOk P w K mg base CX0 2 f fd ["self", "token"] (spPasses C) := by
  have GT : FnOk P w K mg base CX0 1 fT dT ["self"] (spTok C) := ok_token FT Z
  refine F.ok sc_Reader_passes (fun vs H Q E h => ?_) (fun cdv A outer s H vs Q E hr h => ?_)
  · obtain ⟨R, ts, k, t, x, rfl, _⟩ := h; rfl
  · obtain ⟨R, ts, k, t, x, rfl, hRd, hk, q⟩ := h
    obtain ⟨dx, l, hR, ho, hL⟩ := id hRd
    refine ⟨_, pss_cons (ps_if (pt_cmpR op_ne (pe_meth0 (pv 0) Z.kit.cl MT GT hr bT .nil pass0) (pv 1) (nomark _)) (pss_one (ps_ret pe_bl)) pss_nil)
      (pss_cons (ps_fldaug (pv 0) pe_int in_add) (pss_one (ps_ret pe_bl))), ?_⟩
    refine ⟨_, rfl, R, dx, _, rfl, hR, rfl, R, ts, k, t, rfl, hRd, hk, _, rfl, rfl, _, rfl, ?_⟩
    rcases q with ⟨ne, q⟩ | ⟨e, q⟩
    · rw [decide_eq_false (p := V.str ⟨t.1.toArray⟩ = V.str x) (fun z => ne (V.str.inj z))]
      exact iteT q
    · rw [decide_eq_true (p := V.str ⟨t.1.toArray⟩ = V.str x) (by rw [e])]
      refine iteF ?_
      refine ⟨_, rfl, R, C, dx, _, .int (k : Int), rfl, hR, Z.kit.cl, Z.nA, rfl, (k : Int), 1, rfl, rfl, dx, _, hR, (by show 2 < 1000; decide), ?_⟩
      rw [succ_int]
      obtain ⟨s1, s2⟩ := RdAt.step (j := k + 1) hR ho hL
      exact q _ s1 s2
theorem ok_rd_init {f fT fE : Addr} {fd dT dE : FuncData} (F : Fun K "__init__" "Reader.__init__" S_Reader___init__ f fd) (FT : Fun K "tokens_of" "tokens_of" S_tokens_of fT dT) (bT : Binds K dT ["text"] []) (gT : mg "tokens_of" = some (.ref fT))
    (FE : Fun K "_end_of_run" "_end_of_run" S_end_of_run fE dE) (bE : Binds K dE ["text", "begin"] []) (gE : mg "_end_of_run" = some (.ref fE)) (B : TkB mg) (Z : RdC K mg C) : FnOk P w K mg base CX0 3 f fd ["self", "text"] (spRdInit C) := by
  have GT : FnOk P w K mg base CX0 2 fT dT ["text"] spToks := ok_tokens FT FE bE gE B
  refine F.ok sc_Reader___init__ (fun vs H Q E h => ?_) (fun cdv A outer s H vs Q E hr h => ?_)
  · obtain ⟨R, dx, z, rfl, _⟩ := h; rfl
  · obtain ⟨R, dx, z, rfl, hR, ho, hz, q⟩ := h
    refine ⟨_, pss_cons (ps_fld (pv 0) (pe_call GT hr (by rfl) gT FT.kp bT .nil pass0 (pa_cons (pv 1) pa_nil)) rfl) (pss_one (ps_fld (pv 0) pe_int rfl)), ?_⟩
    refine ⟨_, rfl, z, rfl, hz, fun l H1 hl s1 hL => ?_⟩
    have hR1 := s1 _ _ hR
    refine ⟨_, rfl, R, C, dx, [], rfl, hR1, Z.kit.cl, Z.nT, (by show 0 < 1000; decide), ?_⟩
    refine ⟨_, rfl, R, C, dx, _, rfl, upd_same, Z.kit.cl, Z.nA, (by show 1 < 1000; decide), ?_⟩
    have b1 : ButR R H1 (upd (upd H1 R (.ins C dx (putF "_tokens" (.ref l) []))) R (.ins C dx (putF "_at" (.int 0) (putF "_tokens" (.ref l) [])))) := fun b o e n => by rw [upd_ne n, upd_ne n]; exact e
    have ho1 := s1 _ _ ho
    refine q _ (fun b o e n => b1 _ _ (s1 _ _ e) n) ⟨dx, l, upd_same, b1 _ _ ho1 (fun e => by rw [e, hR1] at ho1; cases ho1), hL.but hR1 b1⟩
end

end K82

namespace K82
open PySem L2 SZ VR VX StX RT
/-! ### raise InvalidSyntax(position) -/
/-- the class InvalidSyntax and its __init__ -/
structure SxC (P : Program) (w : World) (K : PySem.W.Frag) (mg : Str → Option Value) (base : Heap) (x : Str) (C : Addr) (f : Str) : Prop where
  O : OexC K C
  m : mg x = some (.ref C)
  i : ∃ (fI : Addr) (fd : FuncData), PySem.W.findIn K (.ref C) "__init__" = some (some (.ref fI)) ∧ PySem.W.typeIn K (.ref fI) = some (.type "function") ∧ FnOk P w K mg base CX0 1 fI fd [("self" : Str), f] (spOx K C f) ∧ Binds K fd [("self" : Str), f] []
/-- te, for any stronger wish -/
def tMono (te : TE) : TE := fun σ H Q => ∃ Q0 : VK, te σ H Q0 ∧ ∀ v H1, Q0 v H1 → Q v H1
theorem pe_tMono {X : Cx} {e : Expr} {te : TE} (he : PE X e te) : PE X e (tMono te) := ⟨fun pins s σ H Q I ⟨Q0, h, k⟩ => wpAny_mono (he.run pins s σ H Q0 I h) (fun u s' ⟨x, H1, I1, r, q⟩ => ⟨x, H1, I1, r, k _ _ q⟩) fun _ _ z => z⟩
/-- C(e) is made and raised: its dict is d, all else is kept -/
def tRaiseX (C : Addr) (f : Str) (te : TE) (W : WX) : TS := fun _ σ H => te σ H fun v H1 => ∀ (d : Addr) (H' : Hp), H1 d = none → Same H1 H' → H' d = some (.xd [(f, v)]) → W (.ref C) (some d) σ H'
theorem ps_raiseX {X : Cx} {W : WX} {x : Str} {C : Addr} {f : Str} {e : Expr} {te : TE} {p cpos pos : Pos} (G : SxC X.prog X.w X.K X.mg X.base x C f) (hc : X.calm = true) (tk : Takes X W) (hr : Room 2 X.A) (he : PE X e te) (hg : Gl X x := by rfl) (hdb : (x == ("__debug__" : Str)) = false := by decide)
    (hs : starEach [e] X.env = (false, eval e X.env) :: starEach [] X.env := by rfl) : PS X (.Raise (some (.Call (.Name x p) [e] [] cpos)) none pos) (tRaiseX C f te W) := by
  obtain ⟨fI, fd, iC, tI, F, b⟩ := G.i
  have h := ps_raise (pos := pos) hc tk (pmk_oex (ta := tCons (tMono te) tNil) (es := []) (p := p) (pos := cpos) (dvs := []) (ds := []) G.O iC tI F hr b .nil pass0 hg G.m (pa_cons (pe_tMono he) pa_nil hs) hdb hs (by rfl))
  refine ⟨fun pins s σ H D I q => h.run pins s σ H D I ⟨_, q, fun v H1 k => ⟨by simp, fun a ha => ⟨a, v, rfl, upd_same, fun dx h1 h2 => ?_⟩⟩⟩⟩
  have hd : H1 dx = none := by rw [upd_ne h2] at h1; exact h1
  refine ⟨rfl, dx, [(f, v)], upd_same, by rw [upd_ne h2, upd_same], hd, k dx _ hd (fun b o e => ?_) upd_same⟩
  have b1 : b ≠ a := ne_of_none e ha
  have b2 : b ≠ dx := ne_of_none e hd
  rw [upd_ne b2, del_ne b1, upd_ne b1, upd_ne b2, upd_ne b1]
  exact e
/-- what leaves: InvalidSyntax at position p; all but the reader at R is kept -/
def Out (CS R : Addr) (H : Hp) (p : Nat) (E : XK) : Prop := ∀ (d : Addr) (H' : Hp), ButR R H H' → H' d = some (.xd [("position", .int (p : Int))]) → E (.ref CS) (some d) H'
def spOnly (C CS : Addr) : Sp := fun vs H Q E => ∃ (R : Addr) (ts : List (List Nat × Nat)) (k : Nat) (t : List Nat × Nat) (x : Str), vs = [.ref R, .str x] ∧ RdAt C H R ts k ∧ ts[k]? = some t ∧
  ((⟨t.1.toArray⟩ = x ∧ ∀ H', RdAt C H' R ts (k + 1) → ButR R H H' → Q .non H') ∨ (⟨t.1.toArray⟩ ≠ x ∧ Out CS R H t.2 E))
def spPassEnd (C CS : Addr) : Sp := fun vs H Q E => ∃ (R : Addr) (ts : List (List Nat × Nat)) (k : Nat) (t : List Nat × Nat), vs = [.ref R] ∧ RdAt C H R ts k ∧ ts[k]? = some t ∧
  ((t.1 = [] ∧ Q .non H) ∨ (t.1 ≠ [] ∧ Out CS R H t.2 E))
section
variable {P : Program} {w : World} {K : PySem.W.Frag} {mg : Str → Option Value} {base : Heap} {C CS : Addr}
theorem ok_pass_only {f fP fT fL : Addr} {fd dP dT dL : FuncData} (F : Fun K "pass_only" "Reader.pass_only" S_Reader_pass_only f fd) (FP : Fun K "passes" "Reader.passes" S_Reader_passes fP dP) (bP : Binds K dP ["self", "token"] []) (MP : Meth K C "passes" fP)
    (FT : Fun K "token" "Reader.token" S_Reader_token fT dT) (bT : Binds K dT ["self"] []) (MT : Meth K C "token" fT) (FL : Fun K "place" "Reader.place" S_Reader_place fL dL) (bL : Binds K dL ["self"] []) (ML : Meth K C "place" fL) (Z : RdC K mg C) (G : SxC P w K mg base "InvalidSyntax" CS "position") :
    FnOk P w K mg base (L2.CX P w) 3 f fd ["self", "token"] (spOnly C CS) := by
  have GP : FnOk P w K mg base CX0 2 fP dP ["self", "token"] (spPasses C) := ok_passes FP FT bT MT Z
  have GL : FnOk P w K mg base CX0 1 fL dL ["self"] (spPlace C) := ok_place FL Z
  refine F.okX sc_Reader_pass_only (fun vs H Q E h => ?_) (fun cdv A outer s H vs Q E hr h => ?_)
  · obtain ⟨R, ts, k, t, x, rfl, _⟩ := h; rfl
  · obtain ⟨R, ts, k, t, x, rfl, hRd, hk, q⟩ := h
    obtain ⟨dx, l, hR, ho, hL⟩ := id hRd
    have hr1 : Room 1 _ := hr.mono (by decide)
    refine ⟨_, pss_one (ps_if (pt_not (pt_val (pe_meth (pv 0) Z.kit.cl MP GP hr bP .nil pass0 (pa_cons (pv 1) pa_nil))))
      (pss_one (ps_raiseX G rfl (takes_of rfl rfl rfl rfl) hr (pe_meth0 (pv 0) Z.kit.cl ML GL hr1 bL .nil pass0))) pss_nil), ?_⟩
    rcases q with ⟨e, q⟩ | ⟨ne, q⟩
    · refine ⟨_, rfl, R, dx, _, rfl, hR, rfl, _, rfl, R, ts, k, t, x, rfl, hRd, hk, .inr ⟨e, fun H' h1 h2 => ⟨true, rfl, ?_⟩⟩⟩
      refine iteF ?_
      exact q H' h1 h2
    · refine ⟨_, rfl, R, dx, _, rfl, hR, rfl, _, rfl, R, ts, k, t, x, rfl, hRd, hk, .inl ⟨ne, false, rfl, ?_⟩⟩
      refine iteT ?_
      refine ⟨_, rfl, R, dx, _, rfl, hR, rfl, R, ts, k, t, rfl, hRd, hk, fun d H' hd s1 h1 => ?_⟩
      exact q d H' (fun b o e _ => s1 _ _ e) h1
theorem ok_pass_end {f fT fL : Addr} {fd dT dL : FuncData} (F : Fun K "pass_end" "Reader.pass_end" S_Reader_pass_end f fd)
    (FT : Fun K "token" "Reader.token" S_Reader_token fT dT) (bT : Binds K dT ["self"] []) (MT : Meth K C "token" fT) (FL : Fun K "place" "Reader.place" S_Reader_place fL dL) (bL : Binds K dL ["self"] []) (ML : Meth K C "place" fL) (Z : RdC K mg C) (G : SxC P w K mg base "InvalidSyntax" CS "position") :
    FnOk P w K mg base (L2.CX P w) 3 f fd ["self"] (spPassEnd C CS) := by
  have GT : FnOk P w K mg base CX0 1 fT dT ["self"] (spTok C) := ok_token FT Z
  have GL : FnOk P w K mg base CX0 1 fL dL ["self"] (spPlace C) := ok_place FL Z
  refine F.okX sc_Reader_pass_end (fun vs H Q E h => ?_) (fun cdv A outer s H vs Q E hr h => ?_)
  · obtain ⟨R, ts, k, t, rfl, _⟩ := h; rfl
  · obtain ⟨R, ts, k, t, rfl, hRd, hk, q⟩ := h
    obtain ⟨dx, l, hR, ho, hL⟩ := id hRd
    have hr1 : Room 1 _ := hr.mono (by decide)
    refine ⟨_, pss_one (ps_if (pt_cmpR op_ne (pe_meth0 (pv 0) Z.kit.cl MT GT hr1 bT .nil pass0) pe_str (nomark _))
      (pss_one (ps_raiseX G rfl (takes_of rfl rfl rfl rfl) hr (pe_meth0 (pv 0) Z.kit.cl ML GL hr1 bL .nil pass0))) pss_nil), ?_⟩
    refine ⟨_, rfl, R, dx, _, rfl, hR, rfl, R, ts, k, t, rfl, hRd, hk, rfl, _, rfl, ?_⟩
    have e0 : (Str.ofString "") = ⟨#[]⟩ := by decide +kernel
    have em : decide (V.str ⟨t.1.toArray⟩ = V.str (Str.ofString "")) = decide (t.1 = []) := by
      rw [e0]
      refine decide_eq_decide.mpr ⟨fun z => ?_, fun z => by rw [z]⟩
      have z := V.str.inj z
      injection z with z
      simpa using z
    rw [em]
    rcases q with ⟨e, q⟩ | ⟨ne, q⟩
    · rw [decide_eq_true e]
      exact iteF q
    · rw [decide_eq_false ne]
      refine iteT ?_
      refine ⟨_, rfl, R, dx, _, rfl, hR, rfl, R, ts, k, t, rfl, hRd, hk, fun d H' hd s1 h1 => ?_⟩
      exact q d H' (fun b o e _ => s1 _ _ e) h1
end

end K82

namespace K82
open PySem L2 SZ VR VX StX RT
/-! ### names -/
abbrev KW : List Str := ["array", "for", "read", "write", "flush", "n"]
/-- a word that is no keyword -/
def isNm (z : Str) : Bool := isW z.cps.toList && !KW.contains z
structure TxB (K : PySem.W.Frag) (mg : Str → Option Value) : Prop where
  kw : ∃ a, mg "_KEYWORDS" = some (.ref a) ∧ ∀ H, SqT K H a (KW.map V.str)
  is : mg "isinstance" = none
  str : mg "str" = none
def spName (K : PySem.W.Frag) : Sp := fun vs H Q _ => ∃ v, vs = [v] ∧ ((∃ z : Str, v = .str z ∧ z.length ≤ 100000 ∧ Q (.bl (isNm z)) H) ∨ ∃ t, TyX K H v t ∧ PySem.W.kitOne K t (.type "str") = some false ∧ Q (.bl false) H)
theorem inV_str (z : Str) : ∀ l : List Str, inV (.str z) (l.map V.str) = l.contains z
  | [] => rfl
  | x :: l => by
    have ih := inV_str z l
    unfold inV at ih ⊢
    rw [List.map_cons, List.any_cons, ih, List.contains_cons]
    congr 1
    simp only [eqV]
    first | rfl | exact Bool.beq_comm .. | (rw [Bool.eq_iff_iff]; simp [eq_comm])
theorem flat_strs (l : List Str) : (l.map V.str).all flatV = true := by
  rw [List.all_map]
  exact List.all_eq_true.mpr fun _ _ => rfl
section
variable {P : Program} {w : World} {K : PySem.W.Frag} {mg : Str → Option Value} {base : Heap} {C CS : Addr}
theorem ok_is_name {f fW fE : Addr} {fd dW dE : FuncData} (F : Fun K "is_name" "is_name" S_is_name f fd) (FW : Fun K "is_word" "is_word" S_is_word fW dW) (bW : Binds K dW ["text"] []) (gW : mg "is_word" = some (.ref fW))
    (FE : Fun K "_end_of_run" "_end_of_run" S_end_of_run fE dE) (bE : Binds K dE ["text", "begin"] []) (gE : mg "_end_of_run" = some (.ref fE)) (B : TkB mg) (T : TxB K mg) : FnOk P w K mg base CX0 3 f fd ["value"] (spName K) := by
  have GW : FnOk P w K mg base CX0 2 fW dW ["text"] spWord := ok_is_word FW FE bE gE B
  refine F.ok sc_is_name (fun vs H Q E h => ?_) (fun cdv A outer s H vs Q E hr h => ?_)
  · obtain ⟨v, rfl, _⟩ := h; rfl
  · obtain ⟨v, rfl, q⟩ := h
    obtain ⟨a, ma, ha⟩ := T.kw
    refine ⟨_, pss_one (ps_ret (pe_and (pe_callB call_isi (by rfl) T.is (by decide +kernel) (pa_cons (pv 0) (pa_cons (pe_bltn (by rfl) T.str (u := .type "str") (v := .ty "str") (by decide +kernel) rfl) pa_nil)))
      (pe_and (pe_call GW hr (by rfl) gW FW.kp bW .nil pass0 (pa_cons (pv 0) pa_nil)) (pe_one (pe_cmpR op_notIn_seq (pv 0) (pe_glob (by rfl) ma (v := .ref a) rfl) (by rfl)))))), ?_⟩
    rcases q with ⟨z, rfl, hz, q⟩ | ⟨t, ty, kt, q⟩
    · refine ⟨_, rfl, .str z, .ty "str", .type "str", .type "str", true, rfl, .ty _, .base (.str z), if_pos (beq_self_eq_true _), true, rfl, ?_⟩
      refine iteT ?_
      refine ⟨_, rfl, z, rfl, hz, _, rfl, ?_⟩
      cases hw : isW z.cps.toList with
      | false =>
        have e : isNm z = false := by unfold isNm; rw [hw, Bool.false_and]
        rw [e] at q
        exact iteF q
      | true =>
        have e : isNm z = !KW.contains z := by unfold isNm; rw [hw, Bool.true_and]
        rw [e] at q
        refine iteT ?_
        refine ⟨_, rfl, a, KW.map V.str, rfl, .inr (ha H), rfl, flat_strs _, ?_⟩
        rw [inV_str]
        exact q
    · exact ⟨_, rfl, v, .ty "str", t, .type "str", false, rfl, .ty _, ty, kt, false, rfl, iteF q⟩
/-- _name(reader): the name, the reader behind it, or InvalidSyntax at it -/
def spRdName (C CS : Addr) : Sp := fun vs H Q E => ∃ (R : Addr) (ts : List (List Nat × Nat)) (k : Nat) (t : List Nat × Nat), vs = [.ref R] ∧ RdAt C H R ts k ∧ ts[k]? = some t ∧ t.1.length ≤ 100000 ∧
  ((isNm ⟨t.1.toArray⟩ = true ∧ ∀ H', RdAt C H' R ts (k + 1) → ButR R H H' → Q (.str ⟨t.1.toArray⟩) H') ∨ (isNm ⟨t.1.toArray⟩ = false ∧ Out CS R H t.2 E))
end

/-! ### what the parser tells of a list of tokens -/
inductive Res (α : Type) where
  | ok (v : α) (k : Nat)
  | syn (p : Nat)
  | big (w : Str)
def tk (ts : List (List Nat × Nat)) (k : Nat) : List Nat := ((ts[k]?).getD ([], 0)).1
def ps (ts : List (List Nat × Nat)) (k : Nat) : Nat := ((ts[k]?).getD ([], 0)).2
theorem tk_of {ts : List (List Nat × Nat)} {k : Nat} {t : List Nat × Nat} (h : ts[k]? = some t) : tk ts k = t.1 ∧ ps ts k = t.2 := by
  unfold tk ps
  rw [h]
  exact ⟨rfl, rfl⟩
theorem at_tk {ts : List (List Nat × Nat)} {k : Nat} (h : k < ts.length) : ts[k]? = some (tk ts k, ps ts k) := by
  unfold tk ps
  rw [List.getElem?_eq_getElem h]
  rfl
/-- the end stands behind every token, and none is long -/
structure Snt (ts : List (List Nat × Nat)) : Prop where
  go : ∀ k, k < ts.length → tk ts k ≠ [] → k + 1 < ts.length
  sm : ∀ k, (tk ts k).length ≤ 50000
  ln : ts.length ≤ 100000
def isNmL (s : List Nat) : Bool := isNm ⟨s.toArray⟩
def numVal (s : List Nat) : Int := ((NumText.digitsVal s : Nat) : Int)
/-- TooLarge(w) leaves; all but the reader at R is kept -/
def OutW (CT R : Addr) (H : Hp) (x : Str) (E : XK) : Prop := ∀ (d : Addr) (H' : Hp), ButR R H H' → H' d = some (.xd [("word", .str x)]) → E (.ref CT) (some d) H'
theorem ButR.trans {R : Addr} {H H1 H2 : Hp} (a : ButR R H H1) (b : ButR R H1 H2) : ButR R H H2 := fun c o e n => b c o (a c o e n) n
theorem ButR.of {R : Addr} {H H' : Hp} (s : Same H H') : ButR R H H' := fun b o e _ => s b o e
theorem RdAt.same {C R : Addr} {H H' : Hp} {ts : List (List Nat × Nat)} {k : Nat} (h : RdAt C H R ts k) (s : Same H H') : RdAt C H' R ts k := by
  obtain ⟨dx, l, h1, h2, vs, h3, h4⟩ := h
  exact ⟨dx, l, s _ _ h1, s _ _ h2, vs, s _ _ h3, L2.Paired.mapP h4 fun v t q => q.same s⟩
theorem dg_iff (c : Nat) : dg c = (decide (48 ≤ c) && decide (c ≤ 57)) := by
  have e : DIG.cps.toList = [48, 49, 50, 51, 52, 53, 54, 55, 56, 57] := by decide +kernel
  unfold dg
  rw [e, Bool.eq_iff_iff]
  simp
  omega
theorem isN_val {s : List Nat} (h : isN s = true) (hl : s.length ≤ 4300) : PySem.intText? ⟨s.toArray⟩ = some (numVal s) := by
  cases s with
  | nil => cases h
  | cons c r =>
    have h2 : (c :: r).all dg = true := by
      have z : (!(decide (c = 48) && !r.isEmpty) && (c :: r).all dg) = true := h
      exact (Bool.and_eq_true_iff.mp z).2
    refine SX.int_S ?_ (by simp) hl
    rw [← h2]
    congr 1
    funext x
    exact (dg_iff x).symm
def spNumber (C CS CT : Addr) : Sp := fun vs H Q E => ∃ (R : Addr) (ts : List (List Nat × Nat)) (k : Nat), vs = [.ref R] ∧ RdAt C H R ts k ∧ k < ts.length ∧ Snt ts ∧
  ((isN (tk ts k) = false ∧ Out CS R H (ps ts k) E) ∨ (isN (tk ts k) = true ∧ 150 < (tk ts k).length ∧ OutW CT R H "numbers" E) ∨
   (isN (tk ts k) = true ∧ (tk ts k).length ≤ 150 ∧ ∀ H', RdAt C H' R ts (k + 1) → ButR R H H' → Q (.int (numVal (tk ts k))) H'))
theorem Out.but {CS R : Addr} {H H1 : Hp} {p : Nat} {E : XK} (h : Out CS R H p E) (b : ButR R H H1) : Out CS R H1 p E := fun d H' b' e => h d H' (b.trans b') e
theorem OutW.but {CS R : Addr} {H H1 : Hp} {p : Str} {E : XK} (h : OutW CS R H p E) (b : ButR R H H1) : OutW CS R H1 p E := fun d H' b' e => h d H' (b.trans b') e
section
variable {P : Program} {w : World} {K : PySem.W.Frag} {mg : Str → Option Value} {base : Heap} {C CS CT : Addr}
theorem ok_number {f fA fT fL fI : Addr} {fd dA dT dL dI : FuncData} (F : Fun K "pass_number" "Reader.pass_number" S_Reader_pass_number f fd) (FA : Fun K "pass_any" "Reader.pass_any" S_Reader_pass_any fA dA) (bA : Binds K dA ["self"] []) (MA : Meth K C "pass_any" fA)
    (FT : Fun K "token" "Reader.token" S_Reader_token fT dT) (bT : Binds K dT ["self"] []) (MT : Meth K C "token" fT) (FL : Fun K "place" "Reader.place" S_Reader_place fL dL) (bL : Binds K dL ["self"] []) (ML : Meth K C "place" fL)
    (FI : Fun K "is_number" "is_number" S_is_number fI dI) (bI : Binds K dI ["text"] []) (gI : mg "is_number" = some (.ref fI)) (B : TkB mg)
    (hlen : mg "len" = none) (hint : mg "int" = none) (hmd : ∃ t, mg "_MOST_DIGITS" = some (.int 150 t))
    (Z : RdC K mg C) (GS : SxC P w K mg base "InvalidSyntax" CS "position") (G : SxC P w K mg base "TooLarge" CT "word") : FnOk P w K mg base (L2.CX P w) 3 f fd ["self"] (spNumber C CS CT) := by
  have GA : FnOk P w K mg base CX0 2 fA dA ["self"] (spPassAny C) := ok_pass_any FA FT bT MT Z
  have GT : FnOk P w K mg base CX0 1 fT dT ["self"] (spTok C) := ok_token FT Z
  have GL : FnOk P w K mg base CX0 1 fL dL ["self"] (spPlace C) := ok_place FL Z
  have GI : FnOk P w K mg base CX0 1 fI dI ["text"] spNum := ok_is_number FI B
  obtain ⟨t0, m0⟩ := hmd
  refine F.okX sc_Reader_pass_number (fun vs H Q E h => ?_) (fun cdv A outer s H vs Q E hr h => ?_)
  · obtain ⟨R, ts, k, rfl, _⟩ := h; rfl
  · obtain ⟨R, ts, k, rfl, hRd, hkl, hS, q⟩ := h
    obtain ⟨dx, l, hR, ho, hL⟩ := id hRd
    have hk := at_tk hkl
    have hr1 : Room 1 _ := hr.mono (by decide)
    refine ⟨_, pss_cons (ps_if (pt_not (pt_val (pe_call GI hr1 (by rfl) gI FI.kp bI .nil pass0 (pa_cons (pe_meth0 (pv 0) Z.kit.cl MT GT hr1 bT .nil pass0) pa_nil))))
        (pss_one (ps_raiseX GS rfl (takes_of rfl rfl rfl rfl) hr (pe_meth0 (pv 0) Z.kit.cl ML GL hr1 bL .nil pass0))) pss_nil)
      (pss_cons (ps_if (pt_cmpR op_gt (pe_callB call_len_str (by rfl) hlen PySem.boot_len (pa_cons (pe_meth0 (pv 0) Z.kit.cl MT GT hr1 bT .nil pass0) pa_nil)) (pe_glob (by rfl) m0 (v := .int 150) ⟨t0, rfl⟩) (nomark _))
        (pss_one (ps_raiseX G rfl (takes_of rfl rfl rfl rfl) hr pe_str)) pss_nil)
      (pss_one (ps_ret (pe_callTy call_int_str (by rfl) hint (by decide +kernel) (pa_cons (pe_meth0 (pv 0) Z.kit.cl MA GA hr bA .nil pass0) pa_nil))))), ?_⟩
    have hlz : (⟨(tk ts k).toArray⟩ : Str).length = (tk ts k).length := by show (tk ts k).toArray.size = _; simp
    have hsm := hS.sm k
    refine ⟨_, rfl, R, dx, _, rfl, hR, rfl, R, ts, k, _, rfl, hRd, hk, _, rfl, by rw [hlz]; exact hsm, fun H1 s1 => ⟨_, rfl, ?_⟩⟩
    have hRd1 := hRd.same s1
    have hR1 := s1 _ _ hR
    rcases q with ⟨hN, q⟩ | q
    · rw [hN]
      refine iteT ?_
      refine ⟨_, rfl, R, dx, _, rfl, hR1, rfl, R, ts, k, _, rfl, hRd1, hk, fun d H' hd s2 h1 => ?_⟩
      exact q d H' ((ButR.of s1).trans (ButR.of s2)) h1
    have hN : isN (tk ts k) = true := by rcases q with ⟨h, _⟩ | ⟨h, _⟩ <;> exact h
    rw [hN]
    refine iteF ?_
    refine ⟨_, rfl, R, dx, _, rfl, hR1, rfl, R, ts, k, _, rfl, hRd1, hk, _, rfl, zL (by rw [hlz]; omega), _, _, rfl, rfl, _, rfl, ?_⟩
    rw [hlz]
    rcases q with ⟨_, hb, q⟩ | ⟨_, hb, q⟩
    · rw [decide_eq_true (p := (150 : Int) < ((tk ts k).length : Int)) (by omega)]
      refine iteT fun d H' hd s2 h1 => ?_
      exact q d H' ((ButR.of s1).trans (ButR.of s2)) h1
    · rw [decide_eq_false (p := (150 : Int) < ((tk ts k).length : Int)) (by omega)]
      refine iteF ?_
      refine ⟨_, rfl, R, dx, _, rfl, hR1, rfl, R, ts, k, _, rfl, hRd1, hk, fun H' h1 h2 => ⟨⟨(tk ts k).toArray⟩, numVal (tk ts k), rfl, isN_val hN (by omega), by rw [hlz]; omega, q H' h1 ((ButR.of s1).trans h2)⟩⟩
end

end K82

namespace K82
open PySem L2 SZ VR VX StX RT
/-! ### pass_one -/
theorem inV_strs (z : Str) : ∀ l : List Str, inV (.str z) (l.map V.str) = l.contains z := inV_str z
def spOne (K : PySem.W.Frag) (C CS : Addr) : Sp := fun vs H Q E => ∃ (R ta : Addr) (l : List Str) (ts : List (List Nat × Nat)) (k : Nat) (t : List Nat × Nat), vs = [.ref R, .ref ta] ∧ (∀ H, SqT K H ta (l.map V.str)) ∧ RdAt C H R ts k ∧ ts[k]? = some t ∧
  ((l.contains ⟨t.1.toArray⟩ = true ∧ ∀ H', RdAt C H' R ts (k + 1) → ButR R H H' → Q (.str ⟨t.1.toArray⟩) H') ∨ (l.contains ⟨t.1.toArray⟩ = false ∧ Out CS R H t.2 E))
section
variable {P : Program} {w : World} {K : PySem.W.Frag} {mg : Str → Option Value} {base : Heap} {C CS : Addr}
theorem ok_pass_one {f fA fT fL : Addr} {fd dA dT dL : FuncData} (F : Fun K "pass_one" "Reader.pass_one" S_Reader_pass_one f fd) (FA : Fun K "pass_any" "Reader.pass_any" S_Reader_pass_any fA dA) (bA : Binds K dA ["self"] []) (MA : Meth K C "pass_any" fA)
    (FT : Fun K "token" "Reader.token" S_Reader_token fT dT) (bT : Binds K dT ["self"] []) (MT : Meth K C "token" fT) (FL : Fun K "place" "Reader.place" S_Reader_place fL dL) (bL : Binds K dL ["self"] []) (ML : Meth K C "place" fL) (Z : RdC K mg C) (GS : SxC P w K mg base "InvalidSyntax" CS "position") :
    FnOk P w K mg base (L2.CX P w) 3 f fd ["self", "tokens"] (spOne K C CS) := by
  have GA : FnOk P w K mg base CX0 2 fA dA ["self"] (spPassAny C) := ok_pass_any FA FT bT MT Z
  have GT : FnOk P w K mg base CX0 1 fT dT ["self"] (spTok C) := ok_token FT Z
  have GL : FnOk P w K mg base CX0 1 fL dL ["self"] (spPlace C) := ok_place FL Z
  refine F.okX sc_Reader_pass_one (fun vs H Q E h => ?_) (fun cdv A outer s H vs Q E hr h => ?_)
  · obtain ⟨R, ta, l, ts, k, t, rfl, _⟩ := h; rfl
  · obtain ⟨R, ta, l, ts, k, t, rfl, hT, hRd, hk, q⟩ := h
    obtain ⟨dx, lt, hR, ho, hL⟩ := id hRd
    have hr1 : Room 1 _ := hr.mono (by decide)
    refine ⟨_, pss_cons (ps_if (pt_cmpR op_notIn_seq (pe_meth0 (pv 0) Z.kit.cl MT GT hr1 bT .nil pass0) (pv 1) (by rfl)) (pss_one (ps_raiseX GS rfl (takes_of rfl rfl rfl rfl) hr (pe_meth0 (pv 0) Z.kit.cl ML GL hr1 bL .nil pass0))) pss_nil)
      (pss_one (ps_ret (pe_meth0 (pv 0) Z.kit.cl MA GA hr bA .nil pass0))), ?_⟩
    refine ⟨_, rfl, R, dx, _, rfl, hR, rfl, R, ts, k, t, rfl, hRd, hk, _, rfl, ta, l.map V.str, rfl, .inr (hT H), rfl, flat_strs _, ?_⟩
    rw [inV_strs]
    rcases q with ⟨e, q⟩ | ⟨e, q⟩
    · rw [e]
      refine ⟨_, rfl, iteF ?_⟩
      exact ⟨_, rfl, R, dx, _, rfl, hR, rfl, R, ts, k, t, rfl, hRd, hk, q⟩
    · rw [e]
      refine ⟨_, rfl, iteT ?_⟩
      refine ⟨_, rfl, R, dx, _, rfl, hR, rfl, R, ts, k, t, rfl, hRd, hk, fun d H' hd s1 h1 => ?_⟩
      exact q d H' (fun b o e _ => s1 _ _ e) h1
end

end K82

/-! the words that the walks below find by themselves -/
local macro_rules | `(tactic| walk_at "v") => `(tactic| first | exact Or.inl rfl | exact Or.inr (Or.inl rfl) | exact Or.inr (Or.inr rfl))
local macro_rules | `(tactic| walk_at "o") => `(tactic| first
  | (refine fun _ h => DE.ov_eqInt h) | (refine fun _ h => DE.ov_eqStr h) | (refine fun _ h => DE.ov_add h) | (refine fun _ h => DE.ov_sub h) | (refine fun _ h => DE.ov_mod (by decide) h) | (refine fun _ h => DE.ov_lt h) | (refine fun _ h => DE.ov_le h) | (refine fun _ h => DE.ov_gt h) | (refine fun _ h => DE.ov_ge h)
  | (refine fun _ h => DE.ov_neInt h) | (refine fun _ h => DE.ov_neStr h) | (refine fun _ h => DE.ov_isN h) | (refine fun _ h => DE.ov_notN h)
  | exact DE.or_inS (.inl rfl) rfl | exact DE.or_inS (.inr rfl) rfl | exact DE.or_inI (.inl rfl) rfl | exact DE.or_inI (.inr rfl) rfl | exact DE.or_notInS (.inl rfl) rfl | exact DE.or_notInS (.inr rfl) rfl | exact DE.or_notInC | exact DE.or_inC
  | (refine fun _ h => DE.ov_mul (by first | exact .inl ⟨by omega, by omega⟩ | exact .inr ⟨by omega, by omega⟩) h))
local macro_rules | `(tactic| walk_at "c") => `(tactic| first
  | (refine fun _ h => DE.cv_int h) | (refine fun _ h => DE.cv_intB h) | (refine fun _ h => DE.cv_lenT h) | (refine fun _ h => DE.cv_lenL h) | (refine fun _ h => DE.cv_lenO h))

namespace K82
open PySem L2 SZ VR VX StX RT DE
/-! ### the draws -/
structure Bn2 (mg : Str → Option Value) : Prop where
  len : mg "len" = none
  int : mg "int" = none
  abs : mg "abs" = none
/-- a pool stands at a -/
def PoolAt (H : Hp) (a : Addr) : Prop := ∃ p q : Int, H a = some (.lst [.int p, .int q]) ∧ 0 ≤ p
theorem b01 (b : Bool) : -(2 ^ 64) < (if b = true then (1 : Int) else 0) ∧ (if b = true then (1 : Int) else 0) < 2 ^ 64 := by cases b <;> decide
theorem nn01 (c : Int) (b : Bool) : 0 ≤ (if c < 0 then -c else c) * (if b = true then (1 : Int) else 0) := by
  refine Int.mul_nonneg ?_ ?_
  · split <;> omega
  · cases b <;> decide
def spPool (K : PySem.W.Frag) : Sp := fun vs H Q _ => ∃ (a : Addr) (ns : List Int) (k : Nat), vs = [.ref a, .int k] ∧ SqL K H a (iz ns) ∧ k ≤ 63 ∧ ns.length ≤ 63 ∧ ∀ p H', H p = none → Same H H' → PoolAt H' p → Q (.ref p) H'
def spTake : Sp := fun vs H Q _ => ∃ (a : Addr) (wd : Int), vs = [.ref a, .int wd] ∧ PoolAt H a ∧ 0 < wd ∧ wd < 1073741824 ∧ ∀ (r : Int) (H' : Hp), 0 ≤ r → r < wd → PoolAt H' a → (∀ b o, H b = some o → b ≠ a → H' b = some o) → (∀ b, H b = none → H' b = none) → Q (.int r) H'
section
variable {P : Program} {w : World} {K : PySem.W.Frag} {mg : Str → Option Value} {base : Heap}
theorem ok_pool {f : Addr} {fd : FuncData} (F : Fun K "_law_pool" "_law_pool" S_law_pool f fd) (B : Bn2 mg) : FnOk P w K mg base CX0 1 f fd ["_law_script", "_law_k"] (spPool K) := by
  refine F.ok sc_law_pool (fun vs H Q E h => ?_) (fun cdv A outer s H vs Q E hr h => ?_)
  · obtain ⟨a, ns, k, rfl, _⟩ := h; rfl
  · obtain ⟨a, ns, k, rfl, ha, hk, hl, q⟩ := h
    refine ⟨_, pss_cons (ps_set (i := 2) sc_law_pool.nd rfl (Or.inl rfl) pe_int)
      (pss_cons (ps_if (pt_cmpR op_lt (pv 1) (pe_callB call_len_seq (by rfl) B.len PySem.boot_len (pa_cons (pv 0) pa_nil)) (nomark _)) (pss_one (ps_set (i := 2) sc_law_pool.nd rfl (Or.inl rfl) (pe_ix ix_list (pv 0) (pv 1) (fun _ _ => rfl)))) pss_nil)
      (pss_cons (ps_set (i := 3) sc_law_pool.nd rfl (Or.inl rfl) (pe_callB call_abs (by rfl) B.abs (by decide +kernel) (pa_cons (pv 2) pa_nil)))
      (pss_cons (ps_set (i := 4) sc_law_pool.nd rfl (Or.inl rfl) (pe_op op_mod (pe_op op_mul (pe_callTy call_int1 (by rfl) B.int (by decide +kernel) (pa_cons (pe_op op_add (pe_op op_mod (pe_callTy call_int1 (by rfl) B.int (by decide +kernel) (pa_cons (pv 2) pa_nil)) pe_int) (pe_op op_mul pe_int (pe_op op_add (pv 1) pe_int))) pa_nil)) (pe_op op_add (pv 1) pe_int)) pe_int))
      (pss_cons (ps_set (i := 5) sc_law_pool.nd rfl (Or.inl rfl) (pe_op op_mod (pe_op op_mul (pe_op op_mod (pe_callTy call_int1 (by rfl) B.int (by decide +kernel) (pa_cons (pe_op op_mul (pv 4) (pv 4)) pa_nil)) pe_int) pe_int) pe_int))
      (pss_one (ps_ret (pe_lst (pa_cons (pe_op op_mul (pv 3) (pe_callTy call_int1 (by rfl) B.int (by decide +kernel) (pa_cons (pe_cmpR op_ge (pv 3) (pe_op op_pow pe_int pe_int) (nomark _)) pa_nil))) (pa_cons (pv 5) pa_nil))))))))), ?_⟩
    refine ⟨_, rfl, _, rfl, a, iz ns, rfl, .inl ha, _, _, rfl, rfl, _, rfl, ?_⟩
    rw [iz_len]
    have m0 : (0 : Int) < 2147483629 := by decide
    have m1 : (0 : Int) < 2147483647 := by decide
    refine ite2 (fun h => ?_) (fun h => ?_)
    · have hlt : k < ns.length := by have := of_decide_eq_true h; omega
      have hx : ns[k]? = some ns[k] := List.getElem?_eq_getElem hlt
      refine ⟨_, rfl, _, rfl, a, iz ns, _, _, rfl, rfl, ha, at_of (j := k) rfl (iz_get hx), ?_⟩
      generalize ns[k] = c
      refine ⟨_, rfl, c, rfl, ?_⟩
      refine ⟨_, rfl, .inl ⟨_, rfl, _, _, rfl, rfl, m0, _, rfl, _, _, rfl, rfl, _, _, rfl, rfl, .inl ⟨by decide, by decide⟩, _, _, rfl, rfl, .inl ⟨_, rfl, _, rfl, _, _, rfl, rfl, _, _, rfl, rfl, .inr ⟨by omega, by omega⟩, _, _, rfl, rfl, m0, ?_⟩⟩⟩
      have b0 := Int.emod_nonneg ((c % 2147483629 + 104729 * ((k : Int) + 1)) * ((k : Int) + 7)) (Int.ne_of_gt m0)
      have b1 := Int.emod_lt_of_pos ((c % 2147483629 + 104729 * ((k : Int) + 1)) * ((k : Int) + 7)) m0
      generalize (c % 2147483629 + 104729 * ((k : Int) + 1)) * ((k : Int) + 7) % 2147483629 = bl at b0 b1
      refine ⟨_, rfl, _, rfl, _, _, rfl, rfl, .inl ⟨by omega, by omega⟩, .inl ⟨_, rfl, _, _, rfl, rfl, m0, _, _, rfl, rfl, .inr ⟨by decide, by decide⟩, _, _, rfl, rfl, m1, ?_⟩⟩
      refine ⟨_, rfl, _, rfl, _, _, rfl, rfl, ⟨by decide, by decide, by decide⟩, _, _, rfl, rfl, .inr ⟨_, rfl, _, _, rfl, rfl, (.inr (b01 _)), _, rfl, by show 2 ≤ sizeLine; decide, fun p hp => q p _ hp (Same.new hp) ⟨_, _, upd_same, nn01 c _⟩⟩⟩
    · refine ⟨_, rfl, (0 : Int), rfl, ?_⟩
      refine ⟨_, rfl, .inl ⟨_, rfl, _, _, rfl, rfl, m0, _, rfl, _, _, rfl, rfl, _, _, rfl, rfl, .inl ⟨by decide, by decide⟩, _, _, rfl, rfl, .inl ⟨_, rfl, _, rfl, _, _, rfl, rfl, _, _, rfl, rfl, .inr ⟨by omega, by omega⟩, _, _, rfl, rfl, m0, ?_⟩⟩⟩
      have b0 := Int.emod_nonneg (((0 : Int) % 2147483629 + 104729 * ((k : Int) + 1)) * ((k : Int) + 7)) (Int.ne_of_gt m0)
      have b1 := Int.emod_lt_of_pos (((0 : Int) % 2147483629 + 104729 * ((k : Int) + 1)) * ((k : Int) + 7)) m0
      generalize ((0 : Int) % 2147483629 + 104729 * ((k : Int) + 1)) * ((k : Int) + 7) % 2147483629 = bl at b0 b1
      refine ⟨_, rfl, _, rfl, _, _, rfl, rfl, .inl ⟨by omega, by omega⟩, .inl ⟨_, rfl, _, _, rfl, rfl, m0, _, _, rfl, rfl, .inr ⟨by decide, by decide⟩, _, _, rfl, rfl, m1, ?_⟩⟩
      refine ⟨_, rfl, _, rfl, _, _, rfl, rfl, ⟨by decide, by decide, by decide⟩, _, _, rfl, rfl, .inr ⟨_, rfl, _, _, rfl, rfl, (.inr (b01 _)), _, rfl, by show 2 ≤ sizeLine; decide, fun p hp => q p _ hp (Same.new hp) ⟨_, _, upd_same, nn01 0 _⟩⟩⟩
end

section
variable {P : Program} {w : World} {K : PySem.W.Frag} {mg : Str → Option Value} {base : Heap}
theorem ok_take {f : Addr} {fd : FuncData} (F : Fun K "_law_take" "_law_take" S_law_take f fd) (B : Bn2 mg) : FnOk P w K mg base CX0 1 f fd ["_law_pool_here", "_law_wide"] spTake := by
  refine F.ok sc_law_take (fun vs H Q E h => ?_) (fun cdv A outer s H vs Q E hr h => ?_)
  · obtain ⟨a, wd, rfl, _⟩ := h; rfl
  · obtain ⟨a, wd, rfl, ⟨p, q, ha, hp⟩, hw, hw2, k⟩ := h
    refine ⟨_, pss_cons (ps_if (pt_cmpR op_gt (pe_ix ix_list (pv 0) pe_int (fun _ _ => rfl)) pe_int (nomark _))
        (pss_cons (ps_set (i := 2) sc_law_take.nd rfl (Or.inl rfl) (pe_op op_mod (pe_callTy call_int1 (by rfl) B.int (by decide +kernel) (pa_cons (pe_ix ix_list (pv 0) pe_int (fun _ _ => rfl)) pa_nil)) (pv 1)))
        (pss_cons (ps_asg (pe_op op_fdiv (pe_ix ix_list (pv 0) pe_int (fun _ _ => rfl)) (pv 1)) (pg_sub (pv 0) pe_int set_list))
        (pss_one (ps_ret (pv 2))))) pss_nil)
      (pss_cons (ps_asg (pe_op op_mod (pe_callTy call_int1 (by rfl) B.int (by decide +kernel) (pa_cons (pe_op op_add (pe_op op_mul (pe_ix ix_list (pv 0) pe_int (fun _ _ => rfl)) pe_int) pe_int) pa_nil)) pe_int) (pg_sub (pv 0) pe_int set_list))
      (pss_one (ps_ret (pe_op op_mod (pe_op op_fdiv (pe_op op_mod (pe_callTy call_int1 (by rfl) B.int (by decide +kernel) (pa_cons (pe_op op_mul (pe_ix ix_list (pv 0) pe_int (fun _ _ => rfl)) (pe_ix ix_list (pv 0) pe_int (fun _ _ => rfl))) pa_nil)) pe_int) pe_int) (pv 1))))), ?_⟩
    have m0 : (0 : Int) < 2147483629 := by decide
    have m1 : (0 : Int) < 2147483647 := by decide
    have L : SqL K H a [.int p, .int q] := .of ha
    refine ⟨_, rfl, a, _, _, .int p, rfl, rfl, L, at_of (j := 0) rfl rfl, _, _, rfl, rfl, _, rfl, ?_⟩
    refine ite2 (fun h => ?_) (fun h => ?_)
    · refine ⟨_, rfl, a, _, _, .int p, rfl, rfl, L, at_of (j := 0) rfl rfl, .inl ⟨_, rfl, _, rfl, _, _, rfl, rfl, hw, ?_⟩⟩
      refine ⟨_, rfl, a, _, _, .int p, rfl, rfl, L, at_of (j := 0) rfl rfl, _, rfl, _, _, rfl, rfl, ⟨hw, hw2⟩, _, rfl, a, _, _, 0, rfl, rfl, ha, rfl, ?_⟩
      refine ⟨_, rfl, k _ _ (Int.emod_nonneg _ (Int.ne_of_gt hw)) (Int.emod_lt_of_pos _ hw) ⟨p / wd, q, upd_same, Int.ediv_nonneg hp (Int.le_of_lt hw)⟩ (fun b o hb hne => by rw [upd_ne hne]; exact hb) (fun b hb => ?_)⟩
      rw [upd_ne (fun e => by rw [e, ha] at hb; cases hb)]; exact hb
    · refine ⟨_, rfl, a, _, _, .int q, rfl, rfl, L, at_of (j := 1) rfl rfl, _, _, rfl, rfl, .inr ⟨by decide, by decide⟩, _, _, rfl, rfl, .inl ⟨_, rfl, _, _, rfl, rfl, m1, ?_⟩⟩
      refine ⟨_, rfl, a, _, _, 1, rfl, rfl, ha, rfl, ?_⟩
      dsimp only [List.set]
      have b0 := Int.emod_nonneg (q * 48271 + 12345) (Int.ne_of_gt m1)
      have b1 := Int.emod_lt_of_pos (q * 48271 + 12345) m1
      generalize (q * 48271 + 12345) % 2147483647 = z at b0 b1
      have L2 : SqL K (upd H a (.lst [.int p, .int z])) a [.int p, .int z] := .of upd_same
      refine ⟨_, rfl, a, _, _, .int z, rfl, rfl, L2, at_of (j := 1) rfl rfl, _, rfl, a, _, _, .int z, rfl, rfl, L2, at_of (j := 1) rfl rfl, _, _, rfl, rfl, .inl ⟨by omega, by omega⟩, .inl ⟨_, rfl, _, _, rfl, rfl, m0, _, _, rfl, rfl, ⟨by decide, by decide⟩, _, rfl, _, _, rfl, rfl, hw, ?_⟩⟩
      refine k _ _ (Int.emod_nonneg _ (Int.ne_of_gt hw)) (Int.emod_lt_of_pos _ hw) ⟨p, z, upd_same, hp⟩ (fun b o hb hne => by rw [upd_ne hne]; exact hb) (fun b hb => ?_)
      rw [upd_ne (fun e => by rw [e, ha] at hb; cases hb)]; exact hb
end

/-! ### the draws as data -/
def PoolD (ys : List PyData) : Prop := ∃ p q : Int, ys = [.int p, .int q] ∧ 0 ≤ p
abbrev PreT : List PyData → List Sl → Prop := fun ys as => PoolD ys ∧ ∃ wd : Int, as = [.d (.int wd)] ∧ 0 < wd ∧ wd < 1073741824
abbrev ResT : List PyData → List Sl → Sl → List PyData → Prop := fun _ as r ys' => PoolD ys' ∧ ∃ wd i : Int, as = [.d (.int wd)] ∧ r = .d (.int i) ∧ 0 ≤ i ∧ i < wd
abbrev PreP : List Sl → Prop := fun as => ∃ (ns : List Int) (k : Nat), as = [.d (.list (ns.map .int)), .d (.int k)] ∧ k ≤ 63 ∧ ns.length ≤ 63
abbrev ResP : List Sl → Sl → Prop := fun _ r => ∃ ys, r = .own ys ∧ PoolD ys
theorem dp_iz {K : PySem.W.Frag} {G : Hp} : ∀ {ns : List Int} {xs : List V}, DpAll K G xs (ns.map .int) → xs = iz ns
  | [], _, h => by cases h; rfl
  | n :: ns, _, h => by
    rw [List.map_cons] at h
    cases h with
    | cons h1 h2 =>
      cases h1
      rw [dp_iz h2]
      rfl
theorem dp_two {K : PySem.W.Frag} {G : Hp} {p q : Int} {vs : List V} (h : DpAll K G vs [.int p, .int q]) : vs = [.int p, .int q] := by
  cases h with
  | cons h1 h2 =>
    cases h1
    cases h2 with
    | cons h3 h4 =>
      cases h3
      cases h4
      rfl
section
variable {P : Program} {w : World} {K : PySem.W.Frag} {mg : Str → Option Value} {base : Heap}
theorem take_B {f : Addr} {fd : FuncData} {k : Nat} {ps : List Str} (F : FnOk P w K mg base CX0 k f fd ps spTake) : FnOk P w K mg base CX0 k f fd ps (spB K PreT ResT) := F.imp fun vs H Q E z => by
  obtain ⟨G, a, us, ys, as, rfl, l, hG, ⟨⟨p, q, rfl, hp⟩, wd, rfl, w0, w1⟩, h⟩ := z
  obtain ⟨u, rfl⟩ : ∃ u, us = [u] := List.length_eq_one_iff.mp (by simpa using l)
  have ok0 := hG.ok _ List.mem_cons_self
  obtain ⟨a', us0, e, hm, hg0, hl, hd⟩ := ok0
  cases e
  have := dp_two hd
  subst this
  obtain ⟨v, e, hv⟩ := hG.ok (some u, .d (.int wd)) (by simp)
  cases e
  cases hv
  refine ⟨a, wd, rfl, ⟨p, q, hl, hp⟩, w0, w1, fun r H' r0 r1 ⟨p', q', hl', hp'⟩ hb hn => ?_⟩
  refine h (.d (.int r)) [.int p', .int q'] ⟨⟨p', q', rfl, hp'⟩, wd, r, rfl, rfl, r0, r1⟩ (by simp) _ H' ⟨G, hG.old, fun b o e => hb b o (hG.up _ _ e) (fun n => by rw [n, hg0] at e; cases e), fun b o e => .inl e, fun b o e n => hb b o e (by simpa using n), fun b hb' => ?_, fun c hc => ?_, by simp [ads], hG.fl⟩
  · rw [List.mem_singleton.mp hb']
    exact ⟨by rw [hl']; rfl, fun z => by
      obtain ⟨ps, h1, _⟩ := z
      have h1 : H a = some (.tbl ps) := h1
      rw [hl] at h1; cases h1⟩
  · simp only [List.mem_cons, List.not_mem_nil, or_false] at hc
    rcases hc with rfl | rfl
    · exact ⟨_, rfl, .int r⟩
    · exact ⟨a, [.int p', .int q'], rfl, List.mem_singleton_self _, hg0, hl', .cons (.int _) (.cons (.int _) .nil)⟩
theorem pool_P {f : Addr} {fd : FuncData} {k : Nat} {ps : List Str} (F : FnOk P w K mg base CX0 k f fd ps (spPool K)) : FnOk P w K mg base CX0 k f fd ps (spP K PreP ResP) := F.imp fun vs H Q E z => by
  obtain ⟨G, as, l, hG, ⟨ns, k, rfl, hk, hn⟩, h⟩ := z
  obtain ⟨u1, u2, rfl⟩ : ∃ u1 u2, vs = [u1, u2] := by
    match vs, l with
    | [u1, u2], _ => exact ⟨u1, u2, rfl⟩
  obtain ⟨v1, e1, d1⟩ := hG.ok (some u1, .d (.list (ns.map .int))) (by simp)
  obtain ⟨v2, e2, d2⟩ := hG.ok (some u2, .d (.int k)) (by simp)
  cases e1; cases e2; cases d2
  cases d1 with
  | @lst a xs _ g1 g2 =>
    have := dp_iz g2
    subst this
    refine ⟨a, ns, k, rfl, hG.up.seq g1, hk, hn, fun p H' hp s ⟨p1, q1, hl, h0⟩ => ?_⟩
    have gp : G p = none := hG.up.free hp
    refine h _ ⟨[.int p1, .int q1], rfl, p1, q1, rfl, h0⟩ (by simp) _ H' ⟨G, hG.old, hG.up.trans s, fun b o e => .inl e, fun b o e _ => s _ _ e, fun b hb => (nomatch hb), fun c hc => ?_, by simp [ads], hG.fl⟩
    rw [List.mem_singleton.mp hc]
    exact ⟨p, [.int p1, .int q1], rfl, hp, gp, hl, .cons (.int _) (.cons (.int _) .nil)⟩
end
section
variable {X : Cx} {b : Bs} {ρ : List Sl} {p : Sl → List Sl → Prop} {e : Expr} {es : List Expr} {pos : Pos}
/-- a draw -/
theorem ev_take (i : Nat) {k : Nat} {wd : Int} {s : Sl} {ys : List PyData} {p1 p2 cp : Pos} (C : CalB X.prog X.w X.K X.mg X.base CX0 "_law_take" k PreT ResT) (hr : Room k X.A) (hN : X.N[i]? = some "_law_pool_here") (hv : Vis X.env.scope "_law_pool_here") {E : XK} (hx : Passes CX0 X E)
    (hs : ρ[i]? = some s) (ks : s = .own ys ∨ s = .bor ys) (hy : PoolD ys) (h : EVr X b ρ e (.d (.int wd))) (w0 : 0 < wd) (w1 : wd < 1073741824) (k : ∀ (r : Int) (ys' : List PyData), 0 ≤ r → r < wd → PoolD ys' → p (.d (.int r)) (ρ.set i (setS s ys'))) (hg : Gl X "_law_take" := by rfl)
    (he0 : starEach [e] X.env = (false, eval e X.env) :: starEach [] X.env := by rfl) (he : starEach [.Name "_law_pool_here" p2, e] X.env = (false, eval (.Name "_law_pool_here" p2) X.env) :: starEach [e] X.env := by rfl) (hpl : (backTo cp (starEach [e] X.env)).any (·.1) = false := by rfl) : EV X b ρ (.Call (.Name "_law_take" p1) [.Name "_law_pool_here" p2, e] [] cp) p :=
  ev_calL i C hr hg hx hN hv (a_cons h a_nil he0 _ ⟨[.int wd], rfl, s, ys, hs, ks, ⟨hy, wd, rfl, w0, w1⟩, fun r ys' ⟨h1, wd', j, e1, e2, j0, j1⟩ => by
    cases e1
    subst e2
    exact ⟨by simp, k j ys' j0 j1 h1⟩⟩) ⟨s, ys, hs, ks⟩ (by decide) (by decide) (by decide) he hpl
end

/-! ### conditions -/
inductive Frm where
  | any
  | atom (f : Str) (y : PyData)
  | not (a : Frm)
  | and (a b : Frm)
  | or (a b : Frm)
def Frm.dep : Frm → Nat
  | .any => 0
  | .atom _ _ => 0
  | .not a => a.dep + 1
  | .and a b => max a.dep b.dep + 1
  | .or a b => max a.dep b.dep + 1
def frmD : Frm → PyData
  | .any => .tuple [.str "any"]
  | .atom f y => .tuple [.str f, y]
  | .not a => .tuple [.str "not", frmD a]
  | .and a b => .tuple [.str "and", frmD a, frmD b]
  | .or a b => .tuple [.str "or", frmD a, frmD b]
abbrev FLD : List Str := ["kind", "level", "access", "other", "array", "word"]
def ixF (f : Str) : Nat := FLD.idxOf f
/-- one field of a row compared -/
def atomB (f : Str) (y : PyData) (ys : List PyData) : Bool := match ys[ixF f]? with
  | some z => PyData.eqv z y
  | none => false
def holdsF : Frm → List PyData → Bool
  | .any, _ => true
  | .atom f y, ys => atomB f y ys
  | .not a, ys => !holdsF a ys
  | .and a b, ys => holdsF a ys && holdsF b ys
  | .or a b, ys => holdsF a ys || holdsF b ys
structure CnC (K : PySem.W.Frag) (mg : Str → Option Value) (C : Addr) : Prop where
  kit : InsKit K C
  nP : NoAttr K C "_parts"
  isC : PySem.W.isClsIn K C = true
  tyC : PySem.W.typeIn K (.ref C) = some (.type "type")
  mgC : mg "Condition" = some (.ref C)
  isi : mg "isinstance" = none
/-- an instance whose parts are the tuple xs -/
def PtAt (K : PySem.W.Frag) (C : Addr) (H : Hp) (c : Addr) (xs : List V) : Prop := ∃ dx t, H c = some (.ins C dx [("_parts", .ref t)]) ∧ H dx = some (.own c) ∧ SqT K H t xs
def CndAt (K : PySem.W.Frag) (C : Addr) (H : Hp) : Frm → Addr → Prop
  | .any, c => PtAt K C H c [.str "any"]
  | .atom f y, c => ∃ v, PtAt K C H c [.str f, v] ∧ Dp K H v y
  | .not a, c => ∃ p, PtAt K C H c [.str "not", .ref p] ∧ CndAt K C H a p
  | .and a b, c => ∃ p q, PtAt K C H c [.str "and", .ref p, .ref q] ∧ CndAt K C H a p ∧ CndAt K C H b q
  | .or a b, c => ∃ p q, PtAt K C H c [.str "or", .ref p, .ref q] ∧ CndAt K C H a p ∧ CndAt K C H b q
theorem PtAt.same {K : PySem.W.Frag} {C : Addr} {H H' : Hp} {c : Addr} {xs : List V} (h : PtAt K C H c xs) (s : Same H H') : PtAt K C H' c xs := let ⟨dx, t, h1, ho, h2⟩ := h; ⟨dx, t, s _ _ h1, s _ _ ho, s.tup h2⟩
theorem CndAt.same {K : PySem.W.Frag} {C : Addr} {H H' : Hp} (s : Same H H') : ∀ {f : Frm} {c : Addr}, CndAt K C H f c → CndAt K C H' f c
  | .any, _, h => PtAt.same h s
  | .atom _ _, _, h => let ⟨v, h1, h2⟩ := h; ⟨v, h1.same s, Dp.keep s h2⟩
  | .not _, _, h => let ⟨p, h1, h2⟩ := h; ⟨p, h1.same s, CndAt.same s h2⟩
  | .and _ _, _, h => let ⟨p, q, h1, h2, h3⟩ := h; ⟨p, q, h1.same s, CndAt.same s h2, CndAt.same s h3⟩
  | .or _ _, _, h => let ⟨p, q, h1, h2, h3⟩ := h; ⟨p, q, h1.same s, CndAt.same s h2, CndAt.same s h3⟩
theorem CndAt.ins {K : PySem.W.Frag} {C : Addr} {H : Hp} : ∀ {f : Frm} {c : Addr}, CndAt K C H f c → ∃ xs, PtAt K C H c xs
  | .any, _, h => ⟨_, h⟩
  | .atom _ _, _, h => let ⟨_, h1, _⟩ := h; ⟨_, h1⟩
  | .not _, _, h => let ⟨_, h1, _⟩ := h; ⟨_, h1⟩
  | .and _ _, _, h => let ⟨_, _, h1, _⟩ := h; ⟨_, h1⟩
  | .or _ _, _, h => let ⟨_, _, h1, _⟩ := h; ⟨_, h1⟩
/-- a new instance whose parts are a new tuple xs -/
def CMade (C : Addr) (H : Hp) (xs : List V) (Q : VK) : Prop := ∀ (t c dx : Addr) (H' : Hp), H t = none → (upd H t (.tup xs)) c = none → (upd H t (.tup xs)) dx = none → dx ≠ c → Same (upd H t (.tup xs)) H' → H' c = some (.ins C dx [("_parts", .ref t)]) → H' dx = some (.own c) → Q (.ref c) H'
theorem CMade.at {K : PySem.W.Frag} {C : Addr} {H : Hp} {xs : List V} {Q : VK} (k : ∀ c H', Same H H' → PtAt K C H' c xs → Q (.ref c) H') : CMade C H xs Q := fun t c dx H' ht hc hd ne s h1 h2 =>
  k c H' ((Same.new ht).trans s) ⟨dx, t, h1, h2, s.tup (.of upd_same)⟩
def spCI (C : Addr) : Sp := fun vs H Q _ => ∃ (p dx : Addr) (v : V), vs = [.ref p, v] ∧ H p = some (.ins C dx []) ∧ Q .non (upd H p (.ins C dx [("_parts", v)]))
def spPts (K : PySem.W.Frag) (C : Addr) : Sp := fun vs H Q _ => ∃ (c dx : Addr) (v : V), vs = [.ref c] ∧ H c = some (.ins C dx [("_parts", v)]) ∧ Q v H
def spBi (K : PySem.W.Frag) (C : Addr) (w : Str) : Sp := fun vs H Q _ => ∃ (a b : Addr) (xs ys : List V), vs = [.ref a, .ref b] ∧ PtAt K C H a xs ∧ PtAt K C H b ys ∧ CMade C H [.str w, .ref a, .ref b] Q
def spUn (K : PySem.W.Frag) (C : Addr) (w : Str) : Sp := fun vs H Q _ => ∃ (a : Addr) (xs : List V), vs = [.ref a] ∧ PtAt K C H a xs ∧ CMade C H [.str w, .ref a] Q
section
variable {P : Program} {w : World} {K : PySem.W.Frag} {mg : Str → Option Value} {base : Heap} {C : Addr}
theorem ok_cinit {f : Addr} {fd : FuncData} (F : Fun K "__init__" "Condition.__init__" S_Condition___init__ f fd) (Z : CnC K mg C) : FnOk P w K mg base CX0 1 f fd ["self", "parts"] (spCI C) := by
  refine F.ok sc_Condition___init__ (fun vs H Q E h => by obtain ⟨p, dx, v, rfl, _⟩ := h; rfl) (fun cdv A outer s H vs Q E hr h => ?_)
  obtain ⟨p, dx, v, rfl, hp, q⟩ := h
  refine ⟨_, pss_one (ps_fld (pv 0) (pv 1) rfl), ?_⟩
  exact ⟨_, rfl, _, rfl, p, C, dx, [], rfl, hp, Z.kit.cl, Z.nP, (by show 0 < 1000; decide), q⟩
theorem ok_cparts {f : Addr} {fd : FuncData} (F : Fun K "parts" "Condition.parts" S_Condition_parts f fd) (Z : CnC K mg C) : FnOk P w K mg base CX0 1 f fd ["self"] (spPts K C) := by
  refine F.ok sc_Condition_parts (fun vs H Q E h => by obtain ⟨c, dx, v, rfl, _⟩ := h; rfl) (fun cdv A outer s H vs Q E hr h => ?_)
  obtain ⟨c, dx, v, rfl, hc, q⟩ := h
  refine ⟨_, pss_one (ps_ret (pe_fld (pv 0) rfl)), ?_⟩
  exact ⟨_, rfl, c, C, dx, _, _, rfl, hc, Z.kit.cl, Z.nP, rfl, q⟩
/-- what is made of it by the class -/
structure CnM (P : Program) (w : World) (K : PySem.W.Frag) (mg : Str → Option Value) (base : Heap) (C : Addr) : Prop where
  Z : CnC K mg C
  make : ∃ f fd, Mk K C f ∧ Binds K fd ["self", "parts"] [] ∧ FnOk P w K mg base CX0 1 f fd ["self", "parts"] (spCI C)
theorem made_of {H : Hp} {xs : List V} {Q : VK} {E : XK} (q : CMade C H xs Q) (t : Addr) (ht : H t = none) : ∀ x dx, (upd H t (.tup xs)) x = none → (upd H t (.tup xs)) dx = none → dx ≠ x → spCI C [V.ref x, V.ref t] (upd (upd (upd H t (.tup xs)) dx (.own x)) x (.ins C dx [])) (fun v H2 => v = .non ∧ Q (.ref x) H2) E := fun x dx nx nd ne => by
  refine ⟨x, dx, _, rfl, upd_same, rfl, q t x dx _ ht nx nd ne (fun a o e => ?_) upd_same ?_⟩
  · rw [upd_ne (ne_of_none e nx), upd_ne (ne_of_none e nx), upd_ne (ne_of_none e nd)]
    exact e
  · rw [upd_ne ne, upd_ne ne, upd_same]
theorem ok_cbi {f : Addr} {fd : FuncData} (F : Fun K "__and__" "Condition.__and__" S_Condition___and__ f fd) (M : CnM P w K mg base C) : FnOk P w K mg base CX0 3 f fd ["self", "other"] (spBi K C "and") := by
  obtain ⟨fm, fdm, MM, bM, GM⟩ := M.make
  refine F.ok sc_Condition___and__ (fun vs H Q E h => by obtain ⟨a, b, xs, ys, rfl, _⟩ := h; rfl) (fun cdv A outer s H vs Q E hr h => ?_)
  obtain ⟨a, b, xs, ys, rfl, ha, ⟨dy, ty, hb, _, hty⟩, q⟩ := h
  refine ⟨_, pss_cons (ps_if (pt_not (pt_val (pe_callB call_isi (by rfl) M.Z.isi (by decide +kernel) (pa_cons (pv 1) (pa_cons (pe_glob (by rfl) M.Z.mgC (v := .ref C) rfl) pa_nil))))) pss_never pss_nil)
    (pss_one (ps_ret (pe_make MM GM hr (by rfl) M.Z.mgC bM .nil pass0 (pa_cons (pe_tup (pa_cons pe_str (pa_cons (pv 0) (pa_cons (pv 1) pa_nil)))) pa_nil)))), ?_⟩
  refine ⟨_, rfl, _, _, _, _, true, rfl, .own C, M.Z.kit.ty hb, kit_self (by simp), true, rfl, ?_⟩
  refine iteF ?_
  refine ⟨_, rfl, _, rfl, small_line (by simp), fun t ht => ?_⟩
  exact made_of q t ht
theorem ok_cor {f : Addr} {fd : FuncData} (F : Fun K "__or__" "Condition.__or__" S_Condition___or__ f fd) (M : CnM P w K mg base C) : FnOk P w K mg base CX0 3 f fd ["self", "other"] (spBi K C "or") := by
  obtain ⟨fm, fdm, MM, bM, GM⟩ := M.make
  refine F.ok sc_Condition___or__ (fun vs H Q E h => by obtain ⟨a, b, xs, ys, rfl, _⟩ := h; rfl) (fun cdv A outer s H vs Q E hr h => ?_)
  obtain ⟨a, b, xs, ys, rfl, ha, ⟨dy, ty, hb, _, hty⟩, q⟩ := h
  refine ⟨_, pss_cons (ps_if (pt_not (pt_val (pe_callB call_isi (by rfl) M.Z.isi (by decide +kernel) (pa_cons (pv 1) (pa_cons (pe_glob (by rfl) M.Z.mgC (v := .ref C) rfl) pa_nil))))) pss_never pss_nil)
    (pss_one (ps_ret (pe_make MM GM hr (by rfl) M.Z.mgC bM .nil pass0 (pa_cons (pe_tup (pa_cons pe_str (pa_cons (pv 0) (pa_cons (pv 1) pa_nil)))) pa_nil)))), ?_⟩
  refine ⟨_, rfl, _, _, _, _, true, rfl, .own C, M.Z.kit.ty hb, kit_self (by simp), true, rfl, ?_⟩
  refine iteF ?_
  refine ⟨_, rfl, _, rfl, small_line (by simp), fun t ht => ?_⟩
  exact made_of q t ht
theorem ok_cinv {f : Addr} {fd : FuncData} (F : Fun K "__invert__" "Condition.__invert__" S_Condition___invert__ f fd) (M : CnM P w K mg base C) : FnOk P w K mg base CX0 3 f fd ["self"] (spUn K C "not") := by
  obtain ⟨fm, fdm, MM, bM, GM⟩ := M.make
  refine F.ok sc_Condition___invert__ (fun vs H Q E h => by obtain ⟨a, xs, rfl, _⟩ := h; rfl) (fun cdv A outer s H vs Q E hr h => ?_)
  obtain ⟨a, xs, rfl, ha, q⟩ := h
  refine ⟨_, pss_one (ps_ret (pe_make MM GM hr (by rfl) M.Z.mgC bM .nil pass0 (pa_cons (pe_tup (pa_cons pe_str (pa_cons (pv 0) pa_nil))) pa_nil))), ?_⟩
  refine ⟨_, rfl, small_line (by simp), fun t ht => ?_⟩
  exact made_of q t ht
end

end K82

namespace K82
open PySem L2 SZ VR VX StX RT DE
theorem dp_tupE {K : PySem.W.Frag} {G : Hp} {v : V} {ys : List PyData} (h : Dp K G v (.tuple ys)) : ∃ a xs, v = .ref a ∧ SqT K G a xs ∧ DpAll K G xs ys := by
  cases h with
  | tup h1 h2 => exact ⟨_, _, rfl, h1, h2⟩
/-! ### a condition asked of a row -/
def FrmOk : Frm → Prop
  | .any => True
  | .atom f y => f ∈ FLD ∧ SeqAt.shaped y = true ∧ SeqAt.shaped (.tuple [.str f, y]) = true ∧ PyData.eqv (.tuple [.str f, y]) (.tuple [.str f, y]) = true
  | .not a => FrmOk a
  | .and a b => FrmOk a ∧ FrmOk b
  | .or a b => FrmOk a ∧ FrmOk b
def RowOk (ys : List PyData) : Prop := ys.length = 7 ∧ ∀ y ∈ ys, SeqAt.shaped y = true
structure FdB (K : PySem.W.Frag) (mg : Str → Option Value) : Prop where
  fd : ∃ a, mg "_FIELDS" = some (.ref a) ∧ (∀ H, SqT K H a (FLD.map V.str)) ∧ ∃ o, K.lookup a = some o ∧ o.cls = .type "tuple" ∧ o.dict = none
def spCl (K : PySem.W.Frag) (C : Addr) (n : Nat) : Sp := fun vs H Q _ => ∃ (c : Addr) (r : V) (f : Frm) (ys : List PyData), vs = [.ref c, r] ∧ f.dep < n ∧ FrmOk f ∧ CndAt K C H f c ∧ Dp K H r (.tuple ys) ∧ RowOk ys ∧ Q (.bl (holdsF f ys)) H
theorem fld_at {f : Str} (h : f ∈ FLD) : FLD[ixF f]? = some f ∧ (∀ m, m < ixF f → FLD[m]? ≠ some f) ∧ ixF f < 6 := by
  unfold ixF
  simp only [FLD, List.mem_cons, List.not_mem_nil, or_false] at h
  rcases h with rfl | rfl | rfl | rfl | rfl | rfl
  · exact ⟨by decide +kernel, by decide +kernel, by decide +kernel⟩
  · exact ⟨by decide +kernel, by decide +kernel, by decide +kernel⟩
  · exact ⟨by decide +kernel, by decide +kernel, by decide +kernel⟩
  · exact ⟨by decide +kernel, by decide +kernel, by decide +kernel⟩
  · exact ⟨by decide +kernel, by decide +kernel, by decide +kernel⟩
  · exact ⟨by decide +kernel, by decide +kernel, by decide +kernel⟩
theorem fld_ne {f : Str} (h : f ∈ FLD) : f ≠ "any" ∧ f ≠ "not" ∧ f ≠ "and" ∧ f ≠ "or" := by
  simp only [FLD, List.mem_cons, List.not_mem_nil, or_false] at h
  rcases h with rfl | rfl | rfl | rfl | rfl | rfl <;> exact ⟨by decide, by decide, by decide, by decide⟩
theorem DpAll.get {K : PySem.W.Frag} {H : Hp} : ∀ {vs : List V} {ys : List PyData} {i : Nat} {y : PyData}, DpAll K H vs ys → ys[i]? = some y → ∃ v, vs[i]? = some v ∧ Dp K H v y
  | _, _, 0, _, .cons h1 _, e => by simp at e; subst e; exact ⟨_, rfl, h1⟩
  | _ :: _, _ :: ys, i + 1, _, .cons _ h2, e => DpAll.get (ys := ys) (i := i) h2 (by simpa using e)
  | _, _, _, _, .nil, e => by simp at e
theorem CndAt.insC {X : Cx} {C : Addr} {H : Hp} {f : Frm} {c : Addr} (h : CndAt X.K C H f c) : InsC X H c C := by
  obtain ⟨xs, dx, t, h1, _, _⟩ := h.ins
  exact .inr ⟨dx, _, h1⟩
section
variable {P : Program} {w : World} {K : PySem.W.Frag} {mg : Str → Option Value} {base : Heap} {C : Addr}
theorem ok_call {f : Addr} {fd : FuncData} (F : Fun K "__call__" "Condition.__call__" S_Condition___call__ f fd) (Z : CnC K mg C) (B : FdB K mg) (cO : CallO K C f) (bO : Binds K fd ["self", "row"] []) : ∀ n : Nat, FnOk P w K mg base CX0 (n + 1) f fd ["self", "row"] (spCl K C n) := by
  obtain ⟨aF, mF, hF, lF⟩ := B.fd
  intro n
  induction n with
  | zero => exact ⟨fun vs H Q E h => by obtain ⟨c, r, f, ys, rfl, _⟩ := h; rfl, fun A outer s H args us vs Q E hr e0 hb hv h => by obtain ⟨c, r, f, ys, _, hd, _⟩ := h; exact absurd hd (Nat.not_lt_zero _)⟩
  | succ n ih =>
    have GC : FnR P w K mg base CX0 (n + 1) f (spCl K C n) := (ih.raw bO .nil).imp fun vs H Q E h => by rw [List.append_nil]; exact h
    refine F.ok sc_Condition___call__ (fun vs H Q E h => by obtain ⟨c, r, f, ys, rfl, _⟩ := h; rfl) (fun cdv A outer s H vs Q E hr h => ?_)
    obtain ⟨c, r, fm, ys, rfl, hd, ok, hc, hy, ⟨l7, hs⟩, q⟩ := h
    refine ⟨_, pss_cons (ps_set (i := 2) sc_Condition___call__.nd rfl (Or.inl rfl) (pe_ix ix_tup (pe_fld (pv 0) rfl) pe_int (fun _ _ => rfl)))
      (pss_cons (ps_if (pt_cmpR op_eq (pv 2) pe_str (nomark _)) (pss_one (ps_ret pe_bl)) pss_nil)
      (pss_cons (ps_set (i := 3) sc_Condition___call__.nd rfl (Or.inl rfl) (pe_ix ix_tup (pe_fld (pv 0) rfl) pe_int (fun _ _ => rfl)))
      (pss_cons (ps_if (pt_cmpR op_eq (pv 2) pe_str (nomark _)) (pss_one (ps_ret (pe_not (pe_callO (pv 3) cO GC hr pass0 (pa_cons (pv 1) pa_nil))))) pss_nil)
      (pss_cons (ps_if (pt_cmpR op_eq (pv 2) pe_str (nomark _)) (pss_cons (ps_set (i := 4) sc_Condition___call__.nd rfl (Or.inl rfl) (pe_ix ix_tup (pe_fld (pv 0) rfl) pe_int (fun _ _ => rfl)))
        (pss_one (ps_ret (pe_and (pe_callO (pv 3) cO GC hr pass0 (pa_cons (pv 1) pa_nil)) (pe_one (pe_callO (pv 4) cO GC hr pass0 (pa_cons (pv 1) pa_nil))))))) pss_nil)
      (pss_cons (ps_if (pt_cmpR op_eq (pv 2) pe_str (nomark _)) (pss_cons (ps_set (i := 4) sc_Condition___call__.nd rfl (Or.inl rfl) (pe_ix ix_tup (pe_fld (pv 0) rfl) pe_int (fun _ _ => rfl)))
        (pss_one (ps_ret (pe_or (pe_callO (pv 3) cO GC hr pass0 (pa_cons (pv 1) pa_nil)) (pe_one (pe_callO (pv 4) cO GC hr pass0 (pa_cons (pv 1) pa_nil))))))) pss_nil)
      (pss_one (ps_ret (pe_cmpR (op_eqD hr.units) (pe_ix ix_tup (pv 1) (pe_bm PySem.F.plainAttrs_tuple PySem.F.slot_tuple_index PySem.F.type_tuple_index mt_tup_index (pe_glob (by rfl) mF (v := .ref aF) rfl) (pa_cons (pv 2) pa_nil)) (fun _ _ => rfl)) (pv 3) (nomark _))))))))), ?_⟩
    cases fm with
    | any =>
      obtain ⟨dx, t, h1, _, h2⟩ := hc
      refine ⟨_, rfl, c, C, dx, _, _, rfl, h1, Z.kit.cl, Z.nP, rfl, t, _, 0, _, rfl, rfl, h2, rfl, ?_⟩
      refine ⟨_, rfl, rfl, true, by decide, ?_⟩
      refine iteT ?_
      exact q
    | atom g y =>
      obtain ⟨v, ⟨dx, t, h1, _, h2⟩, h3⟩ := hc
      obtain ⟨n1, n2, n3, n4⟩ := fld_ne ok.1
      refine ⟨_, rfl, c, C, dx, _, _, rfl, h1, Z.kit.cl, Z.nP, rfl, t, _, 0, _, rfl, rfl, h2, rfl, ?_⟩
      refine ⟨_, rfl, rfl, false, by simpa using n1, ?_⟩
      refine iteF ?_
      refine ⟨_, rfl, c, C, dx, _, _, rfl, h1, Z.kit.cl, Z.nP, rfl, t, _, 1, _, rfl, rfl, h2, rfl, ?_⟩
      refine ⟨_, rfl, rfl, false, by simpa using n2, ?_⟩
      refine iteF ?_
      refine ⟨_, rfl, rfl, false, by simpa using n3, ?_⟩
      refine iteF ?_
      refine ⟨_, rfl, rfl, false, by simpa using n4, ?_⟩
      refine iteF ?_
      obtain ⟨f1, f2, f3⟩ := fld_at ok.1
      obtain ⟨a, xs, rfl, s1, s2⟩ := dp_tupE hy
      have hi : ys[ixF g]? = some ys[ixF g] := List.getElem?_eq_getElem (by omega)
      obtain ⟨u, hu, du⟩ := DpAll.get s2 hi
      refine ⟨_, rfl, .inr (.inl ⟨rfl, lF⟩), _, rfl, aF, FLD, g, ixF g, rfl, rfl, hF H, f1, f2, a, xs, _, u, rfl, rfl, s1, ?_, _, rfl, ?_⟩
      · exact atI_nat hu
      · refine ⟨_, _, du, h3, hs _ (List.mem_of_getElem? hi), ok.2.1, ?_⟩
        have e : holdsF (.atom g y) ys = PyData.eqv ys[ixF g] y := by
          show atomB g y ys = _
          unfold atomB
          rw [hi]
        rw [← e]
        exact q
    | not a =>
      obtain ⟨p, ⟨dx, t, h1, _, h2⟩, h3⟩ := hc
      refine ⟨_, rfl, c, C, dx, _, _, rfl, h1, Z.kit.cl, Z.nP, rfl, t, _, 0, _, rfl, rfl, h2, rfl, ?_⟩
      refine ⟨_, rfl, rfl, false, by decide, ?_⟩
      refine iteF ?_
      refine ⟨_, rfl, c, C, dx, _, _, rfl, h1, Z.kit.cl, Z.nP, rfl, t, _, 1, _, rfl, rfl, h2, rfl, ?_⟩
      refine ⟨_, rfl, rfl, true, by decide, ?_⟩
      refine iteT ?_
      refine ⟨_, rfl, p, rfl, _, rfl, (h3.insC), ?_⟩
      refine ⟨p, r, a, ys, rfl, (by have : a.dep + 1 < n + 1 := hd; omega), ok, h3, hy, ⟨l7, hs⟩, ?_⟩
      exact ⟨_, rfl, q⟩
    | and a b =>
      obtain ⟨p, p2, ⟨dx, t, h1, _, h2⟩, h3, h4⟩ := hc
      have hd : max a.dep b.dep + 1 < n + 1 := hd
      refine ⟨_, rfl, c, C, dx, _, _, rfl, h1, Z.kit.cl, Z.nP, rfl, t, _, 0, _, rfl, rfl, h2, rfl, ?_⟩
      refine ⟨_, rfl, rfl, false, by decide, ?_⟩
      refine iteF ?_
      refine ⟨_, rfl, c, C, dx, _, _, rfl, h1, Z.kit.cl, Z.nP, rfl, t, _, 1, _, rfl, rfl, h2, rfl, ?_⟩
      refine ⟨_, rfl, rfl, false, by decide, ?_⟩
      refine iteF ?_
      refine ⟨_, rfl, rfl, true, by decide, ?_⟩
      refine iteT ?_
      refine ⟨_, rfl, c, C, dx, _, _, rfl, h1, Z.kit.cl, Z.nP, rfl, t, _, 2, _, rfl, rfl, h2, rfl, ?_⟩
      refine ⟨_, rfl, p, rfl, _, rfl, (h3.insC), ?_⟩
      refine ⟨p, r, a, ys, rfl, (by omega), ok.1, h3, hy, ⟨l7, hs⟩, _, rfl, ?_⟩
      cases ha : holdsF a ys with
      | false =>
        refine iteF ?_
        simpa [holdsF, ha] using q
      | true =>
        refine iteT ?_
        refine ⟨_, rfl, p2, rfl, _, rfl, (h4.insC), ?_⟩
        exact ⟨p2, r, b, ys, rfl, (by omega), ok.2, h4, hy, ⟨l7, hs⟩, by simpa [holdsF, ha] using q⟩
    | or a b =>
      obtain ⟨p, p2, ⟨dx, t, h1, _, h2⟩, h3, h4⟩ := hc
      have hd : max a.dep b.dep + 1 < n + 1 := hd
      refine ⟨_, rfl, c, C, dx, _, _, rfl, h1, Z.kit.cl, Z.nP, rfl, t, _, 0, _, rfl, rfl, h2, rfl, ?_⟩
      refine ⟨_, rfl, rfl, false, by decide, ?_⟩
      refine iteF ?_
      refine ⟨_, rfl, c, C, dx, _, _, rfl, h1, Z.kit.cl, Z.nP, rfl, t, _, 1, _, rfl, rfl, h2, rfl, ?_⟩
      refine ⟨_, rfl, rfl, false, by decide, ?_⟩
      refine iteF ?_
      refine ⟨_, rfl, rfl, false, by decide, ?_⟩
      refine iteF ?_
      refine ⟨_, rfl, rfl, true, by decide, ?_⟩
      refine iteT ?_
      refine ⟨_, rfl, c, C, dx, _, _, rfl, h1, Z.kit.cl, Z.nP, rfl, t, _, 2, _, rfl, rfl, h2, rfl, ?_⟩
      refine ⟨_, rfl, p, rfl, _, rfl, (h3.insC), ?_⟩
      refine ⟨p, r, a, ys, rfl, (by omega), ok.1, h3, hy, ⟨l7, hs⟩, _, rfl, ?_⟩
      cases ha : holdsF a ys with
      | true =>
        refine iteT ?_
        simpa [holdsF, ha] using q
      | false =>
        refine iteF ?_
        refine ⟨_, rfl, p2, rfl, _, rfl, (h4.insC), ?_⟩
        exact ⟨p2, r, b, ys, rfl, (by omega), ok.2, h4, hy, ⟨l7, hs⟩, by simpa [holdsF, ha] using q⟩
end

end K82

namespace K82
open PySem L2 SZ VR VX StX RT DE
/-! ### where(..) -/
structure CnD (P : Program) (w : World) (K : PySem.W.Frag) (mg : Str → Option Value) (base : Heap) (C : Addr) : Prop where
  M : CnM P w K mg base C
  B : FdB K mg
  and_ : ∃ f fd, BinOwn K C "and" f ∧ Binds K fd ["self", "other"] [] ∧ FnOk P w K mg base CX0 3 f fd ["self", "other"] (spBi K C "and")
def stepF : Option Frm → Str × PyData → Option Frm
  | none, p => some (.atom p.1 p.2)
  | some f, p => some (.and f (.atom p.1 p.2))
def frmW (l : List (Str × PyData)) : Frm := (l.foldl stepF none).getD .any
def FvAt (K : PySem.W.Frag) (C : Addr) (H : Hp) : Option Frm → V → Prop
  | none, v => v = .non
  | some f, v => ∃ c, v = .ref c ∧ CndAt K C H f c
theorem FvAt.same {K : PySem.W.Frag} {C : Addr} {H H' : Hp} (s : Same H H') {o : Option Frm} {v : V} (h : FvAt K C H o v) : FvAt K C H' o v := by
  cases o with
  | none => exact h
  | some f => obtain ⟨c, e, z⟩ := h; exact ⟨c, e, z.same s⟩
/-- what binding where's keywords gives -/
def WhBind (ks : List Str) : Prop := ∀ (kV doc pm : Value) (an : Option Addr) (cdv ct : Value) (us : List Value), us.length = ks.length →
  bindArgs (PySem.W.fnOf "where" "where" (defArgs S_where) (defBody S_where) (defScope S_where) .none kV doc pm an cdv ct) ⟨[], ks.zip us⟩ =
    ((alloc ({ cls := .type "dict", data := .dict #[] } : Obj) : Sem Addr) >>= fun d => (forIn (ks.zip us) PUnit.unit fun x _ => (nsSet d x.1 x.2 >>= fun _ => pure (ForInStep.yield PUnit.unit))) >>= fun _ => pure [(("wanted" : Str), Value.ref d)])
def spWh (K : PySem.W.Frag) (C : Addr) (ks : List Str) : Sp := fun vs H Q _ => ∃ ys : List PyData, DpAll K H vs ys ∧ vs.length = ks.length ∧ ∀ c H', Same H H' → CndAt K C H' (frmW (ks.zip ys)) c → Q (.ref c) H'
theorem kwV_at {ks : List Str} {vs : List V} {i : Nat} {k : V} {v : V} (h1 : (kwV ks vs)[i]?.map (fun kv => kV kv.1) = some k) (h2 : (kwV ks vs)[i]?.map Prod.snd = some v) : ∃ z, ks[i]? = some z ∧ vs[i]? = some v ∧ k = .str z := by
  unfold kwV at h1 h2
  rw [List.getElem?_map] at h1 h2
  cases e : (ks.zip vs)[i]? with
  | none => rw [e] at h1; cases h1
  | some p =>
    rw [e] at h1 h2
    obtain ⟨a, b⟩ := p
    obtain ⟨e1, e2⟩ := List.getElem?_zip_eq_some.mp e
    cases h1
    cases h2
    exact ⟨a, e1, e2, rfl⟩
theorem zip_take {ks : List Str} {ys : List PyData} {i : Nat} {z : Str} {y : PyData} (h1 : ks[i]? = some z) (h2 : ys[i]? = some y) : (ks.zip ys).take (i + 1) = (ks.zip ys).take i ++ [(z, y)] := by
  rw [List.take_add_one]
  have e : (ks.zip ys)[i]? = some (z, y) := List.getElem?_zip_eq_some.mpr ⟨h1, h2⟩
  rw [e]
  rfl
theorem made_i {K : PySem.W.Frag} {C : Addr} {H : Hp} {xs : List V} {R : Hp → Prop} {E : XK} {t c dx : Addr} (ht : H t = none) (nx : (upd H t (.tup xs)) c = none) (nd : (upd H t (.tup xs)) dx = none) (ne : dx ≠ c) (q : ∀ H', Same H H' → PtAt K C H' c xs → R H') : spCI C [V.ref c, V.ref t] (upd (upd (upd H t (.tup xs)) dx (.own c)) c (.ins C dx [])) (fun v H2 => v = .non ∧ R H2) E := by
  have q1 : CMade C H xs (fun u H' => u = .ref c → R H') := CMade.at (K := K) fun c' H' s hc e => by cases e; exact q H' s hc
  obtain ⟨x', dx', v', e1, e2, e3, e4⟩ := made_of (E := E) q1 t ht c dx nx nd ne
  exact ⟨x', dx', v', e1, e2, e3, e4 rfl⟩
section
variable {P : Program} {w : World} {K : PySem.W.Frag} {mg : Str → Option Value} {base : Heap} {C : Addr}
theorem run_where {f : Addr} {fd : FuncData} (F : Fun K "where" "where" S_where f fd) (D : CnD P w K mg base C) {ks : List Str} (hks : ks.Nodup) (hz : ks.length ≤ 100) (hF : ∀ k ∈ ks, k ∈ FLD) (hb : WhBind ks) : FnW P w K mg base CX0 5 f ks (spWh K C ks) := by
  obtain ⟨oc, od, kV, doc, pm, an, cdv, ct, osl, rfl, lk, hcd⟩ := F.ex
  obtain ⟨aF, mF, hFd, lF⟩ := D.B.fd
  obtain ⟨fA, dA, BA, bA, GA⟩ := D.and_
  obtain ⟨fm, fdm, MM, bM, GM⟩ := D.M.make
  intro A outer s H us vs Q E hr e0 r hl h
  obtain ⟨ys, hy, hlk, q⟩ := h
  refine fn_kw (k := 4) (sp := fun xs H2 Q' _ => ∃ d o, xs = [V.ref d] ∧ H d = Option.none ∧ H2 = upd H d (.frz o (.dK (kwV ks vs))) ∧ Q' = Q) lk hcd sc_where cxUp_none hks hz (fun us hu => hb kV doc pm an cdv ct us hu) (fun A outer s H2 xs Q' E hr ⟨d, o, ex, hd, eH, eQ⟩ => ?_) A outer s H us vs Q E hr e0 r hl (fun d o hd => ⟨d, o, rfl, hd, rfl, rfl⟩)
  subst ex eH eQ
  have hlen : (kwV ks vs).length = ks.length := by
    unfold kwV
    rw [List.length_map, List.length_zip, hl]
    omega
  refine ⟨_, PSs.nox (pss_cons (ps_set (i := 1) sc_where.nd rfl (Or.inl rfl) pe_non)
    (pss_cons (ps_for PassesOwn.never rfl (pi_items (pv 0)) (pg_tup rfl (pgs_cons (pg_name (i := 2) sc_where.nd rfl (Or.inl rfl)) (pgs_cons (pg_name (i := 3) sc_where.nd rfl (Or.inl rfl)) pgs_nil)))
      (pss_cons (ps_if (pt_cmpR op_notIn_seq (pv 2) (pe_glob (by rfl) mF (v := .ref aF) rfl) (by rfl)) pss_never pss_nil)
      (pss_cons (ps_set (i := 4) sc_where.nd rfl (Or.inl rfl) (pe_make MM GM (hr.mono (by decide)) (by rfl) D.M.Z.mgC bM .nil pass0 (pa_cons (pe_tup (pa_cons (pv 2) (pa_cons (pv 3) pa_nil))) pa_nil)))
      (pss_one (ps_set (i := 1) sc_where.nd rfl (Or.inl rfl) (pe_ifExp (pt_cmpR op_isN (pv 1) pe_non (nomark _)) (pv 4) (pe_op (op_own BA GA (hr.mono (by decide)) bA pass0) (pv 1) (pv 4))))))))
    (pss_one (ps_ret (pe_ifExp (pt_cmpR op_isN (pv 1) pe_non (nomark _)) (pe_make MM GM (hr.mono (by decide)) (by rfl) D.M.Z.mgC bM .nil pass0 (pa_cons (pe_tup (pa_cons pe_str pa_nil)) pa_nil)) (pv 1)))))), ?_⟩
  have s0 : Same H (upd H d (.frz o (.dK (kwV ks vs)))) := Same.new hd
  have hn : vs.length = ys.length := DpAll.len hy
  refine ⟨_, rfl, d, o, kwV ks vs, rfl, upd_same, ?_⟩
  refine for_it (walk_items (kvs := kwV ks vs)) (fun i σ H' => ∃ fv s2 s3 s4, σ = [some (.ref d), some fv, s2, s3, s4] ∧ Same (upd H d (.frz o (.dK (kwV ks vs)))) H' ∧ FvAt K C H' (((ks.zip ys).take i).foldl stepF none) fv)
    ⟨.non, none, none, none, rfl, Same.refl _, rfl⟩ (fun i σ H' _ ⟨_, _, _, _, _, s1, _⟩ => s1 _ _ upd_same) ?_ ?_
  · rintro i x σ H1 H2 hi ⟨fv, s2, s3, s4, rfl, s1, hf⟩ ⟨T, k', v, rfl, hT, rfl, ek, ev⟩
    obtain ⟨z, ez, evs, rfl⟩ := kwV_at ek ev
    obtain ⟨y, ey, dv⟩ := DpAll.at hy evs
    have sT : Same H1 (upd H1 T (.tup [.str z, v])) := Same.new hT
    have dv1 : Dp K (upd H1 T (.tup [.str z, v])) v y := Dp.keep (s0.trans (s1.trans sT)) dv
    generalize hH2 : upd H1 T (.tup [.str z, v]) = H2 at sT dv1
    refine ⟨T, _, rfl, by rw [← hH2]; exact .of upd_same, rfl, ?_⟩
    refine ⟨_, _, rfl, _, _, rfl, rfl, ?_⟩
    show tSeq _ _ _ [some (.ref d), some fv, some (.str z), some v, s4] _
    have hz : FLD.contains z = true := List.contains_iff_mem.mpr (hF z (List.mem_of_getElem? ez))
    refine ⟨_, rfl, aF, FLD.map V.str, rfl, .inr (hFd _), rfl, flat_strs _, false, by rw [inV_str, hz]; rfl, ?_⟩
    refine iteF ?_
    show tSeq _ _ _ [some (.ref d), some fv, some (.str z), some v, s4] _
    refine ⟨_, rfl, _, rfl, small_line (by simp), fun t ht => ?_⟩
    intro c dx nx nd ne
    refine made_i (K := K) ht nx nd ne fun H3 s3' hc => ?_
    have hat : CndAt K C H3 (.atom z y) c := ⟨v, hc, Dp.keep s3' dv1⟩
    have s13 : Same (upd H d (.frz o (.dK (kwV ks vs)))) H3 := s1.trans (sT.trans s3')
    rw [zip_take ez ey, List.foldl_append]
    have hf3 := hf.same (sT.trans s3')
    cases e : ((ks.zip ys).take i).foldl stepF none with
    | none =>
      rw [e] at hf3
      have hf3 : fv = .non := hf3
      subst hf3
      refine ⟨_, rfl, rfl, true, rfl, ?_⟩
      refine iteT ?_
      refine ⟨_, rfl, ?_⟩
      exact ⟨_, _, _, _, rfl, s13, c, rfl, hat⟩
    | some g =>
      rw [e] at hf3
      obtain ⟨c0, rfl, hc0⟩ := hf3
      refine ⟨_, rfl, rfl, false, rfl, ?_⟩
      refine iteF ?_
      obtain ⟨x0, p0⟩ := hc0.ins
      obtain ⟨d0, t0, i0, _, _⟩ := id p0
      obtain ⟨d1, t1, i1, _, _⟩ := id hc
      refine ⟨_, rfl, _, rfl, c0, d0, _, rfl, i0, .inl ⟨c, d1, _, rfl, i1⟩, c0, c, _, _, rfl, p0, hc, CMade.at (K := K) fun c4 H4 s4' h4 => ?_⟩
      exact ⟨_, _, _, _, rfl, s13.trans s4', c4, rfl, c0, c, h4, hc0.same s4', hat.same s4'⟩
  · rintro σ H1 ⟨fv, s2, s3, s4, rfl, s1, hf⟩
    rw [List.take_of_length_le (by rw [hlen, List.length_zip]; omega)] at hf
    cases e : (ks.zip ys).foldl stepF none with
    | none =>
      rw [e] at hf
      have hf : fv = .non := hf
      subst hf
      refine ⟨_, rfl, rfl, true, rfl, ?_⟩
      refine iteT ?_
      refine ⟨small_line (by simp), fun t ht => ?_⟩
      intro c dx nx nd ne
      refine made_i (K := K) ht nx nd ne fun H3 s3' hc => ?_
      refine q c H3 (s0.trans (s1.trans s3')) ?_
      have e2 : frmW (ks.zip ys) = .any := by unfold frmW; rw [e]; rfl
      rw [e2]
      exact hc
    | some g =>
      rw [e] at hf
      obtain ⟨c0, rfl, hc0⟩ := hf
      refine ⟨_, rfl, rfl, false, rfl, ?_⟩
      refine iteF ?_
      refine ⟨_, rfl, q c0 H1 (s0.trans s1) ?_⟩
      have e2 : frmW (ks.zip ys) = g := by unfold frmW; rw [e]; rfl
      rw [e2]
      exact hc0
end

end K82

namespace K82
open PySem L2 SZ VR VX StX RT DE
theorem wb0 : WhBind [] := fun kV doc pm an cdv ct us h => by match us, h with | [], _ => rfl
theorem wb1 (k : Str) : WhBind [k] := fun kV doc pm an cdv ct us h => by match us, h with | [a], _ => rfl
theorem wb2 (k l : Str) : WhBind [k, l] := fun kV doc pm an cdv ct us h => by match us, h with | [a, b], _ => rfl
theorem wb3 (k l m : Str) : WhBind [k, l, m] := fun kV doc pm an cdv ct us h => by match us, h with | [a, b, c], _ => rfl

end K82

namespace K82
open PySem L2 SZ VR VX StX RT DE
/-! ### conditions in DE -/
abbrev CndF (K : PySem.W.Frag) (C : Addr) (f : Frm) : Sl := .fact (fun v G => ∃ c, v = .ref c ∧ CndAt K C G f c) (fun _ _ _ s ⟨c, e, h⟩ => ⟨c, e, h.same s⟩)
theorem PtAt.flt {K : PySem.W.Frag} {C : Addr} {G G' : Hp} {c : Addr} {xs : List V} (s : Same G G') (h : PtAt K C G' c xs) : PtAt K C (fltO G G') c xs := by
  obtain ⟨dx, t, h1, h2, h3⟩ := h
  exact ⟨dx, t, fltO_in s h1 (.inr (.inl ⟨C, dx, _, rfl, h2⟩)), fltO_in s h2 (.inr (.inr ⟨c, C, _, rfl, h1⟩)), fltO_tup s h3⟩
theorem CndAt.flt {K : PySem.W.Frag} {C : Addr} {G G' : Hp} (s : Same G G') : ∀ {f : Frm} {c : Addr}, CndAt K C G' f c → CndAt K C (fltO G G') f c
  | .any, _, h => PtAt.flt s h
  | .atom _ _, _, h => let ⟨v, h1, h2⟩ := h; ⟨v, h1.flt s, fltO_dp s h2⟩
  | .not _, _, h => let ⟨p, h1, h2⟩ := h; ⟨p, h1.flt s, CndAt.flt s h2⟩
  | .and _ _, _, h => let ⟨p, q, h1, h2, h3⟩ := h; ⟨p, q, h1.flt s, CndAt.flt s h2, CndAt.flt s h3⟩
  | .or _ _, _, h => let ⟨p, q, h1, h2, h3⟩ := h; ⟨p, q, h1.flt s, CndAt.flt s h2, CndAt.flt s h3⟩
theorem hold_cnd {K : PySem.W.Frag} {b : Bs} {G H : Hp} {L : List Cl} {x : Option V} {C : Addr} {f : Frm} {C' : Cl} (h : HoldG K b G H L) (m : C' ∈ L) (e : C' = (x, CndF K C f)) : ∃ c, x = some (.ref c) ∧ CndAt K C G f c := by
  subst e
  obtain ⟨v, e, c, e2, hc⟩ := h.ok _ m
  subst e2
  exact ⟨c, e, hc⟩
/-- un_own for ~ -/
theorem un_inv {X : Cx} {CX : CXT} {k : Nat} {C f : Addr} {fd : FuncData} {ps : List Str} {sp : Sp} {E : XK} (hs : PySem.W.findIn X.K (.ref C) "__invert__" = some (some (.ref f))) (hf : PySem.W.isFn X.K (.ref f) = true) (F : FnOk X.prog X.w X.K X.mg X.base CX k f fd ps sp) (hr : Room k X.A) (hb : Binds X.K fd ps []) (hx : Passes CX X E) :
    UnR X (unaryOp .Invert) (rOwnU C sp E) := by
  intro pins s σ H x v Q I rx h
  obtain ⟨a, dx, fs, rfl, ha, q⟩ := h
  cases rx
  obtain ⟨mA, O, _⟩ := ins_get I.hok ha
  obtain ⟨od, J, _⟩ := O.look
  obtain ⟨m, hF⟩ := I.fr
  exact PySem.W.ksp_inv hF I.ok.mod.kin J hs hf (run_fn (us := [.ref a]) (vs := [.ref a]) (dvs := []) F hr hb .nil hx I (.cons rfl .nil) q)
/-- what the law calls of the class -/
structure CnL (P : Program) (w : World) (K : PySem.W.Frag) (mg : Str → Option Value) (base : Heap) (C : Addr) : Prop where
  D : CnD P w K mg base C
  or_ : ∃ f fd, BinOwn K C "or" f ∧ Binds K fd ["self", "other"] [] ∧ FnOk P w K mg base CX0 3 f fd ["self", "other"] (spBi K C "or")
  inv : ∃ f fd, PySem.W.findIn K (.ref C) "__invert__" = some (some (.ref f)) ∧ PySem.W.isFn K (.ref f) = true ∧ Binds K fd ["self"] [] ∧ FnOk P w K mg base CX0 3 f fd ["self"] (spUn K C "not")
  call : ∃ f, CallO K C f ∧ ∀ n, FnR P w K mg base CX0 (n + 1) f (spCl K C n)
  parts : ∃ f fd, Meth K C "parts" f ∧ Binds K fd ["self"] [] ∧ FnOk P w K mg base CX0 1 f fd ["self"] (spPts K C)
  wh : ∃ f fd, Fun K "where" "where" S_where f fd ∧ mg "where" = some (.ref f)
section
variable {X : Cx} {b : Bs} {ρ : List Sl} {C : Addr} {f g : Frm} {e fe : Expr}
theorem HoldG.bin {K : PySem.W.Frag} {G H H' : Hp} {L : List Cl} {t c dx p q : Addr} {w : Str} (hG : HoldG K b G H L) (ht : H t = none) (hc : (upd H t (.tup [.str w, .ref p, .ref q])) c = none) (hd : (upd H t (.tup [.str w, .ref p, .ref q])) dx = none) (ne : dx ≠ c) (s : Same (upd H t (.tup [.str w, .ref p, .ref q])) H') (h1 : H' c = some (.ins C dx [("_parts", .ref t)])) (h2 : H' dx = some (.own c)) :
    ∃ G', HoldG K b G' H' L ∧ Same G G' ∧ PtAt K C G' c [.str w, .ref p, .ref q] := by
  have hG1 := hG.grow (o := .tup [.str w, .ref p, .ref q]) ht rfl
  have hO := hG1.obj s hc hd ne h1 h2
  have g1 := hG1.up.free hc
  have g2 := hG1.up.free hd
  refine ⟨_, hO, ?_, dx, t, upd_same, by rw [upd_ne ne, upd_same], .of ?_⟩
  · exact (Same.new (hG.up.free ht)).trans ((Same.new g2).trans (Same.new (by rw [upd_ne ne.symm]; exact g1)))
  · rw [upd_ne (ne_of_none upd_same g1), upd_ne (ne_of_none upd_same g2), upd_same]
theorem HoldG.one {K : PySem.W.Frag} {G H H' : Hp} {L : List Cl} {t c dx p : Addr} {w : Str} (hG : HoldG K b G H L) (ht : H t = none) (hc : (upd H t (.tup [.str w, .ref p])) c = none) (hd : (upd H t (.tup [.str w, .ref p])) dx = none) (ne : dx ≠ c) (s : Same (upd H t (.tup [.str w, .ref p])) H') (h1 : H' c = some (.ins C dx [("_parts", .ref t)])) (h2 : H' dx = some (.own c)) :
    ∃ G', HoldG K b G' H' L ∧ Same G G' ∧ PtAt K C G' c [.str w, .ref p] := by
  have hG1 := hG.grow (o := .tup [.str w, .ref p]) ht rfl
  have hO := hG1.obj s hc hd ne h1 h2
  have g1 := hG1.up.free hc
  have g2 := hG1.up.free hd
  refine ⟨_, hO, ?_, dx, t, upd_same, by rw [upd_ne ne, upd_same], .of ?_⟩
  · exact (Same.new (hG.up.free ht)).trans ((Same.new g2).trans (Same.new (by rw [upd_ne ne.symm]; exact g1)))
  · rw [upd_ne (ne_of_none upd_same g1), upd_ne (ne_of_none upd_same g2), upd_same]
theorem or_cand (Z : CnL X.prog X.w X.K X.mg X.base C) (hr : Room 3 X.A) : OVr X b (binaryOp .BitAnd) (CndF X.K C f) (CndF X.K C g) (CndF X.K C (.and f g)) := fun p h => by
  obtain ⟨fA, dA, BA, bA, GA⟩ := Z.D.and_
  refine ⟨_, op_own BA GA hr bA pass0, fun v1 v2 H L Q hh k => ?_⟩
  obtain ⟨G, hG⟩ := hh
  obtain ⟨c1, e1, h1⟩ := hold_cnd hG List.mem_cons_self rfl
  obtain ⟨c2, e2, h2⟩ := hold_cnd hG (List.mem_cons_of_mem _ List.mem_cons_self) rfl
  cases e1; cases e2
  obtain ⟨xs, p1⟩ := (h1.same hG.up).ins
  obtain ⟨ys, p2⟩ := (h2.same hG.up).ins
  obtain ⟨d1, t1, i1, _, _⟩ := id p1
  obtain ⟨d2, t2, i2, _, _⟩ := id p2
  refine ⟨c1, d1, _, rfl, i1, .inl ⟨c2, d2, _, rfl, i2⟩, c1, c2, xs, ys, rfl, p1, p2, fun t c dx H' ht hc hd ne s j1 j2 => ?_⟩
  obtain ⟨G', hO, sG, pt⟩ := HoldG.bin hG.drop.drop ht hc hd ne s j1 j2
  exact k _ _ H' h ⟨_, hO.addF ⟨c, rfl, c1, c2, pt, h1.same sG, h2.same sG⟩⟩
theorem or_cor (Z : CnL X.prog X.w X.K X.mg X.base C) (hr : Room 3 X.A) : OVr X b (binaryOp .BitOr) (CndF X.K C f) (CndF X.K C g) (CndF X.K C (.or f g)) := fun p h => by
  obtain ⟨fA, dA, BA, bA, GA⟩ := Z.or_
  refine ⟨_, op_own BA GA hr bA pass0, fun v1 v2 H L Q hh k => ?_⟩
  obtain ⟨G, hG⟩ := hh
  obtain ⟨c1, e1, h1⟩ := hold_cnd hG List.mem_cons_self rfl
  obtain ⟨c2, e2, h2⟩ := hold_cnd hG (List.mem_cons_of_mem _ List.mem_cons_self) rfl
  cases e1; cases e2
  obtain ⟨xs, p1⟩ := (h1.same hG.up).ins
  obtain ⟨ys, p2⟩ := (h2.same hG.up).ins
  obtain ⟨d1, t1, i1, _, _⟩ := id p1
  obtain ⟨d2, t2, i2, _, _⟩ := id p2
  refine ⟨c1, d1, _, rfl, i1, .inl ⟨c2, d2, _, rfl, i2⟩, c1, c2, xs, ys, rfl, p1, p2, fun t c dx H' ht hc hd ne s j1 j2 => ?_⟩
  obtain ⟨G', hO, sG, pt⟩ := HoldG.bin hG.drop.drop ht hc hd ne s j1 j2
  exact k _ _ H' h ⟨_, hO.addF ⟨c, rfl, c1, c2, pt, h1.same sG, h2.same sG⟩⟩
theorem u_cinv (Z : CnL X.prog X.w X.K X.mg X.base C) (hr : Room 3 X.A) : UVr X b (unaryOp .Invert) (CndF X.K C f) (CndF X.K C (.not f)) := fun p h => by
  obtain ⟨fA, dA, hs, hf, bA, GA⟩ := Z.inv
  refine ⟨_, un_inv hs hf GA hr bA pass0, fun v1 H L Q hh k => ?_⟩
  obtain ⟨G, hG⟩ := hh
  obtain ⟨c1, e1, h1⟩ := hold_cnd hG List.mem_cons_self rfl
  cases e1
  obtain ⟨xs, p1⟩ := (h1.same hG.up).ins
  obtain ⟨d1, t1, i1, _, _⟩ := id p1
  refine ⟨c1, d1, _, rfl, i1, c1, xs, rfl, p1, fun t c dx H' ht hc hd ne s j1 j2 => ?_⟩
  obtain ⟨G', hO, sG, pt⟩ := HoldG.one hG.drop ht hc hd ne s j1 j2
  exact k _ _ H' h ⟨_, hO.addF ⟨c, rfl, c1, pt, h1.same sG⟩⟩
/-- condition(row) -/
theorem r_ask {ys : List PyData} {pos : Pos} (Z : CnL X.prog X.w X.K X.mg X.base C) {n : Nat} (hr : Room (n + 1) X.A) (h1 : EVr X b ρ fe (CndF X.K C f)) (h2 : EAr X b ρ [e] [.d (.tuple ys)]) (hd : f.dep < n) (ok : FrmOk f) (rk : RowOk ys)
    (ht : eval (.Call fe [e] [] pos) X.env = (do callWith pos (← eval fe X.env) [] (backTo pos (starEach [e] X.env)) (backToKw pos (keywordEach [] X.env))) := by rfl)
    (he : starEach [e] X.env = (false, eval e X.env) :: starEach [] X.env := by rfl) (hpl : (backTo pos (starEach [] X.env)).any (·.1) = false := by rfl) : EVr X b ρ (.Call fe [e] [] pos) (.d (.bool (holdsF f ys))) := fun p hp σ H L Q l hh q => by
  obtain ⟨fc, cO, GC⟩ := Z.call
  refine ⟨_, pe_callO (we_pe fe) cO (GC n) hr pass0 (wa_pa [e]) ht he hpl, h1 (fun r ρ' => r = CndF X.K C f ∧ ρ' = ρ) ⟨rfl, rfl⟩ σ H L _ l hh fun r ρ' v H1 ⟨er, eρ⟩ l1 hh1 => ?_⟩
  subst er eρ
  have hc1 : ∃ c, v = .ref c := by
    obtain ⟨G, hG⟩ := hh1
    obtain ⟨c1, e1, _⟩ := hold_cnd hG List.mem_cons_self rfl
    exact ⟨c1, Option.some.inj e1⟩
  obtain ⟨c1, rfl⟩ := hc1
  refine ⟨c1, rfl, h2 (fun rs ρ2 => rs = [.d (.tuple ys)] ∧ ρ2 = ρ') ⟨rfl, rfl⟩ σ H1 ((some (.ref c1), CndF X.K C f) :: L) _ l1 (hh1.perm perm_in.symm) fun rs ρ2 vs H2 ⟨e1, e2⟩ l2 lv hh2 => ?_⟩
  subst e1 e2
  match vs, lv with
  | [u], _ =>
    have hh3 : Hold X.K b H2 ((some u, .d (.tuple ys)) :: (some (.ref c1), CndF X.K C f) :: (σ.zip ρ2 ++ L)) := hh2.perm (List.Perm.cons _ perm_in)
    obtain ⟨G, hG⟩ := hh3
    obtain ⟨u', eu, du⟩ := hG.ok _ List.mem_cons_self
    cases eu
    obtain ⟨c2, e2, h3⟩ := hold_cnd hG (List.mem_cons_of_mem _ List.mem_cons_self) rfl
    cases e2
    have h4 := h3.same hG.up
    exact ⟨h4.insC, c1, u, f, ys, rfl, hd, ok, h4, Dp.keep hG.up du, rk, q _ ρ2 _ H2 hp l2 (⟨G, hG.drop.drop⟩ |> fun (z : Hold X.K b H2 (σ.zip ρ2 ++ L)) => z.bl _)⟩
/-- where(k = v, ..) -/
theorem r_where {ks : List Str} {ys : List PyData} {rs : List Sl} {kws : List Keyword} {p1 pos : Pos} (Z : CnL X.prog X.w X.K X.mg X.base C) (hr : Room 5 X.A) (h : EKr X b ρ kws rs) (ed : datas rs = some ys) (hks : ks.Nodup) (hz : ks.length ≤ 100) (hF : ∀ k ∈ ks, k ∈ FLD) (hb : WhBind ks) (hl : rs.length = ks.length) (hg : Gl X "where" := by rfl)
    (hall : (backToKw pos (keywordEach kws X.env)).all (·.1.isSome) = true := by rfl) (hke : (backToKw pos (keywordEach kws X.env)).filterMap (·.1) = ks := by rfl)
    (hpl : ((backTo pos (starEach [] X.env)).any (·.1) || (backToKw pos (keywordEach kws X.env)).any (·.1.isNone)) = false := by rfl) : EVr X b ρ (.Call (.Name "where" p1) [] kws pos) (CndF X.K C (frmW (ks.zip ys))) := by
  obtain ⟨f, fd, F, hm⟩ := Z.wh
  have G1 : FnW X.prog X.w X.K X.mg X.base CX0 5 f ks (spP X.K (fun as => ∃ ys : List PyData, as = ys.map .d ∧ ys.length = ks.length) fun as r => ∃ ys : List PyData, as = ys.map .d ∧ r = CndF X.K C (frmW (ks.zip ys))) := (run_where F Z.D hks hz hF hb).frm.imp fun vs H Q E z => by
    obtain ⟨G, as, l, hG, ⟨ys, rfl, hy⟩, hq⟩ := z
    have hl' : vs.length = ys.length := by simpa using l
    refine ⟨G, hG.up, hG.fl, ys, HoldG.all (L := []) hl' (by rw [List.append_nil]; exact hG), hl'.trans hy, fun c G' s hc H' h1 h2 h3 => ?_⟩
    exact hq _ ⟨ys, rfl, rfl⟩ nofun (.ref c) H' (hG.oldF s ⟨c, rfl, hc.flt s⟩ h1 h2 h3)
  have ec := datas_cool ed
  refine r_callW G1 hr hm F.kp pass0 h hl (fun r hr => ?_) ⟨ys, ec, ?_⟩ (fun r' hr' => ?_) (by intro _; nofun) hg hall hke (by decide) hpl
  · rw [ec] at hr
    obtain ⟨y, _, rfl⟩ := List.mem_map.mp hr
    rfl
  · have := congrArg List.length ec
    simp at this
    omega
  · obtain ⟨ys', e1, e2⟩ := hr'
    rw [ec] at e1
    have : ys = ys' := by
      have inj : ∀ l m : List PyData, l.map Sl.d = m.map Sl.d → l = m := by
        intro l
        induction l with
        | nil => intro m h; cases m with | nil => rfl | cons _ _ => simp at h
        | cons a l ih => intro m h; cases m with
          | nil => simp at h
          | cons b m => simp at h; rw [h.1, ih m (by simpa using h.2)]
      exact inj _ _ e1
    subst this
    exact e2
end

end K82

namespace K82
open PySem L2 SZ VR VX StX RT DE
abbrev PreO (as0 : List Sl) : List Sl → Prop := fun as => as = as0
abbrev ResO (r0 : Sl) : List Sl → Sl → Prop := fun _ r => r = r0

/-! ### what the law builds of a form -/
section
variable {P : Program} {w : World} {K : PySem.W.Frag} {mg : Str → Option Value} {base : Heap} {C : Addr}
theorem frmW1 (k : Str) (y : PyData) : frmW ([k].zip [y]) = .atom k y := rfl
theorem t_atom {f : Addr} {fd : FuncData} (F : Fun K "_law_atom" "_law_atom" S_law_atom f fd) (Z : CnL P w K mg base C) {g : Str} (y : PyData) (hg : g ∈ FLD) : FnOk P w K mg base CX0 6 f fd ["_law_field", "_law_thing"] (spP K (PreO [.d (.str g), .d y]) (ResO (CndF K C (.atom g y)))) := by
  refine fn_P F sc_law_atom (fun as h => by cases h; rfl) (by decide) fun cdv A outer s H E hr b as hp => ?_
  subst hp
  have rw1 : ∀ (k : Str), k ∈ FLD → ∀ p1 p2 p3 p4 : Pos, _ := fun (k : Str) hk (p1 p2 p3 p4 : Pos) => r_where (X := (cxOf CX0 P w K mg base ["_law_field", "_law_thing"] "_law_atom" (defScope S_law_atom) f cdv A outer s H E).nox) (b := b) (ρ := [.d (.str g), .d y]) (ks := [k]) (kws := [⟨some k, .Name "_law_thing" p1, p2⟩]) (p1 := p3) (pos := p4) Z hr (k_cons (r_var 1 rfl (by walk_at "v") rfl) k_nil) rfl (by simp) (by simp) (fun k' h => by rw [List.mem_singleton.mp h]; exact hk) (wb1 k) rfl
  show XB _ _ [.d (.str g), .d y] _ _
  refine xb_cons (x_if (t_cmp (r_var 0 rfl (by walk_at "v") rfl) r_str (by walk_at "o")) (fun h0 => ?_) (fun h0 => xb_nil fun _ => ?_))
  · have e := of_decide_eq_true h0
    subst e
    exact xb_one (x_ret (rw1 "kind" hg _ _ _ _) ⟨rfl, nofun⟩)
  refine xb_cons (x_if (t_cmp (r_var 0 rfl (by walk_at "v") rfl) r_str (by walk_at "o")) (fun h1 => ?_) (fun h1 => xb_nil fun _ => ?_))
  · have e := of_decide_eq_true h1
    subst e
    exact xb_one (x_ret (rw1 "level" hg _ _ _ _) ⟨rfl, nofun⟩)
  refine xb_cons (x_if (t_cmp (r_var 0 rfl (by walk_at "v") rfl) r_str (by walk_at "o")) (fun h2 => ?_) (fun h2 => xb_nil fun _ => ?_))
  · have e := of_decide_eq_true h2
    subst e
    exact xb_one (x_ret (rw1 "access" hg _ _ _ _) ⟨rfl, nofun⟩)
  refine xb_cons (x_if (t_cmp (r_var 0 rfl (by walk_at "v") rfl) r_str (by walk_at "o")) (fun h3 => ?_) (fun h3 => xb_nil fun _ => ?_))
  · have e := of_decide_eq_true h3
    subst e
    exact xb_one (x_ret (rw1 "other" hg _ _ _ _) ⟨rfl, nofun⟩)
  by_cases e : g = "array"
  · subst e
    exact xb_one (x_ret (r_ifT (t_cmp (r_var 0 rfl (by walk_at "v") rfl) r_str (fun _ h => ov_eqStr h)) (rw1 "array" hg _ _ _ _)) ⟨rfl, nofun⟩)
  · have e2 : g = "word" := by
      have n0 := of_decide_eq_false h0
      have n1 := of_decide_eq_false h1
      have n2 := of_decide_eq_false h2
      have n3 := of_decide_eq_false h3
      simp only [FLD, List.mem_cons, List.not_mem_nil, or_false] at hg
      rcases hg with h | h | h | h | h | h
      · exact absurd h n0
      · exact absurd h n1
      · exact absurd h n2
      · exact absurd h n3
      · exact absurd h e
      · exact h
    subst e2
    exact xb_one (x_ret (r_ifF (t_cmp (r_var 0 rfl (by walk_at "v") rfl) r_str (fun _ h => ov_eqStr h)) (rw1 "word" hg _ _ _ _)) ⟨rfl, nofun⟩)
theorem t_built {f fA : Addr} {fd dA : FuncData} (F : Fun K "_law_built" "_law_built" S_law_built f fd) (mf : mg "_law_built" = some (.ref f)) (bf : Binds K fd ["_law_form_here"] []) (FA : Fun K "_law_atom" "_law_atom" S_law_atom fA dA) (mA : mg "_law_atom" = some (.ref fA)) (bA : Binds K dA ["_law_field", "_law_thing"] []) (Z : CnL P w K mg base C) :
    ∀ fm : Frm, FrmOk fm → FnOk P w K mg base CX0 (fm.dep + 7) f fd ["_law_form_here"] (spP K (PreO [.d (frmD fm)]) (ResO (CndF K C fm))) := by
  intro fm
  induction fm with
  | any =>
    intro ok
    refine fn_P F sc_law_built (fun as h => by cases h; rfl) (by decide) fun cdv A outer s H E hr b as hp => ?_
    subst hp
    show XB _ _ [.d (.tuple [.str "any"]), .un, .un] _ _
    refine xb_cons (x_if (t_cmp (r_ix (r_var 0 rfl (by walk_at "v") rfl) r_int (ir_at (.inr rfl) rfl)) r_str (by walk_at "o")) (fun h0 => ?_) (fun h0 => absurd h0 (by decide)))
    exact xb_one (x_ret (r_where (ks := []) Z (hr.mono (by show 5 ≤ 0 + 6; decide)) k_nil rfl (by simp) (by simp) (by simp) wb0 rfl) ⟨rfl, nofun⟩)
  | atom g y =>
    intro ok
    obtain ⟨n1, n2, n3, n4⟩ := fld_ne ok.1
    have CA : CalP P w K mg base CX0 "_law_atom" 6 _ _ := ⟨fA, dA, _, t_atom FA Z y ok.1, mA, FA.kp, bA⟩
    refine fn_P F sc_law_built (fun as h => by cases h; rfl) (by decide) fun cdv A outer s H E hr b as hp => ?_
    subst hp
    show XB _ _ [.d (.tuple [.str g, y]), .un, .un] _ _
    refine xb_cons (x_if (t_cmp (r_ix (r_var 0 rfl (by walk_at "v") rfl) r_int (ir_at (.inr rfl) rfl)) r_str (by walk_at "o")) (fun h0 => absurd (of_decide_eq_true h0) n1) (fun _ => xb_nil fun _ => ?_))
    refine xb_cons (x_if (t_cmp (r_ix (r_var 0 rfl (by walk_at "v") rfl) r_int (ir_at (.inr rfl) rfl)) r_str (by walk_at "o")) (fun h0 => absurd (of_decide_eq_true h0) n2) (fun _ => xb_nil fun _ => ?_))
    refine xb_cons (x_if (t_cmp (r_ix (r_var 0 rfl (by walk_at "v") rfl) r_int (ir_at (.inr rfl) rfl)) (r_lst (a_cons r_str (a_cons r_str a_nil)) rfl) (by walk_at "o")) (fun h0 => ?_) (fun _ => xb_nil fun _ => ?_))
    · simp [n3, n4] at h0
    exact xb_one (x_ret (r_cal CA hr pass0 (a_cons (r_ix (r_var 0 rfl (by walk_at "v") rfl) r_int (ir_at (.inr rfl) rfl)) (a_cons (r_ix (r_var 0 rfl (by walk_at "v") rfl) r_int (ir_at (.inr rfl) rfl)) a_nil)) rfl rfl (fun r' h => h)) ⟨rfl, nofun⟩)
  | not a ih =>
    intro ok
    have CA : CalP P w K mg base CX0 "_law_built" (a.dep + 7) _ _ := ⟨f, fd, _, ih ok, mf, F.kp, bf⟩
    refine fn_P F sc_law_built (fun as h => by cases h; rfl) (by decide) fun cdv A outer s H E hr b as hp => ?_
    subst hp
    have hr : Room (a.dep + 7) _ := hr.mono (show a.dep + 7 ≤ a.dep + 1 + 6 by omega)
    show XB _ _ [.d (.tuple [.str "not", frmD a]), .un, .un] _ _
    refine xb_cons (x_if (t_cmp (r_ix (r_var 0 rfl (by walk_at "v") rfl) r_int (ir_at (.inr rfl) rfl)) r_str (by walk_at "o")) (fun h0 => absurd h0 (by decide)) (fun _ => xb_nil fun _ => ?_))
    refine xb_cons (x_if (t_cmp (r_ix (r_var 0 rfl (by walk_at "v") rfl) r_int (ir_at (.inr rfl) rfl)) r_str (by walk_at "o")) (fun h0 => ?_) (fun h0 => absurd h0 (by decide)))
    exact xb_one (x_ret (r_un (r_cal CA hr pass0 (a_cons (r_ix (r_var 0 rfl (by walk_at "v") rfl) r_int (ir_at (.inr rfl) rfl)) a_nil) rfl rfl (fun r' h => h)) (u_cinv Z (hr.mono (by omega)))) ⟨rfl, nofun⟩)
  | and a c iha ihc =>
    intro ok
    have CA : CalP P w K mg base CX0 "_law_built" (max a.dep c.dep + 7) _ _ := ⟨f, fd, _, (iha ok.1).mono (by omega), mf, F.kp, bf⟩
    have CC : CalP P w K mg base CX0 "_law_built" (max a.dep c.dep + 7) _ _ := ⟨f, fd, _, (ihc ok.2).mono (by omega), mf, F.kp, bf⟩
    refine fn_P F sc_law_built (fun as h => by cases h; rfl) (by decide) fun cdv A outer s H E hr b as hp => ?_
    subst hp
    have hr : Room (max a.dep c.dep + 7) _ := hr.mono (show max a.dep c.dep + 7 ≤ max a.dep c.dep + 1 + 6 by omega)
    show XB _ _ [.d (.tuple [.str "and", frmD a, frmD c]), .un, .un] _ _
    refine xb_cons (x_if (t_cmp (r_ix (r_var 0 rfl (by walk_at "v") rfl) r_int (ir_at (.inr rfl) rfl)) r_str (by walk_at "o")) (fun h0 => absurd h0 (by decide)) (fun _ => xb_nil fun _ => ?_))
    refine xb_cons (x_if (t_cmp (r_ix (r_var 0 rfl (by walk_at "v") rfl) r_int (ir_at (.inr rfl) rfl)) r_str (by walk_at "o")) (fun h0 => absurd h0 (by decide)) (fun _ => xb_nil fun _ => ?_))
    refine xb_cons (x_if (t_cmp (r_ix (r_var 0 rfl (by walk_at "v") rfl) r_int (ir_at (.inr rfl) rfl)) (r_lst (a_cons r_str (a_cons r_str a_nil)) rfl) (by walk_at "o")) (fun h0 => ?_) (fun h0 => absurd h0 (by decide)))
    refine xb_cons (xs_par 1 2 rfl sc_law_built.nd rfl rfl (by decide) (by simp) (by simp) rfl rfl (ea_cons (h := (r_cal CA hr pass0 (a_cons (r_ix (r_var 0 rfl (by walk_at "v") rfl) r_int (ir_at (.inr rfl) rfl)) a_nil) rfl (by exact rfl) (r := CndF K C a) (fun r' h => by exact h)) _ ?_)) rfl)
    refine ea_cons (h := (r_cal CC hr pass0 (a_cons (r_ix (r_var 0 rfl (by walk_at "v") rfl) r_int (ir_at (.inr rfl) rfl)) a_nil) rfl (by exact rfl) (r := CndF K C c) (fun r' h => by exact h)) _ (ea_nil fun _ => ⟨_, _, rfl, fun _ => ?_⟩))
    exact xb_one (x_ret (r_ifT (t_cmp (r_ix (r_var 0 rfl (by walk_at "v") rfl) r_int (ir_at (.inr rfl) rfl)) r_str (fun _ h => ov_eqStr h)) (r_bin (r_varF 1 rfl (by walk_at "v") rfl) (r_varF 2 rfl (by walk_at "v") rfl) (or_cand Z (hr.mono (by omega))))) ⟨rfl, nofun⟩)
  | or a c iha ihc =>
    intro ok
    have CA : CalP P w K mg base CX0 "_law_built" (max a.dep c.dep + 7) _ _ := ⟨f, fd, _, (iha ok.1).mono (by omega), mf, F.kp, bf⟩
    have CC : CalP P w K mg base CX0 "_law_built" (max a.dep c.dep + 7) _ _ := ⟨f, fd, _, (ihc ok.2).mono (by omega), mf, F.kp, bf⟩
    refine fn_P F sc_law_built (fun as h => by cases h; rfl) (by decide) fun cdv A outer s H E hr b as hp => ?_
    subst hp
    have hr : Room (max a.dep c.dep + 7) _ := hr.mono (show max a.dep c.dep + 7 ≤ max a.dep c.dep + 1 + 6 by omega)
    show XB _ _ [.d (.tuple [.str "or", frmD a, frmD c]), .un, .un] _ _
    refine xb_cons (x_if (t_cmp (r_ix (r_var 0 rfl (by walk_at "v") rfl) r_int (ir_at (.inr rfl) rfl)) r_str (by walk_at "o")) (fun h0 => absurd h0 (by decide)) (fun _ => xb_nil fun _ => ?_))
    refine xb_cons (x_if (t_cmp (r_ix (r_var 0 rfl (by walk_at "v") rfl) r_int (ir_at (.inr rfl) rfl)) r_str (by walk_at "o")) (fun h0 => absurd h0 (by decide)) (fun _ => xb_nil fun _ => ?_))
    refine xb_cons (x_if (t_cmp (r_ix (r_var 0 rfl (by walk_at "v") rfl) r_int (ir_at (.inr rfl) rfl)) (r_lst (a_cons r_str (a_cons r_str a_nil)) rfl) (by walk_at "o")) (fun h0 => ?_) (fun h0 => absurd h0 (by decide)))
    refine xb_cons (xs_par 1 2 rfl sc_law_built.nd rfl rfl (by decide) (by simp) (by simp) rfl rfl (ea_cons (h := (r_cal CA hr pass0 (a_cons (r_ix (r_var 0 rfl (by walk_at "v") rfl) r_int (ir_at (.inr rfl) rfl)) a_nil) rfl (by exact rfl) (r := CndF K C a) (fun r' h => by exact h)) _ ?_)) rfl)
    refine ea_cons (h := (r_cal CC hr pass0 (a_cons (r_ix (r_var 0 rfl (by walk_at "v") rfl) r_int (ir_at (.inr rfl) rfl)) a_nil) rfl (by exact rfl) (r := CndF K C c) (fun r' h => by exact h)) _ (ea_nil fun _ => ⟨_, _, rfl, fun _ => ?_⟩))
    exact xb_one (x_ret (r_ifF (t_cmp (r_ix (r_var 0 rfl (by walk_at "v") rfl) r_int (ir_at (.inr rfl) rfl)) r_str (fun _ h => ov_eqStr h)) (r_bin (r_varF 1 rfl (by walk_at "v") rfl) (r_varF 2 rfl (by walk_at "v") rfl) (or_cor Z (hr.mono (by omega))))) ⟨rfl, nofun⟩)
end

end K82

namespace K82
open PySem L2 SZ VR VX StX RT DE
/-! ### is it like the form -/
def spLk (K : PySem.W.Frag) (C : Addr) (f : Frm) : Sp := fun vs H Q _ => ∃ (c : Addr) (u : V), vs = [.ref c, u] ∧ CndAt K C H f c ∧ Dp K H u (frmD f) ∧ ∀ H', Same H H' → Q (.bl true) H'
def spLkN (K : PySem.W.Frag) (C : Addr) (n : Nat) : Sp := fun vs H Q E => ∃ fm : Frm, fm.dep < n ∧ FrmOk fm ∧ spLk K C fm vs H Q E
theorem dp_one {K : PySem.W.Frag} {H : Hp} {vs : List V} {y : PyData} (h : DpAll K H vs [y]) : ∃ v, vs = [v] ∧ Dp K H v y := by
  cases h with
  | cons h1 h2 =>
    cases h2
    exact ⟨_, rfl, h1⟩
theorem dp_pairE {K : PySem.W.Frag} {G : Hp} {xs : List V} {y1 y2 : PyData} (h : DpAll K G xs [y1, y2]) : ∃ x1 x2, xs = [x1, x2] ∧ Dp K G x1 y1 ∧ Dp K G x2 y2 := by
  cases h with
  | cons h1 h2 =>
    cases h2 with
    | cons h3 h4 =>
      cases h4
      exact ⟨_, _, rfl, h1, h3⟩
section
variable {P : Program} {w : World} {K : PySem.W.Frag} {mg : Str → Option Value} {base : Heap} {C : Addr}
theorem ok_like {f fP : Addr} {fd dP : FuncData} (F : Fun K "_law_is_like" "_law_is_like" S_law_is_like f fd) (mf : mg "_law_is_like" = some (.ref f)) (bf : Binds K fd ["_law_condition", "_law_form_here"] []) (Z : CnC K mg C) (MP : Meth K C "parts" fP) (bP : Binds K dP ["self"] []) (GP : FnOk P w K mg base CX0 1 fP dP ["self"] (spPts K C)) (len : mg "len" = none) :
    ∀ n : Nat, FnOk P w K mg base CX0 (n + 1) f fd ["_law_condition", "_law_form_here"] (spLkN K C n) := by
  intro n
  induction n with
  | zero => exact ⟨fun vs H Q E h => by obtain ⟨fm, hd, _⟩ := h; exact absurd hd (Nat.not_lt_zero _), fun A outer s H args us vs Q E hr e0 hb hv h => by obtain ⟨fm, hd, _⟩ := h; exact absurd hd (Nat.not_lt_zero _)⟩
  | succ n GL =>
    refine F.ok sc_law_is_like (fun vs H Q E h => by obtain ⟨fm, _, _, c, u, rfl, _⟩ := h; rfl) (fun cdv A outer s H vs Q E hr h => ?_)
    obtain ⟨fm, hd, ok, c, u, rfl, hc, hu, q⟩ := h
    refine ⟨_, pss_cons (ps_set (i := 2) sc_law_is_like.nd rfl (Or.inl rfl) (pe_meth0 (pv 0) Z.kit.cl MP GP (hr.mono (by omega)) bP .nil pass0))
      (pss_cons (ps_if (PW.pt (pw_or (pt_cmpR op_ne (pe_callB call_len_seq (by rfl) len PySem.boot_len (pa_cons (pv 2) pa_nil)) (pe_callB call_len_seq (by rfl) len PySem.boot_len (pa_cons (pv 1) pa_nil)) (nomark _))
        (pw_or1 (pt_cmpR op_ne (pe_ix ix_tup (pv 2) pe_int (fun _ _ => rfl)) (pe_ix ix_tup (pv 1) pe_int (fun _ _ => rfl)) (by rfl))))) pss_never pss_nil)
      (pss_cons (ps_if (pt_cmpR op_eq (pe_ix ix_tup (pv 1) pe_int (fun _ _ => rfl)) pe_str (nomark _)) (pss_one (ps_ret (pe_call GL (hr.mono (by omega)) (by rfl) mf F.kp bf .nil pass0 (pa_cons (pe_ix ix_tup (pv 2) pe_int (fun _ _ => rfl)) (pa_cons (pe_ix ix_tup (pv 1) pe_int (fun _ _ => rfl)) pa_nil))))) pss_nil)
      (pss_cons (ps_if (pt_cmpR op_in_seq (pe_ix ix_tup (pv 1) pe_int (fun _ _ => rfl)) (pe_lst (pa_cons pe_str (pa_cons pe_str pa_nil))) (by rfl)) (pss_one (ps_ret (pe_and (pe_call GL (hr.mono (by omega)) (by rfl) mf F.kp bf .nil pass0 (pa_cons (pe_ix ix_tup (pv 2) pe_int (fun _ _ => rfl)) (pa_cons (pe_ix ix_tup (pv 1) pe_int (fun _ _ => rfl)) pa_nil)))
        (pe_one (pe_call GL (hr.mono (by omega)) (by rfl) mf F.kp bf .nil pass0 (pa_cons (pe_ix ix_tup (pv 2) pe_int (fun _ _ => rfl)) (pa_cons (pe_ix ix_tup (pv 1) pe_int (fun _ _ => rfl)) pa_nil))))))) pss_nil)
      (pss_one (ps_ret (pe_cmpR (op_eqD hr.units) (pv 2) (pv 1) (nomark _))))))), ?_⟩
    cases fm with
    | any =>
      obtain ⟨dx, t, h1, _, h2⟩ := hc
      obtain ⟨a, xs, rfl, s1, s2⟩ := dp_tupE hu
      cases s2 with
      | cons k1 k2 =>
      cases k1
      cases k2
      refine ⟨_, rfl, c, dx, _, rfl, h1, rfl, c, dx, _, rfl, h1, ?_⟩
      refine ⟨_, rfl, t, _, rfl, .inr h2, _, rfl, a, _, rfl, .inr s1, ?_⟩
      refine ⟨rfl, false, by simp, ?_⟩
      refine iteF ?_
      refine ⟨_, rfl, t, _, 0, _, rfl, rfl, h2, rfl, _, rfl, a, _, 0, _, rfl, rfl, s1, rfl, rfl, false, by simp, ?_⟩
      refine iteF ?_
      refine ⟨_, rfl, a, _, 0, _, rfl, rfl, s1, rfl, rfl, false, by decide, ?_⟩
      refine iteF ?_
      refine ⟨_, rfl, a, _, 0, _, rfl, rfl, s1, rfl, small_line (by simp), fun l hl => ⟨l, [.str "and", .str "or"], rfl, .inl (.of upd_same), rfl, rfl, false, by decide, ?_⟩⟩
      refine iteF ?_
      have s0 : Same H (upd H l (.lst [.str "and", .str "or"])) := Same.new hl
      refine ⟨_, rfl, _, rfl, .tuple [.str "any"], .tuple [.str "any"], .tup (s0.tup h2) (.cons (.str _) .nil), .tup (s0.tup s1) (.cons (.str _) .nil), by decide +kernel, by decide +kernel, ?_⟩
      exact q _ s0
    | atom g y =>
      obtain ⟨v, ⟨dx, t, h1, _, h2⟩, h3⟩ := hc
      obtain ⟨n1, n2, n3, n4⟩ := fld_ne ok.1
      obtain ⟨a, xs, rfl, s1, s2⟩ := dp_tupE hu
      cases s2 with
      | cons k1 k2 =>
      cases k1
      obtain ⟨u2, rfl, k3⟩ := dp_one k2
      refine ⟨_, rfl, c, dx, _, rfl, h1, rfl, c, dx, _, rfl, h1, ?_⟩
      refine ⟨_, rfl, t, _, rfl, .inr h2, _, rfl, a, _, rfl, .inr s1, ?_⟩
      refine ⟨rfl, false, by simp, ?_⟩
      refine iteF ?_
      refine ⟨_, rfl, t, _, 0, _, rfl, rfl, h2, rfl, _, rfl, a, _, 0, _, rfl, rfl, s1, rfl, rfl, false, by simp, ?_⟩
      refine iteF ?_
      refine ⟨_, rfl, a, _, 0, _, rfl, rfl, s1, rfl, rfl, false, by simpa using n2, ?_⟩
      refine iteF ?_
      refine ⟨_, rfl, a, _, 0, _, rfl, rfl, s1, rfl, small_line (by simp), fun l hl => ⟨l, [.str "and", .str "or"], rfl, .inl (.of upd_same), rfl, rfl, false, by simp [inV, eqV, Ne.symm n3, Ne.symm n4, n3, n4], ?_⟩⟩
      refine iteF ?_
      have s0 : Same H (upd H l (.lst [.str "and", .str "or"])) := Same.new hl
      refine ⟨_, rfl, _, rfl, .tuple [.str g, y], .tuple [.str g, y], .tup (s0.tup h2) (.cons (.str _) (.cons (Dp.keep s0 h3) .nil)), .tup (s0.tup s1) (.cons (.str _) (.cons (Dp.keep s0 k3) .nil)), ok.2.2.1, ok.2.2.1, ?_⟩
      rw [ok.2.2.2]
      exact q _ s0
    | not a' =>
      obtain ⟨p1, ⟨dx, t, h1, _, h2⟩, h3⟩ := hc
      have hd : a'.dep + 1 < n + 1 := hd
      obtain ⟨a, xs, rfl, s1, s2⟩ := dp_tupE hu
      cases s2 with
      | cons k1 k2 =>
      cases k1
      obtain ⟨u2, rfl, k3⟩ := dp_one k2
      refine ⟨_, rfl, c, dx, _, rfl, h1, rfl, c, dx, _, rfl, h1, ?_⟩
      refine ⟨_, rfl, t, _, rfl, .inr h2, _, rfl, a, _, rfl, .inr s1, ?_⟩
      refine ⟨rfl, false, by simp, ?_⟩
      refine iteF ?_
      refine ⟨_, rfl, t, _, 0, _, rfl, rfl, h2, rfl, _, rfl, a, _, 0, _, rfl, rfl, s1, rfl, rfl, false, by simp, ?_⟩
      refine iteF ?_
      refine ⟨_, rfl, a, _, 0, _, rfl, rfl, s1, rfl, rfl, true, by decide, ?_⟩
      refine iteT ?_
      refine ⟨_, rfl, t, _, 1, _, rfl, rfl, h2, rfl, _, rfl, a, _, 1, _, rfl, rfl, s1, rfl, ?_⟩
      exact ⟨a', by omega, ok, p1, u2, rfl, h3, k3, q⟩
    | and a' b' =>
      obtain ⟨p1, p2, ⟨dx, t, h1, _, h2⟩, h3, h4⟩ := hc
      have hd : max a'.dep b'.dep + 1 < n + 1 := hd
      obtain ⟨a, xs, rfl, s1, s2⟩ := dp_tupE hu
      cases s2 with
      | cons k1 k2 =>
      cases k1
      obtain ⟨u2, u3, rfl, k3, k4⟩ := dp_pairE k2
      refine ⟨_, rfl, c, dx, _, rfl, h1, rfl, c, dx, _, rfl, h1, ?_⟩
      refine ⟨_, rfl, t, _, rfl, .inr h2, _, rfl, a, _, rfl, .inr s1, ?_⟩
      refine ⟨rfl, false, by simp, ?_⟩
      refine iteF ?_
      refine ⟨_, rfl, t, _, 0, _, rfl, rfl, h2, rfl, _, rfl, a, _, 0, _, rfl, rfl, s1, rfl, rfl, false, by simp, ?_⟩
      refine iteF ?_
      refine ⟨_, rfl, a, _, 0, _, rfl, rfl, s1, rfl, rfl, false, by decide, ?_⟩
      refine iteF ?_
      refine ⟨_, rfl, a, _, 0, _, rfl, rfl, s1, rfl, small_line (by simp), fun l hl => ⟨l, [.str "and", .str "or"], rfl, .inl (.of upd_same), rfl, rfl, true, by decide, ?_⟩⟩
      refine iteT ?_
      have s0 : Same H (upd H l (.lst [.str "and", .str "or"])) := Same.new hl
      refine ⟨_, rfl, t, _, 1, _, rfl, rfl, s0.tup h2, rfl, _, rfl, a, _, 1, _, rfl, rfl, s0.tup s1, rfl, ?_⟩
      refine ⟨a', by omega, ok.1, p1, u2, rfl, h3.same s0, Dp.keep s0 k3, fun H1 t1 => ⟨true, rfl, ?_⟩⟩
      refine iteT ?_
      have t2 := s0.trans t1
      refine ⟨_, rfl, t, _, 2, _, rfl, rfl, t2.tup h2, rfl, _, rfl, a, _, 2, _, rfl, rfl, t2.tup s1, rfl, ?_⟩
      exact ⟨b', by omega, ok.2, p2, u3, rfl, h4.same t2, Dp.keep t2 k4, fun H2 t3 => q H2 (t2.trans t3)⟩
    | or a' b' =>
      obtain ⟨p1, p2, ⟨dx, t, h1, _, h2⟩, h3, h4⟩ := hc
      have hd : max a'.dep b'.dep + 1 < n + 1 := hd
      obtain ⟨a, xs, rfl, s1, s2⟩ := dp_tupE hu
      cases s2 with
      | cons k1 k2 =>
      cases k1
      obtain ⟨u2, u3, rfl, k3, k4⟩ := dp_pairE k2
      refine ⟨_, rfl, c, dx, _, rfl, h1, rfl, c, dx, _, rfl, h1, ?_⟩
      refine ⟨_, rfl, t, _, rfl, .inr h2, _, rfl, a, _, rfl, .inr s1, ?_⟩
      refine ⟨rfl, false, by simp, ?_⟩
      refine iteF ?_
      refine ⟨_, rfl, t, _, 0, _, rfl, rfl, h2, rfl, _, rfl, a, _, 0, _, rfl, rfl, s1, rfl, rfl, false, by simp, ?_⟩
      refine iteF ?_
      refine ⟨_, rfl, a, _, 0, _, rfl, rfl, s1, rfl, rfl, false, by decide, ?_⟩
      refine iteF ?_
      refine ⟨_, rfl, a, _, 0, _, rfl, rfl, s1, rfl, small_line (by simp), fun l hl => ⟨l, [.str "and", .str "or"], rfl, .inl (.of upd_same), rfl, rfl, true, by decide, ?_⟩⟩
      refine iteT ?_
      have s0 : Same H (upd H l (.lst [.str "and", .str "or"])) := Same.new hl
      refine ⟨_, rfl, t, _, 1, _, rfl, rfl, s0.tup h2, rfl, _, rfl, a, _, 1, _, rfl, rfl, s0.tup s1, rfl, ?_⟩
      refine ⟨a', by omega, ok.1, p1, u2, rfl, h3.same s0, Dp.keep s0 k3, fun H1 t1 => ⟨true, rfl, ?_⟩⟩
      refine iteT ?_
      have t2 := s0.trans t1
      refine ⟨_, rfl, t, _, 2, _, rfl, rfl, t2.tup h2, rfl, _, rfl, a, _, 2, _, rfl, rfl, t2.tup s1, rfl, ?_⟩
      exact ⟨b', by omega, ok.2, p2, u3, rfl, h4.same t2, Dp.keep t2 k4, fun H2 t3 => q H2 (t2.trans t3)⟩
end

end K82

namespace K82
open PySem L2 SZ VR VX StX RT DE
/-! ### forms and rows drawn -/
def LeafD (y : PyData) : Prop := ∃ fm : Frm, y = frmD fm ∧ FrmOk fm ∧ fm.dep = 0
theorem sh_int {g : Str} (h : PyData.strOk g = true) (i : Int) : SeqAt.shaped (.tuple [.str g, .int i]) = true := by
  simp [SeqAt.shaped, PyData.canLay0, PyData.canLayAll0, PyData.depth, PyData.depthAll, h]
theorem int_ok {g : Str} (hg : g ∈ FLD) (i : Int) : FrmOk (.atom g (.int i)) := by
  have e : PyData.eqv (.int i) (.int i) = true := decide_eq_true rfl
  refine ⟨hg, rfl, ?_, ?_⟩
  · simp only [FLD, List.mem_cons, List.not_mem_nil, or_false] at hg
    rcases hg with rfl | rfl | rfl | rfl | rfl | rfl <;> exact sh_int (by decide +kernel) i
  · have e2 : ∀ g : Str, PyData.eqv (.tuple [.str g, .int i]) (.tuple [.str g, .int i]) = true := fun g => by
      simp [PyData.eqv, PyData.eqvAll]
    exact e2 g
theorem str_ok {g z : Str} (hg : g ∈ FLD) (hz : z ∈ (["hit", "miss", "crowded", "back", "thrown", "a", "b", "read", "write"] : List Str)) : FrmOk (.atom g (.str z)) := by
  simp only [FLD, List.mem_cons, List.not_mem_nil, or_false] at hg hz
  refine ⟨by simp [FLD, hg], ?_, ?_, ?_⟩
  · rcases hz with rfl | rfl | rfl | rfl | rfl | rfl | rfl | rfl | rfl <;> decide +kernel
  · rcases hg with rfl | rfl | rfl | rfl | rfl | rfl <;> rcases hz with rfl | rfl | rfl | rfl | rfl | rfl | rfl | rfl | rfl <;> decide +kernel
  · rcases hg with rfl | rfl | rfl | rfl | rfl | rfl <;> rcases hz with rfl | rfl | rfl | rfl | rfl | rfl | rfl | rfl | rfl <;> decide +kernel
abbrev KND : List Str := ["hit", "miss", "crowded", "back", "thrown"]
abbrev PreN : List PyData → List Sl → Prop := fun ys as => PoolD ys ∧ as = []
abbrev ResAt : List PyData → List Sl → Sl → List PyData → Prop := fun _ _ r ys' => PoolD ys' ∧ ∃ ds, r = .own ds ∧ ds.length = 7 ∧ ∀ y ∈ ds, LeafD y
theorem leaf_snoc {ds : List PyData} {g : Str} {y : PyData} (h : ∀ z ∈ ds, LeafD z) (ok : FrmOk (.atom g y)) : ∀ z ∈ ds ++ [.tuple [.str g, y]], LeafD z := fun z hz => by
  rcases List.mem_append.mp hz with hz | hz
  · exact h z hz
  · rw [List.mem_singleton.mp hz]
    exact ⟨.atom g y, rfl, ok, rfl⟩
section
variable {P : Program} {w : World} {K : PySem.W.Frag} {mg : Str → Option Value} {base : Heap}
theorem t_atoms {f : Addr} {fd : FuncData} (F : Fun K "_law_atoms" "_law_atoms" S_law_atoms f fd) (CT : CalB P w K mg base CX0 "_law_take" 1 PreT ResT) : FnOk P w K mg base CX0 2 f fd ["_law_pool_here"] (spB K PreN ResAt) := by
  refine fn_B F sc_law_atoms (fun ys as h => by rw [h.2]; rfl) fun cdv A outer s H E hr b ys as hp => ?_
  obtain ⟨hy, rfl⟩ := hp
  show XB _ _ [.bor ys, .un, .un] _ _
  refine xb_cons (xs_par 1 2 rfl sc_law_atoms.nd rfl rfl (by decide) (by simp) (by simp) rfl rfl (ea_cons (h := (r_cool (r_lst (a_cons r_str (a_cons r_str (a_cons r_str (a_cons r_str (a_cons r_str a_nil))))) rfl)) _ (ea_cons (h := (r_lst a_nil rfl) _ (ea_nil fun _ => ⟨_, _, rfl, fun _ => ?_⟩))))) rfl)
  show XB _ _ [.bor ys, .d (.list (KND.map .str)), .own []] _ _
  have l0 : ∀ z ∈ ([] : List PyData), LeafD z := fun z hz => nomatch hz
  generalize hd0 : ([] : List PyData) = d0 at l0
  have n0 : d0.length = 0 := by rw [← hd0]; rfl
  show XB _ _ [.bor ys, .d (.list (KND.map .str)), .own d0] _ _
  refine xb_cons (xs_append 2 rfl (by walk_at "v") (ev_tupD (ea_cons (h := r_str _ (ea_cons (h := ev_menu (r_var 1 rfl (by walk_at "v") rfl) (.inl rfl) (ev_take 0 CT hr rfl (by walk_at "v") pass0 rfl (.inr rfl) hy (wd := 5) r_int (by decide) (by decide) fun j1 ys1 a0 a1 hy1 => ⟨_, rfl, a0, a1, fun y1 hm1 => ?_⟩)))))) ⟨_, _, rfl, .inl rfl⟩)
  refine ea_nil ⟨_, rfl, by simp, fun _ => ?_⟩
  refine ⟨_, d0, _, rfl, rfl, .inl rfl, by rw [n0, sizeLine_eq]; decide, fun _ => ?_⟩
  obtain ⟨z1, hz1, rfl⟩ : ∃ z ∈ (KND : List Str), y1 = .str z := by
    obtain ⟨z, hz, e⟩ := List.mem_map.mp (show y1 ∈ (KND : List Str).map PyData.str from List.mem_of_getElem? hm1)
    exact ⟨z, hz, e.symm⟩
  have l1 := leaf_snoc l0 (str_ok (g := "kind") (z := z1) (by decide) (by revert hz1; simp [KND]; intro h; rcases h with h | h | h | h | h <;> simp [h]))
  generalize hd1 : d0 ++ [PyData.tuple [.str "kind", .str z1]] = d1 at l1
  have n1 : d1.length = 1 := by rw [← hd1, List.length_append, n0]; rfl
  show XB _ _ [.bor ys1, .d (.list (KND.map .str)), .own d1] _ _
  refine xb_cons (xs_append 2 rfl (by walk_at "v") (ev_tupD (ea_cons (h := r_str _ (ea_cons (h := ev_take 0 CT hr rfl (by walk_at "v") pass0 rfl (.inr rfl) hy1 (wd := 3) r_int (by decide) (by decide) fun j2 ys2 a0 a1 hy2 => (ea_nil ⟨_, rfl, by simp, fun _ => ?_⟩)))))) ⟨_, _, rfl, .inl rfl⟩)
  refine ⟨_, d1, _, rfl, rfl, .inl rfl, by rw [n1, sizeLine_eq]; decide, fun _ => ?_⟩
  have l2 := leaf_snoc l1 (int_ok (g := "level") (by decide) j2)
  generalize hd2 : d1 ++ [PyData.tuple [.str "level", .int j2]] = d2 at l2
  have n2 : d2.length = 2 := by rw [← hd2, List.length_append, n1]; rfl
  show XB _ _ [.bor ys2, .d (.list (KND.map .str)), .own d2] _ _
  refine xb_cons (xs_append 2 rfl (by walk_at "v") (ev_tupD (ea_cons (h := r_str _ (ea_cons (h := ev_take 0 CT hr rfl (by walk_at "v") pass0 rfl (.inr rfl) hy2 (wd := 5) r_int (by decide) (by decide) fun j3 ys3 a0 a1 hy3 => (ea_nil ⟨_, rfl, by simp, fun _ => ?_⟩)))))) ⟨_, _, rfl, .inl rfl⟩)
  refine ⟨_, d2, _, rfl, rfl, .inl rfl, by rw [n2, sizeLine_eq]; decide, fun _ => ?_⟩
  have l3 := leaf_snoc l2 (int_ok (g := "access") (by decide) j3)
  generalize hd3 : d2 ++ [PyData.tuple [.str "access", .int j3]] = d3 at l3
  have n3 : d3.length = 3 := by rw [← hd3, List.length_append, n2]; rfl
  show XB _ _ [.bor ys3, .d (.list (KND.map .str)), .own d3] _ _
  refine xb_cons (xs_append 2 rfl (by walk_at "v") (ev_tupD (ea_cons (h := r_str _ (ea_cons (h := ev_take 0 CT hr rfl (by walk_at "v") pass0 rfl (.inr rfl) hy3 (wd := 5) r_int (by decide) (by decide) fun j4 ys4 a0 a1 hy4 => (ea_nil ⟨_, rfl, by simp, fun _ => ?_⟩)))))) ⟨_, _, rfl, .inl rfl⟩)
  refine ⟨_, d3, _, rfl, rfl, .inl rfl, by rw [n3, sizeLine_eq]; decide, fun _ => ?_⟩
  have l4 := leaf_snoc l3 (int_ok (g := "other") (by decide) j4)
  generalize hd4 : d3 ++ [PyData.tuple [.str "other", .int j4]] = d4 at l4
  have n4 : d4.length = 4 := by rw [← hd4, List.length_append, n3]; rfl
  show XB _ _ [.bor ys4, .d (.list (KND.map .str)), .own d4] _ _
  refine xb_cons (xs_append 2 rfl (by walk_at "v") (ev_tupD (ea_cons (h := r_str _ (ea_cons (h := ev_menu (r_lst (a_cons r_str (a_cons r_str a_nil)) rfl) (.inl rfl) (ev_take 0 CT hr rfl (by walk_at "v") pass0 rfl (.inr rfl) hy4 (wd := 2) r_int (by decide) (by decide) fun j5 ys5 a0 a1 hy5 => ⟨_, rfl, a0, a1, fun y5 hm5 => ?_⟩)))))) ⟨_, _, rfl, .inl rfl⟩)
  refine ea_nil ⟨_, rfl, by simp, fun _ => ?_⟩
  refine ⟨_, d4, _, rfl, rfl, .inl rfl, by rw [n4, sizeLine_eq]; decide, fun _ => ?_⟩
  obtain ⟨z5, hz5, rfl⟩ : ∃ z ∈ (["a", "b"] : List Str), y5 = .str z := by
    obtain ⟨z, hz, e⟩ := List.mem_map.mp (show y5 ∈ (["a", "b"] : List Str).map PyData.str from List.mem_of_getElem? hm5)
    exact ⟨z, hz, e.symm⟩
  have l5 := leaf_snoc l4 (str_ok (g := "array") (z := z5) (by decide) (by revert hz5; simp; intro h; rcases h with h | h <;> simp [h]))
  generalize hd5 : d4 ++ [PyData.tuple [.str "array", .str z5]] = d5 at l5
  have n5 : d5.length = 5 := by rw [← hd5, List.length_append, n4]; rfl
  show XB _ _ [.bor ys5, .d (.list (KND.map .str)), .own d5] _ _
  refine xb_cons (xs_append 2 rfl (by walk_at "v") (ev_tupD (ea_cons (h := r_str _ (ea_cons (h := ev_menu (r_lst (a_cons r_str (a_cons r_str a_nil)) rfl) (.inl rfl) (ev_take 0 CT hr rfl (by walk_at "v") pass0 rfl (.inr rfl) hy5 (wd := 2) r_int (by decide) (by decide) fun j6 ys6 a0 a1 hy6 => ⟨_, rfl, a0, a1, fun y6 hm6 => ?_⟩)))))) ⟨_, _, rfl, .inl rfl⟩)
  refine ea_nil ⟨_, rfl, by simp, fun _ => ?_⟩
  refine ⟨_, d5, _, rfl, rfl, .inl rfl, by rw [n5, sizeLine_eq]; decide, fun _ => ?_⟩
  obtain ⟨z6, hz6, rfl⟩ : ∃ z ∈ (["read", "write"] : List Str), y6 = .str z := by
    obtain ⟨z, hz, e⟩ := List.mem_map.mp (show y6 ∈ (["read", "write"] : List Str).map PyData.str from List.mem_of_getElem? hm6)
    exact ⟨z, hz, e.symm⟩
  have l6 := leaf_snoc l5 (str_ok (g := "word") (z := z6) (by decide) (by revert hz6; simp; intro h; rcases h with h | h <;> simp [h]))
  generalize hd6 : d5 ++ [PyData.tuple [.str "word", .str z6]] = d6 at l6
  have n6 : d6.length = 6 := by rw [← hd6, List.length_append, n5]; rfl
  show XB _ _ [.bor ys6, .d (.list (KND.map .str)), .own d6] _ _
  refine xb_one (xs_ret (ev_frz 2 rfl ((r_bin (r_var 2 rfl (by walk_at "v") rfl) (r_lst (a_cons (r_tup (a_cons r_str a_nil) rfl) a_nil) rfl) (or_catS rfl rfl (by rw [n6, sizeLine_eq]; decide))) _ ?_)))
  refine fun _ => ⟨ys6, rfl, ⟨hy6, _, rfl, by rw [List.length_append, n6]; rfl, fun z hz => ?_⟩, nofun⟩
  rcases List.mem_append.mp hz with hz | hz
  · exact l6 z hz
  · rw [List.mem_singleton.mp hz]
    exact ⟨.any, rfl, trivial, rfl⟩
end

end K82

namespace K82
open PySem L2 SZ VR VX StX RT DE
/-! ### what holds of rows, of lists of them -/
theorem shp_canLay {d : PyData} (h : SeqAt.shaped d = true) : d.canLay0 = true := (Bool.and_eq_true_iff.mp h).1
theorem shp_eqv {d : PyData} (h : SeqAt.shaped d = true) : PyData.eqv d d = true := PySem.SeqAt.eqv_refl _ (shp_canLay h)
/-- a field's value -/
def CellOk (y : PyData) : Prop := y.canLay0 = true ∧ y.depth = 0
theorem lay_all : ∀ {ys : List PyData}, (∀ y ∈ ys, y.canLay0 = true) → PyData.canLayAll0 ys = true
  | [], _ => by simp [PyData.canLayAll0]
  | y :: ys, h => by
    have h1 := h y List.mem_cons_self
    have h2 := lay_all fun z hz => h z (List.mem_cons_of_mem y hz)
    simp [PyData.canLayAll0, h1, h2]
theorem dep_all {n : Nat} : ∀ {ys : List PyData}, (∀ y ∈ ys, y.depth ≤ n) → PyData.depthAll ys ≤ n
  | [], _ => by simp [PyData.depthAll]
  | y :: ys, h => by
    have h1 := h y List.mem_cons_self
    have h2 := dep_all fun z hz => h z (List.mem_cons_of_mem y hz)
    simp [PyData.depthAll]
    omega
theorem CellOk.shp {y : PyData} (h : CellOk y) : SeqAt.shaped y = true := by
  simp [SeqAt.shaped, h.1, h.2]
theorem tup_shp {n : Nat} (hn : n ≤ 60) {ys : List PyData} (h : ∀ y ∈ ys, y.canLay0 = true ∧ y.depth ≤ n) : SeqAt.shaped (.tuple ys) = true ∧ (PyData.tuple ys).canLay0 = true ∧ (PyData.tuple ys).depth ≤ n + 1 := by
  have h1 := lay_all fun y hy => (h y hy).1
  have h2 := dep_all fun y hy => (h y hy).2
  have e1 : (PyData.tuple ys).canLay0 = true := by simp [PyData.canLay0, h1]
  have e2 : (PyData.tuple ys).depth ≤ n + 1 := by simp [PyData.depth]; omega
  refine ⟨?_, e1, e2⟩
  simp only [SeqAt.shaped, e1, Bool.true_and, decide_eq_true_eq]
  omega
theorem lst_shp {n : Nat} (hn : n ≤ 60) {ys : List PyData} (h : ∀ y ∈ ys, y.canLay0 = true ∧ y.depth ≤ n) : SeqAt.shaped (.list ys) = true := by
  have h1 := lay_all fun y hy => (h y hy).1
  have h2 := dep_all fun y hy => (h y hy).2
  have e1 : (PyData.list ys).canLay0 = true := by simp [PyData.canLay0, h1]
  have e2 : (PyData.list ys).depth ≤ n + 1 := by simp [PyData.depth]; omega
  simp only [SeqAt.shaped, e1, Bool.true_and, decide_eq_true_eq]
  omega
theorem fld_str {g : Str} (hg : g ∈ FLD) : CellOk (.str g) := by
  simp only [FLD, List.mem_cons, List.not_mem_nil, or_false] at hg
  rcases hg with rfl | rfl | rfl | rfl | rfl | rfl <;> exact ⟨by decide +kernel, by decide +kernel⟩
theorem CellOk.frm {y : PyData} (h : CellOk y) {g : Str} (hg : g ∈ FLD) : FrmOk (.atom g y) := by
  have t := (tup_shp (n := 0) (by decide) (ys := [.str g, y]) fun z hz => by
    simp only [List.mem_cons, List.not_mem_nil, or_false] at hz
    rcases hz with rfl | rfl
    · exact ⟨(fld_str hg).1, Nat.le_of_eq (fld_str hg).2⟩
    · exact ⟨h.1, Nat.le_of_eq h.2⟩).1
  exact ⟨hg, h.shp, t, shp_eqv t⟩
/-- a row of the law -/
def RwG (zs : List PyData) : Prop := zs.length = 7 ∧ ∀ y ∈ zs, CellOk y
theorem RwG.row {zs : List PyData} (h : RwG zs) : RowOk zs := ⟨h.1, fun y hy => (h.2 y hy).shp⟩
theorem RwG.seven {zs : List PyData} (h : RwG zs) : ∃ a b c d e f g, zs = [a, b, c, d, e, f, g] ∧ CellOk a ∧ CellOk b ∧ CellOk c ∧ CellOk d ∧ CellOk e ∧ CellOk f ∧ CellOk g := by
  obtain ⟨h1, h2⟩ := h
  match zs, h1 with
  | [a, b, c, d, e, f, g], _ => exact ⟨a, b, c, d, e, f, g, rfl, h2 _ (by simp), h2 _ (by simp), h2 _ (by simp), h2 _ (by simp), h2 _ (by simp), h2 _ (by simp), h2 _ (by simp)⟩
theorem RwG.tup {zs : List PyData} (h : RwG zs) : (PyData.tuple zs).canLay0 = true ∧ (PyData.tuple zs).depth ≤ 1 :=
  (tup_shp (n := 0) (by decide) fun y hy => ⟨(h.2 y hy).1, Nat.le_of_eq (h.2 y hy).2⟩).2
theorem rows_shp {l : List (List PyData)} (h : ∀ zs ∈ l, RwG zs) : SeqAt.shaped (.list (l.map .tuple)) = true := lst_shp (n := 1) (by decide) fun y hy => by
  obtain ⟨zs, hz, rfl⟩ := List.mem_map.mp hy
  exact (h zs hz).tup
/-! ### lists of truth values shown -/
theorem sums_le : ∀ {ys : List PyData} {n : Nat}, (∀ y ∈ ys, y.shown.length ≤ n) → ((PyData.shownAll ys).map (·.length)).sum ≤ ys.length * n
  | [], _, _ => by simp [PyData.shownAll]
  | y :: ys, n, h => by
    have ih := sums_le (n := n) fun z hz => h z (List.mem_cons_of_mem y hz)
    have h1 := h y List.mem_cons_self
    simp only [PyData.shownAll, List.map_cons, List.sum_cons, List.length_cons, Nat.succ_mul]
    omega
theorem showA : ∀ {ys : List PyData}, (∀ y ∈ ys, y.showable = true) → PyData.showableAll ys = true
  | [], _ => rfl
  | y :: ys, h => by
    unfold PyData.showableAll
    rw [h y List.mem_cons_self, showA fun z hz => h z (List.mem_cons_of_mem y hz)]
    rfl
theorem bools_rep {l : List Bool} (hl : l.length ≤ 100) : (PyData.list (l.map .bool)).showable = true ∧ (PyData.list (l.map .bool)).hasDict = false ∧ (PyData.list (l.map .bool)).depth ≤ 8 ∧ (PyData.list (l.map .bool)).shown.length ≤ sizeLine := by
  have hb : ∀ y ∈ l.map PyData.bool, y.canLay0 = true ∧ y.depth ≤ 0 := fun y hy => by
    obtain ⟨c, _, rfl⟩ := List.mem_map.mp hy
    exact ⟨rfl, Nat.le_refl _⟩
  have hs : ∀ y ∈ l.map PyData.bool, y.showable = true := fun y hy => by
    obtain ⟨c, _, rfl⟩ := List.mem_map.mp hy
    rfl
  have hn : ∀ y ∈ l.map PyData.bool, y.shown.length ≤ 5 := fun y hy => by
    obtain ⟨c, _, rfl⟩ := List.mem_map.mp hy
    cases c <;> decide +kernel
  have h1 := lay_all fun y hy => (hb y hy).1
  have h2 := dep_all fun y hy => (hb y hy).2
  have h3 := sums_le hn
  rw [List.length_map] at h3
  have h5 := PyData.shownAll_length (l.map .bool)
  rw [List.length_map] at h5
  refine ⟨by simpa only [PyData.showable] using showA hs, PyData.hasDict_of_canLay _ (by simp [PyData.canLay0, h1]), by simp [PyData.depth]; omega, ?_⟩
  have h4 := listText_len_le (PyData.shownAll (l.map .bool))
  simp only [PyData.shown]
  rw [sizeLine_eq]
  omega

end K82

namespace K82
open PySem L2 SZ VR VX StX RT DE
/-! ### forms and rows drawn, whole -/
abbrev PreF (n : Nat) : List PyData → List Sl → Prop := fun ys as => PoolD ys ∧ as = [.d (.int n)]
abbrev ResF (n : Nat) : List PyData → List Sl → Sl → List PyData → Prop := fun _ _ r ys' => PoolD ys' ∧ ∃ fm : Frm, r = .d (frmD fm) ∧ FrmOk fm ∧ fm.dep ≤ n
section
variable {P : Program} {w : World} {K : PySem.W.Frag} {mg : Str → Option Value} {base : Heap}
theorem t_form {f : Addr} {fd : FuncData} (F : Fun K "_law_form" "_law_form" S_law_form f fd) (mf : mg "_law_form" = some (.ref f)) (bf : Binds K fd ["_law_pool_here", "_law_depth"] []) (CT : CalB P w K mg base CX0 "_law_take" 1 PreT ResT) (CA : CalB P w K mg base CX0 "_law_atoms" 2 PreN ResAt) :
    ∀ n : Nat, FnOk P w K mg base CX0 (n + 3) f fd ["_law_pool_here", "_law_depth"] (spB K (PreF n) (ResF n)) := by
  intro n
  induction n with
  | zero =>
    refine fn_B F sc_law_form (fun ys as h => by rw [h.2]; rfl) fun cdv A outer s H E hr b ys as hp => ?_
    obtain ⟨hy, rfl⟩ := hp
    have hr1 := hr.mono (show 1 ≤ 0 + 2 by decide)
    show XB _ _ [.bor ys, .d (.int ((0 : Nat) : Int)), .un] _ _
    refine xb_cons (xs_set 2 sc_law_form.nd rfl (by walk_at "v") (by simp) rfl (.inl rfl) (ev_take 0 CT hr1 rfl (by walk_at "v") pass0 rfl (.inr rfl) hy (wd := 6) r_int (by decide) (by decide) fun j1 ys1 a0 a1 hy1 => fun _ _ => ?_))
    show XB _ _ [.bor ys1, .d (.int ((0 : Nat) : Int)), .d (.int j1)] _ _
    refine xb_cons (x_if (t_w (w_or (t_cmp (r_var 1 rfl (by walk_at "v") rfl) r_int (by walk_at "o")) fun _ => (w_or1 (t_cmp (r_var 2 rfl (by walk_at "v") rfl) r_int (by walk_at "o"))))) (fun h0 => ?_) (fun h0 => ?_))
    · refine xb_one (xs_ret (ev_ix (fun _ _ => rfl) (ev_calL 0 CA (hr.mono (by omega)) rfl pass0 rfl (by walk_at "v") (a_nil _ ⟨[], rfl, _, ys1, rfl, .inr rfl, ⟨hy1, rfl⟩, fun r ys2 hr' => ?_⟩) ⟨_, _, rfl, .inr rfl⟩)))
      obtain ⟨hy2, ds, rfl, l7, hl⟩ := hr'
      refine ⟨nofun, ev_take 0 CT hr1 rfl (by walk_at "v") pass0 rfl (.inr rfl) hy2 (wd := 7) r_int (by decide) (by decide) fun j2 ys3 b0 b1 hy3 => ?_⟩
      have hlt : j2.toNat < ds.length := by omega
      have hi : atI ds j2 = some ds[j2.toNat] := by
        have := atI_nat (xs := ds) (j := j2.toNat) (List.getElem?_eq_getElem hlt)
        rw [Int.toNat_of_nonneg b0] at this
        exact this
      refine iv_own hi ?_
      obtain ⟨fm, e, ok, hd⟩ := hl _ (List.getElem_mem hlt)
      rw [e]
      exact fun _ => ⟨ys3, rfl, ⟨hy3, fm, rfl, ok, by omega⟩, nofun⟩
    · simp at h0
  | succ n ih =>
    have CF : CalB P w K mg base CX0 "_law_form" (n + 3) (PreF n) (ResF n) := ⟨f, fd, _, ih, mf, F.kp, bf⟩
    refine fn_B F sc_law_form (fun ys as h => by rw [h.2]; rfl) fun cdv A outer s H E hr b ys as hp => ?_
    obtain ⟨hy, rfl⟩ := hp
    have hr1 := hr.mono (show 1 ≤ n + 1 + 2 by omega)
    have hr : Room (n + 3) _ := hr.mono (show n + 3 ≤ n + 1 + 2 by omega)
    have en : ((n + 1 : Nat) : Int) - 1 = (n : Nat) := by omega
    show XB _ _ [.bor ys, .d (.int ((n + 1 : Nat) : Int)), .un] _ _
    refine xb_cons (xs_set 2 sc_law_form.nd rfl (by walk_at "v") (by simp) rfl (.inl rfl) (ev_take 0 CT hr1 rfl (by walk_at "v") pass0 rfl (.inr rfl) hy (wd := 6) r_int (by decide) (by decide) fun j1 ys1 a0 a1 hy1 => fun _ _ => ?_))
    show XB _ _ [.bor ys1, .d (.int ((n + 1 : Nat) : Int)), .d (.int j1)] _ _
    refine xb_cons (x_if (t_w (w_or (t_cmp (r_var 1 rfl (by walk_at "v") rfl) r_int (by walk_at "o")) fun _ => (w_or1 (t_cmp (r_var 2 rfl (by walk_at "v") rfl) r_int (by walk_at "o"))))) (fun h0 => ?_) (fun h0 => xb_nil fun _ => ?_))
    · refine xb_one (xs_ret (ev_ix (fun _ _ => rfl) (ev_calL 0 CA (hr.mono (by omega)) rfl pass0 rfl (by walk_at "v") (a_nil _ ⟨[], rfl, _, ys1, rfl, .inr rfl, ⟨hy1, rfl⟩, fun r ys2 hr' => ?_⟩) ⟨_, _, rfl, .inr rfl⟩)))
      obtain ⟨hy2, ds, rfl, l7, hl⟩ := hr'
      refine ⟨nofun, ev_take 0 CT hr1 rfl (by walk_at "v") pass0 rfl (.inr rfl) hy2 (wd := 7) r_int (by decide) (by decide) fun j2 ys3 b0 b1 hy3 => ?_⟩
      have hlt : j2.toNat < ds.length := by omega
      have hi : atI ds j2 = some ds[j2.toNat] := by
        have := atI_nat (xs := ds) (j := j2.toNat) (List.getElem?_eq_getElem hlt)
        rw [Int.toNat_of_nonneg b0] at this
        exact this
      refine iv_own hi ?_
      obtain ⟨fm, e, ok, hd⟩ := hl _ (List.getElem_mem hlt)
      rw [e]
      exact fun _ => ⟨ys3, rfl, ⟨hy3, fm, rfl, ok, by omega⟩, nofun⟩
    refine xb_cons (x_if (t_cmp (r_var 2 rfl (by walk_at "v") rfl) r_int (by walk_at "o")) (fun h1 => ?_) (fun h1 => xb_nil fun _ => ?_))
    · refine xb_one (xs_ret (ev_tupD (ea_cons (h := r_str _ (ea_cons (h := ev_calL 0 CF hr rfl pass0 rfl (by walk_at "v") ((a_cons (r_bin (r_var 1 rfl (by walk_at "v") rfl) r_int (by walk_at "o")) a_nil) _ ⟨[.int (((n + 1 : Nat) : Int) - 1)], rfl, _, ys1, rfl, .inr rfl, ⟨hy1, by rw [en]; rfl⟩, fun r ys2 hr' => ?_⟩) ⟨_, _, rfl, .inr rfl⟩))))))
      obtain ⟨hy2, fm, rfl, ok, hd⟩ := hr'
      refine ⟨nofun, ea_nil ⟨_, rfl, by simp, fun _ => ⟨ys2, rfl, ⟨hy2, .not fm, rfl, ok, ?_⟩, nofun⟩⟩⟩
      show fm.dep + 1 ≤ n + 1
      omega
    have hj : j1 % 2 = 0 ∨ j1 % 2 = 1 := by omega
    have hw : ∃ w : Str, (w = "and" ∨ w = "or") ∧ atI ([PyData.str "and", .str "or"]) (j1 % 2) = some (.str w) := by
      rcases hj with e | e
      · exact ⟨"and", .inl rfl, by rw [e]; rfl⟩
      · exact ⟨"or", .inr rfl, by rw [e]; rfl⟩
    obtain ⟨wd, hwd, hat⟩ := hw
    refine xb_one (xs_ret (ev_tupD (ea_cons (h := (r_ix (r_lst (a_cons r_str (a_cons r_str a_nil)) rfl) (r_bin (r_var 2 rfl (by walk_at "v") rfl) r_int (fun _ h => ov_mod (by decide) h)) (ir_at (.inl rfl) hat)) _ (ea_cons (h := ev_calL 0 CF hr rfl pass0 rfl (by walk_at "v") ((a_cons (r_bin (r_var 1 rfl (by walk_at "v") rfl) r_int (by walk_at "o")) a_nil) _ ⟨[.int (((n + 1 : Nat) : Int) - 1)], rfl, _, ys1, rfl, .inr rfl, ⟨hy1, by rw [en]; rfl⟩, fun r ys2 hr' => ?_⟩) ⟨_, _, rfl, .inr rfl⟩))))))
    obtain ⟨hy2, fm, rfl, ok, hd⟩ := hr'
    refine ⟨nofun, ea_cons (h := ev_calL 0 CF hr rfl pass0 rfl (by walk_at "v") ((a_cons (r_bin (r_var 1 rfl (by walk_at "v") rfl) r_int (by walk_at "o")) a_nil) _ ⟨[.int (((n + 1 : Nat) : Int) - 1)], rfl, _, ys2, rfl, .inr rfl, ⟨hy2, by rw [en]; rfl⟩, fun r ys3 hr' => ?_⟩) ⟨_, _, rfl, .inr rfl⟩)⟩
    obtain ⟨hy3, gm, rfl, ok2, hd2⟩ := hr'
    refine ⟨nofun, ea_nil ⟨_, rfl, by simp, fun _ => ⟨ys3, rfl, ⟨hy3, ?_⟩, nofun⟩⟩⟩
    rcases hwd with rfl | rfl
    · exact ⟨.and fm gm, rfl, ⟨ok, ok2⟩, by show max fm.dep gm.dep + 1 ≤ n + 1; omega⟩
    · exact ⟨.or fm gm, rfl, ⟨ok, ok2⟩, by show max fm.dep gm.dep + 1 ≤ n + 1; omega⟩
end

end K82

namespace K82
open PySem L2 SZ VR VX StX RT DE
/-! ### conditions read: what is written -/
theorem takes0' {X : Cx} : Takes X (fun _ _ _ _ => False) := LamX.takes0
theorem passF {X : Cx} : Passes (L2.CX X.prog X.w) X (fun _ _ _ => False) := passes_call takes0' (fun _ _ _ _ h => h.elim)
abbrev NUMS : List Str := ["level", "access", "other"]
abbrev KNDS : List Str := ["hit", "miss", "crowded", "back", "thrown"]
abbrev WRDS : List Str := ["read", "write"]
/-- a field and its value in a text -/
def AtOk (f : Str) (y : PyData) : Prop :=
  (∃ n : Int, f ∈ NUMS ∧ y = .int n ∧ isN (Str.ofString (toString n)).cps.toList = true ∧ (Str.ofString (toString n)).cps.toList.length ≤ 150 ∧ numVal (Str.ofString (toString n)).cps.toList = n) ∨ ∃ z : Str, y = .str z ∧ ((f = "kind" ∧ z ∈ KNDS) ∨ (f = "word" ∧ z ∈ WRDS) ∨ (f = "array" ∧ isNm z = true ∧ z.length ≤ 1000))
def shV : PyData → Str
  | .str z => z
  | .int i => Str.ofString (toString i)
  | _ => ""
def valV : PyData → V
  | .str z => .str z
  | .int i => .int i
  | _ => .non
inductive Pt where
  | any
  | atom (f : Str) (y : PyData)
  | not (a : Pt)
  | par (a : Pt)
  | and (a b : Pt)
  | or (a b : Pt)
def Pt.ht : Pt → Nat
  | .any => 0
  | .atom _ _ => 0
  | .not a => a.ht + 1
  | .par a => a.ht + 1
  | .and a b => max a.ht b.ht
  | .or a b => max a.ht b.ht
def Pt.frm : Pt → Frm
  | .any => .any
  | .atom f y => .atom f y
  | .not a => .not a.frm
  | .par a => a.frm
  | .and a b => .and a.frm b.frm
  | .or a b => .or a.frm b.frm
def Pt.lv : Pt → Nat
  | .and _ _ => 1
  | .or _ _ => 0
  | _ => 2
def Pt.ok : Pt → Prop
  | .any => True
  | .atom f y => f ∈ FLD ∧ AtOk f y
  | .not a => a.lv = 2 ∧ a.ok
  | .par a => a.ok
  | .and a b => 1 ≤ a.lv ∧ b.lv = 2 ∧ a.ok ∧ b.ok
  | .or a b => 1 ≤ b.lv ∧ a.ok ∧ b.ok
def Pt.ws : Pt → List Str
  | .any => [("any" : Str)]
  | .atom f y => [f, shV y]
  | .not a => ("not" : Str) :: a.ws
  | .par a => ("(" : Str) :: (a.ws ++ [(")" : Str)])
  | .and a b => a.ws ++ (("and" : Str) :: b.ws)
  | .or a b => a.ws ++ (("or" : Str) :: b.ws)
/-- the words ws stand at k -/
def AtW (ts : List (List Nat × Nat)) (k : Nat) (ws : List Str) : Prop := ∀ i w, ws[i]? = some w → ∃ t, ts[k + i]? = some t ∧ (⟨t.1.toArray⟩ : Str) = w
theorem AtW.app {ts : List (List Nat × Nat)} {k : Nat} {a b : List Str} (h : AtW ts k (a ++ b)) : AtW ts k a ∧ AtW ts (k + a.length) b := by
  refine ⟨fun i w e => h i w ?_, fun i w e => ?_⟩
  · rw [List.getElem?_append_left (List.getElem?_eq_some_iff.mp e).1]
    exact e
  · have := h (a.length + i) w (by rw [List.getElem?_append_right (by omega)]; rw [show a.length + i - a.length = i by omega]; exact e)
    rw [Nat.add_assoc]
    exact this
theorem AtW.cons {ts : List (List Nat × Nat)} {k : Nat} {x : Str} {b : List Str} (h : AtW ts k (x :: b)) : (∃ t, ts[k]? = some t ∧ (⟨t.1.toArray⟩ : Str) = x) ∧ AtW ts (k + 1) b := by
  refine ⟨h 0 x rfl, fun i w e => ?_⟩
  have := h (i + 1) w e
  rw [show k + (i + 1) = k + 1 + i by omega] at this
  exact this
theorem AtW.one {ts : List (List Nat × Nat)} {k : Nat} {x : Str} (h : AtW ts k [x]) : ∃ t, ts[k]? = some t ∧ (⟨t.1.toArray⟩ : Str) = x := h 0 x rfl
/-- the word at k is none of l -/
def Peek (ts : List (List Nat × Nat)) (k : Nat) (l : List Str) : Prop := ∃ t, ts[k]? = some t ∧ ∀ x ∈ l, (⟨t.1.toArray⟩ : Str) ≠ x
/-- scalar values only -/
def FrS : Frm → Prop
  | .any => True
  | .atom _ y => (∃ z, y = .str z) ∨ ∃ i, y = .int i
  | .not a => FrS a
  | .and a b => FrS a ∧ FrS b
  | .or a b => FrS a ∧ FrS b
theorem Pt.ok.frs : ∀ {p : Pt}, p.ok → FrS p.frm
  | .any, _ => trivial
  | .atom _ _, h => by
    rcases h.2 with ⟨n, _, e, _⟩ | ⟨z, e, _⟩
    · exact .inr ⟨n, e⟩
    · exact .inl ⟨z, e⟩
  | .not a, h => by
    show FrS a.frm
    exact Pt.ok.frs (p := a) h.2
  | .par a, h => by
    show FrS a.frm
    exact Pt.ok.frs (p := a) h
  | .and a b, h => ⟨Pt.ok.frs (p := a) h.2.2.1, Pt.ok.frs (p := b) h.2.2.2⟩
  | .or a b, h => ⟨Pt.ok.frs (p := a) h.2.1, Pt.ok.frs (p := b) h.2.2⟩
theorem PtAt.but {K : PySem.W.Frag} {C R CR dx0 l0 : Addr} {H H' : Hp} {c : Addr} {xs : List V} {k : Int} (hR : H R = some (.ins CR dx0 [("_tokens", .ref l0), ("_at", .int k)])) (b : ButR R H H') (h : PtAt K C H c xs) : PtAt K C H' c xs := by
  obtain ⟨dx, t, h1, h2, h3⟩ := h
  refine ⟨dx, t, b _ _ h1 (fun e => ?_), b _ _ h2 (fun e => by rw [e, hR] at h2; cases h2), ?_⟩
  · rw [e, hR] at h1
    cases h1
  · rcases h3 with (h3 | ⟨o, h3⟩) | h3
    · exact .inl (.inl (b _ _ h3 (fun e => by rw [e, hR] at h3; cases h3)))
    · exact .inl (.inr ⟨o, b _ _ h3 (fun e => by rw [e, hR] at h3; cases h3)⟩)
    · exact .inr h3
theorem CndAt.but {K : PySem.W.Frag} {C R CR dx0 l0 : Addr} {H H' : Hp} {k : Int} (hR : H R = some (.ins CR dx0 [("_tokens", .ref l0), ("_at", .int k)])) (b : ButR R H H') : ∀ {f : Frm} {c : Addr}, FrS f → CndAt K C H f c → CndAt K C H' f c
  | .any, _, _, h => PtAt.but hR b h
  | .atom _ y, _, s, h => by
    obtain ⟨v, h1, h2⟩ := h
    refine ⟨v, h1.but hR b, ?_⟩
    rcases s with ⟨z, rfl⟩ | ⟨i, rfl⟩
    · cases h2; exact .str _
    · cases h2; exact .int _
  | .not _, _, s, h => let ⟨p, h1, h2⟩ := h; ⟨p, h1.but hR b, CndAt.but hR b s h2⟩
  | .and _ _, _, s, h => let ⟨p, q, h1, h2, h3⟩ := h; ⟨p, q, h1.but hR b, CndAt.but hR b s.1 h2, CndAt.but hR b s.2 h3⟩
  | .or _ _, _, s, h => let ⟨p, q, h1, h2, h3⟩ := h; ⟨p, q, h1.but hR b, CndAt.but hR b s.1 h2, CndAt.but hR b s.2 h3⟩
/-! ### conditions read: the reader -/
structure CrS (P : Program) (w : World) (K : PySem.W.Frag) (mg : Str → Option Value) (base : Heap) (C CR CS CT : Addr) : Prop where
  Zr : RdC K mg CR
  D : CnD P w K mg base C
  L : CnL P w K mg base C
  tok : ∃ f fd, Meth K CR "token" f ∧ Binds K fd ["self"] [] ∧ FnOk P w K mg base CX0 1 f fd ["self"] (spTok CR)
  any : ∃ f fd, Meth K CR "pass_any" f ∧ Binds K fd ["self"] [] ∧ FnOk P w K mg base CX0 2 f fd ["self"] (spPassAny CR)
  passes : ∃ f fd, Meth K CR "passes" f ∧ Binds K fd ["self", "token"] [] ∧ FnOk P w K mg base CX0 2 f fd ["self", "token"] (spPasses CR)
  only : ∃ f fd, Meth K CR "pass_only" f ∧ Binds K fd ["self", "token"] [] ∧ FnOk P w K mg base (L2.CX P w) 3 f fd ["self", "token"] (spOnly CR CS)
  one : ∃ f fd, Meth K CR "pass_one" f ∧ Binds K fd ["self", "tokens"] [] ∧ FnOk P w K mg base (L2.CX P w) 3 f fd ["self", "tokens"] (spOne K CR CS)
  num : ∃ f fd, Meth K CR "pass_number" f ∧ Binds K fd ["self"] [] ∧ FnOk P w K mg base (L2.CX P w) 3 f fd ["self"] (spNumber CR CS CT)
  isn : ∃ f fd, mg "is_name" = some (.ref f) ∧ PySem.W.keepIn K (.ref f) = true ∧ Binds K fd ["value"] [] ∧ FnOk P w K mg base CX0 3 f fd ["value"] (spName K)
  fields : ∃ a, mg "_FIELDS" = some (.ref a) ∧ ∀ H, SqT K H a (FLD.map V.str)
  nums : ∃ a, mg "_NUMBERS" = some (.ref a) ∧ ∀ H, SqT K H a (NUMS.map V.str)
  kinds : ∃ a, mg "_KINDS" = some (.ref a) ∧ ∀ H, SqT K H a (KNDS.map V.str)
  words : ∃ a, mg "_WORDS" = some (.ref a) ∧ ∀ H, SqT K H a (WRDS.map V.str)
  most : ∃ t, mg "_MOST_DEPTH" = some (.int 30 t)
def spVal (CR : Addr) : Sp := fun vs H Q _ => ∃ (R : Addr) (f : Str) (y : PyData) (ts : List (List Nat × Nat)) (k : Nat), vs = [.ref R, .str f] ∧ AtOk f y ∧ Snt ts ∧ RdAt CR H R ts k ∧ AtW ts k [shV y] ∧ ∀ H', RdAt CR H' R ts (k + 1) → ButR R H H' → Q (valV y) H'
theorem str_toArr {z : Str} {l : List Nat} (h : (⟨l.toArray⟩ : Str) = z) : l = z.cps.toList := by subst h; simp
section
variable {P : Program} {w : World} {K : PySem.W.Frag} {mg : Str → Option Value} {base : Heap} {C CR CS CT : Addr}
theorem ok_value {f : Addr} {fd : FuncData} (F : Fun K "_value" "_value" S_value f fd) (Z : CrS P w K mg base C CR CS CT) : FnOk P w K mg base CX0 4 f fd ["reader", "field"] (spVal CR) := by
  obtain ⟨fT, dT, MT, bT, GT⟩ := Z.tok
  obtain ⟨fA, dA, MA, bA, GA⟩ := Z.any
  obtain ⟨fO, dO, MO, bO, GO⟩ := Z.one
  obtain ⟨fN, dN, MN, bN, GN⟩ := Z.num
  obtain ⟨fI, dI, mI, kI, bI, GI⟩ := Z.isn
  obtain ⟨a1, m1, h1⟩ := Z.nums
  obtain ⟨a2, m2, h2⟩ := Z.kinds
  obtain ⟨a3, m3, h3⟩ := Z.words
  refine F.ok sc_value (fun vs H Q E h => by obtain ⟨R, f, y, ts, k, rfl, _⟩ := h; rfl) (fun cdv A outer s H vs Q E hr h => ?_)
  obtain ⟨R, f, y, ts, k, rfl, hy, hS, hRd, hw, q⟩ := h
  have hr1 := hr.mono (show 1 ≤ 3 by decide)
  have hr2 := hr.mono (show 2 ≤ 3 by decide)
  obtain ⟨t, hk, et⟩ := hw.one
  obtain ⟨dx, lR, hR, hod, hL⟩ := id hRd
  refine ⟨_, pss_cons (ps_if (pt_cmpR op_in_seq (pv 1) (pe_glob (by rfl) m1 (v := .ref a1) rfl) (by rfl)) (pss_one (ps_ret (pe_meth0 (pv 0) Z.Zr.kit.cl MN GN hr bN .nil passF))) pss_nil)
    (pss_cons (ps_if (pt_cmpR op_eq (pv 1) pe_str (nomark _)) (pss_one (ps_ret (pe_meth (pv 0) Z.Zr.kit.cl MO GO hr bO .nil passF (pa_cons (pe_glob (by rfl) m2 (v := .ref a2) rfl) pa_nil)))) pss_nil)
    (pss_cons (ps_if (pt_cmpR op_eq (pv 1) pe_str (nomark _)) (pss_one (ps_ret (pe_meth (pv 0) Z.Zr.kit.cl MO GO hr bO .nil passF (pa_cons (pe_glob (by rfl) m3 (v := .ref a3) rfl) pa_nil)))) pss_nil)
    (pss_cons (ps_if (pt_not (pt_val (pe_call GI hr (by rfl) mI kI bI .nil pass0 (pa_cons (pe_meth0 (pv 0) Z.Zr.kit.cl MT GT hr1 bT .nil pass0) pa_nil)))) pss_never pss_nil)
    (pss_one (ps_ret (pe_meth0 (pv 0) Z.Zr.kit.cl MA GA hr2 bA .nil pass0)))))), ?_⟩
  have hkl : k < ts.length := (List.getElem?_eq_some_iff.mp hk).1
  have htk : tk ts k = (shV y).cps.toList := by
    rw [(tk_of hk).1]
    exact str_toArr et
  rcases hy with ⟨n, hf, rfl, c1, c2, c3⟩ | ⟨z, rfl, hz⟩
  · have htk : tk ts k = (Str.ofString (toString n)).cps.toList := htk
    refine ⟨_, rfl, a1, NUMS.map V.str, rfl, .inr (h1 H), rfl, flat_strs _, true, by rw [inV_str, List.contains_iff_mem.mpr hf]; rfl, ?_⟩
    refine iteT ?_
    refine ⟨_, rfl, R, dx, _, rfl, hR, rfl, R, ts, k, rfl, hRd, hkl, hS, .inr (.inr ⟨by rw [htk]; exact c1, by rw [htk]; exact c2, fun H' r1 r2 => ?_⟩)⟩
    rw [htk, c3]
    exact q H' r1 r2
  · have et : (⟨t.1.toArray⟩ : Str) = z := et
    have hn : NUMS.contains f = false := by
      rcases hz with ⟨rfl, _⟩ | ⟨rfl, _⟩ | ⟨rfl, _⟩ <;> decide +kernel
    refine ⟨_, rfl, a1, NUMS.map V.str, rfl, .inr (h1 H), rfl, flat_strs _, false, by rw [inV_str, hn]; rfl, ?_⟩
    refine iteF ?_
    rcases hz with ⟨rfl, hz⟩ | ⟨rfl, hz⟩ | ⟨rfl, hz, hzl⟩
    · refine ⟨_, rfl, rfl, true, by decide, ?_⟩
      refine iteT ?_
      refine ⟨_, rfl, R, dx, _, rfl, hR, rfl, R, a2, KNDS, ts, k, t, rfl, h2, hRd, hk, .inl ⟨by rw [et]; exact List.contains_iff_mem.mpr hz, fun H' r1 r2 => ?_⟩⟩
      rw [et]
      exact q H' r1 r2
    · refine ⟨_, rfl, rfl, false, by decide, ?_⟩
      refine iteF ?_
      refine ⟨_, rfl, rfl, true, by decide, ?_⟩
      refine iteT ?_
      refine ⟨_, rfl, R, dx, _, rfl, hR, rfl, R, a3, WRDS, ts, k, t, rfl, h3, hRd, hk, .inl ⟨by rw [et]; exact List.contains_iff_mem.mpr hz, fun H' r1 r2 => ?_⟩⟩
      rw [et]
      exact q H' r1 r2
    · refine ⟨_, rfl, rfl, false, by decide, ?_⟩
      refine iteF ?_
      refine ⟨_, rfl, rfl, false, by decide, ?_⟩
      refine iteF ?_
      refine ⟨_, rfl, R, dx, _, rfl, hR, rfl, R, ts, k, t, rfl, hRd, hk, ?_⟩
      rw [et]
      refine ⟨.str z, rfl, .inl ⟨z, rfl, by omega, ?_⟩⟩
      rw [hz]
      refine ⟨true, rfl, ?_⟩
      refine iteF ?_
      refine ⟨_, rfl, R, dx, _, rfl, hR, rfl, R, ts, k, t, rfl, hRd, hk, fun H' r1 r2 => ?_⟩
      rw [et]
      exact q H' r1 r2
end

end K82

namespace K82
open PySem L2 SZ VR VX StX RT DE
/-! ### conditions read: one of them -/
def spCn (K : PySem.W.Frag) (C CR : Addr) (lm h : Nat) (l : List Str) : Sp := fun vs H Q _ => ∃ (R : Addr) (d : Int) (ts : List (List Nat × Nat)) (k : Nat) (p : Pt), vs = [.ref R, .int d] ∧ p.ok ∧ lm ≤ p.lv ∧ p.ht < h ∧ d + (p.ht : Int) ≤ 30 ∧ Snt ts ∧ RdAt CR H R ts k ∧ AtW ts k p.ws ∧ Peek ts (k + p.ws.length) l ∧
  ∀ c H', RdAt CR H' R ts (k + p.ws.length) → ButR R H H' → CndAt K C H' p.frm c → Q (.ref c) H'
theorem mk_not {K : PySem.W.Frag} {C : Addr} {H : Hp} {a : Addr} {f : Frm} {Q : VK} (h : CndAt K C H f a) (q : ∀ c H', Same H H' → CndAt K C H' (.not f) c → Q (.ref c) H') : CMade C H [.str "not", .ref a] Q := CMade.at (K := K) fun c H' s pt => q c H' s ⟨a, pt, h.same s⟩
theorem fld_word {f : Str} (h : f ∈ FLD) : f ≠ "not" ∧ f ≠ "(" ∧ f ≠ "any" := by
  simp only [FLD, List.mem_cons, List.not_mem_nil, or_false] at h
  rcases h with rfl | rfl | rfl | rfl | rfl | rfl <;> exact ⟨by decide, by decide, by decide⟩
theorem valV_at {K : PySem.W.Frag} {H : Hp} {f : Str} {y : PyData} (h : AtOk f y) : Dp K H (valV y) y := by
  rcases h with ⟨n, _, rfl, _⟩ | ⟨z, rfl, _⟩
  · exact .int n
  · exact .str z
section
variable {P : Program} {w : World} {K : PySem.W.Frag} {mg : Str → Option Value} {base : Heap} {C CR CS CT : Addr}
theorem ok_one {f fC fV : Addr} {fd dC dV : FuncData} {h n : Nat} (F : Fun K "_one" "_one" S_one f fd) (mf : mg "_one" = some (.ref f)) (bf : Binds K fd ["reader", "depth"] []) (FC : Fun K "_condition" "_condition" S_condition fC dC) (mC : mg "_condition" = some (.ref fC)) (bC : Binds K dC ["reader", "depth"] [])
    (FV : Fun K "_value" "_value" S_value fV dV) (mV : mg "_value" = some (.ref fV)) (bV : Binds K dV ["reader", "field"] []) (Z : CrS P w K mg base C CR CS CT) (hn : 4 ≤ n)
    (GO : FnOk P w K mg base CX0 n f fd ["reader", "depth"] (spCn K C CR 2 h [])) (GC : FnOk P w K mg base CX0 n fC dC ["reader", "depth"] (spCn K C CR 0 h ["and", "or"])) : FnOk P w K mg base CX0 (n + 1) f fd ["reader", "depth"] (spCn K C CR 2 (h + 1) []) := by
  obtain ⟨fP, dP, MP, bP, GP⟩ := Z.passes
  obtain ⟨fY, dY, MY, bY, GY⟩ := Z.only
  obtain ⟨fW, dW, MW, bW, GW⟩ := Z.one
  obtain ⟨fI, dI, hsI, hfI, bI, GI⟩ := Z.L.inv
  obtain ⟨fm, dm, MM, bM, GM⟩ := Z.D.M.make
  obtain ⟨aF, mF, hF⟩ := Z.fields
  obtain ⟨t30, m30⟩ := Z.most
  have GV := ok_value FV Z
  refine F.ok sc_one (fun vs H Q E h => by obtain ⟨R, d, ts, k, p, rfl, _⟩ := h; rfl) (fun cdv A outer s H vs Q E hr h => ?_)
  obtain ⟨R, d, ts, k, p, rfl, ok, lv, hh, hd, hS, hRd, hw, hpk, q⟩ := h
  have hr2 := hr.mono (show 2 ≤ n by omega)
  have hr3 := hr.mono (show 3 ≤ n by omega)
  have hr4 := hr.mono hn
  obtain ⟨dx, lR, hR, hod, hL⟩ := id hRd
  refine ⟨_, pss_cons (ps_if (pt_cmpR op_gt (pv 1) (pe_glob (by rfl) m30 (v := .int 30) ⟨t30, rfl⟩) (by rfl)) pss_never pss_nil)
    (pss_cons (ps_if (pt_val (pe_meth (pv 0) Z.Zr.kit.cl MP GP hr2 bP .nil pass0 (pa_cons pe_str pa_nil))) (pss_one (ps_ret (pe_un (un_inv hsI hfI GI hr3 bI pass0) (pe_call GO hr (by rfl) mf F.kp bf .nil pass0 (pa_cons (pv 0) (pa_cons (pe_op op_add (pv 1) pe_int) pa_nil)))))) pss_nil)
    (pss_cons (ps_if (pt_val (pe_meth (pv 0) Z.Zr.kit.cl MP GP hr2 bP .nil pass0 (pa_cons pe_str pa_nil))) (pss_cons (ps_set (i := 2) sc_one.nd rfl (Or.inl rfl) (pe_call GC hr (by rfl) mC FC.kp bC .nil pass0 (pa_cons (pv 0) (pa_cons (pe_op op_add (pv 1) pe_int) pa_nil))))
        (pss_cons (ps_expr (pe_meth (pv 0) Z.Zr.kit.cl MY GY hr3 bY .nil passF (pa_cons pe_str pa_nil))) (pss_one (ps_ret (pv 2))))) pss_nil)
    (pss_cons (ps_if (pt_val (pe_meth (pv 0) Z.Zr.kit.cl MP GP hr2 bP .nil pass0 (pa_cons pe_str pa_nil))) (pss_one (ps_ret (pe_make MM GM hr2 (by rfl) Z.D.M.Z.mgC bM .nil pass0 (pa_cons (pe_tup (pa_cons pe_str pa_nil)) pa_nil)))) pss_nil)
    (pss_cons (ps_set (i := 3) sc_one.nd rfl (Or.inl rfl) (pe_meth (pv 0) Z.Zr.kit.cl MW GW hr3 bW .nil passF (pa_cons (pe_glob (by rfl) mF (v := .ref aF) rfl) pa_nil)))
    (pss_one (ps_ret (pe_make MM GM hr2 (by rfl) Z.D.M.Z.mgC bM .nil pass0 (pa_cons (pe_tup (pa_cons (pv 3) (pa_cons (pe_call GV hr4 (by rfl) mV FV.kp bV .nil pass0 (pa_cons (pv 0) (pa_cons (pv 3) pa_nil))) pa_nil))) pa_nil)))))))), ?_⟩
  have hd30 : decide (30 < d) = false := by simp; omega
  refine ⟨_, rfl, _, _, rfl, rfl, false, by show V.bl (decide (30 < d)) = _; rw [hd30], ?_⟩
  refine iteF ?_
  cases p with
  | and a b => exact absurd lv (by simp [Pt.lv])
  | or a b => exact absurd lv (by simp [Pt.lv])
  | not a =>
    obtain ⟨⟨t, hk, et⟩, hw2⟩ := AtW.cons hw
    have hh : a.ht + 1 < h + 1 := hh
    have hd : d + ((a.ht + 1 : Nat) : Int) ≤ 30 := hd
    have hl : k + (Pt.not a).ws.length = k + 1 + a.ws.length := by show k + (a.ws.length + 1) = _; omega
    refine ⟨_, rfl, R, dx, _, rfl, hR, rfl, R, ts, k, t, "not", rfl, hRd, hk, .inr ⟨et, fun H1 r1 b1 => ⟨true, rfl, ?_⟩⟩⟩
    refine iteT ?_
    rw [hl] at hpk q
    refine ⟨_, rfl, _, rfl, _, _, rfl, rfl, R, d + 1, ts, k + 1, a, rfl, ok.2, Nat.le_of_eq ok.1.symm, by omega, by omega, hS, r1, hw2, hpk, fun c1 H2 r2 b2 h2 => ?_⟩
    obtain ⟨xs, pt⟩ := h2.ins
    obtain ⟨d1, t1, i1, _, _⟩ := id pt
    refine ⟨c1, d1, _, rfl, i1, c1, xs, rfl, pt, mk_not h2 fun c2 H3 s3 h3 => ?_⟩
    exact q c2 H3 (r2.same s3) ((b1.trans b2).trans (ButR.of s3)) h3
  | par a =>
    obtain ⟨⟨t, hk, et⟩, hw2⟩ := AtW.cons hw
    obtain ⟨hw3, hw4⟩ := hw2.app
    obtain ⟨t2, hk2, et2⟩ := hw4.one
    have hh : a.ht + 1 < h + 1 := hh
    have hd : d + ((a.ht + 1 : Nat) : Int) ≤ 30 := hd
    have ok : a.ok := ok
    have hl : k + (Pt.par a).ws.length = k + 1 + a.ws.length + 1 := by show k + ((a.ws ++ [(")" : Str)]).length + 1) = _; rw [List.length_append]; simp; omega
    rw [hl] at hpk q
    refine ⟨_, rfl, R, dx, _, rfl, hR, rfl, R, ts, k, t, "not", rfl, hRd, hk, .inl ⟨by rw [et]; decide, false, rfl, ?_⟩⟩
    refine iteF ?_
    refine ⟨_, rfl, R, dx, _, rfl, hR, rfl, R, ts, k, t, "(", rfl, hRd, hk, .inr ⟨et, fun H1 r1 b1 => ⟨true, rfl, ?_⟩⟩⟩
    refine iteT ?_
    refine ⟨_, rfl, _, rfl, _, _, rfl, rfl, R, d + 1, ts, k + 1, a, rfl, ok, Nat.zero_le _, by omega, by omega, hS, r1, hw3, ⟨t2, hk2, fun x hx => ?_⟩, fun c1 H2 r2 b2 h2 => ?_⟩
    · simp only [List.mem_cons, List.not_mem_nil, or_false] at hx
      rw [et2]
      rcases hx with rfl | rfl <;> decide
    obtain ⟨dx2, lR2, hR2, _, _⟩ := id r2
    refine ⟨_, rfl, R, dx2, _, rfl, hR2, rfl, R, ts, k + 1 + a.ws.length, t2, ")", rfl, r2, hk2, .inl ⟨et2, fun H3 r3 b3 => ?_⟩⟩
    refine ⟨_, rfl, ?_⟩
    exact q c1 H3 r3 ((b1.trans b2).trans b3) (h2.but hR2 b3 (Pt.ok.frs ok))
  | any =>
    obtain ⟨t, hk, et⟩ := AtW.one hw
    refine ⟨_, rfl, R, dx, _, rfl, hR, rfl, R, ts, k, t, "not", rfl, hRd, hk, .inl ⟨by rw [et]; decide, false, rfl, ?_⟩⟩
    refine iteF ?_
    refine ⟨_, rfl, R, dx, _, rfl, hR, rfl, R, ts, k, t, "(", rfl, hRd, hk, .inl ⟨by rw [et]; decide, false, rfl, ?_⟩⟩
    refine iteF ?_
    refine ⟨_, rfl, R, dx, _, rfl, hR, rfl, R, ts, k, t, "any", rfl, hRd, hk, .inr ⟨et, fun H1 r1 b1 => ⟨true, rfl, ?_⟩⟩⟩
    refine iteT ?_
    refine ⟨small_line (by simp), fun tt htt => ?_⟩
    intro c dc nx nd ne
    exact made_i (K := K) htt nx nd ne fun H3 s3 hc => q c H3 (r1.same s3) (b1.trans (ButR.of s3)) hc
  | atom g y =>
    obtain ⟨⟨t, hk, et⟩, hw2⟩ := AtW.cons hw
    obtain ⟨n1, n2, n3⟩ := fld_word ok.1
    refine ⟨_, rfl, R, dx, _, rfl, hR, rfl, R, ts, k, t, "not", rfl, hRd, hk, .inl ⟨by rw [et]; exact n1, false, rfl, ?_⟩⟩
    refine iteF ?_
    refine ⟨_, rfl, R, dx, _, rfl, hR, rfl, R, ts, k, t, "(", rfl, hRd, hk, .inl ⟨by rw [et]; exact n2, false, rfl, ?_⟩⟩
    refine iteF ?_
    refine ⟨_, rfl, R, dx, _, rfl, hR, rfl, R, ts, k, t, "any", rfl, hRd, hk, .inl ⟨by rw [et]; exact n3, false, rfl, ?_⟩⟩
    refine iteF ?_
    refine ⟨_, rfl, R, dx, _, rfl, hR, rfl, R, aF, FLD, ts, k, t, rfl, hF, hRd, hk, .inl ⟨by rw [et]; exact List.contains_iff_mem.mpr ok.1, fun H1 r1 b1 => ?_⟩⟩
    rw [et]
    refine ⟨_, rfl, _, rfl, _, rfl, R, g, y, ts, k + 1, rfl, ok.2, hS, r1, hw2, fun H2 r2 b2 => ⟨small_line (by simp), fun tt htt => ?_⟩⟩
    intro c dc nx nd ne
    exact made_i (K := K) htt nx nd ne fun H3 s3 hc => q c H3 (r2.same s3) ((b1.trans b2).trans (ButR.of s3)) ⟨_, hc, valV_at ok.2⟩
end

end K82

namespace K82
open PySem L2 SZ VR VX StX RT DE
/-! ### conditions read: the links -/
def lkW (o : Str) (bs : List Pt) : List Str := bs.flatMap fun b => o :: b.ws
theorem lkW_cons (o : Str) (b : Pt) (bs : List Pt) : lkW o (b :: bs) = o :: (b.ws ++ lkW o bs) := rfl
theorem lkW_app (o : Str) (b : Pt) (bs : List Pt) : lkW o (bs ++ [b]) = lkW o bs ++ (o :: b.ws) := by
  unfold lkW
  rw [List.flatMap_append]
  simp [List.flatMap_cons]
theorem spine_and : ∀ p : Pt, p.ok → 1 ≤ p.lv → ∃ (a : Pt) (bs : List Pt), a.ok ∧ 2 ≤ a.lv ∧ a.ht ≤ p.ht ∧ (∀ b ∈ bs, Pt.ok b ∧ 2 ≤ b.lv ∧ b.ht ≤ p.ht) ∧ p.ws = a.ws ++ lkW "and" bs ∧ p.frm = bs.foldl (fun f b => .and f b.frm) a.frm
  | .and a b, ok, _ => by
    obtain ⟨a0, bs, h1, h2, h3, h4, h5, h6⟩ := spine_and a ok.2.2.1 ok.1
    have eh : (Pt.and a b).ht = max a.ht b.ht := rfl
    refine ⟨a0, bs ++ [b], h1, h2, by rw [eh]; omega, fun x hx => ?_, ?_, ?_⟩
    · rcases List.mem_append.mp hx with hx | hx
      · obtain ⟨i1, i2, i3⟩ := h4 x hx
        exact ⟨i1, i2, by rw [eh]; omega⟩
      · rw [List.mem_singleton.mp hx]
        exact ⟨ok.2.2.2, Nat.le_of_eq ok.2.1.symm, by rw [eh]; omega⟩
    · show a.ws ++ (("and" : Str) :: b.ws) = _
      rw [lkW_app, h5, List.append_assoc]
    · show Frm.and a.frm b.frm = _
      rw [List.foldl_append, ← h6]
      rfl
  | .any, ok, h => ⟨.any, [], ok, Nat.le_refl _, Nat.le_refl _, nofun, (List.append_nil _).symm, rfl⟩
  | .atom f y, ok, h => ⟨.atom f y, [], ok, Nat.le_refl _, Nat.le_refl _, nofun, (List.append_nil _).symm, rfl⟩
  | .not a, ok, h => ⟨.not a, [], ok, Nat.le_refl _, Nat.le_refl _, nofun, (List.append_nil _).symm, rfl⟩
  | .par a, ok, h => ⟨.par a, [], ok, Nat.le_refl _, Nat.le_refl _, nofun, (List.append_nil _).symm, rfl⟩
  | .or a b, ok, h => absurd h (by simp [Pt.lv])
theorem spine_or : ∀ p : Pt, p.ok → 0 ≤ p.lv → ∃ (a : Pt) (bs : List Pt), a.ok ∧ 1 ≤ a.lv ∧ a.ht ≤ p.ht ∧ (∀ b ∈ bs, Pt.ok b ∧ 1 ≤ b.lv ∧ b.ht ≤ p.ht) ∧ p.ws = a.ws ++ lkW "or" bs ∧ p.frm = bs.foldl (fun f b => .or f b.frm) a.frm
  | .or a b, ok, _ => by
    obtain ⟨a0, bs, h1, h2, h3, h4, h5, h6⟩ := spine_or a ok.2.1 (Nat.zero_le _)
    have eh : (Pt.or a b).ht = max a.ht b.ht := rfl
    refine ⟨a0, bs ++ [b], h1, h2, by rw [eh]; omega, fun x hx => ?_, ?_, ?_⟩
    · rcases List.mem_append.mp hx with hx | hx
      · obtain ⟨i1, i2, i3⟩ := h4 x hx
        exact ⟨i1, i2, by rw [eh]; omega⟩
      · rw [List.mem_singleton.mp hx]
        exact ⟨ok.2.2, ok.1, by rw [eh]; omega⟩
    · show a.ws ++ (("or" : Str) :: b.ws) = _
      rw [lkW_app, h5, List.append_assoc]
    · show Frm.or a.frm b.frm = _
      rw [List.foldl_append, ← h6]
      rfl
  | .any, ok, h => ⟨.any, [], ok, by decide, Nat.le_refl _, nofun, (List.append_nil _).symm, rfl⟩
  | .atom f y, ok, h => ⟨.atom f y, [], ok, Nat.le_succ 1, Nat.le_refl _, nofun, (List.append_nil _).symm, rfl⟩
  | .not a, ok, h => ⟨.not a, [], ok, Nat.le_succ 1, Nat.le_refl _, nofun, (List.append_nil _).symm, rfl⟩
  | .par a, ok, h => ⟨.par a, [], ok, Nat.le_succ 1, Nat.le_refl _, nofun, (List.append_nil _).symm, rfl⟩
  | .and a b, ok, h => ⟨.and a b, [], ok, Nat.le_refl _, Nat.le_refl _, nofun, (List.append_nil _).symm, rfl⟩
theorem peek_lk {ts : List (List Nat × Nat)} {k : Nat} {o : Str} {bs : List Pt} {l l' : List Str} (hw : AtW ts k (lkW o bs)) (hp : Peek ts (k + (lkW o bs).length) l) (hl : ∀ x ∈ l', x ∈ l ∧ x ≠ o) : Peek ts k l' := by
  cases bs with
  | nil =>
    obtain ⟨t, ht, hn⟩ := hp
    exact ⟨t, ht, fun x hx => hn x (hl x hx).1⟩
  | cons b bs =>
    obtain ⟨⟨t, ht, et⟩, _⟩ := AtW.cons hw
    exact ⟨t, ht, fun x hx => by rw [et]; exact (hl x hx).2.symm⟩
section
variable {P : Program} {w : World} {K : PySem.W.Frag} {mg : Str → Option Value} {base : Heap} {C CR CS CT : Addr}
theorem ok_both {f fO : Addr} {fd dO : FuncData} {h n : Nat} (F : Fun K "_both" "_both" S_both f fd) (FO : Fun K "_one" "_one" S_one fO dO) (mO : mg "_one" = some (.ref fO)) (bO : Binds K dO ["reader", "depth"] []) (Z : CrS P w K mg base C CR CS CT) (hn : 3 ≤ n)
    (GO : FnOk P w K mg base CX0 n fO dO ["reader", "depth"] (spCn K C CR 2 h [])) : FnOk P w K mg base CX0 (n + 1) f fd ["reader", "depth"] (spCn K C CR 1 h ["and"]) := by
  obtain ⟨fP, dP, MP, bP, GP⟩ := Z.passes
  obtain ⟨fA, dA, BA, bA, GA⟩ := Z.D.and_
  refine F.ok sc_both (fun vs H Q E h => by obtain ⟨R, d, ts, k, p, rfl, _⟩ := h; rfl) (fun cdv A outer s H vs Q E hr h => ?_)
  obtain ⟨R, d, ts, k, p, rfl, ok, lv, hh, hd, hS, hRd, hw, hpk, q⟩ := h
  have hr2 := hr.mono (show 2 ≤ n by omega)
  have hr3 := hr.mono hn
  obtain ⟨dx, lR, hR, hod, hL⟩ := id hRd
  refine ⟨_, pss_cons (ps_set (i := 2) sc_both.nd rfl (Or.inl rfl) (pe_call GO hr (by rfl) mO FO.kp bO .nil pass0 (pa_cons (pv 0) (pa_cons (pv 1) pa_nil))))
    (pss_cons (ps_while PassesOwn.never (pt_val (pe_meth (pv 0) Z.Zr.kit.cl MP GP hr2 bP .nil pass0 (pa_cons pe_str pa_nil)))
      (pss_one (ps_set (i := 2) sc_both.nd rfl (Or.inl rfl) (pe_op (op_own BA GA hr3 bA pass0) (pv 2) (pe_call GO hr (by rfl) mO FO.kp bO .nil pass0 (pa_cons (pv 0) (pa_cons (pv 1) pa_nil)))))))
    (pss_one (ps_ret (pv 2)))), ?_⟩
  obtain ⟨a, bs, h1, h2, h3, h4, h5, h6⟩ := spine_and p ok lv
  rw [h5] at hw hpk q
  rw [List.length_append] at hpk q
  rw [h6] at q
  obtain ⟨hw1, hw2⟩ := hw.app
  rw [← Nat.add_assoc] at hpk q
  refine ⟨_, rfl, _, rfl, R, d, ts, k, a, rfl, h1, h2, by omega, by omega, hS, hRd, hw1, peek_lk hw2 hpk (by simp), fun c1 H1 r1 b1 c1ok => ?_⟩
  refine ⟨fun m σ H' => ∃ (rest : List Pt) (g : Frm) (k1 : Nat) (c : Addr), rest.length = m ∧ σ = [some (.ref R), some (.int d), some (.ref c)] ∧ FrS g ∧ (∀ b ∈ rest, Pt.ok b ∧ 2 ≤ b.lv ∧ b.ht ≤ p.ht) ∧ RdAt CR H' R ts k1 ∧ ButR R H H' ∧ CndAt K C H' g c ∧ AtW ts k1 (lkW "and" rest) ∧ k1 + (lkW "and" rest).length = k + a.ws.length + (lkW "and" bs).length ∧ rest.foldl (fun f b => .and f b.frm) g = bs.foldl (fun f b => .and f b.frm) a.frm,
    ⟨bs.length, bs, a.frm, k + a.ws.length, c1, rfl, rfl, h1.frs, h4, r1, b1, c1ok, hw2, rfl, rfl⟩, ?_⟩
  rintro m σ H2 ⟨rest, g, k1, c, el, rfl, gs, hb, r2, b2, hc, hw3, ek, ef⟩
  obtain ⟨dx2, lR2, hR2, _, _⟩ := id r2
  cases rest with
  | nil =>
    have ek : k1 = k + a.ws.length + (lkW "and" bs).length := ek
    subst ek
    obtain ⟨t, ht, hn⟩ := hpk
    refine ⟨_, rfl, R, dx2, _, rfl, hR2, rfl, R, ts, _, t, "and", rfl, r2, ht, .inl ⟨hn _ (by simp), false, rfl, ?_⟩⟩
    refine iteF ⟨_, rfl, ?_⟩
    have ef : g = bs.foldl (fun f b => .and f b.frm) a.frm := ef
    rw [← ef] at q
    exact q c H2 r2 b2 hc
  | cons b rest =>
    obtain ⟨⟨t, ht, et⟩, hw4⟩ := AtW.cons hw3
    obtain ⟨hw5, hw6⟩ := hw4.app
    obtain ⟨i1, i2, i3⟩ := hb b List.mem_cons_self
    have ek2 : k1 + 1 + b.ws.length + (lkW "and" rest).length = k + a.ws.length + (lkW "and" bs).length := by
      rw [lkW_cons, List.length_cons, List.length_append] at ek
      omega
    refine ⟨_, rfl, R, dx2, _, rfl, hR2, rfl, R, ts, k1, t, "and", rfl, r2, ht, .inr ⟨et, fun H3 r3 b3 => ⟨true, rfl, ?_⟩⟩⟩
    refine iteT ⟨_, fun σ' H' h => ⟨rest.length, by rw [← el]; exact Nat.lt_succ_self _, h⟩, ?_⟩
    refine ⟨_, rfl, _, rfl, _, rfl, R, d, ts, k1 + 1, b, rfl, i1, i2, by omega, by omega, hS, r3, hw5, peek_lk hw6 (by rw [ek2]; exact hpk) (by simp), fun c4 H4 r4 b4 h4 => ?_⟩
    obtain ⟨dx3, lR3, hR3, _, _⟩ := id r3
    have hc4 := (hc.but hR2 b3 gs).but hR3 b4 gs
    obtain ⟨xs0, p0⟩ := hc4.ins
    obtain ⟨xs1, p1⟩ := h4.ins
    obtain ⟨d0, t0, i0, _, _⟩ := id p0
    obtain ⟨d1, t1, j1, _, _⟩ := id p1
    refine ⟨c, d0, _, rfl, i0, .inl ⟨c4, d1, _, rfl, j1⟩, c, c4, _, _, rfl, p0, p1, CMade.at (K := K) fun c5 H5 s5 h5 => ?_⟩
    exact ⟨rest, .and g b.frm, k1 + 1 + b.ws.length, c5, rfl, rfl, ⟨gs, i1.frs⟩, fun x hx => hb x (List.mem_cons_of_mem _ hx), r4.same s5, ((b2.trans b3).trans b4).trans (ButR.of s5), ⟨c, c4, h5, hc4.same s5, h4.same s5⟩, hw6, ek2, ef⟩
theorem ok_condition {f fO : Addr} {fd dO : FuncData} {h n : Nat} (F : Fun K "_condition" "_condition" S_condition f fd) (FO : Fun K "_both" "_both" S_both fO dO) (mO : mg "_both" = some (.ref fO)) (bO : Binds K dO ["reader", "depth"] []) (Z : CrS P w K mg base C CR CS CT) (hn : 3 ≤ n)
    (GO : FnOk P w K mg base CX0 n fO dO ["reader", "depth"] (spCn K C CR 1 h ["and"])) : FnOk P w K mg base CX0 (n + 1) f fd ["reader", "depth"] (spCn K C CR 0 h ["and", "or"]) := by
  obtain ⟨fP, dP, MP, bP, GP⟩ := Z.passes
  obtain ⟨fA, dA, BA, bA, GA⟩ := Z.L.or_
  refine F.ok sc_condition (fun vs H Q E h => by obtain ⟨R, d, ts, k, p, rfl, _⟩ := h; rfl) (fun cdv A outer s H vs Q E hr h => ?_)
  obtain ⟨R, d, ts, k, p, rfl, ok, lv, hh, hd, hS, hRd, hw, hpk, q⟩ := h
  have hr2 := hr.mono (show 2 ≤ n by omega)
  have hr3 := hr.mono hn
  obtain ⟨dx, lR, hR, hod, hL⟩ := id hRd
  refine ⟨_, pss_cons (ps_set (i := 2) sc_condition.nd rfl (Or.inl rfl) (pe_call GO hr (by rfl) mO FO.kp bO .nil pass0 (pa_cons (pv 0) (pa_cons (pv 1) pa_nil))))
    (pss_cons (ps_while PassesOwn.never (pt_val (pe_meth (pv 0) Z.Zr.kit.cl MP GP hr2 bP .nil pass0 (pa_cons pe_str pa_nil)))
      (pss_one (ps_set (i := 2) sc_condition.nd rfl (Or.inl rfl) (pe_op (op_own BA GA hr3 bA pass0) (pv 2) (pe_call GO hr (by rfl) mO FO.kp bO .nil pass0 (pa_cons (pv 0) (pa_cons (pv 1) pa_nil)))))))
    (pss_one (ps_ret (pv 2)))), ?_⟩
  obtain ⟨a, bs, h1, h2, h3, h4, h5, h6⟩ := spine_or p ok lv
  rw [h5] at hw hpk q
  rw [List.length_append] at hpk q
  rw [h6] at q
  obtain ⟨hw1, hw2⟩ := hw.app
  rw [← Nat.add_assoc] at hpk q
  refine ⟨_, rfl, _, rfl, R, d, ts, k, a, rfl, h1, h2, by omega, by omega, hS, hRd, hw1, peek_lk hw2 hpk (by simp; decide), fun c1 H1 r1 b1 c1ok => ?_⟩
  refine ⟨fun m σ H' => ∃ (rest : List Pt) (g : Frm) (k1 : Nat) (c : Addr), rest.length = m ∧ σ = [some (.ref R), some (.int d), some (.ref c)] ∧ FrS g ∧ (∀ b ∈ rest, Pt.ok b ∧ 1 ≤ b.lv ∧ b.ht ≤ p.ht) ∧ RdAt CR H' R ts k1 ∧ ButR R H H' ∧ CndAt K C H' g c ∧ AtW ts k1 (lkW "or" rest) ∧ k1 + (lkW "or" rest).length = k + a.ws.length + (lkW "or" bs).length ∧ rest.foldl (fun f b => .or f b.frm) g = bs.foldl (fun f b => .or f b.frm) a.frm,
    ⟨bs.length, bs, a.frm, k + a.ws.length, c1, rfl, rfl, h1.frs, h4, r1, b1, c1ok, hw2, rfl, rfl⟩, ?_⟩
  rintro m σ H2 ⟨rest, g, k1, c, el, rfl, gs, hb, r2, b2, hc, hw3, ek, ef⟩
  obtain ⟨dx2, lR2, hR2, _, _⟩ := id r2
  cases rest with
  | nil =>
    have ek : k1 = k + a.ws.length + (lkW "or" bs).length := ek
    subst ek
    obtain ⟨t, ht, hn⟩ := hpk
    refine ⟨_, rfl, R, dx2, _, rfl, hR2, rfl, R, ts, _, t, "or", rfl, r2, ht, .inl ⟨hn _ (by simp), false, rfl, ?_⟩⟩
    refine iteF ⟨_, rfl, ?_⟩
    have ef : g = bs.foldl (fun f b => .or f b.frm) a.frm := ef
    rw [← ef] at q
    exact q c H2 r2 b2 hc
  | cons b rest =>
    obtain ⟨⟨t, ht, et⟩, hw4⟩ := AtW.cons hw3
    obtain ⟨hw5, hw6⟩ := hw4.app
    obtain ⟨i1, i2, i3⟩ := hb b List.mem_cons_self
    have ek2 : k1 + 1 + b.ws.length + (lkW "or" rest).length = k + a.ws.length + (lkW "or" bs).length := by
      rw [lkW_cons, List.length_cons, List.length_append] at ek
      omega
    refine ⟨_, rfl, R, dx2, _, rfl, hR2, rfl, R, ts, k1, t, "or", rfl, r2, ht, .inr ⟨et, fun H3 r3 b3 => ⟨true, rfl, ?_⟩⟩⟩
    refine iteT ⟨_, fun σ' H' h => ⟨rest.length, by rw [← el]; exact Nat.lt_succ_self _, h⟩, ?_⟩
    refine ⟨_, rfl, _, rfl, _, rfl, R, d, ts, k1 + 1, b, rfl, i1, i2, by omega, by omega, hS, r3, hw5, peek_lk hw6 (by rw [ek2]; exact hpk) (by simp; decide), fun c4 H4 r4 b4 h4 => ?_⟩
    obtain ⟨dx3, lR3, hR3, _, _⟩ := id r3
    have hc4 := (hc.but hR2 b3 gs).but hR3 b4 gs
    obtain ⟨xs0, p0⟩ := hc4.ins
    obtain ⟨xs1, p1⟩ := h4.ins
    obtain ⟨d0, t0, i0, _, _⟩ := id p0
    obtain ⟨d1, t1, j1, _, _⟩ := id p1
    refine ⟨c, d0, _, rfl, i0, .inl ⟨c4, d1, _, rfl, j1⟩, c, c4, _, _, rfl, p0, p1, CMade.at (K := K) fun c5 H5 s5 h5 => ?_⟩
    exact ⟨rest, .or g b.frm, k1 + 1 + b.ws.length, c5, rfl, rfl, ⟨gs, i1.frs⟩, fun x hx => hb x (List.mem_cons_of_mem _ hx), r4.same s5, ((b2.trans b3).trans b4).trans (ButR.of s5), ⟨c, c4, h5, hc4.same s5, h4.same s5⟩, hw6, ek2, ef⟩
end

end K82

namespace K82
open PySem L2 SZ VR VX StX RT DE
/-! ### a whole text -/
theorem snt_toks {z : Str} (hz : z.length ≤ 50000) : Snt (toks z.cps.toList 0 ++ [([], z.length)]) := by
  have hl := toks_len z.cps.toList (z.cps.toList.length - 0) 0 rfl
  have hz' : z.cps.toList.length ≤ 50000 := hz
  have sub : ∀ (n a : Nat), z.cps.toList.length - a = n → ∀ t ∈ toks z.cps.toList a, t.1.length ≤ z.cps.toList.length := by
    intro n
    induction n using Nat.strongRecOn with
    | ind n ih =>
      intro a e t ht
      by_cases hl : a < z.cps.toList.length
      · have hc : z.cps.toList[a]? = some z.cps.toList[a] := List.getElem?_eq_getElem hl
        have h1 := nxt_gt z.cps.toList a
        cases g : gp z.cps.toList[a] with
        | true =>
          rw [toks_gap hc g] at ht
          exact ih _ (by omega) _ rfl t ht
        | false =>
          rw [toks_tok hc g] at ht
          rcases List.mem_cons.mp ht with ht | ht
          · rw [ht]
            show (List.take _ _).length ≤ _
            rw [List.length_take, List.length_drop]
            omega
          · exact ih _ (by omega) _ rfl t ht
      · rw [toks_end hl] at ht
        cases ht
  refine ⟨fun k hk hne => ?_, fun k => ?_, ?_⟩
  · rw [List.length_append, List.length_singleton] at hk ⊢
    by_cases e : k = (toks z.cps.toList 0).length
    · refine absurd ?_ hne
      unfold tk
      rw [List.getElem?_append_right (by omega), e, Nat.sub_self]
      rfl
    · omega
  · unfold tk
    cases h : (toks z.cps.toList 0 ++ [([], z.length)])[k]? with
    | none => exact Nat.zero_le _
    | some t =>
      have hm := List.mem_of_getElem? h
      show t.1.length ≤ 50000
      rcases List.mem_append.mp hm with hm | hm
      · have := sub _ 0 rfl t hm
        omega
      · rw [List.mem_singleton.mp hm]
        exact Nat.zero_le _
  · rw [List.length_append, List.length_singleton]
    omega
/-- the tokens of a text, the end among them -/
def tokz (z : Str) : List (List Nat × Nat) := toks z.cps.toList 0 ++ [([], z.length)]
theorem same_of_but {H H0 H1 : Hp} {R : Addr} (hR : H R = none) (s : Same H H0) (b : ButR R H0 H1) : Same H H1 := fun c o e => b c o (s c o e) (ne_of_none e hR)

/-! ### read_condition -/
/-- the words of a text -/
def Told (z : Str) (ws : List Str) : Prop := (tokz z).map (fun t => (⟨t.1.toArray⟩ : Str)) = ws ++ [("" : Str)]
theorem Told.at {z : Str} {ws : List Str} (h : Told z ws) : AtW (tokz z) 0 ws ∧ ∃ t, (tokz z)[ws.length]? = some t ∧ t.1 = [] := by
  unfold Told at h
  refine ⟨fun i w e => ?_, ?_⟩
  · have h2 := congrArg (fun l => l[i]?) h
    simp only [List.getElem?_map] at h2
    rw [List.getElem?_append_left (List.getElem?_eq_some_iff.mp e).1, e] at h2
    rw [Nat.zero_add]
    cases q : (tokz z)[i]? with
    | none => rw [q] at h2; cases h2
    | some t => rw [q] at h2; exact ⟨t, rfl, Option.some.inj h2⟩
  · have h2 := congrArg (fun l => l[ws.length]?) h
    simp only [List.getElem?_map] at h2
    rw [List.getElem?_append_right (Nat.le_refl _), Nat.sub_self] at h2
    cases q : (tokz z)[ws.length]? with
    | none => rw [q] at h2; cases h2
    | some t =>
      rw [q] at h2
      refine ⟨t, rfl, ?_⟩
      have h3 : (⟨t.1.toArray⟩ : Str) = "" := Option.some.inj h2
      have := str_toArr h3
      rw [this]
      decide +kernel
def spRead (K : PySem.W.Frag) (C : Addr) : Sp := fun vs H Q _ => ∃ (z : Str) (p : Pt), vs = [.str z] ∧ z.length ≤ 50000 ∧ Told z p.ws ∧ p.ok ∧ p.ht ≤ 5 ∧ ∀ c H', Same H H' → CndAt K C H' p.frm c → Q (.ref c) H'
structure CwS (P : Program) (w : World) (K : PySem.W.Frag) (mg : Str → Option Value) (base : Heap) (C CR CS CT : Addr) : Prop where
  Z : CrS P w K mg base C CR CS CT
  rd : ∃ f fd, Mk K CR f ∧ Binds K fd ["self", "text"] [] ∧ FnOk P w K mg base CX0 3 f fd ["self", "text"] (spRdInit CR)
  mR : mg "Reader" = some (.ref CR)
  fin : ∃ f fd, Meth K CR "pass_end" f ∧ Binds K fd ["self"] [] ∧ FnOk P w K mg base (L2.CX P w) 3 f fd ["self"] (spPassEnd CR CS)
  is : mg "isinstance" = none
  st : mg "str" = none
  one : ∃ f fd, Fun K "_one" "_one" S_one f fd ∧ mg "_one" = some (.ref f)
  both : ∃ f fd, Fun K "_both" "_both" S_both f fd ∧ mg "_both" = some (.ref f)
  cond : ∃ f fd, Fun K "_condition" "_condition" S_condition f fd ∧ mg "_condition" = some (.ref f)
  val : ∃ f fd, Fun K "_value" "_value" S_value f fd ∧ mg "_value" = some (.ref f)
section
variable {P : Program} {w : World} {K : PySem.W.Frag} {mg : Str → Option Value} {base : Heap} {C CR CS CT : Addr}
theorem bind2 {x q : Str} {st : Stmt} {f : Addr} {fd : FuncData} {a b : Str} (F : Fun K x q st f fd) (h : ∀ (kV doc pm : Value) (an : Option Addr) (cdv ct : Value) (us : List Value), us.length = 2 → bindArgs (PySem.W.fnOf x q (defArgs st) (defBody st) (defScope st) .none kV doc pm an cdv ct) ⟨us, []⟩ = pure ([a, b].zip us)) : Binds K fd [a, b] [] := F.binds (ps := [a, b]) h
theorem cond_all (W : CwS P w K mg base C CR CS CT) : ∃ f fd, mg "_condition" = some (.ref f) ∧ PySem.W.keepIn K (.ref f) = true ∧ Binds K fd ["reader", "depth"] [] ∧ FnOk P w K mg base CX0 25 f fd ["reader", "depth"] (spCn K C CR 0 6 ["and", "or"]) := by
  obtain ⟨f1, d1, F1, m1⟩ := W.one
  obtain ⟨f2, d2, F2, m2⟩ := W.both
  obtain ⟨f3, d3, F3, m3⟩ := W.cond
  obtain ⟨f4, d4, F4, m4⟩ := W.val
  have b1 : Binds K d1 ["reader", "depth"] [] := F1.binds (ps := ["reader", "depth"]) fun _ _ _ _ _ _ us hl => match us, hl with | [_, _], _ => rfl
  have b2 : Binds K d2 ["reader", "depth"] [] := F2.binds (ps := ["reader", "depth"]) fun _ _ _ _ _ _ us hl => match us, hl with | [_, _], _ => rfl
  have b3 : Binds K d3 ["reader", "depth"] [] := F3.binds (ps := ["reader", "depth"]) fun _ _ _ _ _ _ us hl => match us, hl with | [_, _], _ => rfl
  have b4 : Binds K d4 ["reader", "field"] [] := F4.binds (ps := ["reader", "field"]) fun _ _ _ _ _ _ us hl => match us, hl with | [_, _], _ => rfl
  have main : ∀ h, FnOk P w K mg base CX0 (5 + 3 * h) f1 d1 ["reader", "depth"] (spCn K C CR 2 h []) := by
    intro h
    induction h with
    | zero =>
      refine F1.ok sc_one (fun vs H Q E h => by obtain ⟨R, d, ts, k, p, rfl, _⟩ := h; rfl) (fun cdv A outer s H vs Q E hr h => ?_)
      obtain ⟨R, d, ts, k, p, rfl, _, _, hh, _⟩ := h
      exact absurd hh (Nat.not_lt_zero _)
    | succ h ih =>
      have G2 := ok_both F2 F1 m1 b1 W.Z (by omega) ih
      have G3 := ok_condition F3 F2 m2 b2 W.Z (by omega) G2
      exact ok_one F1 m1 b1 F3 m3 b3 F4 m4 b4 W.Z (n := 5 + 3 * h + 1 + 1) (by omega) (ih.mono (by omega)) G3
  have G2 := ok_both F2 F1 m1 b1 W.Z (by omega) (main 6)
  have G3 := ok_condition F3 F2 m2 b2 W.Z (by omega) G2
  exact ⟨f3, d3, m3, F3.kp, b3, G3⟩
theorem ok_read {f : Addr} {fd : FuncData} (F : Fun K "read_condition" "read_condition" S_read_condition f fd) (W : CwS P w K mg base C CR CS CT) : FnOk P w K mg base CX0 26 f fd ["text"] (spRead K C) := by
  obtain ⟨fI, dI, MI, bI, GI⟩ := W.rd
  obtain ⟨fE, dE, ME, bE, GE⟩ := W.fin
  obtain ⟨fC, dC, mC, kC, bC, GC⟩ := cond_all W
  refine F.ok sc_read_condition (fun vs H Q E h => by obtain ⟨z, p, rfl, _⟩ := h; rfl) (fun cdv A outer s H vs Q E hr h => ?_)
  obtain ⟨z, p, rfl, hz, ht, ok, hh, q⟩ := h
  refine ⟨_, pss_cons (ps_if (pt_not (pt_val (pe_callB call_isi (by rfl) W.is (by decide +kernel) (pa_cons (pv 0) (pa_cons (pe_bltn (by rfl) W.st (u := .type "str") (v := .ty "str") (by decide +kernel) rfl) pa_nil))))) pss_never pss_nil)
    (pss_cons (ps_set (i := 1) sc_read_condition.nd rfl (Or.inl rfl) (pe_make MI GI (hr.mono (by decide)) (by rfl) W.mR bI .nil pass0 (pa_cons (pv 0) pa_nil)))
    (pss_cons (ps_try_thru0 (pss_cons (ps_set (i := 2) sc_read_condition.nd rfl (Or.inl rfl) (pe_call GC hr (by rfl) mC kC bC .nil pass0 (pa_cons (pv 1) (pa_cons pe_int pa_nil))))
      (pss_one (ps_expr (pe_meth0 (pv 1) W.Z.Zr.kit.cl ME GE (hr.mono (by decide)) bE .nil passF)))))
    (pss_one (ps_ret (pv 2))))), ?_⟩
  refine ⟨_, rfl, .str z, .ty "str", .type "str", .type "str", true, rfl, .ty _, .base (.str z), if_pos (beq_self_eq_true _), true, rfl, ?_⟩
  refine iteF ?_
  refine ⟨_, rfl, fun R dx hx hdx hne => ?_⟩
  refine ⟨R, dx, z, rfl, upd_same, by rw [upd_ne hne, upd_same], hz, fun H1 b hR => ⟨rfl, ?_⟩⟩
  have s1 : Same H H1 := fun b' o e => b b' o (by rw [upd_ne (ne_of_none e hx), upd_ne (ne_of_none e hdx)]; exact e) (ne_of_none e hx)
  have hR : RdAt CR H1 R (tokz z) 0 := hR
  obtain ⟨hw, t, hk, et⟩ := ht.at
  have hS : Snt (tokz z) := snt_toks hz
  generalize tokz z = ts at hR hw hk hS
  refine ⟨_, rfl, R, 0, ts, 0, p, rfl, ok, Nat.zero_le _, by omega, by omega, hS, hR, hw, ⟨t, by rw [Nat.zero_add]; exact hk, fun x hx => ?_⟩, fun c H2 r2 b2 h2 => ?_⟩
  · rw [et]
    simp only [List.mem_cons, List.not_mem_nil, or_false] at hx
    rcases hx with rfl | rfl <;> decide +kernel
  obtain ⟨dx2, lR2, hR2, _, _⟩ := id r2
  refine ⟨_, rfl, R, dx2, _, rfl, hR2, rfl, R, ts, 0 + p.ws.length, t, rfl, r2, by rw [Nat.zero_add]; exact hk, .inl ⟨et, ?_⟩⟩
  refine ⟨_, rfl, ?_⟩
  exact q c H2 (same_of_but hx s1 b2) h2
end

end K82

namespace K82
open PySem L2 SZ VR VX StX RT DE
/-! ### texts made of pieces -/
/-- pieces of a text, and what they are as tokens from a on -/
def itemToks : List (List Nat) → Nat → List (List Nat × Nat)
  | [], _ => []
  | it :: r, a => (if it = [32] ∨ it = [10] then [] else [(it, a)]) ++ itemToks r (a + it.length)
/-- a sign, or a run behind which none goes on -/
def GoodIt : List (List Nat) → Prop
  | [] => True
  | it :: r => ((∃ c, it = [c] ∧ an c = false) ∨ (it ≠ [] ∧ it.all an = true ∧ ∀ c, r.flatten[0]? = some c → an c = false)) ∧ GoodIt r
theorem gp_iff (c : Nat) : gp c = decide (c = 32 ∨ c = 10) := by
  have e : GAP.cps.toList = [32, 10] := by decide +kernel
  unfold gp
  rw [e, Bool.eq_iff_iff]
  simp
theorem an_ngp {c : Nat} (h : an c = true) : gp c = false := by
  rw [gp_iff]
  refine decide_eq_false fun z => ?_
  have h32 : an 32 = false := by decide +kernel
  have h10 : an 10 = false := by decide +kernel
  rcases z with rfl | rfl
  · rw [h32] at h; cases h
  · rw [h10] at h; cases h
theorem takeWhile_run : ∀ (it r : List Nat), it.all an = true → (∀ c, r[0]? = some c → an c = false) → ((it ++ r).takeWhile an) = it
  | [], [], _, _ => rfl
  | [], c :: r, _, h => by
    rw [List.nil_append, List.takeWhile_cons, h c rfl]
    rfl
  | x :: it, r, h, hr => by
    rw [List.all_cons, Bool.and_eq_true] at h
    rw [List.cons_append, List.takeWhile_cons, h.1, if_pos rfl, takeWhile_run it r h.2 hr]
theorem toks_items : ∀ (its : List (List Nat)) (s : List Nat) (a : Nat), GoodIt its → s.drop a = its.flatten → toks s a = itemToks its a
  | [], s, a, _, e => by
    have hl : ¬ a < s.length := fun h => by
      have := congrArg List.length e
      rw [List.length_drop] at this
      simp at this
      omega
    rw [toks_end hl]
    rfl
  | it :: r, s, a, ⟨h, g⟩, e => by
    rw [List.flatten_cons] at e
    have hne : it ≠ [] := by
      rcases h with ⟨c, rfl, _⟩ | ⟨h, _, _⟩
      · simp
      · exact h
    obtain ⟨c, t, rfl⟩ := List.exists_cons_of_ne_nil hne
    have hc : s[a]? = some c := by
      have := congrArg (fun l => l[0]?) e
      simpa [List.getElem?_drop] using this
    have hl : a < s.length := (List.getElem?_eq_some_iff.mp hc).1
    have ed : s.drop (a + (c :: t).length) = r.flatten := by
      rw [← List.drop_drop, e, List.drop_append_of_le_length (Nat.le_refl _), List.drop_length, List.nil_append]
    have ih := toks_items r s (a + (c :: t).length) g ed
    rcases h with ⟨c', e', hc'⟩ | ⟨_, ha, hr⟩
    · have e1 : c = c' ∧ t = [] := by simpa using e'
      obtain ⟨rfl, rfl⟩ := e1
      have en : nxt s a = a + 1 := by
        unfold nxt
        rw [runE_stop hc hc']
        omega
      by_cases hg : gp c = true
      · rw [toks_gap hc hg, en]
        have : [c] = [32] ∨ [c] = [10] := by
          rw [gp_iff, decide_eq_true_iff] at hg
          rcases hg with rfl | rfl
          · exact .inl rfl
          · exact .inr rfl
        show _ = (if [c] = [32] ∨ [c] = [10] then [] else [([c], a)]) ++ itemToks r (a + 1)
        rw [if_pos this]
        exact ih
      · have hg' : gp c = false := Bool.eq_false_iff.mpr hg
        rw [toks_tok hc hg', en]
        have : ¬ ([c] = [32] ∨ [c] = [10]) := fun z => hg (by
          rw [gp_iff, decide_eq_true_iff]
          simpa using z)
        show _ = (if [c] = [32] ∨ [c] = [10] then [] else [([c], a)]) ++ itemToks r (a + 1)
        rw [if_neg this, e]
        have e2 : a + 1 - a = 1 := by omega
        rw [e2]
        exact congrArg _ ih
    · have hac : an c = true := by
        rw [List.all_cons, Bool.and_eq_true] at ha
        exact ha.1
      have er : runE s a = a + (c :: t).length := by
        unfold runE
        rw [e, takeWhile_run _ _ ha hr]
      have en : nxt s a = a + (c :: t).length := by
        unfold nxt
        rw [er]
        simp only [List.length_cons]
        omega
      have hg' : gp c = false := an_ngp hac
      rw [toks_tok hc hg', en]
      have : ¬ (c :: t = [32] ∨ c :: t = [10]) := fun z => by
        have : c = 32 ∨ c = 10 := by
          rcases z with z | z
          · exact .inl (by simp at z; exact z.1)
          · exact .inr (by simp at z; exact z.1)
        rw [gp_iff] at hg'
        exact absurd this (of_decide_eq_false hg')
      show _ = (if c :: t = [32] ∨ c :: t = [10] then [] else [(c :: t, a)]) ++ itemToks r (a + (c :: t).length)
      rw [if_neg this, e, Nat.add_sub_cancel_left, List.take_append_of_le_length (Nat.le_refl _), List.take_length]
      exact congrArg _ ih

/-! ### the texts of the law -/
theorem join_tl (sep : Str) (ws : List Str) : (Txt.join sep ws).cps.toList = TL.joinL sep.cps.toList (ws.map fun z => z.cps.toList) := by
  have e : ∀ z : Str, z = SX.S z.cps.toList := fun z => rfl
  have e1 : ws = (ws.map fun z => z.cps.toList).map SX.S := by
    rw [List.map_map]
    conv => lhs; rw [← List.map_id ws]
    rfl
  have h := SX.join_S sep.cps.toList (ws.map fun z => z.cps.toList)
  rw [← e1, ← e sep] at h
  rw [h]
theorem cps_app (a b : Str) : (a ++ b).cps.toList = a.cps.toList ++ b.cps.toList := by
  show (a.cps ++ b.cps).toList = _
  rw [Array.toList_append]
def StaL (l : List Nat) : Prop := ∀ c, l[0]? = some c → an c = false
def EndL (l : List Nat) : Prop := ∀ c, l.getLast? = some c → an c = false
def ngI (it : List Nat) : Bool := !(it == [32] || it == [10])
def toS (it : List Nat) : Str := ⟨it.toArray⟩
/-- a text that holds these words -/
def TxL (l : List Nat) (ws : List Str) : Prop := ∃ its : List (List Nat), l = its.flatten ∧ GoodIt its ∧ (its.filter ngI).map toS = ws
theorem good_ne : ∀ {l : List (List Nat)}, GoodIt l → ∀ x ∈ l, x ≠ []
  | [], _, x, h => nomatch h
  | it :: r, ⟨h, g⟩, x, hx => by
    rcases List.mem_cons.mp hx with rfl | hx
    · rcases h with ⟨c, e, _⟩ | ⟨h, _⟩
      · rw [e]; simp
      · exact h
    · exact good_ne g x hx
theorem good_app : ∀ {a b : List (List Nat)}, GoodIt a → GoodIt b → (EndL a.flatten ∨ StaL b.flatten) → GoodIt (a ++ b)
  | [], _, _, g, _ => g
  | it :: r, b, ⟨h, ga⟩, gb, k => by
    have kr : EndL r.flatten ∨ StaL b.flatten := k.imp_left fun k c hc => k c (by rw [List.flatten_cons, List.getLast?_append, hc]; rfl)
    refine ⟨?_, good_app ga gb kr⟩
    rcases h with h | ⟨h1, h2, h3⟩
    · exact .inl h
    refine .inr ⟨h1, h2, fun c hc => ?_⟩
    have hc : (r ++ b).flatten[0]? = some c := hc
    rw [List.flatten_append] at hc
    cases er : r.flatten with
    | cons y t =>
      rw [er] at hc
      exact h3 c (by rw [er]; exact hc)
    | nil =>
      rw [er] at hc
      rcases k with k | k
      · have hl : it.getLast? = some (it.getLast h1) := List.getLast?_eq_some_getLast h1
        have := k (it.getLast h1) (by rw [List.flatten_cons, er, List.append_nil]; exact hl)
        rw [List.all_eq_true.mp h2 _ (List.getLast_mem h1)] at this
        cases this
      · exact k c hc
theorem TxL.app {a b : List Nat} {u v : List Str} (h : TxL a u) (k : TxL b v) (e : EndL a ∨ StaL b) : TxL (a ++ b) (u ++ v) := by
  obtain ⟨i, rfl, g, w⟩ := h
  obtain ⟨j, rfl, g2, w2⟩ := k
  exact ⟨i ++ j, List.flatten_append.symm, good_app g g2 e, by rw [List.filter_append, List.map_append, w, w2]⟩
theorem TxL.nil : TxL [] [] := ⟨[], rfl, trivial, rfl⟩
theorem item_ws : ∀ (its : List (List Nat)) (a : Nat), (itemToks its a).map (fun t => toS t.1) = (its.filter ngI).map toS
  | [], _ => rfl
  | it :: r, a => by
    unfold itemToks
    rw [List.map_append, item_ws r]
    by_cases h : it = [32] ∨ it = [10]
    · rw [if_pos h, List.filter_cons, if_neg (by rcases h with rfl | rfl <;> decide)]
      rfl
    · rw [if_neg h, List.filter_cons, if_pos (by unfold ngI; simp; exact ⟨fun z => h (.inl z), fun z => h (.inr z)⟩)]
      rfl
theorem TxL.told {z : Str} {ws : List Str} (h : TxL z.cps.toList ws) : Told z ws := by
  obtain ⟨its, e, g, w⟩ := h
  unfold Told tokz
  rw [toks_items its z.cps.toList 0 g (by rw [List.drop_zero]; exact e), List.map_append]
  have := item_ws its 0
  unfold toS at this
  rw [this]
  unfold toS at w
  rw [w]
  rfl
abbrev WALL : List Str := ["any", "not", "and", "or", "(", ")", "kind", "level", "access", "other", "array", "word", "hit", "miss", "crowded", "back", "thrown", "a", "b", "read", "write", "0", "1", "2", "3", "4"]
def wkB (w : Str) : Bool := ngI w.cps.toList && decide (w.cps.toList.length ≤ 8) && decide (w.cps.toList ≠ []) && ((decide (w.cps.toList = [40]) || decide (w.cps.toList = [41])) || w.cps.toList.all an)
theorem wall_b : WALL.all wkB = true := by decide +kernel
theorem wall_in : WALL.all (fun w => (!(Builtin.Str.occurrences ("()" : Str) w 0 ("()" : Str).length 1).isEmpty) == (decide (w.cps.toList = [40]) || decide (w.cps.toList = [41]))) = true := by decide +kernel
theorem TxL.word {w : Str} (h : w ∈ WALL) : TxL w.cps.toList [w] ∧ w.cps.toList.length ≤ 8 ∧ w.cps.toList ≠ [] := by
  have hb := List.all_eq_true.mp wall_b w h
  unfold wkB at hb
  simp only [Bool.and_eq_true, Bool.or_eq_true, decide_eq_true_iff] at hb
  obtain ⟨⟨⟨h1, h2⟩, h3⟩, h4⟩ := hb
  refine ⟨⟨[w.cps.toList], by simp, ⟨?_, trivial⟩, by rw [List.filter_cons, if_pos h1]; rfl⟩, h2, h3⟩
  rcases h4 with (h4 | h4) | h4
  · exact .inl ⟨40, h4, by decide +kernel⟩
  · exact .inl ⟨41, h4, by decide +kernel⟩
  · exact .inr ⟨h3, h4, nofun⟩
theorem par_se {l : List Nat} (h : l = [40] ∨ l = [41]) : StaL l ∧ EndL l := by
  have h40 : an 40 = false := by decide +kernel
  have h41 : an 41 = false := by decide +kernel
  rcases h with rfl | rfl
  · exact ⟨fun c e => by cases e; exact h40, fun c e => by cases e; exact h40⟩
  · exact ⟨fun c e => by cases e; exact h41, fun c e => by cases e; exact h41⟩
theorem gap_se {l : List Nat} (h : l = [32] ∨ l = [10] ∨ l = [32, 32]) : StaL l ∧ EndL l ∧ TxL l [] := by
  have h32 : an 32 = false := by decide +kernel
  have h10 : an 10 = false := by decide +kernel
  rcases h with rfl | rfl | rfl
  · exact ⟨fun c e => by cases e; exact h32, fun c e => by cases e; exact h32, [[32]], rfl, ⟨.inl ⟨32, rfl, h32⟩, trivial⟩, rfl⟩
  · exact ⟨fun c e => by cases e; exact h10, fun c e => by cases e; exact h10, [[10]], rfl, ⟨.inl ⟨10, rfl, h10⟩, trivial⟩, rfl⟩
  · exact ⟨fun c e => by cases e; exact h32, fun c e => by cases e; exact h32, [[32], [32]], rfl, ⟨.inl ⟨32, rfl, h32⟩, .inl ⟨32, rfl, h32⟩, trivial⟩, rfl⟩
theorem EndL.app {a b : List Nat} (h : EndL b) (ne : b ≠ []) : EndL (a ++ b) := fun c e => h c (by
  rw [List.getLast?_append, List.getLast?_eq_some_getLast ne] at e
  rw [List.getLast?_eq_some_getLast ne]
  exact e)
theorem EndL.nil : EndL [] := fun c e => by cases e
theorem TxL.join : ∀ {ws : List Str}, (∀ w ∈ ws, w ∈ WALL) → TxL (TL.joinL [32] (ws.map fun z => z.cps.toList)) ws ∧ (TL.joinL [32] (ws.map fun z => z.cps.toList)).length ≤ 9 * ws.length
  | [], _ => ⟨TxL.nil, Nat.le_refl _⟩
  | [w], h => by
    obtain ⟨h1, h2, _⟩ := TxL.word (h w List.mem_cons_self)
    refine ⟨h1, ?_⟩
    show w.cps.toList.length ≤ 9
    omega
  | w :: q :: r, h => by
    obtain ⟨h1, h2, _⟩ := TxL.word (h w List.mem_cons_self)
    obtain ⟨i1, i2⟩ := TxL.join (ws := q :: r) fun x hx => h x (List.mem_cons_of_mem _ hx)
    obtain ⟨g1, g2, g3⟩ := gap_se (l := [32]) (.inl rfl)
    have e : TL.joinL [32] ((w :: q :: r).map fun z => z.cps.toList) = w.cps.toList ++ ([32] ++ TL.joinL [32] ((q :: r).map fun z => z.cps.toList)) := rfl
    rw [e]
    refine ⟨(h1.app (g3.app i1 (.inl g2)) (.inr ?_) : TxL _ ([w] ++ ([] ++ (q :: r)))), ?_⟩
    · intro c hc
      exact g1 c hc
    · rw [List.length_append, List.length_append]
      simp only [List.length_cons, List.length_nil] at i2 ⊢
      omega
/-! ### a form's words -/
def ptOf : Frm → Nat → Pt
  | .any, _ => .any
  | .atom f y, _ => .atom f y
  | .not a, _ => .not (ptOf a 2)
  | .and a b, r => if 1 < r then .par (.and (ptOf a 1) (ptOf b 2)) else .and (ptOf a 1) (ptOf b 2)
  | .or a b, r => if 0 < r then .par (.or (ptOf a 0) (ptOf b 1)) else .or (ptOf a 0) (ptOf b 1)
/-- fields with the values that the law draws -/
def FrmT : Frm → Prop
  | .any => True
  | .atom f y => f ∈ FLD ∧ AtOk f y ∧ shV y ∈ WALL
  | .not a => FrmT a
  | .and a b => FrmT a ∧ FrmT b
  | .or a b => FrmT a ∧ FrmT b
theorem fld_wall {f : Str} (h : f ∈ FLD) : f ∈ WALL := by
  simp only [FLD, List.mem_cons, List.not_mem_nil, or_false] at h
  rcases h with rfl | rfl | rfl | rfl | rfl | rfl <;> decide +kernel
theorem ptOf_lv : ∀ (f : Frm) (r : Nat), r ≤ 2 → r ≤ (ptOf f r).lv
  | .any, r, h => h
  | .atom _ _, r, h => h
  | .not _, r, h => h
  | .and a b, r, h => by
    unfold ptOf
    by_cases e : 1 < r
    · rw [if_pos e]; exact h
    · rw [if_neg e]; show r ≤ 1; omega
  | .or a b, r, h => by
    unfold ptOf
    by_cases e : 0 < r
    · rw [if_pos e]; exact h
    · rw [if_neg e]; show r ≤ 0; omega
theorem lv_two {p : Pt} (h : 2 ≤ p.lv) : p.lv = 2 := by
  cases p <;> first | rfl | (simp [Pt.lv] at h)
theorem ptOf_ok : ∀ (f : Frm) (r : Nat), FrmT f → (ptOf f r).ok ∧ (ptOf f r).frm = f ∧ (ptOf f r).ht ≤ f.dep ∧ (∀ w ∈ (ptOf f r).ws, w ∈ WALL) ∧ (ptOf f r).ws.length + 3 ≤ 5 * 2 ^ f.dep
  | .any, r, h => ⟨trivial, rfl, Nat.le_refl _, fun w hw => by rw [List.mem_singleton.mp hw]; decide +kernel, by show 1 + 3 ≤ 5 * 2 ^ 0; decide⟩
  | .atom f y, r, h => ⟨⟨h.1, h.2.1⟩, rfl, Nat.le_refl _, fun w hw => by
      rcases List.mem_cons.mp hw with rfl | hw
      · exact fld_wall h.1
      · rw [List.mem_singleton.mp hw]; exact h.2.2, by show 2 + 3 ≤ 5 * 2 ^ 0; decide⟩
  | .not a, r, h => by
    obtain ⟨h1, h2, h3, h4, h5⟩ := ptOf_ok a 2 h
    refine ⟨⟨lv_two (ptOf_lv a 2 (Nat.le_refl _)), h1⟩, congrArg Frm.not h2, Nat.succ_le_succ h3, fun w hw => ?_, ?_⟩
    · rcases List.mem_cons.mp hw with rfl | hw
      · decide +kernel
      · exact h4 w hw
    · show (ptOf a 2).ws.length + 1 + 3 ≤ 5 * 2 ^ (a.dep + 1)
      have : 1 ≤ 2 ^ a.dep := Nat.one_le_two_pow
      rw [Nat.pow_succ]
      omega
  | .and a b, r, h => by
    obtain ⟨h1, h2, h3, h4, h5⟩ := ptOf_ok a 1 h.1
    obtain ⟨k1, k2, k3, k4, k5⟩ := ptOf_ok b 2 h.2
    have ed : (Frm.and a b).dep = max a.dep b.dep + 1 := rfl
    have q1 : (Pt.and (ptOf a 1) (ptOf b 2)).ok := ⟨ptOf_lv a 1 (by decide), lv_two (ptOf_lv b 2 (by decide)), h1, k1⟩
    have q2 : (Pt.and (ptOf a 1) (ptOf b 2)).frm = .and a b := by show Frm.and _ _ = _; rw [h2, k2]
    have q3 : (Pt.and (ptOf a 1) (ptOf b 2)).ht ≤ max a.dep b.dep := by show max _ _ ≤ _; omega
    have q4 : ∀ w ∈ (Pt.and (ptOf a 1) (ptOf b 2)).ws, w ∈ WALL := fun w hw => by
      rcases List.mem_append.mp hw with hw | hw
      · exact h4 w hw
      · rcases List.mem_cons.mp hw with rfl | hw
        · decide +kernel
        · exact k4 w hw
    have q5 : (Pt.and (ptOf a 1) (ptOf b 2)).ws.length + 5 ≤ 5 * 2 ^ (max a.dep b.dep + 1) := by
      show ((ptOf a 1).ws ++ (("and" : Str) :: (ptOf b 2).ws)).length + 5 ≤ _
      rw [List.length_append, List.length_cons, Nat.pow_succ]
      have m1 : 2 ^ a.dep ≤ 2 ^ (max a.dep b.dep) := Nat.pow_le_pow_right (by decide) (by omega)
      have m2 : 2 ^ b.dep ≤ 2 ^ (max a.dep b.dep) := Nat.pow_le_pow_right (by decide) (by omega)
      omega
    unfold ptOf
    rw [ed]
    by_cases e : 1 < r
    · rw [if_pos e]
      refine ⟨q1, q2, Nat.succ_le_succ q3, fun w hw => ?_, ?_⟩
      · rcases List.mem_cons.mp hw with rfl | hw
        · decide +kernel
        · rcases List.mem_append.mp hw with hw | hw
          · exact q4 w hw
          · rw [List.mem_singleton.mp hw]; decide +kernel
      · show (("(" : Str) :: ((Pt.and (ptOf a 1) (ptOf b 2)).ws ++ [(")" : Str)])).length + 3 ≤ _
        rw [List.length_cons, List.length_append, List.length_singleton]
        omega
    · rw [if_neg e]
      exact ⟨q1, q2, by omega, q4, by omega⟩
  | .or a b, r, h => by
    obtain ⟨h1, h2, h3, h4, h5⟩ := ptOf_ok a 0 h.1
    obtain ⟨k1, k2, k3, k4, k5⟩ := ptOf_ok b 1 h.2
    have ed : (Frm.or a b).dep = max a.dep b.dep + 1 := rfl
    have q1 : (Pt.or (ptOf a 0) (ptOf b 1)).ok := ⟨ptOf_lv b 1 (by decide), h1, k1⟩
    have q2 : (Pt.or (ptOf a 0) (ptOf b 1)).frm = .or a b := by show Frm.or _ _ = _; rw [h2, k2]
    have q3 : (Pt.or (ptOf a 0) (ptOf b 1)).ht ≤ max a.dep b.dep := by show max _ _ ≤ _; omega
    have q4 : ∀ w ∈ (Pt.or (ptOf a 0) (ptOf b 1)).ws, w ∈ WALL := fun w hw => by
      rcases List.mem_append.mp hw with hw | hw
      · exact h4 w hw
      · rcases List.mem_cons.mp hw with rfl | hw
        · decide +kernel
        · exact k4 w hw
    have q5 : (Pt.or (ptOf a 0) (ptOf b 1)).ws.length + 5 ≤ 5 * 2 ^ (max a.dep b.dep + 1) := by
      show ((ptOf a 0).ws ++ (("or" : Str) :: (ptOf b 1).ws)).length + 5 ≤ _
      rw [List.length_append, List.length_cons, Nat.pow_succ]
      have m1 : 2 ^ a.dep ≤ 2 ^ (max a.dep b.dep) := Nat.pow_le_pow_right (by decide) (by omega)
      have m2 : 2 ^ b.dep ≤ 2 ^ (max a.dep b.dep) := Nat.pow_le_pow_right (by decide) (by omega)
      omega
    unfold ptOf
    rw [ed]
    by_cases e : 0 < r
    · rw [if_pos e]
      refine ⟨q1, q2, Nat.succ_le_succ q3, fun w hw => ?_, ?_⟩
      · rcases List.mem_cons.mp hw with rfl | hw
        · decide +kernel
        · rcases List.mem_append.mp hw with hw | hw
          · exact q4 w hw
          · rw [List.mem_singleton.mp hw]; decide +kernel
      · show (("(" : Str) :: ((Pt.or (ptOf a 0) (ptOf b 1)).ws ++ [(")" : Str)])).length + 3 ≤ _
        rw [List.length_cons, List.length_append, List.length_singleton]
        omega
    · rw [if_neg e]
      exact ⟨q1, q2, by omega, q4, by omega⟩
/-- so many parentheses around it -/
def parN : Nat → Pt → Pt
  | 0, p => p
  | n + 1, p => .par (parN n p)

end K82

namespace K82
open PySem L2 SZ VR VX StX RT DE
/-! ### forms drawn, with what their values are -/
def FrmX (fm : Frm) : Prop := FrmOk fm ∧ FrmT fm
def LeafX (y : PyData) : Prop := ∃ fm : Frm, y = frmD fm ∧ FrmX fm ∧ fm.dep = 0
theorem int_okX {g : Str} (hg : g ∈ NUMS) {i : Int} (h0 : 0 ≤ i) (h1 : i < 5) : FrmX (.atom g (.int i)) := by
  have hf : g ∈ FLD := by
    simp only [NUMS, List.mem_cons, List.not_mem_nil, or_false] at hg
    rcases hg with rfl | rfl | rfl <;> decide
  have hi : i = 0 ∨ i = 1 ∨ i = 2 ∨ i = 3 ∨ i = 4 := by omega
  refine ⟨int_ok hf i, hf, .inl ⟨i, hg, rfl, ?_, ?_, ?_⟩, ?_⟩ <;> rcases hi with rfl | rfl | rfl | rfl | rfl <;> decide +kernel
theorem str_okX {g z : Str} (h : (g = "kind" ∧ z ∈ KND) ∨ (g = "word" ∧ z ∈ (["read", "write"] : List Str)) ∨ (g = "array" ∧ z ∈ (["a", "b"] : List Str))) : FrmX (.atom g (.str z)) := by
  simp only [KND, List.mem_cons, List.not_mem_nil, or_false] at h
  rcases h with ⟨rfl, h⟩ | ⟨rfl, h⟩ | ⟨rfl, h⟩
  · refine ⟨str_ok (by decide) (by simp only [List.mem_cons, List.not_mem_nil, or_false]; rcases h with h | h | h | h | h <;> simp [h]), by decide, .inr ⟨z, rfl, .inl ⟨rfl, ?_⟩⟩, ?_⟩ <;> rcases h with rfl | rfl | rfl | rfl | rfl <;> decide +kernel
  · refine ⟨str_ok (by decide) (by simp only [List.mem_cons, List.not_mem_nil, or_false]; rcases h with h | h <;> simp [h]), by decide, .inr ⟨z, rfl, .inr (.inl ⟨rfl, ?_⟩)⟩, ?_⟩ <;> rcases h with rfl | rfl <;> decide +kernel
  · refine ⟨str_ok (by decide) (by simp only [List.mem_cons, List.not_mem_nil, or_false]; rcases h with h | h <;> simp [h]), by decide, .inr ⟨z, rfl, .inr (.inr ⟨rfl, ?_, ?_⟩)⟩, ?_⟩ <;> rcases h with rfl | rfl <;> decide +kernel
abbrev ResAtX : List PyData → List Sl → Sl → List PyData → Prop := fun _ _ r ys' => PoolD ys' ∧ ∃ ds, r = .own ds ∧ ds.length = 7 ∧ ∀ y ∈ ds, LeafX y
theorem leaf_snocX {ds : List PyData} {g : Str} {y : PyData} (h : ∀ z ∈ ds, LeafX z) (ok : FrmX (.atom g y)) : ∀ z ∈ ds ++ [.tuple [.str g, y]], LeafX z := fun z hz => by
  rcases List.mem_append.mp hz with hz | hz
  · exact h z hz
  · rw [List.mem_singleton.mp hz]
    exact ⟨.atom g y, rfl, ok, rfl⟩
section
variable {P : Program} {w : World} {K : PySem.W.Frag} {mg : Str → Option Value} {base : Heap}
theorem t_atomsX {f : Addr} {fd : FuncData} (F : Fun K "_law_atoms" "_law_atoms" S_law_atoms f fd) (CT : CalB P w K mg base CX0 "_law_take" 1 PreT ResT) : FnOk P w K mg base CX0 2 f fd ["_law_pool_here"] (spB K PreN ResAtX) := by
  refine fn_B F sc_law_atoms (fun ys as h => by rw [h.2]; rfl) fun cdv A outer s H E hr b ys as hp => ?_
  obtain ⟨hy, rfl⟩ := hp
  show XB _ _ [.bor ys, .un, .un] _ _
  refine xb_cons (xs_par 1 2 rfl sc_law_atoms.nd rfl rfl (by decide) (by simp) (by simp) rfl rfl (ea_cons (h := (r_cool (r_lst (a_cons r_str (a_cons r_str (a_cons r_str (a_cons r_str (a_cons r_str a_nil))))) rfl)) _ (ea_cons (h := (r_lst a_nil rfl) _ (ea_nil fun _ => ⟨_, _, rfl, fun _ => ?_⟩))))) rfl)
  show XB _ _ [.bor ys, .d (.list (KND.map .str)), .own []] _ _
  have l0 : ∀ z ∈ ([] : List PyData), LeafX z := fun z hz => nomatch hz
  generalize hd0 : ([] : List PyData) = d0 at l0
  have n0 : d0.length = 0 := by rw [← hd0]; rfl
  show XB _ _ [.bor ys, .d (.list (KND.map .str)), .own d0] _ _
  refine xb_cons (xs_append 2 rfl (by walk_at "v") (ev_tupD (ea_cons (h := r_str _ (ea_cons (h := ev_menu (r_var 1 rfl (by walk_at "v") rfl) (.inl rfl) (ev_take 0 CT hr rfl (by walk_at "v") pass0 rfl (.inr rfl) hy (wd := 5) r_int (by decide) (by decide) fun j1 ys1 a0 a1 hy1 => ⟨_, rfl, a0, a1, fun y1 hm1 => ?_⟩)))))) ⟨_, _, rfl, .inl rfl⟩)
  refine ea_nil ⟨_, rfl, by simp, fun _ => ?_⟩
  refine ⟨_, d0, _, rfl, rfl, .inl rfl, by rw [n0, sizeLine_eq]; decide, fun _ => ?_⟩
  obtain ⟨z1, hz1, rfl⟩ : ∃ z ∈ (KND : List Str), y1 = .str z := by
    obtain ⟨z, hz, e⟩ := List.mem_map.mp (show y1 ∈ (KND : List Str).map PyData.str from List.mem_of_getElem? hm1)
    exact ⟨z, hz, e.symm⟩
  have l1 := leaf_snocX l0 (str_okX (g := "kind") (z := z1) (.inl ⟨rfl, hz1⟩))
  generalize hd1 : d0 ++ [PyData.tuple [.str "kind", .str z1]] = d1 at l1
  have n1 : d1.length = 1 := by rw [← hd1, List.length_append, n0]; rfl
  show XB _ _ [.bor ys1, .d (.list (KND.map .str)), .own d1] _ _
  refine xb_cons (xs_append 2 rfl (by walk_at "v") (ev_tupD (ea_cons (h := r_str _ (ea_cons (h := ev_take 0 CT hr rfl (by walk_at "v") pass0 rfl (.inr rfl) hy1 (wd := 3) r_int (by decide) (by decide) fun j2 ys2 a0 a1 hy2 => (ea_nil ⟨_, rfl, by simp, fun _ => ?_⟩)))))) ⟨_, _, rfl, .inl rfl⟩)
  refine ⟨_, d1, _, rfl, rfl, .inl rfl, by rw [n1, sizeLine_eq]; decide, fun _ => ?_⟩
  have l2 := leaf_snocX l1 (int_okX (g := "level") (by decide) a0 (by omega))
  generalize hd2 : d1 ++ [PyData.tuple [.str "level", .int j2]] = d2 at l2
  have n2 : d2.length = 2 := by rw [← hd2, List.length_append, n1]; rfl
  show XB _ _ [.bor ys2, .d (.list (KND.map .str)), .own d2] _ _
  refine xb_cons (xs_append 2 rfl (by walk_at "v") (ev_tupD (ea_cons (h := r_str _ (ea_cons (h := ev_take 0 CT hr rfl (by walk_at "v") pass0 rfl (.inr rfl) hy2 (wd := 5) r_int (by decide) (by decide) fun j3 ys3 a0 a1 hy3 => (ea_nil ⟨_, rfl, by simp, fun _ => ?_⟩)))))) ⟨_, _, rfl, .inl rfl⟩)
  refine ⟨_, d2, _, rfl, rfl, .inl rfl, by rw [n2, sizeLine_eq]; decide, fun _ => ?_⟩
  have l3 := leaf_snocX l2 (int_okX (g := "access") (by decide) a0 (by omega))
  generalize hd3 : d2 ++ [PyData.tuple [.str "access", .int j3]] = d3 at l3
  have n3 : d3.length = 3 := by rw [← hd3, List.length_append, n2]; rfl
  show XB _ _ [.bor ys3, .d (.list (KND.map .str)), .own d3] _ _
  refine xb_cons (xs_append 2 rfl (by walk_at "v") (ev_tupD (ea_cons (h := r_str _ (ea_cons (h := ev_take 0 CT hr rfl (by walk_at "v") pass0 rfl (.inr rfl) hy3 (wd := 5) r_int (by decide) (by decide) fun j4 ys4 a0 a1 hy4 => (ea_nil ⟨_, rfl, by simp, fun _ => ?_⟩)))))) ⟨_, _, rfl, .inl rfl⟩)
  refine ⟨_, d3, _, rfl, rfl, .inl rfl, by rw [n3, sizeLine_eq]; decide, fun _ => ?_⟩
  have l4 := leaf_snocX l3 (int_okX (g := "other") (by decide) a0 (by omega))
  generalize hd4 : d3 ++ [PyData.tuple [.str "other", .int j4]] = d4 at l4
  have n4 : d4.length = 4 := by rw [← hd4, List.length_append, n3]; rfl
  show XB _ _ [.bor ys4, .d (.list (KND.map .str)), .own d4] _ _
  refine xb_cons (xs_append 2 rfl (by walk_at "v") (ev_tupD (ea_cons (h := r_str _ (ea_cons (h := ev_menu (r_lst (a_cons r_str (a_cons r_str a_nil)) rfl) (.inl rfl) (ev_take 0 CT hr rfl (by walk_at "v") pass0 rfl (.inr rfl) hy4 (wd := 2) r_int (by decide) (by decide) fun j5 ys5 a0 a1 hy5 => ⟨_, rfl, a0, a1, fun y5 hm5 => ?_⟩)))))) ⟨_, _, rfl, .inl rfl⟩)
  refine ea_nil ⟨_, rfl, by simp, fun _ => ?_⟩
  refine ⟨_, d4, _, rfl, rfl, .inl rfl, by rw [n4, sizeLine_eq]; decide, fun _ => ?_⟩
  obtain ⟨z5, hz5, rfl⟩ : ∃ z ∈ (["a", "b"] : List Str), y5 = .str z := by
    obtain ⟨z, hz, e⟩ := List.mem_map.mp (show y5 ∈ (["a", "b"] : List Str).map PyData.str from List.mem_of_getElem? hm5)
    exact ⟨z, hz, e.symm⟩
  have l5 := leaf_snocX l4 (str_okX (g := "array") (z := z5) (.inr (.inr ⟨rfl, hz5⟩)))
  generalize hd5 : d4 ++ [PyData.tuple [.str "array", .str z5]] = d5 at l5
  have n5 : d5.length = 5 := by rw [← hd5, List.length_append, n4]; rfl
  show XB _ _ [.bor ys5, .d (.list (KND.map .str)), .own d5] _ _
  refine xb_cons (xs_append 2 rfl (by walk_at "v") (ev_tupD (ea_cons (h := r_str _ (ea_cons (h := ev_menu (r_lst (a_cons r_str (a_cons r_str a_nil)) rfl) (.inl rfl) (ev_take 0 CT hr rfl (by walk_at "v") pass0 rfl (.inr rfl) hy5 (wd := 2) r_int (by decide) (by decide) fun j6 ys6 a0 a1 hy6 => ⟨_, rfl, a0, a1, fun y6 hm6 => ?_⟩)))))) ⟨_, _, rfl, .inl rfl⟩)
  refine ea_nil ⟨_, rfl, by simp, fun _ => ?_⟩
  refine ⟨_, d5, _, rfl, rfl, .inl rfl, by rw [n5, sizeLine_eq]; decide, fun _ => ?_⟩
  obtain ⟨z6, hz6, rfl⟩ : ∃ z ∈ (["read", "write"] : List Str), y6 = .str z := by
    obtain ⟨z, hz, e⟩ := List.mem_map.mp (show y6 ∈ (["read", "write"] : List Str).map PyData.str from List.mem_of_getElem? hm6)
    exact ⟨z, hz, e.symm⟩
  have l6 := leaf_snocX l5 (str_okX (g := "word") (z := z6) (.inr (.inl ⟨rfl, hz6⟩)))
  generalize hd6 : d5 ++ [PyData.tuple [.str "word", .str z6]] = d6 at l6
  have n6 : d6.length = 6 := by rw [← hd6, List.length_append, n5]; rfl
  show XB _ _ [.bor ys6, .d (.list (KND.map .str)), .own d6] _ _
  refine xb_one (xs_ret (ev_frz 2 rfl ((r_bin (r_var 2 rfl (by walk_at "v") rfl) (r_lst (a_cons (r_tup (a_cons r_str a_nil) rfl) a_nil) rfl) (or_catS rfl rfl (by rw [n6, sizeLine_eq]; decide))) _ ?_)))
  refine fun _ => ⟨ys6, rfl, ⟨hy6, _, rfl, by rw [List.length_append, n6]; rfl, fun z hz => ?_⟩, nofun⟩
  rcases List.mem_append.mp hz with hz | hz
  · exact l6 z hz
  · rw [List.mem_singleton.mp hz]
    exact ⟨.any, rfl, ⟨trivial, trivial⟩, rfl⟩
end
abbrev ResFX (n : Nat) : List PyData → List Sl → Sl → List PyData → Prop := fun _ _ r ys' => PoolD ys' ∧ ∃ fm : Frm, r = .d (frmD fm) ∧ FrmX fm ∧ fm.dep ≤ n
section
variable {P : Program} {w : World} {K : PySem.W.Frag} {mg : Str → Option Value} {base : Heap}
theorem t_formX {f : Addr} {fd : FuncData} (F : Fun K "_law_form" "_law_form" S_law_form f fd) (mf : mg "_law_form" = some (.ref f)) (bf : Binds K fd ["_law_pool_here", "_law_depth"] []) (CT : CalB P w K mg base CX0 "_law_take" 1 PreT ResT) (CA : CalB P w K mg base CX0 "_law_atoms" 2 PreN ResAtX) :
    ∀ n : Nat, FnOk P w K mg base CX0 (n + 3) f fd ["_law_pool_here", "_law_depth"] (spB K (PreF n) (ResFX n)) := by
  intro n
  induction n with
  | zero =>
    refine fn_B F sc_law_form (fun ys as h => by rw [h.2]; rfl) fun cdv A outer s H E hr b ys as hp => ?_
    obtain ⟨hy, rfl⟩ := hp
    have hr1 := hr.mono (show 1 ≤ 0 + 2 by decide)
    show XB _ _ [.bor ys, .d (.int ((0 : Nat) : Int)), .un] _ _
    refine xb_cons (xs_set 2 sc_law_form.nd rfl (by walk_at "v") (by simp) rfl (.inl rfl) (ev_take 0 CT hr1 rfl (by walk_at "v") pass0 rfl (.inr rfl) hy (wd := 6) r_int (by decide) (by decide) fun j1 ys1 a0 a1 hy1 => fun _ _ => ?_))
    show XB _ _ [.bor ys1, .d (.int ((0 : Nat) : Int)), .d (.int j1)] _ _
    refine xb_cons (x_if (t_w (w_or (t_cmp (r_var 1 rfl (by walk_at "v") rfl) r_int (by walk_at "o")) fun _ => (w_or1 (t_cmp (r_var 2 rfl (by walk_at "v") rfl) r_int (by walk_at "o"))))) (fun h0 => ?_) (fun h0 => ?_))
    · refine xb_one (xs_ret (ev_ix (fun _ _ => rfl) (ev_calL 0 CA (hr.mono (by omega)) rfl pass0 rfl (by walk_at "v") (a_nil _ ⟨[], rfl, _, ys1, rfl, .inr rfl, ⟨hy1, rfl⟩, fun r ys2 hr' => ?_⟩) ⟨_, _, rfl, .inr rfl⟩)))
      obtain ⟨hy2, ds, rfl, l7, hl⟩ := hr'
      refine ⟨nofun, ev_take 0 CT hr1 rfl (by walk_at "v") pass0 rfl (.inr rfl) hy2 (wd := 7) r_int (by decide) (by decide) fun j2 ys3 b0 b1 hy3 => ?_⟩
      have hlt : j2.toNat < ds.length := by omega
      have hi : atI ds j2 = some ds[j2.toNat] := by
        have := atI_nat (xs := ds) (j := j2.toNat) (List.getElem?_eq_getElem hlt)
        rw [Int.toNat_of_nonneg b0] at this
        exact this
      refine iv_own hi ?_
      obtain ⟨fm, e, ok, hd⟩ := hl _ (List.getElem_mem hlt)
      rw [e]
      exact fun _ => ⟨ys3, rfl, ⟨hy3, fm, rfl, ok, by omega⟩, nofun⟩
    · simp at h0
  | succ n ih =>
    have CF : CalB P w K mg base CX0 "_law_form" (n + 3) (PreF n) (ResFX n) := ⟨f, fd, _, ih, mf, F.kp, bf⟩
    refine fn_B F sc_law_form (fun ys as h => by rw [h.2]; rfl) fun cdv A outer s H E hr b ys as hp => ?_
    obtain ⟨hy, rfl⟩ := hp
    have hr1 := hr.mono (show 1 ≤ n + 1 + 2 by omega)
    have hr : Room (n + 3) _ := hr.mono (show n + 3 ≤ n + 1 + 2 by omega)
    have en : ((n + 1 : Nat) : Int) - 1 = (n : Nat) := by omega
    show XB _ _ [.bor ys, .d (.int ((n + 1 : Nat) : Int)), .un] _ _
    refine xb_cons (xs_set 2 sc_law_form.nd rfl (by walk_at "v") (by simp) rfl (.inl rfl) (ev_take 0 CT hr1 rfl (by walk_at "v") pass0 rfl (.inr rfl) hy (wd := 6) r_int (by decide) (by decide) fun j1 ys1 a0 a1 hy1 => fun _ _ => ?_))
    show XB _ _ [.bor ys1, .d (.int ((n + 1 : Nat) : Int)), .d (.int j1)] _ _
    refine xb_cons (x_if (t_w (w_or (t_cmp (r_var 1 rfl (by walk_at "v") rfl) r_int (by walk_at "o")) fun _ => (w_or1 (t_cmp (r_var 2 rfl (by walk_at "v") rfl) r_int (by walk_at "o"))))) (fun h0 => ?_) (fun h0 => xb_nil fun _ => ?_))
    · refine xb_one (xs_ret (ev_ix (fun _ _ => rfl) (ev_calL 0 CA (hr.mono (by omega)) rfl pass0 rfl (by walk_at "v") (a_nil _ ⟨[], rfl, _, ys1, rfl, .inr rfl, ⟨hy1, rfl⟩, fun r ys2 hr' => ?_⟩) ⟨_, _, rfl, .inr rfl⟩)))
      obtain ⟨hy2, ds, rfl, l7, hl⟩ := hr'
      refine ⟨nofun, ev_take 0 CT hr1 rfl (by walk_at "v") pass0 rfl (.inr rfl) hy2 (wd := 7) r_int (by decide) (by decide) fun j2 ys3 b0 b1 hy3 => ?_⟩
      have hlt : j2.toNat < ds.length := by omega
      have hi : atI ds j2 = some ds[j2.toNat] := by
        have := atI_nat (xs := ds) (j := j2.toNat) (List.getElem?_eq_getElem hlt)
        rw [Int.toNat_of_nonneg b0] at this
        exact this
      refine iv_own hi ?_
      obtain ⟨fm, e, ok, hd⟩ := hl _ (List.getElem_mem hlt)
      rw [e]
      exact fun _ => ⟨ys3, rfl, ⟨hy3, fm, rfl, ok, by omega⟩, nofun⟩
    refine xb_cons (x_if (t_cmp (r_var 2 rfl (by walk_at "v") rfl) r_int (by walk_at "o")) (fun h1 => ?_) (fun h1 => xb_nil fun _ => ?_))
    · refine xb_one (xs_ret (ev_tupD (ea_cons (h := r_str _ (ea_cons (h := ev_calL 0 CF hr rfl pass0 rfl (by walk_at "v") ((a_cons (r_bin (r_var 1 rfl (by walk_at "v") rfl) r_int (by walk_at "o")) a_nil) _ ⟨[.int (((n + 1 : Nat) : Int) - 1)], rfl, _, ys1, rfl, .inr rfl, ⟨hy1, by rw [en]; rfl⟩, fun r ys2 hr' => ?_⟩) ⟨_, _, rfl, .inr rfl⟩))))))
      obtain ⟨hy2, fm, rfl, ok, hd⟩ := hr'
      refine ⟨nofun, ea_nil ⟨_, rfl, by simp, fun _ => ⟨ys2, rfl, ⟨hy2, .not fm, rfl, ok, ?_⟩, nofun⟩⟩⟩
      show fm.dep + 1 ≤ n + 1
      omega
    have hj : j1 % 2 = 0 ∨ j1 % 2 = 1 := by omega
    have hw : ∃ w : Str, (w = "and" ∨ w = "or") ∧ atI ([PyData.str "and", .str "or"]) (j1 % 2) = some (.str w) := by
      rcases hj with e | e
      · exact ⟨"and", .inl rfl, by rw [e]; rfl⟩
      · exact ⟨"or", .inr rfl, by rw [e]; rfl⟩
    obtain ⟨wd, hwd, hat⟩ := hw
    refine xb_one (xs_ret (ev_tupD (ea_cons (h := (r_ix (r_lst (a_cons r_str (a_cons r_str a_nil)) rfl) (r_bin (r_var 2 rfl (by walk_at "v") rfl) r_int (fun _ h => ov_mod (by decide) h)) (ir_at (.inl rfl) hat)) _ (ea_cons (h := ev_calL 0 CF hr rfl pass0 rfl (by walk_at "v") ((a_cons (r_bin (r_var 1 rfl (by walk_at "v") rfl) r_int (by walk_at "o")) a_nil) _ ⟨[.int (((n + 1 : Nat) : Int) - 1)], rfl, _, ys1, rfl, .inr rfl, ⟨hy1, by rw [en]; rfl⟩, fun r ys2 hr' => ?_⟩) ⟨_, _, rfl, .inr rfl⟩))))))
    obtain ⟨hy2, fm, rfl, ok, hd⟩ := hr'
    refine ⟨nofun, ea_cons (h := ev_calL 0 CF hr rfl pass0 rfl (by walk_at "v") ((a_cons (r_bin (r_var 1 rfl (by walk_at "v") rfl) r_int (by walk_at "o")) a_nil) _ ⟨[.int (((n + 1 : Nat) : Int) - 1)], rfl, _, ys2, rfl, .inr rfl, ⟨hy2, by rw [en]; rfl⟩, fun r ys3 hr' => ?_⟩) ⟨_, _, rfl, .inr rfl⟩)⟩
    obtain ⟨hy3, gm, rfl, ok2, hd2⟩ := hr'
    refine ⟨nofun, ea_nil ⟨_, rfl, by simp, fun _ => ⟨ys3, rfl, ⟨hy3, ?_⟩, nofun⟩⟩⟩
    rcases hwd with rfl | rfl
    · exact ⟨.and fm gm, rfl, ⟨⟨ok.1, ok2.1⟩, ⟨ok.2, ok2.2⟩⟩, by show max fm.dep gm.dep + 1 ≤ n + 1; omega⟩
    · exact ⟨.or fm gm, rfl, ⟨⟨ok.1, ok2.1⟩, ⟨ok.2, ok2.2⟩⟩, by show max fm.dep gm.dep + 1 ≤ n + 1; omega⟩
end

end K82

namespace K82
open PySem L2 SZ VR VX StX RT DE
/-! ### the law's words and texts -/
section
variable {X : Cx} {b : Bs}
theorem ov_inStr {w z : Str} {p : Sl → Prop} (h : p (.d (.bool (!(Builtin.Str.occurrences z w 0 z.length 1).isEmpty)))) : OV X b (compareOp .In) (.d (.str w)) (.d (.str z)) p := ⟨_, op_in_str, fun v1 v2 H L Q hh k => by
  have e1 := hh.isS
  have e2 := hh.drop.isS
  subst e1 e2
  exact ⟨w, z, rfl, rfl, k _ _ H h (hh.drop.drop.bl _)⟩⟩
theorem ov_notinStr {w z : Str} {p : Sl → Prop} (h : p (.d (.bool (!(!(Builtin.Str.occurrences z w 0 z.length 1).isEmpty))))) : OV X b (compareOp .NotIn) (.d (.str w)) (.d (.str z)) p := ⟨_, op_notin_str, fun v1 v2 H L Q hh k => by
  have e1 := hh.isS
  have e2 := hh.drop.isS
  subst e1 e2
  exact ⟨w, z, rfl, rfl, k _ _ H h (hh.drop.drop.bl _)⟩⟩
/-- ( or ) -/
def isPar (w : Str) : Bool := decide (w.cps.toList = [40]) || decide (w.cps.toList = [41])
theorem par_occ {w : Str} (h : w ∈ WALL) : (!(Builtin.Str.occurrences ("()" : Str) w 0 ("()" : Str).length 1).isEmpty) = isPar w := eq_of_beq (List.all_eq_true.mp wall_in w h)
theorem or_inPar {w : Str} (h : w ∈ WALL) : OVr X b (compareOp .In) (.d (.str w)) (.d (.str "()")) (.d (.bool (isPar w))) := fun p k => ov_inStr (by rw [par_occ h]; exact k)
theorem or_niPar {w : Str} (h : w ∈ WALL) : OVr X b (compareOp .NotIn) (.d (.str w)) (.d (.str "()")) (.d (.bool (!isPar w))) := fun p k => ov_notinStr (by rw [par_occ h]; exact k)
end
theorem XS.imp {X : Cx} {b : Bs} {ρ : List Sl} {st : Stmt} {p p' : Po} (h : XS X b ρ st p) (k1 : ∀ ρ', p.nx ρ' → p'.nx ρ') (k2 : ∀ r ρ', p.rt r ρ' → p'.rt r ρ') (k3 : ∀ ρ', p.bk ρ' → p'.bk ρ') (k4 : ∀ ρ', p.ct ρ' → p'.ct ρ') : XS X b ρ st p' := fun σ H L D l hh q => h σ H L D l hh ⟨fun ρ' σ' H' z => q.nx ρ' σ' H' (k1 ρ' z), fun r ρ' v σ' H' z => q.rt r ρ' v σ' H' (k2 r ρ' z), fun ρ' σ' H' z => q.bk ρ' σ' H' (k3 ρ' z), fun ρ' σ' H' z => q.ct ρ' σ' H' (k4 ρ' z)⟩
section
variable {P : Program} {w : World} {K : PySem.W.Frag} {mg : Str → Option Value} {base : Heap} {C : Addr}
theorem wall_num : WALL.all (fun w => decide ((numVal w.cps.toList).natAbs.log2 < 1920)) = true := by decide +kernel
theorem pow_dep {fm : Frm} (h : fm.dep ≤ 6) : 2 ^ fm.dep ≤ 64 := Nat.pow_le_pow_right (n := 2) (by decide) h
theorem t_words {f : Addr} {fd : FuncData} (F : Fun K "_law_words" "_law_words" S_law_words f fd) (mf : mg "_law_words" = some (.ref f)) (bf : Binds K fd ["_law_form_here", "_law_rank"] []) (zi : mg "int" = none) (zs : mg "str" = none) :
    ∀ fm : Frm, FrmX fm → fm.dep ≤ 6 → ∀ r : Nat, FnOk P w K mg base CX0 (fm.dep + 1) f fd ["_law_form_here", "_law_rank"] (spP K (PreO [.d (frmD fm), .d (.int (r : Nat))]) (ResO (.d (.list ((ptOf fm r).ws.map .str))))) := by
  intro fm
  induction fm with
  | any =>
    intro ok dl r
    refine fn_P F sc_law_words (fun as h => by cases h; rfl) (by decide) fun cdv A outer s H E hr b as hp => ?_
    subst hp
    show XB _ _ [.d (.tuple [.str "any"]), .d (.int (r : Nat)), .un, .un] _ _
    refine xb_cons (x_if (t_cmp (r_ix (r_var 0 rfl (by walk_at "v") rfl) r_int (ir_at (.inr rfl) rfl)) r_str (by walk_at "o")) (fun h0 => ?_) (fun h0 => absurd h0 (by decide)))
    exact xb_one (x_ret (r_cool (r_lst (a_cons r_str a_nil) rfl)) ⟨rfl, nofun⟩)
  | atom g y =>
    intro ok dl r
    obtain ⟨n1, n2, n3, n4⟩ := fld_ne ok.1.1
    refine fn_P F sc_law_words (fun as h => by cases h; rfl) (by decide) fun cdv A outer s H E hr b as hp => ?_
    subst hp
    show XB _ _ [.d (.tuple [.str g, y]), .d (.int (r : Nat)), .un, .un] _ _
    refine xb_cons (x_if (t_cmp (r_ix (r_var 0 rfl (by walk_at "v") rfl) r_int (ir_at (.inr rfl) rfl)) r_str (by walk_at "o")) (fun h0 => absurd (of_decide_eq_true h0) n1) (fun _ => xb_nil fun _ => ?_))
    refine xb_cons (x_if (t_cmp (r_ix (r_var 0 rfl (by walk_at "v") rfl) r_int (ir_at (.inr rfl) rfl)) r_str (by walk_at "o")) (fun h0 => absurd (of_decide_eq_true h0) n2) (fun _ => xb_nil fun _ => ?_))
    refine xb_cons (x_if (t_cmp (r_ix (r_var 0 rfl (by walk_at "v") rfl) r_int (ir_at (.inr rfl) rfl)) (r_lst (a_cons r_str (a_cons r_str a_nil)) rfl) (or_inS (l := ["and", "or"]) (.inl rfl) rfl)) (fun h0 => absurd h0 (by simp [n3, n4])) (fun _ => xb_nil fun _ => ?_))
    rcases ok.2.2.1 with ⟨n, _, rfl, c1, c2, c3⟩ | ⟨z, rfl, _⟩
    · have hn : n.natAbs.log2 < 1920 := by
        have h1 := of_decide_eq_true (List.all_eq_true.mp wall_num _ ok.2.2.2)
        have e : shV (.int n) = Str.ofString (toString n) := rfl
        rw [e, c3] at h1
        exact h1
      exact xb_one (x_ret (r_cool (r_lst (a_cons (r_ix (r_var 0 rfl (by walk_at "v") rfl) r_int (ir_at (.inr rfl) rfl)) (a_cons (r_callTy (T := "str") zs (a_cons (r_ix (r_var 0 rfl (by walk_at "v") rfl) r_int (ir_at (.inr rfl) rfl)) a_nil) (cr_strI hn)) a_nil)) rfl)) ⟨rfl, nofun⟩)
    · exact xb_one (x_ret (r_cool (r_lst (a_cons (r_ix (r_var 0 rfl (by walk_at "v") rfl) r_int (ir_at (.inr rfl) rfl)) (a_cons (r_callTy (T := "str") zs (a_cons (r_ix (r_var 0 rfl (by walk_at "v") rfl) r_int (ir_at (.inr rfl) rfl)) a_nil) cr_strS) a_nil)) rfl)) ⟨rfl, nofun⟩)
  | not a ih =>
    intro ok dl r
    have dl : a.dep + 1 ≤ 6 := dl
    have ha := ih ok (by omega) 2
    obtain ⟨_, _, _, _, hlen⟩ := ptOf_ok a 2 ok.2
    have hpw := pow_dep (show a.dep ≤ 6 by omega)
    refine fn_P F sc_law_words (fun as h => by cases h; rfl) (by decide) fun cdv A outer s H E hr b as hp => ?_
    subst hp
    have CA : CalP P w K mg base CX0 "_law_words" (a.dep + 1) _ _ := ⟨f, fd, _, ha, mf, F.kp, bf⟩
    show XB _ _ [.d (.tuple [.str "not", frmD a]), .d (.int (r : Nat)), .un, .un] _ _
    refine xb_cons (x_if (t_cmp (r_ix (r_var 0 rfl (by walk_at "v") rfl) r_int (ir_at (.inr rfl) rfl)) r_str (by walk_at "o")) (fun h0 => absurd h0 (by decide)) (fun _ => xb_nil fun _ => ?_))
    refine xb_cons (x_if (t_cmp (r_ix (r_var 0 rfl (by walk_at "v") rfl) r_int (ir_at (.inr rfl) rfl)) r_str (by walk_at "o")) (fun h0 => ?_) (fun h0 => absurd h0 (by decide)))
    exact xb_one (x_ret (r_cool (r_bin (r_lst (a_cons r_str a_nil) rfl) (r_cal CA hr pass0 (a_cons (r_ix (r_var 0 rfl (by walk_at "v") rfl) r_int (ir_at (.inr rfl) rfl)) (a_cons r_int a_nil)) rfl rfl (fun r' h => h)) (or_catS rfl rfl (by rw [List.length_map, sizeLine_eq]; simp only [List.length_cons, List.length_nil]; omega)))) ⟨rfl, nofun⟩)
  | and a c iha ihc =>
    intro ok dl r
    have dl : max a.dep c.dep + 1 ≤ 6 := dl
    have ha := (iha ⟨ok.1.1, ok.2.1⟩ (by omega) 1).mono (show a.dep + 1 ≤ max a.dep c.dep + 1 by omega)
    have hc := (ihc ⟨ok.1.2, ok.2.2⟩ (by omega) 2).mono (show c.dep + 1 ≤ max a.dep c.dep + 1 by omega)
    obtain ⟨_, _, _, _, l1⟩ := ptOf_ok a 1 ok.2.1
    obtain ⟨_, _, _, _, l2⟩ := ptOf_ok c 2 ok.2.2
    have p1 := pow_dep (show a.dep ≤ 6 by omega)
    have p2 := pow_dep (show c.dep ≤ 6 by omega)
    refine fn_P F sc_law_words (fun as h => by cases h; rfl) (by decide) fun cdv A outer s H E hr b as hp => ?_
    subst hp
    have CA : CalP P w K mg base CX0 "_law_words" _ _ _ := ⟨f, fd, _, ha, mf, F.kp, bf⟩
    have CC : CalP P w K mg base CX0 "_law_words" _ _ _ := ⟨f, fd, _, hc, mf, F.kp, bf⟩
    show XB _ _ [.d (.tuple [.str "and", frmD a, frmD c]), .d (.int (r : Nat)), .un, .un] _ _
    refine xb_cons (x_if (t_cmp (r_ix (r_var 0 rfl (by walk_at "v") rfl) r_int (ir_at (.inr rfl) rfl)) r_str (by walk_at "o")) (fun h0 => absurd h0 (by decide)) (fun _ => xb_nil fun _ => ?_))
    refine xb_cons (x_if (t_cmp (r_ix (r_var 0 rfl (by walk_at "v") rfl) r_int (ir_at (.inr rfl) rfl)) r_str (by walk_at "o")) (fun h0 => absurd h0 (by decide)) (fun _ => xb_nil fun _ => ?_))
    refine xb_cons (x_if (t_cmp (r_ix (r_var 0 rfl (by walk_at "v") rfl) r_int (ir_at (.inr rfl) rfl)) (r_lst (a_cons r_str (a_cons r_str a_nil)) rfl) (or_inS (l := ["and", "or"]) (.inl rfl) rfl)) (fun h0 => ?_) (fun h0 => absurd h0 (by decide)))
    refine xb_cons (x_set 2 (r := .d (.int (1 : Nat))) (r_callTy (T := "int") zi (a_cons (r_cmp (r_ix (r_var 0 rfl (by walk_at "v") rfl) r_int (ir_at (.inr rfl) rfl)) r_str (fun _ h => ov_eqStr h)) a_nil) (fun _ h => cv_intB (by exact h))) rfl (by walk_at "v") sc_law_words.nd rfl (fun _ => ?_))
    show XB _ _ [.d (.tuple [.str "and", frmD a, frmD c]), .d (.int (r : Nat)), .d (.int (1 : Nat)), .un] _ _
    refine xb_cons (x_set 3 (r_cool (r_bin (r_bin (r_cal CA hr pass0 (a_cons (r_ix (r_var 0 rfl (by walk_at "v") rfl) r_int (ir_at (.inr rfl) rfl)) (a_cons (r_var 2 rfl (by walk_at "v") rfl) a_nil)) rfl rfl (fun r' h => h)) (r_lst (a_cons (r_ix (r_var 0 rfl (by walk_at "v") rfl) r_int (ir_at (.inr rfl) rfl)) a_nil) rfl) (or_catS rfl rfl (by rw [List.length_map, sizeLine_eq]; simp only [List.length_cons, List.length_nil]; omega)))
      (r_cal CC hr pass0 (a_cons (r_ix (r_var 0 rfl (by walk_at "v") rfl) r_int (ir_at (.inr rfl) rfl)) (a_cons (r_bin (r_var 2 rfl (by walk_at "v") rfl) r_int (by walk_at "o")) a_nil)) rfl rfl (fun r' h => h)) (or_catS rfl rfl (by rw [List.length_append, List.length_map, List.length_map, sizeLine_eq]; simp only [List.length_cons, List.length_nil]; omega)))) rfl (by walk_at "v") sc_law_words.nd rfl (fun _ => ?_))
    have e0 : (((ptOf a 1).ws.map PyData.str ++ [.str "and"]) ++ (ptOf c 2).ws.map .str) = (Pt.and (ptOf a 1) (ptOf c 2)).ws.map .str := by
      show _ = ((ptOf a 1).ws ++ (("and" : Str) :: (ptOf c 2).ws)).map PyData.str
      rw [List.map_append, List.append_assoc]
      rfl
    have el : (Pt.and (ptOf a 1) (ptOf c 2)).ws.length ≤ 1000 := by
      show ((ptOf a 1).ws ++ (("and" : Str) :: (ptOf c 2).ws)).length ≤ _
      rw [List.length_append, List.length_cons]
      omega
    rw [e0]
    show XB _ _ [.d (.tuple [.str "and", frmD a, frmD c]), .d (.int (r : Nat)), .d (.int (1 : Nat)), .d (.list ((Pt.and (ptOf a 1) (ptOf c 2)).ws.map .str))] _ _
    by_cases hq : 1 < r
    · have e1 : ptOf (.and a c) r = .par (.and (ptOf a 1) (ptOf c 2)) := if_pos hq
      rw [e1]
      refine xb_one (x_ret (r_ifT (t_cmp (r_var 2 rfl (by walk_at "v") rfl) (r_var 1 rfl (by walk_at "v") rfl) (fun _ h => ov_lt (by rw [decide_eq_true (show ((1 : Nat) : Int) < r by omega)]; exact h))) (r_cool (r_bin (r_bin (r_lst (a_cons r_str a_nil) rfl) (r_var 3 rfl (by walk_at "v") rfl) (or_catS rfl rfl (by rw [List.length_map, sizeLine_eq]; simp only [List.length_cons, List.length_nil]; omega))) (r_lst (a_cons r_str a_nil) rfl) (or_catS rfl rfl (by rw [List.length_append, List.length_map, sizeLine_eq]; simp only [List.length_cons, List.length_nil]; omega))))) ⟨?_, nofun⟩)
      show _ = Sl.d (.list ((("(" : Str) :: ((Pt.and (ptOf a 1) (ptOf c 2)).ws ++ [(")" : Str)])).map .str))
      rw [List.map_cons, List.map_append]
      rfl
    · have e1 : ptOf (.and a c) r = .and (ptOf a 1) (ptOf c 2) := if_neg hq
      rw [e1]
      exact xb_one (x_ret (r_ifF (t_cmp (r_var 2 rfl (by walk_at "v") rfl) (r_var 1 rfl (by walk_at "v") rfl) (fun _ h => ov_lt (by rw [decide_eq_false (show ¬ ((1 : Nat) : Int) < r by omega)]; exact h))) (r_var 3 rfl (by walk_at "v") rfl)) ⟨rfl, nofun⟩)
  | or a c iha ihc =>
    intro ok dl r
    have dl : max a.dep c.dep + 1 ≤ 6 := dl
    have ha := (iha ⟨ok.1.1, ok.2.1⟩ (by omega) 0).mono (show a.dep + 1 ≤ max a.dep c.dep + 1 by omega)
    have hc := (ihc ⟨ok.1.2, ok.2.2⟩ (by omega) 1).mono (show c.dep + 1 ≤ max a.dep c.dep + 1 by omega)
    obtain ⟨_, _, _, _, l1⟩ := ptOf_ok a 0 ok.2.1
    obtain ⟨_, _, _, _, l2⟩ := ptOf_ok c 1 ok.2.2
    have p1 := pow_dep (show a.dep ≤ 6 by omega)
    have p2 := pow_dep (show c.dep ≤ 6 by omega)
    refine fn_P F sc_law_words (fun as h => by cases h; rfl) (by decide) fun cdv A outer s H E hr b as hp => ?_
    subst hp
    have CA : CalP P w K mg base CX0 "_law_words" _ _ _ := ⟨f, fd, _, ha, mf, F.kp, bf⟩
    have CC : CalP P w K mg base CX0 "_law_words" _ _ _ := ⟨f, fd, _, hc, mf, F.kp, bf⟩
    show XB _ _ [.d (.tuple [.str "or", frmD a, frmD c]), .d (.int (r : Nat)), .un, .un] _ _
    refine xb_cons (x_if (t_cmp (r_ix (r_var 0 rfl (by walk_at "v") rfl) r_int (ir_at (.inr rfl) rfl)) r_str (by walk_at "o")) (fun h0 => absurd h0 (by decide)) (fun _ => xb_nil fun _ => ?_))
    refine xb_cons (x_if (t_cmp (r_ix (r_var 0 rfl (by walk_at "v") rfl) r_int (ir_at (.inr rfl) rfl)) r_str (by walk_at "o")) (fun h0 => absurd h0 (by decide)) (fun _ => xb_nil fun _ => ?_))
    refine xb_cons (x_if (t_cmp (r_ix (r_var 0 rfl (by walk_at "v") rfl) r_int (ir_at (.inr rfl) rfl)) (r_lst (a_cons r_str (a_cons r_str a_nil)) rfl) (or_inS (l := ["and", "or"]) (.inl rfl) rfl)) (fun h0 => ?_) (fun h0 => absurd h0 (by decide)))
    refine xb_cons (x_set 2 (r := .d (.int (0 : Nat))) (r_callTy (T := "int") zi (a_cons (r_cmp (r_ix (r_var 0 rfl (by walk_at "v") rfl) r_int (ir_at (.inr rfl) rfl)) r_str (fun _ h => ov_eqStr h)) a_nil) (fun _ h => cv_intB (by exact h))) rfl (by walk_at "v") sc_law_words.nd rfl (fun _ => ?_))
    show XB _ _ [.d (.tuple [.str "or", frmD a, frmD c]), .d (.int (r : Nat)), .d (.int (0 : Nat)), .un] _ _
    refine xb_cons (x_set 3 (r_cool (r_bin (r_bin (r_cal CA hr pass0 (a_cons (r_ix (r_var 0 rfl (by walk_at "v") rfl) r_int (ir_at (.inr rfl) rfl)) (a_cons (r_var 2 rfl (by walk_at "v") rfl) a_nil)) rfl rfl (fun r' h => h)) (r_lst (a_cons (r_ix (r_var 0 rfl (by walk_at "v") rfl) r_int (ir_at (.inr rfl) rfl)) a_nil) rfl) (or_catS rfl rfl (by rw [List.length_map, sizeLine_eq]; simp only [List.length_cons, List.length_nil]; omega)))
      (r_cal CC hr pass0 (a_cons (r_ix (r_var 0 rfl (by walk_at "v") rfl) r_int (ir_at (.inr rfl) rfl)) (a_cons (r_bin (r_var 2 rfl (by walk_at "v") rfl) r_int (by walk_at "o")) a_nil)) rfl rfl (fun r' h => h)) (or_catS rfl rfl (by rw [List.length_append, List.length_map, List.length_map, sizeLine_eq]; simp only [List.length_cons, List.length_nil]; omega)))) rfl (by walk_at "v") sc_law_words.nd rfl (fun _ => ?_))
    have e0 : (((ptOf a 0).ws.map PyData.str ++ [.str "or"]) ++ (ptOf c 1).ws.map .str) = (Pt.or (ptOf a 0) (ptOf c 1)).ws.map .str := by
      show _ = ((ptOf a 0).ws ++ (("or" : Str) :: (ptOf c 1).ws)).map PyData.str
      rw [List.map_append, List.append_assoc]
      rfl
    have el : (Pt.or (ptOf a 0) (ptOf c 1)).ws.length ≤ 1000 := by
      show ((ptOf a 0).ws ++ (("or" : Str) :: (ptOf c 1).ws)).length ≤ _
      rw [List.length_append, List.length_cons]
      omega
    rw [e0]
    show XB _ _ [.d (.tuple [.str "or", frmD a, frmD c]), .d (.int (r : Nat)), .d (.int (0 : Nat)), .d (.list ((Pt.or (ptOf a 0) (ptOf c 1)).ws.map .str))] _ _
    by_cases hq : 0 < r
    · have e1 : ptOf (.or a c) r = .par (.or (ptOf a 0) (ptOf c 1)) := if_pos hq
      rw [e1]
      refine xb_one (x_ret (r_ifT (t_cmp (r_var 2 rfl (by walk_at "v") rfl) (r_var 1 rfl (by walk_at "v") rfl) (fun _ h => ov_lt (by rw [decide_eq_true (show ((0 : Nat) : Int) < r by omega)]; exact h))) (r_cool (r_bin (r_bin (r_lst (a_cons r_str a_nil) rfl) (r_var 3 rfl (by walk_at "v") rfl) (or_catS rfl rfl (by rw [List.length_map, sizeLine_eq]; simp only [List.length_cons, List.length_nil]; omega))) (r_lst (a_cons r_str a_nil) rfl) (or_catS rfl rfl (by rw [List.length_append, List.length_map, sizeLine_eq]; simp only [List.length_cons, List.length_nil]; omega))))) ⟨?_, nofun⟩)
      show _ = Sl.d (.list ((("(" : Str) :: ((Pt.or (ptOf a 0) (ptOf c 1)).ws ++ [(")" : Str)])).map .str))
      rw [List.map_cons, List.map_append]
      rfl
    · have e1 : ptOf (.or a c) r = .or (ptOf a 0) (ptOf c 1) := if_neg hq
      rw [e1]
      exact xb_one (x_ret (r_ifF (t_cmp (r_var 2 rfl (by walk_at "v") rfl) (r_var 1 rfl (by walk_at "v") rfl) (fun _ h => ov_lt (by rw [decide_eq_false (show ¬ ((0 : Nat) : Int) < r by omega)]; exact h))) (r_var 3 rfl (by walk_at "v") rfl)) ⟨rfl, nofun⟩)
theorem parN_ok (p : Pt) (h : p.ok) (hw : ∀ w ∈ p.ws, w ∈ WALL) : ∀ n : Nat, (parN n p).ok ∧ (parN n p).frm = p.frm ∧ (parN n p).ht = p.ht + n ∧ (∀ w ∈ (parN n p).ws, w ∈ WALL) ∧ (parN n p).ws.length = p.ws.length + 2 * n
  | 0 => ⟨h, rfl, rfl, hw, rfl⟩
  | n + 1 => by
    obtain ⟨h1, h2, h3, h4, h5⟩ := parN_ok p h hw n
    refine ⟨h1, h2, ?_, fun w hw => ?_, ?_⟩
    · show (parN n p).ht + 1 = _
      omega
    · rcases List.mem_cons.mp hw with rfl | hw
      · decide +kernel
      · rcases List.mem_append.mp hw with hw | hw
        · exact h4 w hw
        · rw [List.mem_singleton.mp hw]; decide +kernel
    · show (("(" : Str) :: ((parN n p).ws ++ [(")" : Str)])).length = _
      rw [List.length_cons, List.length_append, List.length_singleton]
      omega
abbrev ResM (fm : Frm) : List PyData → List Sl → Sl → List PyData → Prop := fun _ _ r ys' => PoolD ys' ∧ ∃ n : Nat, n ≤ 2 ∧ r = .d (.list ((parN n (ptOf fm 0)).ws.map .str))
theorem t_more {f fW : Addr} {fd dW : FuncData} (F : Fun K "_law_more" "_law_more" S_law_more f fd) (CT : CalB P w K mg base CX0 "_law_take" 1 PreT ResT) (FW : Fun K "_law_words" "_law_words" S_law_words fW dW) (mW : mg "_law_words" = some (.ref fW)) (bW : Binds K dW ["_law_form_here", "_law_rank"] []) (zi : mg "int" = none) (zs : mg "str" = none) (zr : mg "range" = none) (fm : Frm) (ok : FrmX fm) (dl : fm.dep ≤ 6) :
    FnOk P w K mg base CX0 8 f fd ["_law_pool_here", "_law_form_here"] (spB K (fun ys as => PoolD ys ∧ as = [.d (frmD fm)]) (ResM fm)) := by
  have CW : CalP P w K mg base CX0 "_law_words" 7 _ _ := ⟨fW, dW, _, (t_words FW mW bW zi zs fm ok dl 0).mono (by omega), mW, FW.kp, bW⟩
  obtain ⟨h1, _, _, h4, h5⟩ := ptOf_ok fm 0 ok.2
  have hpw := pow_dep dl
  refine fn_B F sc_law_more (fun ys as h => by rw [h.2]; rfl) fun cdv A outer s H E hr b ys as hp => ?_
  obtain ⟨hy, rfl⟩ := hp
  show XB _ _ [.bor ys, .d (frmD fm), .un, .un] _ _
  refine xb_cons (x_set 2 (r_cal CW hr pass0 (a_cons (r_var 1 rfl (by walk_at "v") rfl) (a_cons r_int a_nil)) rfl rfl (fun r' h => h)) rfl (by walk_at "v") sc_law_more.nd rfl (fun _ => ?_))
  show XB _ _ [.bor ys, .d (frmD fm), .d (.list ((ptOf fm 0).ws.map .str)), .un] _ _
  refine xb_cons (xs_for (ts := [3]) PassesOwn.never rfl (by intro _; rfl) (ei_range rfl zr (ev_take 0 CT (hr.mono (by decide)) rfl (by walk_at "v") pass0 rfl (.inr rfl) hy (wd := 3) r_int (by decide) (by decide) fun j ys1 a0 a1 hy1 => ⟨j, rfl, by omega, by omega, fun _ => ?_⟩)))
  refine ⟨fun i ρ' => ∃ s3, ρ' = [.bor ys1, .d (frmD fm), .d (.list ((parN i (ptOf fm 0)).ws.map .str)), s3], ⟨_, rfl⟩, ?_, ?_⟩
  · rintro i y ρ' hyi hl ⟨s3, rfl⟩
    have hi : i < 3 := by
      have := (List.getElem?_eq_some_iff.mp hyi).1
      simp [rngD] at this
      omega
    obtain ⟨_, _, _, _, q5⟩ := parN_ok (ptOf fm 0) h1 h4 i
    refine (g_name 3 rfl (by walk_at "v") sc_law_more.nd rfl) _ fun _ => ?_
    show XB _ _ [.bor ys1, .d (frmD fm), .d (.list ((parN i (ptOf fm 0)).ws.map .str)), .d y] _ _
    refine xb_one (x_set 2 (r_cool (r_bin (r_bin (r_lst (a_cons r_str a_nil) rfl) (r_var 2 rfl (by walk_at "v") rfl) (or_catS rfl rfl (by rw [List.length_map, sizeLine_eq]; simp only [List.length_cons, List.length_nil]; omega))) (r_lst (a_cons r_str a_nil) rfl) (or_catS rfl rfl (by rw [List.length_append, List.length_map, sizeLine_eq]; simp only [List.length_cons, List.length_nil]; omega)))) rfl (by walk_at "v") sc_law_more.nd rfl ⟨.d y, ?_⟩)
    show _ = [Sl.bor ys1, .d (frmD fm), .d (.list ((("(" : Str) :: ((parN i (ptOf fm 0)).ws ++ [(")" : Str)])).map .str)), .d y]
    rw [List.map_cons, List.map_append]
    rfl
  · rintro ρ' ⟨s3, rfl⟩ hl
    have hj : (rngD 0 j.toNat).length = j.toNat := by simp [rngD]
    exact xb_one (xs_ret ((r_var 2 rfl (by walk_at "v") rfl) _ (fun _ => ⟨ys1, rfl, ⟨hy1, j.toNat, by omega, by rw [hj]⟩, nofun⟩)))
/-- a text that holds these words, and how long it is -/
abbrev ResTx (ws : List Str) : List PyData → List Sl → Sl → List PyData → Prop := fun _ _ r ys' => PoolD ys' ∧ ∃ z : Str, r = .d (.str z) ∧ TxL z.cps.toList ws ∧ z.length ≤ 11 * ws.length
abbrev GAPS : List Str := [" ", "\n", "  "]
theorem gaps_ok : ∀ g ∈ GAPS, g.cps.toList = [32] ∨ g.cps.toList = [10] ∨ g.cps.toList = [32, 32] := by decide +kernel
theorem empty_cps2 : ("" : Str).cps.toList = [] := by decide +kernel
theorem t_text {f : Addr} {fd : FuncData} (F : Fun K "_law_text" "_law_text" S_law_text f fd) (CT : CalB P w K mg base CX0 "_law_take" 1 PreT ResT) {ws : List Str} (hw : ∀ w ∈ ws, w ∈ WALL) (hl : ws.length ≤ 1000) :
    FnOk P w K mg base CX0 2 f fd ["_law_pool_here", "_law_tokens"] (spB K (fun ys as => PoolD ys ∧ as = [.d (.list (ws.map .str))]) (ResTx ws)) := by
  refine fn_B F sc_law_text (fun ys as h => by rw [h.2]; rfl) fun cdv A outer s H E hr b ys as hp => ?_
  obtain ⟨hy, rfl⟩ := hp
  show XB _ _ [.bor ys, .d (.list (ws.map .str)), .un, .un, .un, .un, .un] _ _
  refine xb_cons (xs_par 2 3 rfl sc_law_text.nd rfl rfl (by decide) (by simp) (by simp) rfl rfl (ea_cons (h := (r_cool (r_lst (a_cons r_str (a_cons r_str (a_cons r_str a_nil))) rfl)) _ (ea_cons (h := r_str _ (ea_nil fun _ => ⟨_, _, rfl, fun _ => ?_⟩))))) rfl)
  show XB _ _ [.bor ys, .d (.list (ws.map .str)), .d (.list (GAPS.map .str)), .d (.str ""), .un, .un, .un] _ _
  refine xb_cons (xs_for (ts := [4]) PassesOwn.never rfl (by intro _; rfl) ((i_list (r_var 1 rfl (by walk_at "v") rfl) rfl) _ fun _ => ?_))
  refine ⟨fun i ρ' => ∃ ys z s4 s5 s6, ρ' = [.bor ys, .d (.list (ws.map .str)), .d (.list (GAPS.map .str)), .d (.str z), s4, s5, s6] ∧ PoolD ys ∧ TxL z.cps.toList (ws.take i) ∧ z.length ≤ 11 * i, ⟨_, _, _, _, _, rfl, hy, by rw [empty_cps2]; exact TxL.nil, by decide⟩, ?_, ?_⟩
  · rintro i y ρ' hyi hl' ⟨ys, z, s4, s5, s6, rfl, hy, hz, hzl⟩
    rw [List.getElem?_map] at hyi
    obtain ⟨u, hu, rfl⟩ := Option.map_eq_some_iff.mp hyi
    have hmu : u ∈ WALL := hw u (List.mem_of_getElem? hu)
    have hi := (List.getElem?_eq_some_iff.mp hu).1
    have etk : ws.take (i + 1) = ws.take i ++ [u] := by rw [List.take_add_one, hu]; rfl
    obtain ⟨ut, ul, une⟩ := TxL.word hmu
    have ul : u.length ≤ 8 := ul
    refine (g_name 4 rfl (by walk_at "v") sc_law_text.nd rfl) _ fun _ => ?_
    show XB _ _ [.bor ys, .d (.list (ws.map .str)), .d (.list (GAPS.map .str)), .d (.str z), .d (.str u), s5, s6] _ _
    refine xb_cons (xs_set 5 sc_law_text.nd rfl (by walk_at "v") (by simp) rfl (.inl rfl) (ev_menu (r_var 2 rfl (by walk_at "v") rfl) (.inl rfl) (ev_take 0 CT (hr.mono (by decide)) rfl (by walk_at "v") pass0 rfl (.inr rfl) hy (wd := 3) r_int (by decide) (by decide) fun j ys1 a0 a1 hy1 => ⟨_, rfl, a0, a1, fun y hm => ?_⟩)))
    obtain ⟨g, hg, rfl⟩ := List.mem_map.mp (List.mem_of_getElem? hm)
    obtain ⟨g1, g2, g3⟩ := gap_se (gaps_ok g hg)
    have gne : g.cps.toList ≠ [] := by rcases gaps_ok g hg with e | e | e <;> rw [e] <;> simp
    have gl : g.length ≤ 2 := by
      show g.cps.toList.length ≤ 2
      rcases gaps_ok g hg with e | e | e <;> rw [e] <;> simp
    refine fun _ _ => ?_
    show XB _ _ [.bor ys1, .d (.list (ws.map .str)), .d (.list (GAPS.map .str)), .d (.str z), .d (.str u), .d (.str g), s6] _ _
    refine xb_cons (xs_set 6 sc_law_text.nd rfl (by walk_at "v") (by simp) rfl (.inl rfl) (EV.imp (p := fun r ρ' => ∃ (t : Bool) (ys2 : List PyData), r = .d (.bool t) ∧ (isPar u = false → t = false) ∧ PoolD ys2 ∧ ρ' = [.bor ys2, .d (.list (ws.map .str)), .d (.list (GAPS.map .str)), .d (.str z), .d (.str u), .d (.str g), s6]) ?_ ?_))
    · refine ev_and ((r_cmp (r_var 4 rfl (by walk_at "v") rfl) r_str (or_inPar hmu)) _ ⟨isPar u, rfl, fun e => ⟨false, ys1, rfl, fun _ => rfl, hy1, rfl⟩, fun e => ev_one (DE.ev_cmp rfl (ev_take 0 CT (hr.mono (by decide)) rfl (by walk_at "v") pass0 rfl (.inr rfl) hy1 (wd := 2) r_int (by decide) (by decide) fun j2 ys2 b0 b1 hy2 => r_int _ (ov_eqInt ⟨_, ys2, rfl, fun e2 => ?_, hy2, rfl⟩)))⟩)
      rw [e] at e2
      cases e2
    rintro r ρ' ⟨t, ys2, rfl, ht, hy2, rfl⟩ _ _
    show XB _ _ [.bor ys2, .d (.list (ws.map .str)), .d (.list (GAPS.map .str)), .d (.str z), .d (.str u), .d (.str g), .d (.bool t)] _ _
    have hg1 : TxL (z ++ g).cps.toList (ws.take i) := by
      have := hz.app g3 (.inr g1)
      rw [List.append_nil] at this
      rw [cps_app]
      exact this
    have hend : EndL (z ++ g).cps.toList := by
      rw [cps_app]
      exact g2.app gne
    have hlz : z.length ≤ 11000 := by omega
    have hg2 : (z ++ g).length ≤ 11 * i + 2 := by rw [Str.length_append]; omega
    refine xb_cons (XS.imp (p := ⟨fun ρ' => ∃ (ys3 : List PyData) (z1 : Str), ρ' = [.bor ys3, .d (.list (ws.map .str)), .d (.list (GAPS.map .str)), .d (.str z1), .d (.str u), .d (.str g), .d (.bool t)] ∧ PoolD ys3 ∧ TxL z1.cps.toList (ws.take i) ∧ z1.length ≤ 11 * i + 2 ∧ (EndL z1.cps.toList ∨ isPar u = true), fun _ _ => False, fun _ => False, fun _ => False⟩) (xs_if (et_w (ew_or ((t_w (w_and (t_cmp (r_var 3 rfl (by walk_at "v") rfl) r_str (fun _ h => ov_neStr h)) fun _ => w_and1 (t_not (t_val (r_var 6 rfl (by walk_at "v") rfl))))) _ ⟨fun e => ?_, fun e => ?_⟩)))) ?_ (fun _ _ z => z.elim) (fun _ z => z.elim) (fun _ z => z.elim))
    · exact fun _ => ⟨fun _ => xb_one (x_set 3 (r_bin (r_var 3 rfl (by walk_at "v") rfl) (r_var 5 rfl (by walk_at "v") rfl) (or_addS (by rw [sizeLine_eq]; omega))) rfl (by walk_at "v") sc_law_text.nd rfl ⟨ys2, z ++ g, rfl, hy2, hg1, hg2, .inl hend⟩), fun e => nomatch e⟩
    · refine ew_or1 (et_cmp rfl (ev_take 0 CT (hr.mono (by decide)) rfl (by walk_at "v") pass0 rfl (.inr rfl) hy2 (wd := 4) r_int (by decide) (by decide) fun j3 ys3 b0 b1 hy3 => r_int _ (ov_eqInt ⟨_, rfl, fun _ => ⟨fun _ => xb_one (x_set 3 (r_bin (r_var 3 rfl (by walk_at "v") rfl) (r_var 5 rfl (by walk_at "v") rfl) (or_addS (by rw [sizeLine_eq]; omega))) rfl (by walk_at "v") sc_law_text.nd rfl ⟨ys3, z ++ g, rfl, hy3, hg1, hg2, .inl hend⟩), fun _ => xb_nil ⟨ys3, z, rfl, hy3, hz, by omega, ?_⟩⟩⟩)))
      by_cases hz0 : z = ""
      · rw [hz0, empty_cps2]
        exact .inl EndL.nil
      · rw [decide_eq_false hz0] at e
        cases t with
        | false => cases e
        | true =>
          cases hp : isPar u with
          | false => exact absurd (ht hp) (by decide)
          | true => exact .inr rfl
    rintro ρ' ⟨ys3, z1, rfl, hy3, h1, h2, h3⟩ _
    have h4 : TxL (z1 ++ u).cps.toList (ws.take (i + 1)) := by
      rw [cps_app, etk]
      refine h1.app ut (h3.imp_right fun hp => (par_se ?_).1)
      unfold isPar at hp
      rw [Bool.or_eq_true, decide_eq_true_iff, decide_eq_true_iff] at hp
      exact hp
    have h5 : (z1 ++ u).length ≤ 11 * i + 10 := by rw [Str.length_append]; omega
    show XB _ _ [.bor ys3, .d (.list (ws.map .str)), .d (.list (GAPS.map .str)), .d (.str z1), .d (.str u), .d (.str g), .d (.bool t)] _ _
    refine xb_cons (x_set 3 (r_bin (r_var 3 rfl (by walk_at "v") rfl) (r_var 4 rfl (by walk_at "v") rfl) (or_addS (by rw [sizeLine_eq]; omega))) rfl (by walk_at "v") sc_law_text.nd rfl (fun _ => ?_))
    generalize z1 ++ u = z2 at h4 h5
    show XB _ _ [.bor ys3, .d (.list (ws.map .str)), .d (.list (GAPS.map .str)), .d (.str z2), .d (.str u), .d (.str g), .d (.bool t)] _ _
    have k0 : TxL (z2 ++ "").cps.toList (ws.take (i + 1)) := by
      rw [cps_app, empty_cps2, List.append_nil]
      exact h4
    have k1 : TxL (z2 ++ " ").cps.toList (ws.take (i + 1)) := by
      have e32 : (" " : Str).cps.toList = [32] := by decide +kernel
      obtain ⟨q1, q2, q3⟩ := gap_se (l := [32]) (.inl rfl)
      have := h4.app q3 (.inr q1)
      rw [List.append_nil] at this
      rw [cps_app, e32]
      exact this
    have l0 : (z2 ++ "").length ≤ 11 * (i + 1) := by
      have : ("" : Str).length = 0 := by decide +kernel
      rw [Str.length_append]; omega
    have l1 : (z2 ++ " ").length ≤ 11 * (i + 1) := by
      have : (" " : Str).length = 1 := by decide +kernel
      rw [Str.length_append]; omega
    have z0 : z2.length + ("" : Str).length ≤ sizeLine := by
      have : ("" : Str).length = 0 := by decide +kernel
      rw [sizeLine_eq]; omega
    have z1' : z2.length + (" " : Str).length ≤ sizeLine := by
      have : (" " : Str).length = 1 := by decide +kernel
      rw [sizeLine_eq]; omega
    refine xb_one (xs_set 3 sc_law_text.nd rfl (by walk_at "v") (by simp) rfl (.inl rfl) (ev_bin ((r_var 3 rfl (by walk_at "v") rfl) _ (ev_if (et_w (ew_or ((t_cmp (r_var 4 rfl (by walk_at "v") rfl) r_str (or_niPar hmu)) _ ⟨fun e => ⟨fun _ => r_str _ (or_addS z0 _ fun _ => ⟨ys3, _, _, _, _, rfl, hy3, k0, l0⟩), fun e => nomatch e⟩, fun e => ew_or1 (et_cmp rfl (ev_take 0 CT (hr.mono (by decide)) rfl (by walk_at "v") pass0 rfl (.inr rfl) hy3 (wd := 2) r_int (by decide) (by decide) fun j4 ys4 b0 b1 hy4 => r_int _ (ov_eqInt ⟨_, rfl, fun _ => r_str _ (or_addS z0 _ fun _ => ⟨ys4, _, _, _, _, rfl, hy4, k0, l0⟩), fun _ => r_str _ (or_addS z1' _ fun _ => ⟨ys4, _, _, _, _, rfl, hy4, k1, l1⟩)⟩)))⟩)))))))
  · rintro ρ' ⟨ys, z, s4, s5, s6, rfl, hy, hz, hzl⟩ hl'
    rw [List.length_map] at hzl hz
    rw [List.take_length] at hz
    exact xb_one (xs_ret ((r_var 3 rfl (by walk_at "v") rfl) _ (fun _ => ⟨ys, rfl, ⟨hy, z, rfl, hz, hzl⟩, nofun⟩)))
end

end K82

namespace K82
open PySem L2 SZ VR VX StX RT DE
/-! ### == of conditions -/
def eqF (f g : Frm) : Bool := PyData.eqv (frmD f) (frmD g)
def hdF : Frm → Str
  | .any => "any"
  | .atom f _ => f
  | .not _ => "not"
  | .and _ _ => "and"
  | .or _ _ => "or"
theorem eqF_hd {f g : Frm} (h : hdF f ≠ hdF g) : eqF f g = false := by
  unfold eqF
  cases f <;> cases g <;> simp only [hdF] at h <;> simp [frmD, PyData.eqv, PyData.eqvAll, h] <;> exact absurd rfl h
theorem eqF_any : eqF .any .any = true := by simp [eqF, frmD, PyData.eqv, PyData.eqvAll]
theorem eqF_atom (f : Str) (y z : PyData) : eqF (.atom f y) (.atom f z) = PyData.eqv y z := by simp [eqF, frmD, PyData.eqv, PyData.eqvAll]
theorem eqF_not (a b : Frm) : eqF (.not a) (.not b) = eqF a b := by simp [eqF, frmD, PyData.eqv, PyData.eqvAll]
theorem eqF_and (a b c d : Frm) : eqF (.and a b) (.and c d) = (eqF a c && eqF b d) := by simp [eqF, frmD, PyData.eqv, PyData.eqvAll]
theorem eqF_or (a b c d : Frm) : eqF (.or a b) (.or c d) = (eqF a c && eqF b d) := by simp [eqF, frmD, PyData.eqv, PyData.eqvAll]
theorem AtOk.sc {f : Str} {y : PyData} (h : AtOk f y) : (∃ z, y = .str z) ∨ ∃ i, y = .int i := by
  rcases h with ⟨n, _, e, _⟩ | ⟨z, e, _⟩
  · exact .inr ⟨n, e⟩
  · exact .inl ⟨z, e⟩
theorem eqF_refl : ∀ {f : Frm}, FrmT f → eqF f f = true
  | .any, _ => eqF_any
  | .atom g y, h => by
    rw [eqF_atom]
    rcases h.2.1.sc with ⟨z, rfl⟩ | ⟨i, rfl⟩ <;> simp [PyData.eqv]
  | .not a, h => by rw [eqF_not]; exact eqF_refl (f := a) h
  | .and a b, h => by rw [eqF_and, eqF_refl (f := a) h.1, eqF_refl (f := b) h.2]; rfl
  | .or a b, h => by rw [eqF_or, eqF_refl (f := a) h.1, eqF_refl (f := b) h.2]; rfl
/-- equal values, as the data say -/
theorem eqV_sc {K : PySem.W.Frag} {H : Hp} {v w : V} {f g : Str} {y z : PyData} (hy : AtOk f y) (hz : AtOk g z) (h1 : Dp K H v y) (h2 : Dp K H w z) : flatV v = true ∧ flatV w = true ∧ eqV v w = PyData.eqv y z := by
  rcases hy.sc with ⟨a, rfl⟩ | ⟨a, rfl⟩ <;> rcases hz.sc with ⟨b, rfl⟩ | ⟨b, rfl⟩ <;> cases h1 <;> cases h2 <;> refine ⟨rfl, rfl, ?_⟩
  · simp [eqV, PyData.eqv]
  · simp [eqV, PyData.eqv]
  · simp [eqV, PyData.eqv]
  · simp [eqV, PyData.eqv]
theorem fld_words {f g : Str} (h : f ∈ FLD) (e : f = g) : g ≠ "any" ∧ g ≠ "not" ∧ g ≠ "and" ∧ g ≠ "or" := by subst e; exact fld_ne h
theorem PtAt.inj {X : Cx} {pins : List (Addr × Obj)} {σ : St} {s : Shared} {C : Addr} {H : Hp} {c : Addr} {xs ys : List V} (I : Inv X pins σ H s) (h : PtAt X.K C H c xs) (k : PtAt X.K C H c ys) : xs = ys := by
  obtain ⟨dx, t, h1, _, h3⟩ := h
  obtain ⟨dy, u, k1, _, k3⟩ := k
  rw [h1] at k1
  cases k1
  exact I.tuple_inj h3 k3
theorem CndAt.pts {K : PySem.W.Frag} {C : Addr} {H : Hp} : ∀ {f : Frm} {c : Addr}, CndAt K C H f c → ∃ xs, PtAt K C H c (.str (hdF f) :: xs)
  | .any, _, h => ⟨_, h⟩
  | .atom _ _, _, h => let ⟨_, h1, _⟩ := h; ⟨_, h1⟩
  | .not _, _, h => let ⟨_, h1, _⟩ := h; ⟨_, h1⟩
  | .and _ _, _, h => let ⟨_, _, h1, _⟩ := h; ⟨_, h1⟩
  | .or _ _, _, h => let ⟨_, _, h1, _⟩ := h; ⟨_, h1⟩
theorem CndAt.inj {X : Cx} {pins : List (Addr × Obj)} {σ : St} {s : Shared} {C : Addr} {H : Hp} (I : Inv X pins σ H s) : ∀ {f g : Frm} {c : Addr}, FrmT f → FrmT g → CndAt X.K C H f c → CndAt X.K C H g c → f = g
  | f, g, c, tf, tg, hf, hg => by
    obtain ⟨xs, hx⟩ := hf.pts
    obtain ⟨ys, hy⟩ := hg.pts
    have e := hx.inj I hy
    have e0 : hdF f = hdF g := by injection e with e _; injection e
    cases f with
    | any => cases g with
      | any => rfl
      | atom g z => exact absurd e0.symm (fld_ne tg.1).1
      | not _ => exact absurd e0 (by simp only [hdF]; decide)
      | and _ _ => exact absurd e0 (by simp only [hdF]; decide)
      | or _ _ => exact absurd e0 (by simp only [hdF]; decide)
    | atom f y => cases g with
      | any => exact absurd e0 (fld_ne tf.1).1
      | not _ => exact absurd e0 (fld_ne tf.1).2.1
      | and _ _ => exact absurd e0 (fld_ne tf.1).2.2.1
      | or _ _ => exact absurd e0 (fld_ne tf.1).2.2.2
      | atom g z =>
        have e0 : f = g := e0
        subst e0
        obtain ⟨v, h1, h2⟩ := hf
        obtain ⟨w, k1, k2⟩ := hg
        have e := h1.inj I k1
        injection e with _ e
        injection e with e _
        subst e
        rcases tf.2.1.sc with ⟨a, rfl⟩ | ⟨a, rfl⟩ <;> rcases tg.2.1.sc with ⟨b, rfl⟩ | ⟨b, rfl⟩ <;> cases h2 <;> cases k2 <;> rfl
    | not a => cases g with
      | any => exact absurd e0 (by simp only [hdF]; decide)
      | atom g z => exact absurd e0.symm (fld_ne tg.1).2.1
      | and _ _ => exact absurd e0 (by simp only [hdF]; decide)
      | or _ _ => exact absurd e0 (by simp only [hdF]; decide)
      | not b =>
        obtain ⟨p, h1, h2⟩ := hf
        obtain ⟨q, k1, k2⟩ := hg
        have e := h1.inj I k1
        injection e with _ e
        injection e with e _
        injection e with e
        subst e
        rw [CndAt.inj I (f := a) (g := b) tf tg h2 k2]
    | and a b => cases g with
      | any => exact absurd e0 (by simp only [hdF]; decide)
      | atom g z => exact absurd e0.symm (fld_ne tg.1).2.2.1
      | not _ => exact absurd e0 (by simp only [hdF]; decide)
      | or _ _ => exact absurd e0 (by simp only [hdF]; decide)
      | and c d =>
        obtain ⟨p, q, h1, h2, h3⟩ := hf
        obtain ⟨p', q', k1, k2, k3⟩ := hg
        have e := h1.inj I k1
        injection e with _ e
        injection e with e e'
        injection e with e
        injection e' with e' _
        injection e' with e'
        subst e e'
        rw [CndAt.inj I (f := a) (g := c) tf.1 tg.1 h2 k2, CndAt.inj I (f := b) (g := d) tf.2 tg.2 h3 k3]
    | or a b => cases g with
      | any => exact absurd e0 (by simp only [hdF]; decide)
      | atom g z => exact absurd e0.symm (fld_ne tg.1).2.2.2
      | not _ => exact absurd e0 (by simp only [hdF]; decide)
      | and _ _ => exact absurd e0 (by simp only [hdF]; decide)
      | or c d =>
        obtain ⟨p, q, h1, h2, h3⟩ := hf
        obtain ⟨p', q', k1, k2, k3⟩ := hg
        have e := h1.inj I k1
        injection e with _ e
        injection e with e e'
        injection e with e
        injection e' with e' _
        injection e' with e'
        subst e e'
        rw [CndAt.inj I (f := a) (g := c) tf.1 tg.1 h2 k2, CndAt.inj I (f := b) (g := d) tf.2 tg.2 h3 k3]
/-- two conditions, and whether they are equal; n bounds the first's depth -/
def EqC (K : PySem.W.Frag) (C : Addr) (n : Nat) : Addr → Addr → Bool → Hp → Prop := fun a b c H => ∃ f g : Frm, f.dep < n ∧ FrmT f ∧ FrmT g ∧ CndAt K C H f a ∧ CndAt K C H g b ∧ c = eqF f g
def spCE (K : PySem.W.Frag) (C : Addr) (n : Nat) : Sp := fun vs H Q E => spEqB (EqC K C n) vs H Q E ∨ ∃ (a : Addr) (w : V) (dx : Addr) (fs : List (Str × V)) , vs = [.ref a, w] ∧ H a = some (.ins C dx fs) ∧ TyX K H w (.type "tuple") ∧ Q (.bl false) H
/-- what stands side by side in two tuples of parts -/
def DIt (K : PySem.W.Frag) (C : Addr) (n : Nat) : EqvB := fun x y c H => DFlatB x y c H ∨ DInsB C (EqC K C n) x y c H
theorem dins_of {K : PySem.W.Frag} {C : Addr} {H : Hp} {n : Nat} {f g : Frm} {a b : Addr} (hd : f.dep < n) (tf : FrmT f) (tg : FrmT g) (ha : CndAt K C H f a) (hb : CndAt K C H g b) : DInsB C (EqC K C n) (.ref a) (.ref b) (eqF f g) H := by
  obtain ⟨xs, h1⟩ := ha.ins
  obtain ⟨ys, h2⟩ := hb.ins
  obtain ⟨dx, t, i1, _, _⟩ := h1
  obtain ⟨dy, u, i2, _, _⟩ := h2
  exact ⟨a, b, dx, dy, _, _, rfl, rfl, i1, i2, f, g, hd, tf, tg, ha, hb, rfl⟩
/-- the parts of two conditions, side by side -/
theorem dtup_of {K : PySem.W.Frag} {C : Addr} {H : Hp} {n : Nat} {f g : Frm} {a b : Addr} (hd : f.dep < n + 1) (tf : FrmT f) (tg : FrmT g) (ha : CndAt K C H f a) (hb : CndAt K C H g b) : ∃ (dx t dy u : Addr), H a = some (.ins C dx [("_parts", .ref t)]) ∧ H b = some (.ins C dy [("_parts", .ref u)]) ∧ DTupB K (DIt K C n) (.ref t) (.ref u) (eqF f g) H := by
  by_cases e0 : hdF f = hdF g
  · cases f with
    | any => cases g with
      | any =>
        obtain ⟨dx, t, h1, _, h3⟩ := ha
        obtain ⟨dy, u, k1, _, k3⟩ := hb
        refine ⟨dx, t, dy, u, h1, k1, t, u, _, _, fun _ => true, rfl, rfl, h3, k3, fun i x y hx hy _ => ?_, by rw [eqF_any]; rfl⟩
        match i, hx, hy with
        | 0, hx, hy => cases hx; cases hy; exact .inl ⟨rfl, rfl, by simp [eqV]⟩
        | i + 1, hx, hy => cases hx
      | atom g z => exact absurd e0.symm (fld_ne tg.1).1
      | not _ => exact absurd e0 (by simp only [hdF]; decide)
      | and _ _ => exact absurd e0 (by simp only [hdF]; decide)
      | or _ _ => exact absurd e0 (by simp only [hdF]; decide)
    | atom f y => cases g with
      | any => exact absurd e0 (fld_ne tf.1).1
      | not _ => exact absurd e0 (fld_ne tf.1).2.1
      | and _ _ => exact absurd e0 (fld_ne tf.1).2.2.1
      | or _ _ => exact absurd e0 (fld_ne tf.1).2.2.2
      | atom g z =>
        have e0 : f = g := e0
        subst e0
        obtain ⟨v, ⟨dx, t, h1, _, h3⟩, h4⟩ := ha
        obtain ⟨w, ⟨dy, u, k1, _, k3⟩, k4⟩ := hb
        obtain ⟨f1, f2, f3⟩ := eqV_sc tf.2.1 tg.2.1 h4 k4
        refine ⟨dx, t, dy, u, h1, k1, t, u, _, _, fun i => if i = 1 then PyData.eqv y z else true, rfl, rfl, h3, k3, fun i x y hx hy _ => ?_, by rw [eqF_atom]; simp [List.range_succ]⟩
        match i, hx, hy with
        | 0, hx, hy => cases hx; cases hy; exact .inl ⟨rfl, rfl, by simp [eqV]⟩
        | 1, hx, hy => cases hx; cases hy; exact .inl ⟨f1, f2, f3⟩
        | i + 2, hx, hy => cases hx
    | not a => cases g with
      | any => exact absurd e0 (by simp only [hdF]; decide)
      | atom g z => exact absurd e0.symm (fld_ne tg.1).2.1
      | and _ _ => exact absurd e0 (by simp only [hdF]; decide)
      | or _ _ => exact absurd e0 (by simp only [hdF]; decide)
      | not b =>
        obtain ⟨p, ⟨dx, t, h1, _, h3⟩, h4⟩ := ha
        obtain ⟨q, ⟨dy, u, k1, _, k3⟩, k4⟩ := hb
        have hd : a.dep + 1 < n + 1 := hd
        refine ⟨dx, t, dy, u, h1, k1, t, u, _, _, fun i => if i = 1 then eqF a b else true, rfl, rfl, h3, k3, fun i x y hx hy _ => ?_, by rw [eqF_not]; simp [List.range_succ]⟩
        match i, hx, hy with
        | 0, hx, hy => cases hx; cases hy; exact .inl ⟨rfl, rfl, by simp [eqV]⟩
        | 1, hx, hy => cases hx; cases hy; exact .inr (dins_of (by omega) tf tg h4 k4)
        | i + 2, hx, hy => cases hx
    | and a b => cases g with
      | any => exact absurd e0 (by simp only [hdF]; decide)
      | atom g z => exact absurd e0.symm (fld_ne tg.1).2.2.1
      | not _ => exact absurd e0 (by simp only [hdF]; decide)
      | or _ _ => exact absurd e0 (by simp only [hdF]; decide)
      | and c d =>
        obtain ⟨p, q, ⟨dx, t, h1, _, h3⟩, h4, h5⟩ := ha
        obtain ⟨p', q', ⟨dy, u, k1, _, k3⟩, k4, k5⟩ := hb
        have hd : max a.dep b.dep + 1 < n + 1 := hd
        refine ⟨dx, t, dy, u, h1, k1, t, u, _, _, fun i => if i = 1 then eqF a c else if i = 2 then eqF b d else true, rfl, rfl, h3, k3, fun i x y hx hy _ => ?_, by rw [eqF_and]; simp [List.range_succ]⟩
        match i, hx, hy with
        | 0, hx, hy => cases hx; cases hy; exact .inl ⟨rfl, rfl, by simp [eqV]⟩
        | 1, hx, hy => cases hx; cases hy; exact .inr (dins_of (by omega) tf.1 tg.1 h4 k4)
        | 2, hx, hy => cases hx; cases hy; exact .inr (dins_of (by omega) tf.2 tg.2 h5 k5)
        | i + 3, hx, hy => cases hx
    | or a b => cases g with
      | any => exact absurd e0 (by simp only [hdF]; decide)
      | atom g z => exact absurd e0.symm (fld_ne tg.1).2.2.2
      | not _ => exact absurd e0 (by simp only [hdF]; decide)
      | and _ _ => exact absurd e0 (by simp only [hdF]; decide)
      | or c d =>
        obtain ⟨p, q, ⟨dx, t, h1, _, h3⟩, h4, h5⟩ := ha
        obtain ⟨p', q', ⟨dy, u, k1, _, k3⟩, k4, k5⟩ := hb
        have hd : max a.dep b.dep + 1 < n + 1 := hd
        refine ⟨dx, t, dy, u, h1, k1, t, u, _, _, fun i => if i = 1 then eqF a c else if i = 2 then eqF b d else true, rfl, rfl, h3, k3, fun i x y hx hy _ => ?_, by rw [eqF_or]; simp [List.range_succ]⟩
        match i, hx, hy with
        | 0, hx, hy => cases hx; cases hy; exact .inl ⟨rfl, rfl, by simp [eqV]⟩
        | 1, hx, hy => cases hx; cases hy; exact .inr (dins_of (by omega) tf.1 tg.1 h4 k4)
        | 2, hx, hy => cases hx; cases hy; exact .inr (dins_of (by omega) tf.2 tg.2 h5 k5)
        | i + 3, hx, hy => cases hx
  · obtain ⟨xs, dx, t, h1, _, h3⟩ := ha.pts
    obtain ⟨ys, dy, u, k1, _, k3⟩ := hb.pts
    refine ⟨dx, t, dy, u, h1, k1, t, u, _, _, fun _ => false, rfl, rfl, h3, k3, fun i x y hx hy hj => ?_, ?_⟩
    · match i, hx, hy with
      | 0, hx, hy => cases hx; cases hy; exact .inl ⟨rfl, rfl, by simp [eqV, e0]⟩
      | i + 1, hx, hy => exact absurd (hj 0 (Nat.succ_pos i)) (by decide)
    · rw [eqF_hd e0]
      have : 0 < min (V.str (hdF f) :: xs).length (V.str (hdF g) :: ys).length := by simp only [List.length_cons]; omega
      obtain ⟨m, hm⟩ : ∃ m, min (V.str (hdF f) :: xs).length (V.str (hdF g) :: ys).length = m + 1 := ⟨_, (Nat.succ_pred_eq_of_pos this).symm⟩
      rw [hm, List.range_succ_eq_map]
      rfl
section
variable {P : Program} {w : World} {K : PySem.W.Frag} {mg : Str → Option Value} {base : Heap} {C : Addr}
theorem eqB_ins {X : Cx} {f : Addr} {fd : FuncData} {k n : Nat} (G : FnOk X.prog X.w X.K X.mg X.base CX0 k f fd ["self", "other"] (spCE X.K C n)) (hs : PySem.W.findIn X.K (.ref C) "__eq__" = some (some (.ref f))) (hf : PySem.W.isFn X.K (.ref f) = true) (hb : Binds X.K fd ["self", "other"] []) : EqB X k (DIt X.K C n) :=
  (eqB_flat.mono (Nat.zero_le _)).or ((rcB_ins G (fun _ _ _ _ h => .inl h) hs hf hb pass0).eqB fun x y c H ⟨a, b, dx, dy, fs, gs, ex, ey, h1, h2, f, g, hd, tf, tg, ha, hb, ec⟩ => ⟨a, b, ex, ey, fun hab pins σ s I => by
    subst hab
    have := ha.inj I tf tg hb
    subst this
    rw [ec]
    exact eqF_refl tf⟩)
theorem eq_run {f : Addr} {fd : FuncData} (F : Fun K "__eq__" "Condition.__eq__" S_Condition___eq__ f fd) (Z : CnC K mg C) (hs : PySem.W.findIn K (.ref C) "__eq__" = some (some (.ref f))) (hf : PySem.W.isFn K (.ref f) = true) (hb : Binds K fd ["self", "other"] []) (hT : PySem.W.subIn K (.type "tuple") (.ref C) = some false) {n k : Nat} (G : FnOk P w K mg base CX0 k f fd ["self", "other"] (spCE K C n)) : FnOk P w K mg base CX0 (k + 2) f fd ["self", "other"] (spCE K C (n + 1)) := by
  refine F.ok sc_Condition___eq__ (fun vs H Q E h => ?_) (fun cdv A outer s H vs Q E hr h => ?_)
  · rcases h with ⟨a, b, c, rfl, _⟩ | ⟨a, w, dx, fs, rfl, _⟩ <;> rfl
  have hq : EqB (cxOf CX0 P w K mg base ["self", "other"] "Condition.__eq__" (defScope S_Condition___eq__) f cdv A outer s H E).nox k (DIt K C n) := eqB_ins (X := (cxOf CX0 P w K mg base ["self", "other"] "Condition.__eq__" (defScope S_Condition___eq__) f cdv A outer s H E).nox) G hs hf hb
  refine ⟨_, pss_one (ps_ret (pe_and (pe_callB call_isi (by rfl) Z.isi (by decide +kernel) (pa_cons (pv 1) (pa_cons (pe_glob (by rfl) Z.mgC (v := .ref C) rfl) pa_nil)))
    (pe_one (pe_cmpR (op_eqB (rcB_tup hq) hr) (pe_fld (pv 0) rfl) (pe_fld (pv 1) rfl) (nomark _))))), ?_⟩
  rcases h with ⟨a, b, c, rfl, ⟨g1, g2, hd, t1, t2, h1, h2, rfl⟩, q⟩ | ⟨a, w, dx, fs, rfl, ha, ty, q⟩
  · obtain ⟨dx, t, dy, u, i1, i2, hD⟩ := dtup_of hd t1 t2 h1 h2
    refine ⟨_, rfl, .ref b, .ref C, .ref C, .ref C, true, rfl, .own C, Z.kit.ty i2, kit_self (by simp), true, rfl, iteT ?_⟩
    exact ⟨_, rfl, a, C, dx, _, _, rfl, i1, Z.kit.cl, Z.nP, rfl, _, rfl, b, C, dy, _, _, rfl, i2, Z.kit.cl, Z.nP, rfl, _, hD, q⟩
  · exact ⟨_, rfl, w, .ref C, _, .ref C, false, rfl, .own C, ty, kit_cls_ref Z.isC Z.tyC rfl hT, false, rfl, iteF q⟩
theorem eq_run0 {f : Addr} {fd : FuncData} (F : Fun K "__eq__" "Condition.__eq__" S_Condition___eq__ f fd) (Z : CnC K mg C) (hT : PySem.W.subIn K (.type "tuple") (.ref C) = some false) : FnOk P w K mg base CX0 1 f fd ["self", "other"] (spCE K C 0) := by
  refine F.ok sc_Condition___eq__ (fun vs H Q E h => ?_) (fun cdv A outer s H vs Q E hr h => ?_)
  · rcases h with ⟨a, b, c, rfl, _⟩ | ⟨a, w, dx, fs, rfl, _⟩ <;> rfl
  refine ⟨_, pss_one (ps_ret (pe_and (pe_callB call_isi (by rfl) Z.isi (by decide +kernel) (pa_cons (pv 1) (pa_cons (pe_glob (by rfl) Z.mgC (v := .ref C) rfl) pa_nil)))
    (pe_one (pe_cmpR op_eq (pe_fld (pv 0) rfl) (pe_fld (pv 1) rfl) (nomark _))))), ?_⟩
  rcases h with ⟨a, b, c, rfl, ⟨g1, g2, hd, _⟩, q⟩ | ⟨a, w, dx, fs, rfl, ha, ty, q⟩
  · exact absurd hd (Nat.not_lt_zero _)
  · exact ⟨_, rfl, w, .ref C, _, .ref C, false, rfl, .own C, ty, kit_cls_ref Z.isC Z.tyC rfl hT, false, rfl, iteF q⟩
theorem ok_ceq {f : Addr} {fd : FuncData} (F : Fun K "__eq__" "Condition.__eq__" S_Condition___eq__ f fd) (Z : CnC K mg C) (hs : PySem.W.findIn K (.ref C) "__eq__" = some (some (.ref f))) (hf : PySem.W.isFn K (.ref f) = true) (hb : Binds K fd ["self", "other"] []) (hT : PySem.W.subIn K (.type "tuple") (.ref C) = some false) : ∀ n : Nat, FnOk P w K mg base CX0 (2 * n + 1) f fd ["self", "other"] (spCE K C n)
  | 0 => eq_run0 F Z hT
  | n + 1 => eq_run F Z hs hf hb hT (ok_ceq F Z hs hf hb hT n)
end

end K82

namespace K82
open PySem L2 SZ VR VX StX RT DE
/-! ### what the law calls, in DE -/
section
variable {P : Program} {w : World} {K : PySem.W.Frag} {mg : Str → Option Value} {base : Heap} {C : Addr}
theorem t_read {f : Addr} {fd : FuncData} (G : FnOk P w K mg base CX0 26 f fd ["text"] (spRead K C)) {z : Str} {p : Pt} (hz : z.length ≤ 50000) (ht : Told z p.ws) (ok : p.ok) (hh : p.ht ≤ 5) : FnOk P w K mg base CX0 26 f fd ["text"] (spP K (PreO [.d (.str z)]) (ResO (CndF K C p.frm))) := G.frm.imp fun vs H Q E y => by
  obtain ⟨G, as, l, hG, rfl, hq⟩ := y
  match vs, l with
  | [v], _ =>
    obtain ⟨v', e, hv⟩ := hG.ok (some v, .d (.str z)) (by simp)
    cases e
    cases hv
    exact ⟨G, hG.up, hG.fl, z, p, rfl, hz, ht, ok, hh, fun c G' s hc H' h1 h2 h3 => hq _ rfl nofun (.ref c) H' (hG.oldF s ⟨c, rfl, hc.flt s⟩ h1 h2 h3)⟩
def GoodW (ws : List Str) : Prop := (∀ w ∈ ws, w ∈ WALL) ∧ ws.length ≤ 1000
abbrev PreU : List PyData → List Sl → Prop := fun ys as => PoolD ys ∧ ∃ ws, GoodW ws ∧ as = [.d (.list (ws.map .str))]
abbrev ResU : List PyData → List Sl → Sl → List PyData → Prop := fun ys as r ys' => ∃ ws : List Str, as = [.d (.list (ws.map .str))] ∧ ResTx ws ys as r ys'
theorem fnok_any {CX : CXT} {k : Nat} {f : Addr} {fd : FuncData} {ps : List Str} {sp : Sp} (h : ∀ vs H Q E, sp vs H Q E → ∃ sp', FnOk P w K mg base CX k f fd ps sp' ∧ sp' vs H Q E) : FnOk P w K mg base CX k f fd ps sp :=
  ⟨fun vs H Q E q => let ⟨_, F, z⟩ := h _ _ _ _ q; F.len vs H Q E z, fun A outer s H args us vs Q E hr he hb hv hs => let ⟨_, F, z⟩ := h _ _ _ _ hs; F.run A outer s H args us vs Q E hr he hb hv z⟩
theorem map_str_inj : ∀ {a b : List Str}, a.map PyData.str = b.map PyData.str → a = b
  | [], [], _ => rfl
  | [], _ :: _, h => by simp at h
  | _ :: _, [], h => by simp at h
  | x :: a, y :: b, h => by
    simp only [List.map_cons, List.cons.injEq, PyData.str.injEq] at h
    rw [h.1, map_str_inj h.2]
theorem t_textU {f : Addr} {fd : FuncData} (F : Fun K "_law_text" "_law_text" S_law_text f fd) (CT : CalB P w K mg base CX0 "_law_take" 1 PreT ResT) : FnOk P w K mg base CX0 2 f fd ["_law_pool_here", "_law_tokens"] (spB K PreU ResU) := fnok_any fun vs H Q E z => by
  obtain ⟨G, a, us, ys, as, e, l, hG, ⟨hy, ws, gw, rfl⟩, h⟩ := z
  exact ⟨_, t_text F CT gw.1 gw.2, G, a, us, ys, _, e, l, hG, ⟨hy, rfl⟩, fun r ys' hr => h r ys' ⟨ws, rfl, hr⟩⟩
/-- == and != of the class -/
structure EqL (P : Program) (w : World) (K : PySem.W.Frag) (mg : Str → Option Value) (base : Heap) (C : Addr) : Prop where
  eq : ∃ f fd, PySem.W.findIn K (.ref C) "__eq__" = some (some (.ref f)) ∧ PySem.W.isFn K (.ref f) = true ∧ Binds K fd ["self", "other"] [] ∧ ∀ n, FnOk P w K mg base CX0 (2 * n + 1) f fd ["self", "other"] (spCE K C n)
  ne : PySem.W.findIn K (.ref C) "__ne__" = some (some (.builtin "object.__ne__"))
  subT : PySem.W.subIn K (.type "tuple") (.ref C) = some false
structure LwD (P : Program) (w : World) (K : PySem.W.Frag) (mg : Str → Option Value) (base : Heap) (C : Addr) : Prop where
  Z : CnL P w K mg base C
  E : EqL P w K mg base C
  pool : CalP P w K mg base CX0 "_law_pool" 1 PreP ResP
  take : CalB P w K mg base CX0 "_law_take" 1 PreT ResT
  atoms : CalB P w K mg base CX0 "_law_atoms" 2 PreN ResAtX
  form : ∀ n, n ≤ 3 → CalB P w K mg base CX0 "_law_form" 6 (PreF n) (ResFX n)
  words : ∀ fm, FrmX fm → fm.dep ≤ 3 → CalP P w K mg base CX0 "_law_words" 4 (PreO [.d (frmD fm), .d (.int 0)]) (ResO (.d (.list ((ptOf fm 0).ws.map .str))))
  more : ∀ fm, FrmX fm → fm.dep ≤ 3 → CalB P w K mg base CX0 "_law_more" 8 (fun ys as => PoolD ys ∧ as = [.d (frmD fm)]) (ResM fm)
  text : CalB P w K mg base CX0 "_law_text" 2 PreU ResU
  built : ∀ fm : Frm, FrmOk fm → CalP P w K mg base CX0 "_law_built" (fm.dep + 7) (PreO [.d (frmD fm)]) (ResO (CndF K C fm))
  like : ∃ f fd, mg "_law_is_like" = some (.ref f) ∧ PySem.W.keepIn K (.ref f) = true ∧ Binds K fd ["_law_condition", "_law_form_here"] [] ∧ ∀ n, FnOk P w K mg base CX0 (n + 1) f fd ["_law_condition", "_law_form_here"] (spLkN K C n)
  read : ∀ (z : Str) (p : Pt), z.length ≤ 50000 → Told z p.ws → p.ok → p.ht ≤ 5 → CalP P w K mg base CX0 "read_condition" 26 (PreO [.d (.str z)]) (ResO (CndF K C p.frm))
  rng : mg "range" = none
  len : mg "len" = none
  max : mg "max" = none
  min : mg "min" = none
end
section
variable {X : Cx} {b : Bs} {ρ : List Sl} {C : Addr} {f g : Frm} {e e1 e2 : Expr}
theorem r_like {p1 cp : Pos} (D : LwD X.prog X.w X.K X.mg X.base C) {n : Nat} (hr : Room (n + 1) X.A) (h1 : EVr X b ρ e1 (CndF X.K C f)) (h2 : EVr X b ρ e2 (.d (frmD f))) (hd : f.dep < n) (ok : FrmOk f) (hg : Gl X "_law_is_like" := by rfl)
    (he0 : starEach [e2] X.env = (false, eval e2 X.env) :: starEach [] X.env := by rfl) (he : starEach [e1, e2] X.env = (false, eval e1 X.env) :: starEach [e2] X.env := by rfl) (hpl : (backTo cp (starEach [e2] X.env)).any (·.1) = false := by rfl) : EVr X b ρ (.Call (.Name "_law_is_like" p1) [e1, e2] [] cp) (.d (.bool true)) := fun p hp => by
  obtain ⟨fl, fdl, ml, kl, bl, GL⟩ := D.like
  have G1 : FnOk X.prog X.w X.K X.mg X.base CX0 (n + 1) fl fdl ["_law_condition", "_law_form_here"] (spP X.K (PreO [CndF X.K C f, .d (frmD f)]) (ResO (.d (.bool true)))) := (GL n).imp fun vs H Q E z => by
    obtain ⟨G, as, l, hG, rfl, hq⟩ := z
    match vs, l with
    | [v, u], _ =>
      obtain ⟨c1, e1, h3⟩ := hold_cnd hG List.mem_cons_self rfl
      cases e1
      obtain ⟨u', eu, du⟩ := hG.ok (some u, .d (frmD f)) (by simp)
      cases eu
      refine ⟨f, hd, ok, c1, u, rfl, h3.same hG.up, Dp.keep hG.up du, fun H' s => hq _ rfl nofun (.bl true) H' ?_⟩
      have h9 : Hold X.K ⟨G, H, []⟩ H' [] := ⟨G, (HoldG.drop (HoldG.drop hG)).same s⟩
      exact h9.bl true
  exact ev_call G1 hr hg ml kl bl pass0 ((a_cons h1 (a_cons h2 a_nil he0) he) _ ⟨fun r hr => by
    simp only [List.map_cons, List.map_nil, List.mem_cons, List.not_mem_nil, or_false] at hr
    rcases hr with rfl | rfl <;> rfl, rfl, fun r hr => by cases hr; exact ⟨nofun, hp⟩⟩) (by decide) he hpl
theorem hold_two {H : Hp} {v1 v2 : V} {L : List Cl} (hh : Hold X.K b H ((some v1, CndF X.K C f) :: (some v2, CndF X.K C g) :: L)) : ∃ c1 c2, v1 = .ref c1 ∧ v2 = .ref c2 ∧ CndAt X.K C H f c1 ∧ CndAt X.K C H g c2 := by
  obtain ⟨G, hG⟩ := hh
  obtain ⟨c1, e1, h1⟩ := hold_cnd hG List.mem_cons_self rfl
  obtain ⟨c2, e2, h2⟩ := hold_cnd hG (List.mem_cons_of_mem _ List.mem_cons_self) rfl
  cases e1; cases e2
  exact ⟨c1, c2, rfl, rfl, h1.same hG.up, h2.same hG.up⟩
theorem or_cEq (D : LwD X.prog X.w X.K X.mg X.base C) {n : Nat} (hr : Room (2 * n + 1) X.A) (hd : f.dep < n) (tf : FrmT f) (tg : FrmT g) : OVr X b (compareOp .Eq) (CndF X.K C f) (CndF X.K C g) (.d (.bool (eqF f g))) := fun p h => by
  obtain ⟨fE, dE, he, ie, be, Ge⟩ := D.E.eq
  refine ⟨_, op_ownEq he ie (Ge n) hr be pass0, fun v1 v2 H L Q hh k => ?_⟩
  obtain ⟨c1, c2, rfl, rfl, h1, h2⟩ := hold_two hh
  obtain ⟨xs, dx, t, i1, _, _⟩ := h1.ins
  obtain ⟨ys, dy, u, i2, _, _⟩ := h2.ins
  refine ⟨c1, dx, _, .ref C, rfl, i1, D.Z.D.M.Z.kit.ty i2, by unfold PySem.W.notFirst; simp, .inl ⟨c1, c2, _, rfl, ⟨f, g, hd, tf, tg, h1, h2, rfl⟩, _, rfl, ?_⟩⟩
  exact k _ _ H h (hh.drop.drop.bl _)
theorem or_cNe (D : LwD X.prog X.w X.K X.mg X.base C) {n : Nat} (hr : Room (2 * n + 1 + 1) X.A) (hd : f.dep < n) (tf : FrmT f) (tg : FrmT g) : OVr X b (compareOp .NotEq) (CndF X.K C f) (CndF X.K C g) (.d (.bool (!eqF f g))) := fun p h => by
  obtain ⟨fE, dE, he, ie, be, Ge⟩ := D.E.eq
  refine ⟨_, op_ownNe (C := C) D.E.ne D.Z.D.M.Z.kit.hm he ie (Ge n) hr be pass0, fun v1 v2 H L Q hh k => ?_⟩
  obtain ⟨c1, c2, rfl, rfl, h1, h2⟩ := hold_two hh
  obtain ⟨xs, dx, t, i1, _, _⟩ := h1.ins
  obtain ⟨ys, dy, u, i2, _, _⟩ := h2.ins
  refine ⟨c1, dx, _, .ref C, rfl, i1, D.Z.D.M.Z.kit.ty i2, by unfold PySem.W.notFirst; simp, .inl ⟨c1, c2, _, rfl, ⟨f, g, hd, tf, tg, h1, h2, rfl⟩, _, rfl, ?_⟩⟩
  exact k _ _ H h (hh.drop.drop.bl _)
theorem or_cT (D : LwD X.prog X.w X.K X.mg X.base C) (hr : Room 1 X.A) {ys : List PyData} : OVr X b (compareOp .Eq) (CndF X.K C f) (.d (.tuple ys)) (.d (.bool false)) := fun p h => by
  obtain ⟨fE, dE, he, ie, be, Ge⟩ := D.E.eq
  refine ⟨_, op_ownEq he ie (Ge 0) hr be pass0, fun v1 v2 H L Q hh k => ?_⟩
  have ty : TyX X.K H v2 (.type "tuple") := dp_ty hh.drop.dp
  obtain ⟨G, hG⟩ := id hh
  obtain ⟨c1, e1, h1⟩ := hold_cnd hG List.mem_cons_self rfl
  cases e1
  obtain ⟨xs, dx, t, i1, _, _⟩ := (h1.same hG.up).ins
  refine ⟨c1, dx, _, .type "tuple", rfl, i1, ty, by unfold PySem.W.notFirst; rw [D.E.subT]; simp, .inr ⟨c1, _, dx, _, rfl, i1, ty, _, rfl, ?_⟩⟩
  exact k _ _ H h (hh.drop.drop.bl _)
theorem or_neB {c1 c2 : Bool} : OVr X b (compareOp .NotEq) (.d (.bool c1)) (.d (.bool c2)) (.d (.bool (!decide (c1 = c2)))) := fun p h => ov_neS rfl rfl rfl (by
  have : decide (V.bl c1 = V.bl c2) = decide (c1 = c2) := decide_eq_decide.mpr ⟨fun z => by injection z, fun z => by rw [z]⟩
  rw [this]
  exact h)
theorem frm_tup : ∀ f : Frm, ∃ ys, frmD f = .tuple ys
  | .any => ⟨_, rfl⟩
  | .atom _ _ => ⟨_, rfl⟩
  | .not _ => ⟨_, rfl⟩
  | .and _ _ => ⟨_, rfl⟩
  | .or _ _ => ⟨_, rfl⟩
theorem frm_lay : ∀ {f : Frm}, FrmX f → f.dep ≤ 50 → (frmD f).canLay0 = true ∧ (frmD f).depth ≤ f.dep + 1
  | .any, _, _ => ⟨by decide +kernel, by decide +kernel⟩
  | .atom g y, h, _ => by
    refine ⟨SeqAt.canLay_of_shaped h.1.2.2.1, ?_⟩
    rcases h.2.2.1.sc with ⟨z, rfl⟩ | ⟨i, rfl⟩ <;> simp [frmD, PyData.depth, PyData.depthAll]
  | .not a, h, d => by
    have d : a.dep + 1 ≤ 50 := d
    obtain ⟨h1, h2⟩ := frm_lay (f := a) h (by omega)
    exact (tup_shp (n := a.dep + 1) (by omega) (ys := [.str "not", frmD a]) fun z hz => by
      simp only [List.mem_cons, List.not_mem_nil, or_false] at hz
      rcases hz with rfl | rfl
      · exact ⟨by decide +kernel, by rw [show (PyData.str "not").depth = 0 by decide +kernel]; omega⟩
      · exact ⟨h1, h2⟩).2
  | .and a b, h, d => by
    have d : max a.dep b.dep + 1 ≤ 50 := d
    obtain ⟨h1, h2⟩ := frm_lay (f := a) ⟨h.1.1, h.2.1⟩ (by omega)
    obtain ⟨k1, k2⟩ := frm_lay (f := b) ⟨h.1.2, h.2.2⟩ (by omega)
    exact (tup_shp (n := max a.dep b.dep + 1) (by omega) (ys := [.str "and", frmD a, frmD b]) fun z hz => by
      simp only [List.mem_cons, List.not_mem_nil, or_false] at hz
      rcases hz with rfl | rfl | rfl
      · exact ⟨by decide +kernel, by rw [show (PyData.str "and").depth = 0 by decide +kernel]; omega⟩
      · exact ⟨h1, by omega⟩
      · exact ⟨k1, by omega⟩).2
  | .or a b, h, d => by
    have d : max a.dep b.dep + 1 ≤ 50 := d
    obtain ⟨h1, h2⟩ := frm_lay (f := a) ⟨h.1.1, h.2.1⟩ (by omega)
    obtain ⟨k1, k2⟩ := frm_lay (f := b) ⟨h.1.2, h.2.2⟩ (by omega)
    exact (tup_shp (n := max a.dep b.dep + 1) (by omega) (ys := [.str "or", frmD a, frmD b]) fun z hz => by
      simp only [List.mem_cons, List.not_mem_nil, or_false] at hz
      rcases hz with rfl | rfl | rfl
      · exact ⟨by decide +kernel, by rw [show (PyData.str "or").depth = 0 by decide +kernel]; omega⟩
      · exact ⟨h1, by omega⟩
      · exact ⟨k1, by omega⟩).2
theorem frm_shp {f : Frm} (h : FrmX f) (d : f.dep ≤ 50) : SeqAt.shaped (frmD f) = true := by
  obtain ⟨h1, h2⟩ := frm_lay h d
  simp only [SeqAt.shaped, h1, Bool.true_and, decide_eq_true_eq]
  omega
/-- a, b, c = [..] -/
theorem g_lst {ts : List Nat} {tgs : List Expr} {k0 : Nat} {ys : List PyData} {ρ2 : List Sl} {pos : Pos} (hc : X.calm = true) (h : EGsr X b ts ρ tgs (ys.map .d) ρ2) (hn : ys.length = tgs.length) (hna : (assignEach tgs X.env).length = tgs.length := by rfl) (hst : (assignEach tgs X.env).findIdx? (·.1) = none := by rfl) : EGr X b ts ρ (.Tuple tgs k0 pos) (.d (.list ys)) ρ2 := fun p kp σ H L v Q l hh k => by
  obtain ⟨G, hg⟩ := hh
  obtain ⟨v', ev, hd0⟩ := hg.ok _ List.mem_cons_self
  cases ev
  cases hd0 with
  | @lst a xs _ h1 h2 =>
    refine ⟨_, pg_lst hc (wgs_pgs tgs) hna hst, a, xs, rfl, hg.up.seq h1, (DpAll.len h2).trans hn, ?_⟩
    refine h _ kp σ H L xs Q l (by rw [List.length_map]; exact DpAll.len h2) ⟨G, ?_⟩ k
    have hd := hg.drop
    clear hg h1
    have : ∀ {xs : List V} {ys : List PyData}, DpAll X.K G xs ys → HoldG X.K b G H (((xs.map some).zip (ys.map .d)) ++ (σ.zip ρ ++ L)) := by
      intro xs ys hx
      induction xs generalizing ys with
      | nil => cases hx; exact hd
      | cons x xs ih => cases hx with | cons g1 g2 => exact (ih g2).add g1
    exact this h2
/-- parts() of the condition any -/
theorem r_parts {p1 p2 : Pos} (Z : CnL X.prog X.w X.K X.mg X.base C) (hr : Room 1 X.A) (h : EVr X b ρ e (CndF X.K C .any)) (hpe : ∀ {E : XK} {fP : Addr} {dP : FuncData} {te : TE}, Meth X.K C "parts" fP → FnOk X.prog X.w X.K X.mg X.base CX0 1 fP dP ["self"] (spPts X.K C) → Binds X.K dP ["self"] [] → PE X e te → PE X (.Call (.Attribute e "parts" p1) [] [] p2) (tMeth C "parts" (spPts X.K C) [] E te tNil)) : EVr X b ρ (.Call (.Attribute e "parts" p1) [] [] p2) (.d (.tuple [.str "any"])) := fun p k σ H L Q l hh q => by
  obtain ⟨fP, dP, MP, bP, GP⟩ := Z.parts
  refine ⟨_, hpe (E := fun _ _ _ => False) MP GP bP (we_pe e), h (fun r ρ' => r = CndF X.K C .any ∧ ρ' = ρ) ⟨rfl, rfl⟩ σ H L _ l hh fun r ρ' v H1 ⟨er, eρ⟩ l1 hh1 => ?_⟩
  subst er eρ
  obtain ⟨G, hG⟩ := hh1
  obtain ⟨c1, e1, h3⟩ := hold_cnd hG List.mem_cons_self rfl
  cases e1
  obtain ⟨dx, t, i1, _, i3⟩ := h3
  refine ⟨c1, dx, _, rfl, hG.up _ _ i1, rfl, c1, dx, _, rfl, hG.up _ _ i1, ?_⟩
  exact q _ ρ' _ H1 k l1 ⟨G, hG.drop.add (.tup i3 (.cons (.str _) .nil))⟩
end

end K82

namespace K82
open PySem L2 SZ VR VX StX RT DE
/-! ### the law's texts, joined -/
def jT (fm : Frm) : Str := Txt.join " " (ptOf fm 0).ws
theorem sum_len : ∀ {ws : List Str}, (∀ w ∈ ws, w ∈ WALL) → (ws.map (·.length)).sum ≤ 8 * ws.length
  | [], _ => Nat.le_refl _
  | w :: ws, h => by
    have h1 : w.length ≤ 8 := (TxL.word (h w List.mem_cons_self)).2.1
    have h2 := sum_len (ws := ws) fun x hx => h x (List.mem_cons_of_mem _ hx)
    simp only [List.map_cons, List.sum_cons, List.length_cons]
    omega
theorem pow8 {fm : Frm} (h : fm.dep ≤ 3) : 2 ^ fm.dep ≤ 8 := Nat.pow_le_pow_right (n := 2) (by decide) h
theorem jT_ok {fm : Frm} (h : FrmX fm) (d : fm.dep ≤ 3) : TxL (jT fm).cps.toList (ptOf fm 0).ws ∧ (jT fm).length ≤ 400 ∧ ((ptOf fm 0).ws.map (·.length)).sum + (ptOf fm 0).ws.length * (" " : Str).length ≤ 16777216 ∧ (ptOf fm 0).ws.length ≤ 37 := by
  obtain ⟨_, _, _, h4, h5⟩ := ptOf_ok fm 0 h.2
  have hp := pow8 d
  have e32 : (" " : Str).cps.toList = [32] := by decide +kernel
  have l1 : (" " : Str).length = 1 := by decide +kernel
  obtain ⟨t1, t2⟩ := TxL.join h4
  have ec : (jT fm).cps.toList = TL.joinL [32] ((ptOf fm 0).ws.map fun z => z.cps.toList) := by
    unfold jT
    rw [join_tl, e32]
  refine ⟨by rw [ec]; exact t1, ?_, ?_, by omega⟩
  · show (jT fm).cps.toList.length ≤ 400
    rw [ec]
    omega
  · have := sum_len h4
    rw [l1]
    omega
theorem jT_told {fm : Frm} (h : FrmX fm) (d : fm.dep ≤ 3) : Told (jT fm) (ptOf fm 0).ws := (jT_ok h d).1.told
theorem leaf_lv {fm : Frm} (d : fm.dep = 0) : (ptOf fm 0).lv = 2 := by
  cases fm with
  | any => rfl
  | atom _ _ => rfl
  | not a => exact absurd d (Nat.succ_ne_zero _)
  | and a b => exact absurd d (Nat.succ_ne_zero _)
  | or a b => exact absurd d (Nat.succ_ne_zero _)
/-- signs around a text -/
theorem spaced {l : List Nat} {ws : List Str} (h : TxL l ws) : TxL ([32] ++ (l ++ [32])) ws ∧ StaL ([32] ++ (l ++ [32])) ∧ EndL ([32] ++ (l ++ [32])) := by
  obtain ⟨g1, g2, g3⟩ := gap_se (l := [32]) (.inl rfl)
  refine ⟨?_, fun c hc => g1 c hc, EndL.app (EndL.app g2 (by simp)) (by simp)⟩
  have := g3.app (h.app g3 (.inr g1)) (.inl g2)
  rw [List.append_nil] at this
  exact this
theorem TxL.mid {a s b : List Nat} {u v x : List Str} (ha : TxL a u) (hs : TxL s x ∧ StaL s ∧ EndL s) (hb : TxL b v) (ne : s ≠ []) : TxL (a ++ (s ++ b)) (u ++ (x ++ v)) := by
  obtain ⟨h1, h2, h3⟩ := hs
  refine ha.app (h1.app hb (.inl h3)) (.inr fun c hc => h2 c ?_)
  cases s with
  | nil => exact absurd rfl ne
  | cons y t => exact hc
theorem spc_cps (o : Str) : ((" " ++ o) ++ " " : Str).cps.toList = [32] ++ (o.cps.toList ++ [32]) := by
  have e32 : (" " : Str).cps.toList = [32] := by decide +kernel
  rw [cps_app, cps_app, e32, List.append_assoc]
theorem link_told {o : Str} (ho : o ∈ WALL) {f1 f2 f3 : Frm} (h1 : FrmX f1) (h2 : FrmX f2) (h3 : FrmX f3) (d1 : f1.dep ≤ 3) (d2 : f2.dep ≤ 3) (d3 : f3.dep ≤ 3) : Told (Txt.join ((" " ++ o) ++ " ") [jT f1, jT f2, jT f3]) ((ptOf f1 0).ws ++ ((o :: (ptOf f2 0).ws)) ++ (o :: (ptOf f3 0).ws)) ∧ (Txt.join ((" " ++ o) ++ " ") [jT f1, jT f2, jT f3]).length ≤ 2000 := by
  obtain ⟨o1, o2, o3⟩ := TxL.word ho
  obtain ⟨a1, a2, _⟩ := jT_ok h1 d1
  obtain ⟨b1, b2, _⟩ := jT_ok h2 d2
  obtain ⟨c1, c2, _⟩ := jT_ok h3 d3
  have sp := spaced o1
  have ec : (Txt.join ((" " ++ o) ++ " ") [jT f1, jT f2, jT f3]).cps.toList = (jT f1).cps.toList ++ (([32] ++ (o.cps.toList ++ [32])) ++ ((jT f2).cps.toList ++ (([32] ++ (o.cps.toList ++ [32])) ++ (jT f3).cps.toList))) := by
    rw [join_tl, spc_cps]
    rfl
  refine ⟨TxL.told ?_, ?_⟩
  · have e : (ptOf f1 0).ws ++ ((o :: (ptOf f2 0).ws)) ++ (o :: (ptOf f3 0).ws) = (ptOf f1 0).ws ++ ([o] ++ ((ptOf f2 0).ws ++ ([o] ++ (ptOf f3 0).ws))) := by simp
    rw [ec, e]
    exact a1.mid sp (b1.mid sp c1 (by simp)) (by simp)
  · show (Txt.join ((" " ++ o) ++ " ") [jT f1, jT f2, jT f3]).cps.toList.length ≤ 2000
    rw [ec]
    have a2 : (jT f1).cps.toList.length ≤ 400 := a2
    have b2 : (jT f2).cps.toList.length ≤ 400 := b2
    have c2 : (jT f3).cps.toList.length ≤ 400 := c2
    simp only [List.length_append, List.length_cons, List.length_nil]
    omega
theorem ornot_ok : TxL (" or not " : Str).cps.toList ["or", "not"] ∧ StaL (" or not " : Str).cps.toList ∧ EndL (" or not " : Str).cps.toList := by
  have e : (" or not " : Str).cps.toList = [32] ++ ((("or" : Str).cps.toList ++ ([32] ++ ("not" : Str).cps.toList)) ++ [32]) := by decide +kernel
  rw [e]
  obtain ⟨g1, g2, g3⟩ := gap_se (l := [32]) (.inl rfl)
  exact spaced ((TxL.word (w := "or") (by decide +kernel)).1.mid ⟨g3, g1, g2⟩ (TxL.word (w := "not") (by decide +kernel)).1 (by simp))
theorem and_ok : TxL (" and " : Str).cps.toList ["and"] ∧ StaL (" and " : Str).cps.toList ∧ EndL (" and " : Str).cps.toList := by
  have e : (" and " : Str).cps.toList = [32] ++ (("and" : Str).cps.toList ++ [32]) := by decide +kernel
  rw [e]
  exact spaced (TxL.word (w := "and") (by decide +kernel)).1
theorem loose_told {f1 f2 f3 : Frm} (h1 : FrmX f1) (h2 : FrmX f2) (h3 : FrmX f3) (d1 : f1.dep ≤ 3) (d2 : f2.dep ≤ 3) (d3 : f3.dep ≤ 3) : Told ((((jT f1 ++ " or not ") ++ jT f2) ++ " and ") ++ jT f3) ((ptOf f1 0).ws ++ (("or" : Str) :: ((("not" : Str) :: (ptOf f2 0).ws) ++ (("and" : Str) :: (ptOf f3 0).ws)))) ∧ ((((jT f1 ++ " or not ") ++ jT f2) ++ " and ") ++ jT f3).length ≤ 2000 := by
  obtain ⟨a1, a2, _⟩ := jT_ok h1 d1
  obtain ⟨b1, b2, _⟩ := jT_ok h2 d2
  obtain ⟨c1, c2, _⟩ := jT_ok h3 d3
  refine ⟨TxL.told ?_, ?_⟩
  · rw [cps_app, cps_app, cps_app, cps_app, List.append_assoc, List.append_assoc, List.append_assoc]
    have := a1.mid ornot_ok (b1.mid and_ok c1 (by decide +kernel)) (by decide +kernel)
    exact this
  · have l1 : (" or not " : Str).length = 8 := by decide +kernel
    have l2 : (" and " : Str).length = 5 := by decide +kernel
    simp only [Str.length_append]
    omega
def UD (s : Sl) : Prop := s = .un ∨ ∃ y, s = .d y
abbrev PreL : List Sl → Prop := fun as => ∃ ns : List Int, as = [.d (.list (ns.map .int))] ∧ ns.length ≤ 63
abbrev ResL : List Sl → Sl → Prop := fun _ r => r = .d (.bool true)

end K82

namespace K82
open PySem L2 SZ VR VX StX RT DE
section
variable {X : Cx} {b : Bs} {ρ : List Sl}
/-- a slot forgotten -/
theorem HoldG.unD {K : PySem.W.Frag} {b : Bs} {G H : Hp} {x : Option V} {r : Sl} {L : List Cl} (hr : r = .un ∨ ∃ y, r = .d y) (h : HoldG K b G H ((x, r) :: L)) : HoldG K b G H ((x, .un) :: L) :=
  ⟨h.old, h.up, h.new, h.rest, h.bs, fun c hc => by
    rcases List.mem_cons.mp hc with rfl | hc
    · trivial
    · exact h.ok c (List.mem_cons_of_mem _ hc), by
    have := h.nd
    rcases hr with rfl | ⟨y, rfl⟩ <;> cases x <;> simpa [ads] using this, h.fl⟩
theorem xb_un (i : Nat) {r : Sl} {st : List Stmt} {q : Po} {ρ2 : List Sl} (hr : r = .un ∨ ∃ y, r = .d y) (hs : ρ[i]? = some r) (h2 : ρ.set i .un = ρ2) (h : XB X b ρ2 st q) : XB X b ρ st q := by
  subst h2
  intro σ H L D l hh k
  obtain ⟨x, hx, _⟩ := zip_mem l hs
  obtain ⟨M, p1, p2⟩ := set_perm (s' := .un) hs hx
  obtain ⟨G, hG⟩ := hh.perm ((p1.append_right L).symm)
  have h9 : Hold X.K b H ((x, .un) :: (M ++ L)) := ⟨G, HoldG.unD hr hG⟩
  exact h σ H L D (by rw [List.length_set]; exact l) (h9.perm (p2.append_right L)) (by rw [List.length_set]; exact k)
end

/-! ### the law -/
section
variable {P : Program} {w : World} {K : PySem.W.Frag} {mg : Str → Option Value} {base : Heap} {C : Addr}
theorem or_cT2 {X : Cx} {b : Bs} {f g : Frm} (D : LwD X.prog X.w X.K X.mg X.base C) (hr : Room 1 X.A) : OVr X b (compareOp .Eq) (CndF X.K C f) (.d (frmD g)) (.d (.bool false)) := by
  obtain ⟨ys, e⟩ := frm_tup g
  rw [e]
  exact or_cT D hr
theorem run_law {f : Addr} {fd : FuncData} (F : Fun K "law" "law" S_law f fd) (D : LwD P w K mg base C) : RunG P w K mg base CX0 29 f fd ["_law_script"] (spP K PreL ResL) := by
  refine fn_PG F sc_law (fun as h => ?_) (by decide) fun cdv A outer s H E hg hr b as hp => ?_
  · obtain ⟨ns, rfl, _⟩ := h; rfl
  obtain ⟨ns, rfl, hn⟩ := hp
  have hu := hr.units
  have hr1 := hr.mono (show 1 ≤ 28 by decide)
  have hr2 := hr.mono (show 2 ≤ 28 by decide)
  have hr4 := hr.mono (show 4 ≤ 28 by decide)
  have hr5 := hr.mono (show 5 ≤ 28 by decide)
  have hr6 := hr.mono (show 6 ≤ 28 by decide)
  have hr8 := hr.mono (show 8 ≤ 28 by decide)
  have hr9 := hr.mono (show 9 ≤ 28 by decide)
  have hr10 := hr.mono (show 10 ≤ 28 by decide)
  have hr26 := hr.mono (show 26 ≤ 28 by decide)
  show XB _ _ [.d (.list (ns.map .int)), .un, .un, .un, .un, .un, .un, .un, .un, .un, .un, .un, .un, .un, .un, .un] _ _
  have hk : ∃ m : Int, 1 ≤ m ∧ m ≤ 6 ∧ m = (if (if (6 : Int) < ((ns.map PyData.int).length : Int) then 6 else ((ns.map PyData.int).length : Int)) > 1 then (if (6 : Int) < ((ns.map PyData.int).length : Int) then 6 else ((ns.map PyData.int).length : Int)) else 1) := by
    refine ⟨_, ?_, ?_, rfl⟩
    · split <;> omega
    · split <;> (try split) <;> omega
  obtain ⟨m, m1, m6, em⟩ := hk
  refine xb_cons (xs_for (ts := [1]) PassesOwn.never rfl (by intro _; rfl) ((i_range D.rng (r_callB (id := "max") D.max (a_cons r_int (a_cons (r_callB (id := "min") D.min (a_cons (r_callB (id := "len") D.len (a_cons (r_var 0 rfl (by walk_at "v") rfl) a_nil) (by walk_at "c")) (a_cons r_int a_nil)) (cr_min2 rfl)) a_nil)) (cr_max2 rfl)) (by rw [← em]; omega) (by rw [← em]; omega)) _ fun _ => ?_))
  rw [← em]
  refine ⟨fun i ρ' => ∃ s1 s2 s3 s4 s5 s6 s7 s8 s9 s10 s11 s12 s13 s14 s15, UD s3 ∧ UD s4 ∧ ρ' = [.d (.list (ns.map .int)), s1, s2, s3, s4, s5, s6, s7, s8, s9, s10, s11, s12, s13, s14, s15], ⟨_, _, _, _, _, _, _, _, _, _, _, _, _, _, _,  .inl rfl, .inl rfl, rfl⟩, ?_, ?_⟩
  rotate_left
  · rintro ρ' ⟨s1, s2, s3, s4, s5, s6, s7, s8, s9, s10, s11, s12, s13, s14, s15, _, _, rfl⟩ hl
    refine xb_one (x_ret (r_cmp (r_parts D.Z hr1 (r_where (ks := []) D.Z hr5 k_nil rfl (by simp) (by simp) (by simp) wb0 rfl) (fun M G bb he => pe_meth0 he D.Z.D.M.Z.kit.cl M G hr1 bb .nil pass0)) (r_tup (a_cons r_str a_nil) rfl) (or_eqD hu rfl rfl (by decide +kernel) (by decide +kernel))) ⟨?_, nofun⟩)
    show Sl.d (.bool (PyData.eqv (.tuple [.str "any"]) (.tuple [.str "any"]))) = .d (.bool true)
    rw [show PyData.eqv (.tuple [.str "any"]) (.tuple [.str "any"]) = true by decide +kernel]
  · rintro i y ρ' hy hl ⟨s1, s2, s3, s4, s5, s6, s7, s8, s9, s10, s11, s12, s13, s14, s15, h3, h4, rfl⟩
    obtain ⟨hi, rfl⟩ : i < 6 ∧ y = .int (i : Int) := by
      have h := (List.getElem?_eq_some_iff.mp hy).1
      rw [rngD_len] at h
      rw [rngD_at h] at hy
      cases hy
      exact ⟨by omega, by simp⟩
    refine (g_name 1 rfl (by walk_at "v") sc_law.nd rfl) _ fun _ => ?_
    show XB _ _ [.d (.list (ns.map .int)), .d (.int i), s2, s3, s4, s5, s6, s7, s8, s9, s10, s11, s12, s13, s14, s15] _ _
    refine xb_cons (xs_set 2 sc_law.nd rfl (by first | exact .inl rfl | exact .inr rfl) (by simp) rfl (.inl rfl) (ev_cal D.pool hr1 rfl pass0 ((a_cons (r_var 0 rfl (by walk_at "v") rfl) (a_cons (r_var 1 rfl (by walk_at "v") rfl) a_nil)) _ ⟨[.list (ns.map .int), .int i], rfl, ⟨ns, i, rfl, by omega, hn⟩, fun r hr' => ?_⟩)))
    obtain ⟨ys, rfl, hy⟩ := hr'
    refine ⟨nofun, fun _ _ => ?_⟩
    show XB _ _ [.d (.list (ns.map .int)), .d (.int i), .own ys, s3, s4, s5, s6, s7, s8, s9, s10, s11, s12, s13, s14, s15] _ _
    refine xb_cons (xs_for (ts := [3]) PassesOwn.never rfl (by intro _; rfl) ((i_range D.rng r_int (by decide) (by decide)) _ fun _ => ?_))
    refine ⟨fun t ρ' => ∃ ys s3 s4 s5 s6 s7 s8, UD s3 ∧ UD s4 ∧ PoolD ys ∧ ρ' = [.d (.list (ns.map .int)), .d (.int i), .own ys, s3, s4, s5, s6, s7, s8, s9, s10, s11, s12, s13, s14, s15], ⟨ys, s3, s4, s5, s6, s7, s8, h3, h4, hy, rfl⟩, ?_, ?_⟩
    · rintro t y ρ' hyt hlt ⟨ys, s3, s4, s5, s6, s7, s8, h3, h4, hy, rfl⟩
      refine (g_name 3 rfl (by first | exact .inl rfl | exact .inr rfl) sc_law.nd rfl) _ fun _ => ?_
      show XB _ _ [.d (.list (ns.map .int)), .d (.int i), .own ys, .d y, s4, s5, s6, s7, s8, s9, s10, s11, s12, s13, s14, s15] _ _
      refine xb_cons (xs_set 4 sc_law.nd rfl (by first | exact .inl rfl | exact .inr rfl) (by simp) rfl (.inl rfl) (ev_calL 2 (D.form 3 (by decide)) hr6 rfl pass0 rfl (by walk_at "v") ((a_cons r_int a_nil) _ ⟨[.int 3], rfl, _, ys, rfl, .inl rfl, ⟨hy, rfl⟩, fun r ys2 hr' => ?_⟩) ⟨_, _, rfl, .inl rfl⟩))
      obtain ⟨hy2, fm, rfl, ok, hd⟩ := hr'
      obtain ⟨q1, q2, q3, q4⟩ := jT_ok ok hd
      obtain ⟨o1, o2, o3, o4, o5⟩ := ptOf_ok fm 0 ok.2
      have CW1 := D.words fm ok hd
      refine ⟨nofun, fun _ _ => ?_⟩
      show XB _ _ [.d (.list (ns.map .int)), .d (.int i), .own ys2, .d y, .d (frmD fm), s5, s6, s7, s8, s9, s10, s11, s12, s13, s14, s15] _ _
      refine xb_cons (xs_set 5 sc_law.nd rfl (by first | exact .inl rfl | exact .inr rfl) (by simp) rfl (.inl rfl) (ev_lstD (ea_cons (h := (r_join r_str (r_cal CW1 hr4 pass0 (a_cons (r_var 4 rfl (by walk_at "v") rfl) (a_cons r_int a_nil)) rfl (by exact rfl) (r := .d (.list ((ptOf fm 0).ws.map .str))) (fun r' h => by exact h)) (.inl rfl) q3) _ (ea_cons (h := ev_calL 2 D.text hr2 rfl pass0 rfl (by walk_at "v") (ea_cons (h := ev_calL 2 (D.more fm ok hd) hr8 rfl pass0 rfl (by walk_at "v") ((a_cons (r_var 4 rfl (by walk_at "v") rfl) a_nil) _ ⟨[frmD fm], rfl, _, ys2, rfl, .inl rfl, ⟨hy2, rfl⟩, fun r ys3 hr' => ?_⟩) ⟨_, _, rfl, .inl rfl⟩)) ⟨_, _, rfl, .inl rfl⟩))))))
      obtain ⟨hy3, n, hn2, rfl⟩ := hr'
      obtain ⟨r1, r2, r3, r4, r5⟩ := parN_ok (ptOf fm 0) o1 o4 n
      refine ⟨nofun, ea_nil ⟨_, rfl, _, ys3, rfl, .inl rfl, ⟨hy3, _, ⟨r4, by omega⟩, rfl⟩, fun r ys4 hr' => ?_⟩⟩
      obtain ⟨ws, ews, hy4, z2, rfl, hz2, hl2⟩ := hr'
      have ews := map_str_inj (by injection ews with e _; injection e with e; injection e)
      subst ews
      refine ⟨nofun, ea_nil ⟨_, rfl, by simp, fun _ _ => ?_⟩⟩
      show XB _ _ [.d (.list (ns.map .int)), .d (.int i), .own ys4, .d y, .d (frmD fm), .own [.str (jT fm), .str z2], s6, s7, s8, s9, s10, s11, s12, s13, s14, s15] _ _
      refine xb_frz 5 rfl rfl ?_
      show XB _ _ [.d (.list (ns.map .int)), .d (.int i), .own ys4, .d y, .d (frmD fm), .d (.list [.str (jT fm), .str z2]), s6, s7, s8, s9, s10, s11, s12, s13, s14, s15] _ _
      refine xb_cons (xs_for (ts := [6]) PassesOwn.never rfl (by intro _; rfl) ((i_list (r_var 5 rfl (by walk_at "v") rfl) rfl) _ fun _ => ?_))
      refine ⟨fun t ρ' => ∃ s6 s7, ρ' = [.d (.list (ns.map .int)), .d (.int i), .own ys4, .d y, .d (frmD fm), .d (.list [.str (jT fm), .str z2]), s6, s7, s8, s9, s10, s11, s12, s13, s14, s15], ⟨_, _, rfl⟩, ?_, ?_⟩
      · rintro t x ρ' hxt hlt ⟨s6, s7, rfl⟩
        have hT : ∃ (z : Str) (p : Pt), x = .str z ∧ z.length ≤ 50000 ∧ Told z p.ws ∧ p.ok ∧ p.ht ≤ 5 ∧ p.frm = fm := by
          match t, hxt with
          | 0, hxt => cases hxt; exact ⟨_, _, rfl, by omega, q1.told, o1, by omega, o2⟩
          | 1, hxt => cases hxt; exact ⟨_, _, rfl, by omega, hz2.told, r1, by omega, r2.trans o2⟩
          | t + 2, hxt => cases hxt
        obtain ⟨z, p, rfl, g1, g2, g3, g4, ep⟩ := hT
        have CR := D.read z p g1 g2 g3 g4
        rw [ep] at CR
        refine (g_name 6 rfl (by first | exact .inl rfl | exact .inr rfl) sc_law.nd rfl) _ fun _ => ?_
        show XB _ _ [.d (.list (ns.map .int)), .d (.int i), .own ys4, .d y, .d (frmD fm), .d (.list [.str (jT fm), .str z2]), .d (.str z), s7, s8, s9, s10, s11, s12, s13, s14, s15] _ _
        refine xb_cons (x_set 7 (r_cal CR hr26 pass0 (a_cons (r_var 6 rfl (by walk_at "v") rfl) a_nil) rfl rfl (fun r' h => h)) rfl (by first | exact .inl rfl | exact .inr rfl) sc_law.nd rfl (fun _ => ?_))
        show XB _ _ [.d (.list (ns.map .int)), .d (.int i), .own ys4, .d y, .d (frmD fm), .d (.list [.str (jT fm), .str z2]), .d (.str z), CndF K C fm, s8, s9, s10, s11, s12, s13, s14, s15] _ _
        refine xb_cons (x_if (t_w (w_or (t_not (t_val (r_like D (n := 4) hr5 (r_varF 7 rfl (by walk_at "v") rfl) (r_var 4 rfl (by walk_at "v") rfl) (by omega) ok.1))) fun _ => w_or1 (t_not (t_val (r_like D (n := 4) hr5 (r_cal (D.built fm ok.1) (hr.mono (show fm.dep + 7 ≤ 28 by omega)) pass0 (a_cons (r_var 4 rfl (by walk_at "v") rfl) a_nil) rfl rfl (fun r' h => h)) (r_var 4 rfl (by walk_at "v") rfl) (by omega) ok.1))))) (fun h => nomatch h) (fun _ => xb_nil fun _ => ?_))
        refine xb_one (x_if (t_w (w_or (t_cmp (r_varF 7 rfl (by walk_at "v") rfl) (r_cal (D.built fm ok.1) (hr.mono (show fm.dep + 7 ≤ 28 by omega)) pass0 (a_cons (r_var 4 rfl (by walk_at "v") rfl) a_nil) rfl rfl (fun r' h => h)) (or_cNe D (n := 4) hr10 (by omega) ok.2 ok.2)) fun _ => w_or (t_cmp (r_varF 7 rfl (by walk_at "v") rfl) (r_var 4 rfl (by walk_at "v") rfl) (or_cT2 D hr1)) fun _ => w_or1 (t_not (t_cmp (r_varF 7 rfl (by walk_at "v") rfl) (r_cal CR hr26 pass0 (a_cons (r_var 6 rfl (by walk_at "v") rfl) a_nil) rfl rfl (fun r' h => h)) (or_cEq D (n := 4) hr9 (by omega) ok.2 ok.2))))) (fun h => ?_) (fun _ => xb_nil ⟨_, _, rfl⟩))
        rw [eqF_refl ok.2] at h
        cases h
      rintro ρ' ⟨s6, s7, rfl⟩ hl2
      show XB _ _ [.d (.list (ns.map .int)), .d (.int i), .own ys4, .d y, .d (frmD fm), .d (.list [.str (jT fm), .str z2]), s6, s7, s8, s9, s10, s11, s12, s13, s14, s15] _ _
      refine xb_cons (xs_set 8 sc_law.nd rfl (by first | exact .inl rfl | exact .inr rfl) (by simp) rfl (.inl rfl) (ev_calL 2 (D.form 2 (by decide)) hr6 rfl pass0 rfl (by walk_at "v") ((a_cons r_int a_nil) _ ⟨[.int 2], rfl, _, ys4, rfl, .inl rfl, ⟨hy4, rfl⟩, fun r ys5 hr' => ?_⟩) ⟨_, _, rfl, .inl rfl⟩))
      obtain ⟨hy5, gm, rfl, okg, hdg⟩ := hr'
      have hdg : gm.dep ≤ 3 := by omega
      obtain ⟨u1, u2, u3, u4⟩ := jT_ok okg hdg
      obtain ⟨v1, v2, v3, v4, v5⟩ := ptOf_ok gm 0 okg.2
      have CR := D.read (jT gm) (ptOf gm 0) (by omega) u1.told v1 (by omega)
      rw [v2] at CR
      refine ⟨nofun, fun _ _ => ?_⟩
      show XB _ _ [.d (.list (ns.map .int)), .d (.int i), .own ys5, .d y, .d (frmD fm), .d (.list [.str (jT fm), .str z2]), s6, s7, .d (frmD gm), s9, s10, s11, s12, s13, s14, s15] _ _
      refine xb_one (x_if (t_cmp (r_cmp (r_cal CR hr26 pass0 (a_cons (r_join r_str (r_cal (D.words gm okg hdg) hr4 pass0 (a_cons (r_var 8 rfl (by walk_at "v") rfl) (a_cons r_int a_nil)) rfl rfl (r := .d (.list ((ptOf gm 0).ws.map .str))) (fun r' h => h)) (.inl rfl) u3) a_nil) rfl rfl (fun r' h => h)) (r_cal (D.built fm ok.1) (hr.mono (show fm.dep + 7 ≤ 28 by omega)) pass0 (a_cons (r_var 4 rfl (by walk_at "v") rfl) a_nil) rfl rfl (fun r' h => h)) (or_cEq D (n := 4) hr9 (by omega) okg.2 ok.2)) (r_cmp (r_var 8 rfl (by walk_at "v") rfl) (r_var 4 rfl (by walk_at "v") rfl) (or_eqD hu rfl rfl (frm_shp okg (by omega)) (frm_shp ok (by omega)))) or_neB) (fun h => ?_) (fun _ => xb_nil ⟨_, _, _, _, _, _, _, .inr ⟨_, rfl⟩, .inr ⟨_, rfl⟩, hy5, rfl⟩))
      unfold eqF at h
      simp at h
    · rintro ρ' ⟨ys, s3, s4, s5, s6, s7, s8, h3, h4, hy, rfl⟩ hl2
      refine xb_un 3 h3 rfl rfl ?_
      refine xb_un 4 h4 rfl rfl ?_
      show XB _ _ [.d (.list (ns.map .int)), .d (.int i), .own ys, .un, .un, s5, s6, s7, s8, s9, s10, s11, s12, s13, s14, s15] _ _
      refine xb_cons (xs_asg (ts := [9, 10, 11]) (h := ev_cool (ev_lc (own := [("_law_turn", 3)]) rfl sc_law.nd (blkOk_by (N := ["_law_script", "_law_k", "_law_pool_here", "_law_turn", "_law_form_here", "_law_texts", "_law_text_here", "_law_told", "_law_more_here", "_law_one", "_law_two", "_law_three", "_law_words_here", "_law_link", "_law_due", "_law_loose"]) (sc := defScope S_law) (by decide +kernel)) ((i_range D.rng r_int (by decide) (by decide)) _ fun _ => ?_))))
      refine ⟨fun t acc ρ' => ∃ ys l, acc = l.map frmD ∧ l.length = t ∧ (∀ fm ∈ l, FrmX fm ∧ fm.dep = 0) ∧ PoolD ys ∧ ρ' = [.d (.list (ns.map .int)), .d (.int i), .own ys, .un, .un, s5, s6, s7, s8, s9, s10, s11, s12, s13, s14, s15], ⟨ys, [], rfl, rfl, (fun _ h => nomatch h), hy, rfl⟩, ?_, ?_, ?_⟩
      · rintro t acc ρ' ⟨ys, l, _, _, _, _, rfl⟩ v hv
        rw [List.mem_singleton.mp hv]
        rfl
      · rintro t y acc ρ' hyt hlt ⟨ys, l, rfl, hl, hfm, hy, rfl⟩
        have ht : t < 3 := by
          have h := (List.getElem?_eq_some_iff.mp hyt).1
          rw [rngD_len] at h
          omega
        refine lc_turnE (ρ2 := [.d (.list (ns.map .int)), .d (.int i), .own ys, .d y, .un, s5, s6, s7, s8, s9, s10, s11, s12, s13, s14, s15]) (fun s H C cl fp => g_name 3 rfl (by first | exact .inl rfl | exact .inr rfl) sc_law.nd rfl) (by rw [List.length_map, hl, sizeLine_eq]; omega) (fun s H C cl fp => ?_)
        refine ev_ix (fun _ _ => rfl) (ev_calL 2 D.atoms hr2 rfl pass0 rfl (by walk_at "v") (a_nil _ ⟨[], rfl, _, ys, rfl, .inl rfl, ⟨hy, rfl⟩, fun r ys2 hr' => ?_⟩) ⟨_, _, rfl, .inl rfl⟩)
        obtain ⟨hy2, ds, rfl, l7, hlf⟩ := hr'
        refine ⟨nofun, ev_take 2 D.take hr1 rfl (by walk_at "v") pass0 rfl (.inl rfl) hy2 (wd := 7) r_int (by decide) (by decide) fun j2 ys3 b0 b1 hy3 => ?_⟩
        have hlt : j2.toNat < ds.length := by omega
        have hi : atI ds j2 = some ds[j2.toNat] := by
          have := atI_nat (xs := ds) (j := j2.toNat) (List.getElem?_eq_getElem hlt)
          rw [Int.toNat_of_nonneg b0] at this
          exact this
        refine iv_own hi ?_
        obtain ⟨fm, e, ok, hd⟩ := hlf _ (List.getElem_mem hlt)
        rw [e]
        refine ⟨frmD fm, rfl, ys3, l ++ [fm], by rw [List.map_append]; rfl, by rw [List.length_append, hl]; rfl, fun w hw => ?_, hy3, rfl⟩
        rcases List.mem_append.mp hw with hw | hw
        · exact hfm w hw
        · rw [List.mem_singleton.mp hw]
          exact ⟨ok, hd⟩
      rintro acc ρ' ⟨ys, l, rfl, hl3, hfm, hy, rfl⟩
      obtain ⟨f1, f2, f3, rfl⟩ : ∃ f1 f2 f3, l = [f1, f2, f3] := by
        rw [rngD_len] at hl3
        match l, hl3 with
        | [f1, f2, f3], _ => exact ⟨_, _, _, rfl⟩
      obtain ⟨k1, d1⟩ := hfm f1 (by simp)
      obtain ⟨k2, d2⟩ := hfm f2 (by simp)
      obtain ⟨k3, d3⟩ := hfm f3 (by simp)
      obtain ⟨a1, a2, a3, a4⟩ := jT_ok k1 (by omega)
      obtain ⟨b1, b2, b3, b4⟩ := jT_ok k2 (by omega)
      obtain ⟨c1, c2, c3, c4⟩ := jT_ok k3 (by omega)
      obtain ⟨p1, p2, p3, _, _⟩ := ptOf_ok f1 0 k1.2
      obtain ⟨q1, q2, q3, _, _⟩ := ptOf_ok f2 0 k2.2
      obtain ⟨r1, r2, r3, _, _⟩ := ptOf_ok f3 0 k3.2
      refine fun _ => (g_lst (ys := [frmD f1, frmD f2, frmD f3]) rfl (gs_cons (g_name 9 rfl (by first | exact .inl rfl | exact .inr rfl) sc_law.nd rfl) (gs_cons (g_name 10 rfl (by first | exact .inl rfl | exact .inr rfl) sc_law.nd rfl) (gs_cons (g_name 11 rfl (by first | exact .inl rfl | exact .inr rfl) sc_law.nd rfl) gs_nil))) rfl) _ fun _ => fun _ => ?_
      show XB _ _ [.d (.list (ns.map .int)), .d (.int i), .own ys, .un, .un, s5, s6, s7, s8, .d (frmD f1), .d (frmD f2), .d (frmD f3), s12, s13, s14, s15] _ _
      have eT : ∀ fm ∈ [f1, f2, f3], FrmX fm ∧ fm.dep ≤ 3 := fun fm hm => by have := hfm fm hm; exact ⟨this.1, by omega⟩
      refine xb_cons (x_setLc 12 (own := [("_law_form_here", 4)]) [f1, f2, f3] frmD (fun _ => true) (fun fm => .str (jT fm)) (fun fm => [.d (.list (ns.map .int)), .d (.int i), .own ys, .un, .d (frmD fm), s5, s6, s7, s8, .d (frmD f1), .d (frmD f2), .d (frmD f3), s12, s13, s14, s15]) (i_list (r_lst (a_cons (r_var 9 rfl (by walk_at "v") rfl) (a_cons (r_var 10 rfl (by walk_at "v") rfl) (a_cons (r_var 11 rfl (by walk_at "v") rfl) a_nil))) rfl) rfl) rfl rfl sc_law.nd (blkOk_by (N := ["_law_script", "_law_k", "_law_pool_here", "_law_turn", "_law_form_here", "_law_texts", "_law_text_here", "_law_told", "_law_more_here", "_law_one", "_law_two", "_law_three", "_law_words_here", "_law_link", "_law_due", "_law_loose"]) (sc := defScope S_law) (by decide +kernel)) (by intro v hv; rw [List.mem_singleton.mp hv]; rfl) (show 3 ≤ 100000 by decide) ?_ ?_ ?_ ?_ rfl (fun _ => ?_))
      · exact fun fm hm s H C cl fp => g_name 4 rfl (by first | exact .inl rfl | exact .inr rfl) sc_law.nd rfl
      · exact fun fm hm => rfl
      · exact fun fm hm s H C cl fp => ts_nil
      · exact fun fm hm _ => ⟨_, fun s H C cl fp => (r_join r_str (r_cal (D.words fm (eT fm hm).1 (eT fm hm).2) hr4 pass0 (a_cons (r_var 4 rfl (by walk_at "v") rfl) (a_cons r_int a_nil)) rfl rfl (r := .d (.list ((ptOf fm 0).ws.map .str))) (fun r' h => h)) (.inl rfl) (jT_ok (eT fm hm).1 (eT fm hm).2).2.2.1), rfl⟩
      show XB _ _ [.d (.list (ns.map .int)), .d (.int i), .own ys, .un, .un, s5, s6, s7, s8, .d (frmD f1), .d (frmD f2), .d (frmD f3), .own [.str (jT f1), .str (jT f2), .str (jT f3)], s13, s14, s15] _ _
      refine xb_frz 12 rfl rfl ?_
      show XB _ _ [.d (.list (ns.map .int)), .d (.int i), .own ys, .un, .un, s5, s6, s7, s8, .d (frmD f1), .d (frmD f2), .d (frmD f3), .d (.list [.str (jT f1), .str (jT f2), .str (jT f3)]), s13, s14, s15] _ _
      refine xb_cons (xs_for (ts := [13]) PassesOwn.never rfl (by intro _; rfl) ((i_list (r_lst (a_cons r_str (a_cons r_str a_nil)) rfl) rfl) _ fun _ => ?_))
      refine ⟨fun t ρ' => ∃ s13 s14, ρ' = [.d (.list (ns.map .int)), .d (.int i), .own ys, .un, .un, s5, s6, s7, s8, .d (frmD f1), .d (frmD f2), .d (frmD f3), .d (.list [.str (jT f1), .str (jT f2), .str (jT f3)]), s13, s14, s15], ⟨_, _, rfl⟩, ?_, ?_⟩
      · rintro t x ρ' hxt hlt ⟨s13, s14, rfl⟩
        match t, hxt with
        | 0, hxt =>
          cases hxt
          refine (g_name 13 rfl (by first | exact .inl rfl | exact .inr rfl) sc_law.nd rfl) _ fun _ => ?_
          show XB _ _ [.d (.list (ns.map .int)), .d (.int i), .own ys, .un, .un, s5, s6, s7, s8, .d (frmD f1), .d (frmD f2), .d (frmD f3), .d (.list [.str (jT f1), .str (jT f2), .str (jT f3)]), .d (.str "and"), s14, s15] _ _
          refine xb_cons (x_set 14 (r_tup (a_cons (r_var 13 rfl (by walk_at "v") rfl) (a_cons (r_tup (a_cons (r_var 13 rfl (by walk_at "v") rfl) (a_cons (r_var 9 rfl (by walk_at "v") rfl) (a_cons (r_var 10 rfl (by walk_at "v") rfl) a_nil))) rfl) (a_cons (r_var 11 rfl (by walk_at "v") rfl) a_nil))) rfl) rfl (by first | exact .inl rfl | exact .inr rfl) sc_law.nd rfl (fun _ => ?_))
          show XB _ _ [.d (.list (ns.map .int)), .d (.int i), .own ys, .un, .un, s5, s6, s7, s8, .d (frmD f1), .d (frmD f2), .d (frmD f3), .d (.list [.str (jT f1), .str (jT f2), .str (jT f3)]), .d (.str "and"), .d (frmD (.and (.and f1 f2) f3)), s15] _ _
          obtain ⟨lt, ll⟩ := link_told (o := "and") (by decide +kernel) k1 k2 k3 (by omega) (by omega) (by omega)
          have CR := D.read _ (Pt.and (.and (ptOf f1 0) (ptOf f2 0)) (ptOf f3 0)) (by omega) lt ⟨Nat.le_refl 1, leaf_lv d3, ⟨by rw [leaf_lv d1]; decide, leaf_lv d2, p1, q1⟩, r1⟩ (by show max (max _ _) _ ≤ 5; omega)
          have ef : (Pt.and (.and (ptOf f1 0) (ptOf f2 0)) (ptOf f3 0)).frm = .and (.and f1 f2) f3 := by show Frm.and (.and _ _) _ = _; rw [p2, q2, r2]
          rw [ef] at CR
          have kk : FrmX (.and (.and f1 f2) f3) := ⟨⟨⟨k1.1, k2.1⟩, k3.1⟩, ⟨⟨k1.2, k2.2⟩, k3.2⟩⟩
          have dd : (Frm.and (.and f1 f2) f3).dep < 4 := by show max (max f1.dep f2.dep + 1) f3.dep + 1 < 4; omega
          have jl : ([jT f1, jT f2, jT f3].map (·.length)).sum + [jT f1, jT f2, jT f3].length * ((" " ++ "and") ++ " " : Str).length ≤ 16777216 := by
            have : ((" " ++ "and") ++ " " : Str).length ≤ 10 := by decide +kernel
            simp only [List.map_cons, List.map_nil, List.sum_cons, List.sum_nil, List.length_cons, List.length_nil]
            omega
          refine xb_one (x_if (t_not (t_val (r_like D (n := 4) hr5 (r_cal CR hr26 pass0 (a_cons (r_join (ys := [jT f1, jT f2, jT f3]) (r_bin (r_bin r_str (r_var 13 rfl (by walk_at "v") rfl) (or_addS (by decide +kernel))) r_str (or_addS (by decide +kernel))) (r_var 12 rfl (by walk_at "v") rfl) (.inl rfl) jl) a_nil) rfl rfl (fun r' h => h)) (r_var 14 rfl (by walk_at "v") rfl) dd kk.1))) (fun h => nomatch h) (fun _ => xb_nil ⟨_, _, rfl⟩))
        | 1, hxt =>
          cases hxt
          refine (g_name 13 rfl (by first | exact .inl rfl | exact .inr rfl) sc_law.nd rfl) _ fun _ => ?_
          show XB _ _ [.d (.list (ns.map .int)), .d (.int i), .own ys, .un, .un, s5, s6, s7, s8, .d (frmD f1), .d (frmD f2), .d (frmD f3), .d (.list [.str (jT f1), .str (jT f2), .str (jT f3)]), .d (.str "or"), s14, s15] _ _
          refine xb_cons (x_set 14 (r_tup (a_cons (r_var 13 rfl (by walk_at "v") rfl) (a_cons (r_tup (a_cons (r_var 13 rfl (by walk_at "v") rfl) (a_cons (r_var 9 rfl (by walk_at "v") rfl) (a_cons (r_var 10 rfl (by walk_at "v") rfl) a_nil))) rfl) (a_cons (r_var 11 rfl (by walk_at "v") rfl) a_nil))) rfl) rfl (by first | exact .inl rfl | exact .inr rfl) sc_law.nd rfl (fun _ => ?_))
          show XB _ _ [.d (.list (ns.map .int)), .d (.int i), .own ys, .un, .un, s5, s6, s7, s8, .d (frmD f1), .d (frmD f2), .d (frmD f3), .d (.list [.str (jT f1), .str (jT f2), .str (jT f3)]), .d (.str "or"), .d (frmD (.or (.or f1 f2) f3)), s15] _ _
          obtain ⟨lt, ll⟩ := link_told (o := "or") (by decide +kernel) k1 k2 k3 (by omega) (by omega) (by omega)
          have CR := D.read _ (Pt.or (.or (ptOf f1 0) (ptOf f2 0)) (ptOf f3 0)) (by omega) lt ⟨by rw [leaf_lv d3]; decide, ⟨by rw [leaf_lv d2]; decide, p1, q1⟩, r1⟩ (by show max (max _ _) _ ≤ 5; omega)
          have ef : (Pt.or (.or (ptOf f1 0) (ptOf f2 0)) (ptOf f3 0)).frm = .or (.or f1 f2) f3 := by show Frm.or (.or _ _) _ = _; rw [p2, q2, r2]
          rw [ef] at CR
          have kk : FrmX (.or (.or f1 f2) f3) := ⟨⟨⟨k1.1, k2.1⟩, k3.1⟩, ⟨⟨k1.2, k2.2⟩, k3.2⟩⟩
          have dd : (Frm.or (.or f1 f2) f3).dep < 4 := by show max (max f1.dep f2.dep + 1) f3.dep + 1 < 4; omega
          have jl : ([jT f1, jT f2, jT f3].map (·.length)).sum + [jT f1, jT f2, jT f3].length * ((" " ++ "or") ++ " " : Str).length ≤ 16777216 := by
            have : ((" " ++ "or") ++ " " : Str).length ≤ 10 := by decide +kernel
            simp only [List.map_cons, List.map_nil, List.sum_cons, List.sum_nil, List.length_cons, List.length_nil]
            omega
          refine xb_one (x_if (t_not (t_val (r_like D (n := 4) hr5 (r_cal CR hr26 pass0 (a_cons (r_join (ys := [jT f1, jT f2, jT f3]) (r_bin (r_bin r_str (r_var 13 rfl (by walk_at "v") rfl) (or_addS (by decide +kernel))) r_str (or_addS (by decide +kernel))) (r_var 12 rfl (by walk_at "v") rfl) (.inl rfl) jl) a_nil) rfl rfl (fun r' h => h)) (r_var 14 rfl (by walk_at "v") rfl) dd kk.1))) (fun h => nomatch h) (fun _ => xb_nil ⟨_, _, rfl⟩))
        | t + 2, hxt => cases hxt
      rintro ρ' ⟨s13, s14, rfl⟩ hl4
      obtain ⟨lt, ll⟩ := loose_told k1 k2 k3 (by omega) (by omega) (by omega)
      have CR := D.read _ (Pt.or (ptOf f1 0) (.and (.not (ptOf f2 0)) (ptOf f3 0))) (by omega) lt ⟨Nat.le_refl 1, p1, ⟨Nat.le_succ 1, leaf_lv d3, ⟨leaf_lv d2, q1⟩, r1⟩⟩ (by show max _ (max (_ + 1) _) ≤ 5; omega)
      have ef : (Pt.or (ptOf f1 0) (.and (.not (ptOf f2 0)) (ptOf f3 0))).frm = .or f1 (.and (.not f2) f3) := by show Frm.or _ (.and (.not _) _) = _; rw [p2, q2, r2]
      rw [ef] at CR
      have kk : FrmX (.or f1 (.and (.not f2) f3)) := ⟨⟨k1.1, k2.1, k3.1⟩, ⟨k1.2, k2.2, k3.2⟩⟩
      have dd : (Frm.or f1 (.and (.not f2) f3)).dep < 4 := by show max f1.dep (max (f2.dep + 1) f3.dep + 1) + 1 < 4; omega
      have l8 : (" or not " : Str).length = 8 := by decide +kernel
      have l5 : (" and " : Str).length = 5 := by decide +kernel
      show XB _ _ [.d (.list (ns.map .int)), .d (.int i), .own ys, .un, .un, s5, s6, s7, s8, .d (frmD f1), .d (frmD f2), .d (frmD f3), .d (.list [.str (jT f1), .str (jT f2), .str (jT f3)]), s13, s14, s15] _ _
      refine xb_cons (x_set 15 (r_cal CR hr26 pass0 (a_cons (r_bin (r_bin (r_bin (r_bin (r_ix (r_var 12 rfl (by walk_at "v") rfl) r_int (ir_at (.inl rfl) rfl)) r_str (or_addS (by (try simp only [Str.length_append]); rw [sizeLine_eq]; omega))) (r_ix (r_var 12 rfl (by walk_at "v") rfl) r_int (ir_at (.inl rfl) rfl)) (or_addS (by (try simp only [Str.length_append]); rw [sizeLine_eq]; omega))) r_str (or_addS (by (try simp only [Str.length_append]); rw [sizeLine_eq]; omega))) (r_ix (r_var 12 rfl (by walk_at "v") rfl) r_int (ir_at (.inl rfl) rfl)) (or_addS (by (try simp only [Str.length_append]); rw [sizeLine_eq]; omega))) a_nil) rfl rfl (fun r' h => h)) rfl (by first | exact .inl rfl | exact .inr rfl) sc_law.nd rfl (fun _ => ?_))
      show XB _ _ [.d (.list (ns.map .int)), .d (.int i), .own ys, .un, .un, s5, s6, s7, s8, .d (frmD f1), .d (frmD f2), .d (frmD f3), .d (.list [.str (jT f1), .str (jT f2), .str (jT f3)]), s13, s14, CndF K C (.or f1 (.and (.not f2) f3))] _ _
      refine xb_one (x_if (t_not (t_val (r_like D (n := 4) hr5 (r_varF 15 rfl (by walk_at "v") rfl) (r_tup (a_cons r_str (a_cons (r_var 9 rfl (by walk_at "v") rfl) (a_cons (r_tup (a_cons r_str (a_cons (r_tup (a_cons r_str (a_cons (r_var 10 rfl (by walk_at "v") rfl) a_nil)) rfl) (a_cons (r_var 11 rfl (by walk_at "v") rfl) a_nil))) rfl) a_nil))) rfl) dd kk.1))) (fun h => nomatch h) (fun _ => xb_nil ⟨_, _, _, _, _, _, _, _, _, _, _, _, _, _, _,  .inl rfl, .inl rfl, rfl⟩))
end

end K82

namespace K82
open PySem L2 SZ VR VX StX RT DE
/-! ### own errors in the written part -/
abbrev veM (far : Addr) : List Value := [.ref far, .type "ValueError", .type "Exception", .type "BaseException", .type "object"]
/-- what the top says of an error class at C -/
structure ErX (K : PySem.W.Frag) (mg : Str → Option Value) (x : Str) (C far : Addr) (f : Str) : Prop where
  l : ∃ nm q N bs sn sub ab col dd k0 k1 k2 k3 k5, K.lookup C = some (excClassObj nm q C N bs (veM far) true sn sub ab col dd k0 k1 k2 k3 k5 "ValueError.__new__")
  sa : PySem.W.findIn K (.ref C) "__setattr__" = some (some (.builtin "object.__setattr__"))
  kC : PySem.W.keepIn K (.ref C) = true
  ga : PySem.W.findIn K (.ref C) "__getattribute__" = some (some (.builtin "BaseException.__getattribute__"))
  gg : PySem.W.findIn K (.ref C) "__getattr__" = some none
  ex : PySem.W.subIn K (.ref C) (.type "BaseException") = some true
  ac : PySem.W.findIn K (.ref C) "__class__" = some (some (.builtin "object.__class__"))
  an : PySem.W.specialIn K (.builtin "object.__class__") "__get__" = some (some (.builtin "getset_descriptor.__get__"))
  tk : PySem.W.takesIn K (.builtin "object.__class__") = some true
  mo : PySem.W.mroIn K C (.type "object") = some true
  no : PySem.W.findIn K (.ref C) f = some none
  m : mg x = some (.ref C)
theorem ErX.clsIn {K : PySem.W.Frag} {mg : Str → Option Value} {x : Str} {C far : Addr} {f : Str} (h : ErX K mg x C far f) : ∃ cd, PySem.W.clsIn K C = some cd ∧ cd.mro = .ref C :: veM far := by
  obtain ⟨nm, q, N, bs, sn, sub, ab, col, dd, k0, k1, k2, k3, k5, l⟩ := h.l
  have e : PySem.W.clsIn K C = some { name := nm, bases := bs, mro := .ref C :: veM far, ns := N, qualname := q, hasDict := true, slotNames := sn, subclasses := sub, abstract := ab, collection := col, hasDel := false } := by unfold PySem.W.clsIn; rw [l] <;> rfl
  exact ⟨_, e, rfl⟩
theorem ErX.sub {K : PySem.W.Frag} {mg : Str → Option Value} {x : Str} {C far : Addr} {f : Str} (h : ErX K mg x C far f) (b : Value) : PySem.W.subIn K (.ref C) b = some ((Value.ref C :: veM far).contains b) := by
  obtain ⟨cd, e, em⟩ := h.clsIn
  show ((PySem.W.clsIn K C).bind fun cd => if cd.mro.isEmpty = true then none else some (cd.mro.contains b)) = _
  rw [e]
  show (if cd.mro.isEmpty = true then none else some (cd.mro.contains b)) = _
  rw [em]
  rfl
theorem ErX.isC {K : PySem.W.Frag} {mg : Str → Option Value} {x : Str} {C far : Addr} {f : Str} (h : ErX K mg x C far f) : (PySem.W.clsIn K C).isSome = true := by
  obtain ⟨cd, e, _⟩ := h.clsIn
  rw [e]
  rfl
theorem ErX.ty {K : PySem.W.Frag} {mg : Str → Option Value} {x : Str} {C far : Addr} {f : Str} (h : ErX K mg x C far f) : PySem.W.typeIn K (.ref C) = some (.type "type") := by
  obtain ⟨nm, q, N, bs, sn, sub, ab, col, dd, k0, k1, k2, k3, k5, l⟩ := h.l
  show (K.lookup C).map (fun x => x.cls) = _
  rw [l]
  rfl
theorem ErX.oxc {K : PySem.W.Frag} {mg : Str → Option Value} {x : Str} {C far : Addr} {f : Str} (h : ErX K mg x C far f) : OxC K C := by
  obtain ⟨nm, q, N, bs, sn, sub, ab, col, dd, k0, k1, k2, k3, k5, l⟩ := h.l
  exact ⟨⟨nm, q, N, bs, veM far, sn, sub, ab, col, dd, k0, k1, k2, k3, k5, "ValueError", "ValueError.__new__", "ValueError.__init__", _, PySem.F.excBase_ValueError, l, fun Y => PySem.HandSPX.refsVE_contains Y (veM far) rfl, fun self => PySem.HandSPX.refsVE_pass self _ rfl, (PySem.HandSPX.refsVE_contains "object" (veM far) rfl).trans (by decide +kernel)⟩, h.sa, h.kC, h.ga, h.gg, h.ex, h.ac, h.an, h.tk, h.mo⟩
theorem ErX.oexc {K : PySem.W.Frag} {mg : Str → Option Value} {x : Str} {C far : Addr} {f : Str} (h : ErX K mg x C far f) : OexC K C := by
  obtain ⟨nm, q, N, bs, sn, sub, ab, col, dd, k0, k1, k2, k3, k5, l⟩ := h.l
  exact ⟨⟨nm, q, N, bs, veM far, sn, sub, ab, col, dd, k0, k1, k2, k3, k5, l, rfl⟩, h.sa, h.ex, h.ty, h.kC⟩
/-- raised by one class, named by the other -/
theorem ErX.exm {K : PySem.W.Frag} {mg : Str → Option Value} {x y : Str} {C D far : Addr} {f g : Str} (h : ErX K mg x C far f) (h2 : ErX K mg y D far g) (n : D ≠ far) : PySem.W.exmOne K (.ref C) (.ref D) = some (decide (C = D)) := by
  have e1 : (PySem.W.subIn K (.ref D) (.type "BaseException") == some true) = true := by rw [h2.ex] <;> rfl
  have e2 : ((PySem.W.clsIn K D).isSome && PySem.W.typeIn K (.ref D) == some (.type "type")) = true := by rw [h2.isC, h2.ty] <;> rfl
  show (if (PySem.W.subIn K (.ref D) (.type "BaseException") == some true) = true then (if ((PySem.W.clsIn K D).isSome && PySem.W.typeIn K (.ref D) == some (.type "type")) = true then PySem.W.subIn K (.ref C) (.ref D) else none) else none) = _
  rw [if_pos e1, if_pos e2, h.sub]
  congr 1
  rw [List.contains_cons]
  have n2 : (Value.ref D == Value.ref far) = false := beq_eq_false_iff_ne.mpr fun z => n (Value.ref.inj z)
  have e3 : (veM far).contains (.ref D) = false := by
    rw [List.contains_cons, n2]
    rfl
  rw [e3, Bool.or_false]
  by_cases e : C = D
  · subst e
    rw [decide_eq_true rfl]
    exact beq_self_eq_true _
  · rw [decide_eq_false e]
    exact beq_eq_false_iff_ne.mpr fun z => e (Value.ref.inj z).symm

def spLaw (K : PySem.W.Frag) : Sp := fun vs H Q _ => ∃ (a : Addr) (ns : List Int), vs = [.ref a] ∧ SqL K H a (ns.map V.int) ∧ ns.length ≤ 63 ∧ Only H ∧ ∀ H', Q (.bl true) H'
theorem ints_dpL {K : PySem.W.Frag} {H : Hp} : ∀ ns : List Int, DpAll K H (ns.map V.int) (ns.map PyData.int)
  | [] => .nil
  | n :: ns => .cons (.int n) (ints_dpL ns)
theorem law_sp {P : Program} {w : World} {K : PySem.W.Frag} {mg : Str → Option Value} {base : Heap} {k : Nat} {f : Addr} {fd : FuncData} {ps : List Str} (F : RunG P w K mg base CX0 k f fd ps (spP K PreL ResL)) : RunG P w K mg base CX0 k f fd ps (spLaw K) := F.imp fun vs H Q E z => by
  obtain ⟨a, ns, rfl, hs, hn, ho, q⟩ := z
  refine ⟨H, [.d (.list (ns.map .int))], rfl, ⟨Same.refl _, Same.refl _, fun a o e => .inl e, fun a o e _ => e, fun a ha => (nomatch ha), fun c hc => ?_, by simp [ads], fun b o e => ?_⟩, ⟨ns, rfl, hn⟩, fun r hr nb v H' hh => ?_⟩
  · rw [List.mem_singleton.mp hc]
    exact ⟨.ref a, rfl, .lst hs (ints_dpL ns)⟩
  · rcases ho b with h | ⟨o', xs, h⟩
    · rw [h] at e; cases e
    · rw [h] at e
      cases e
      exact .inr (.inr rfl)
  · subst hr
    have := hh.isB
    subst this
    exact q H'
section
variable {P : Program} {w : World} {K : PySem.W.Frag} {mg : Str → Option Value} {base : Heap}
theorem sx_InvalidSyntax {C fI : Addr} {fd : FuncData} (T : OxC K C) (no : PySem.W.findIn K (.ref C) "position" = some none) (F : Fun K "__init__" "InvalidSyntax.__init__" S_InvalidSyntax___init__ fI fd) : FnOk P w K mg base CX0 1 fI fd [("self" : Str), "position"] (spOx K C "position") := by
  refine F.ok sc_InvalidSyntax___init__ (fun vs H Q E h => ?_) (fun cdv A outer s H vs Q E hr h => ?_)
  · obtain ⟨a, v, rfl, _⟩ := h; rfl
  · obtain ⟨a, v, rfl, ha, q⟩ := h
    exact ⟨_, pss_one (ps_ox (pv 0) (pv 1)), ⟨_, rfl, _, rfl, a, C, rfl, T, no, ha, fun dx h1 h2 => q dx h1 h2⟩⟩
theorem sx_TooLarge {C fI : Addr} {fd : FuncData} (T : OxC K C) (no : PySem.W.findIn K (.ref C) "word" = some none) (F : Fun K "__init__" "TooLarge.__init__" S_TooLarge___init__ fI fd) : FnOk P w K mg base CX0 1 fI fd [("self" : Str), "word"] (spOx K C "word") := by
  refine F.ok sc_TooLarge___init__ (fun vs H Q E h => ?_) (fun cdv A outer s H vs Q E hr h => ?_)
  · obtain ⟨a, v, rfl, _⟩ := h; rfl
  · obtain ⟨a, v, rfl, ha, q⟩ := h
    exact ⟨_, pss_one (ps_ox (pv 0) (pv 1)), ⟨_, rfl, _, rfl, a, C, rfl, T, no, ha, fun dx h1 h2 => q dx h1 h2⟩⟩
end
theorem all_mk {l : PySem.W.OpenLaw} {w : World} {K : PySem.W.Frag} {h : Heap} {mg : Str → Option Value} {fa : Addr}
    {C_FarError : Addr}
    {C_InvalidSyntax : Addr}
    {N_InvalidSyntax : Addr} {nm_InvalidSyntax q_InvalidSyntax : Str} {bs_InvalidSyntax sb_InvalidSyntax : List Value} {sn_InvalidSyntax : List Str} {ab_InvalidSyntax : Bool} {co_InvalidSyntax : Option Bool} {dd_InvalidSyntax : Option Addr} {x_InvalidSyntax y_InvalidSyntax zz_InvalidSyntax u_InvalidSyntax v_InvalidSyntax : Option Value}
    {f_InvalidSyntax___init__ : Addr} {oc_InvalidSyntax___init__ kV_InvalidSyntax___init__ dc_InvalidSyntax___init__ pm_InvalidSyntax___init__ cd_InvalidSyntax___init__ ct_InvalidSyntax___init__ : Value} {od_InvalidSyntax___init__ an_InvalidSyntax___init__ : Option Addr} {sl_InvalidSyntax___init__ : Array (Option Value)}
    {C_TooLarge : Addr}
    {N_TooLarge : Addr} {nm_TooLarge q_TooLarge : Str} {bs_TooLarge sb_TooLarge : List Value} {sn_TooLarge : List Str} {ab_TooLarge : Bool} {co_TooLarge : Option Bool} {dd_TooLarge : Option Addr} {x_TooLarge y_TooLarge zz_TooLarge u_TooLarge v_TooLarge : Option Value}
    {f_TooLarge___init__ : Addr} {oc_TooLarge___init__ kV_TooLarge___init__ dc_TooLarge___init__ pm_TooLarge___init__ cd_TooLarge___init__ ct_TooLarge___init__ : Value} {od_TooLarge___init__ an_TooLarge___init__ : Option Addr} {sl_TooLarge___init__ : Array (Option Value)}
    {t_LETTERS : Tok}
    {t_DIGITS : Tok}
    {t_GAPS : Tok}
    {t_MOST_DIGITS : Tok}
    {f_is_word : Addr} {oc_is_word kV_is_word dc_is_word pm_is_word cd_is_word ct_is_word : Value} {od_is_word an_is_word : Option Addr} {sl_is_word : Array (Option Value)}
    {f_is_number : Addr} {oc_is_number kV_is_number dc_is_number pm_is_number cd_is_number ct_is_number : Value} {od_is_number an_is_number : Option Addr} {sl_is_number : Array (Option Value)}
    {f_end_of_run : Addr} {oc_end_of_run kV_end_of_run dc_end_of_run pm_end_of_run cd_end_of_run ct_end_of_run : Value} {od_end_of_run an_end_of_run : Option Addr} {sl_end_of_run : Array (Option Value)}
    {f_tokens_of : Addr} {oc_tokens_of kV_tokens_of dc_tokens_of pm_tokens_of cd_tokens_of ct_tokens_of : Value} {od_tokens_of an_tokens_of : Option Addr} {sl_tokens_of : Array (Option Value)}
    {C_Reader : Addr}
    {f_Reader___init__ : Addr} {oc_Reader___init__ kV_Reader___init__ dc_Reader___init__ pm_Reader___init__ cd_Reader___init__ ct_Reader___init__ : Value} {od_Reader___init__ an_Reader___init__ : Option Addr} {sl_Reader___init__ : Array (Option Value)}
    {f_Reader_token : Addr} {oc_Reader_token kV_Reader_token dc_Reader_token pm_Reader_token cd_Reader_token ct_Reader_token : Value} {od_Reader_token an_Reader_token : Option Addr} {sl_Reader_token : Array (Option Value)}
    {f_Reader_place : Addr} {oc_Reader_place kV_Reader_place dc_Reader_place pm_Reader_place cd_Reader_place ct_Reader_place : Value} {od_Reader_place an_Reader_place : Option Addr} {sl_Reader_place : Array (Option Value)}
    {f_Reader_pass_any : Addr} {oc_Reader_pass_any kV_Reader_pass_any dc_Reader_pass_any pm_Reader_pass_any cd_Reader_pass_any ct_Reader_pass_any : Value} {od_Reader_pass_any an_Reader_pass_any : Option Addr} {sl_Reader_pass_any : Array (Option Value)}
    {f_Reader_passes : Addr} {oc_Reader_passes kV_Reader_passes dc_Reader_passes pm_Reader_passes cd_Reader_passes ct_Reader_passes : Value} {od_Reader_passes an_Reader_passes : Option Addr} {sl_Reader_passes : Array (Option Value)}
    {f_Reader_pass_only : Addr} {oc_Reader_pass_only kV_Reader_pass_only dc_Reader_pass_only pm_Reader_pass_only cd_Reader_pass_only ct_Reader_pass_only : Value} {od_Reader_pass_only an_Reader_pass_only : Option Addr} {sl_Reader_pass_only : Array (Option Value)}
    {f_Reader_pass_one : Addr} {oc_Reader_pass_one kV_Reader_pass_one dc_Reader_pass_one pm_Reader_pass_one cd_Reader_pass_one ct_Reader_pass_one : Value} {od_Reader_pass_one an_Reader_pass_one : Option Addr} {sl_Reader_pass_one : Array (Option Value)}
    {f_Reader_pass_number : Addr} {oc_Reader_pass_number kV_Reader_pass_number dc_Reader_pass_number pm_Reader_pass_number cd_Reader_pass_number ct_Reader_pass_number : Value} {od_Reader_pass_number an_Reader_pass_number : Option Addr} {sl_Reader_pass_number : Array (Option Value)}
    {f_Reader_pass_end : Addr} {oc_Reader_pass_end kV_Reader_pass_end dc_Reader_pass_end pm_Reader_pass_end cd_Reader_pass_end ct_Reader_pass_end : Value} {od_Reader_pass_end an_Reader_pass_end : Option Addr} {sl_Reader_pass_end : Array (Option Value)}
    {t_KEYWORDS : Addr} {t_KEYWORDS0 t_KEYWORDS1 t_KEYWORDS2 t_KEYWORDS3 t_KEYWORDS4 t_KEYWORDS5 : Tok} {dd_KEYWORDS : Option Addr} {n_KEYWORDS : Nat} {ds_KEYWORDS : Array (Option Value)}
    {f_is_name : Addr} {oc_is_name kV_is_name dc_is_name pm_is_name cd_is_name ct_is_name : Value} {od_is_name an_is_name : Option Addr} {sl_is_name : Array (Option Value)}
    {t_KINDS : Addr} {t_KINDS0 t_KINDS1 t_KINDS2 t_KINDS3 t_KINDS4 : Tok} {dd_KINDS : Option Addr} {n_KINDS : Nat} {ds_KINDS : Array (Option Value)}
    {t_FIELDS : Addr} {t_FIELDS0 t_FIELDS1 t_FIELDS2 t_FIELDS3 t_FIELDS4 t_FIELDS5 : Tok} {dd_FIELDS : Option Addr} {n_FIELDS : Nat} {ds_FIELDS : Array (Option Value)}
    {t_NUMBERS : Addr} {t_NUMBERS0 t_NUMBERS1 t_NUMBERS2 : Tok} {dd_NUMBERS : Option Addr} {n_NUMBERS : Nat} {ds_NUMBERS : Array (Option Value)}
    {t_WORDS : Addr} {t_WORDS0 t_WORDS1 : Tok} {dd_WORDS : Option Addr} {n_WORDS : Nat} {ds_WORDS : Array (Option Value)}
    {t_MOST_DEPTH : Tok}
    {C_Condition : Addr}
    {f_Condition___init__ : Addr} {oc_Condition___init__ kV_Condition___init__ dc_Condition___init__ pm_Condition___init__ cd_Condition___init__ ct_Condition___init__ : Value} {od_Condition___init__ an_Condition___init__ : Option Addr} {sl_Condition___init__ : Array (Option Value)}
    {f_Condition_parts : Addr} {oc_Condition_parts kV_Condition_parts dc_Condition_parts pm_Condition_parts cd_Condition_parts ct_Condition_parts : Value} {od_Condition_parts an_Condition_parts : Option Addr} {sl_Condition_parts : Array (Option Value)}
    {f_Condition___call__ : Addr} {oc_Condition___call__ kV_Condition___call__ dc_Condition___call__ pm_Condition___call__ cd_Condition___call__ ct_Condition___call__ : Value} {od_Condition___call__ an_Condition___call__ : Option Addr} {sl_Condition___call__ : Array (Option Value)}
    {f_Condition___and__ : Addr} {oc_Condition___and__ kV_Condition___and__ dc_Condition___and__ pm_Condition___and__ cd_Condition___and__ ct_Condition___and__ : Value} {od_Condition___and__ an_Condition___and__ : Option Addr} {sl_Condition___and__ : Array (Option Value)}
    {f_Condition___or__ : Addr} {oc_Condition___or__ kV_Condition___or__ dc_Condition___or__ pm_Condition___or__ cd_Condition___or__ ct_Condition___or__ : Value} {od_Condition___or__ an_Condition___or__ : Option Addr} {sl_Condition___or__ : Array (Option Value)}
    {f_Condition___invert__ : Addr} {oc_Condition___invert__ kV_Condition___invert__ dc_Condition___invert__ pm_Condition___invert__ cd_Condition___invert__ ct_Condition___invert__ : Value} {od_Condition___invert__ an_Condition___invert__ : Option Addr} {sl_Condition___invert__ : Array (Option Value)}
    {f_Condition___eq__ : Addr} {oc_Condition___eq__ kV_Condition___eq__ dc_Condition___eq__ pm_Condition___eq__ cd_Condition___eq__ ct_Condition___eq__ : Value} {od_Condition___eq__ an_Condition___eq__ : Option Addr} {sl_Condition___eq__ : Array (Option Value)}
    {f_read_condition : Addr} {oc_read_condition kV_read_condition dc_read_condition pm_read_condition cd_read_condition ct_read_condition : Value} {od_read_condition an_read_condition : Option Addr} {sl_read_condition : Array (Option Value)}
    {f_condition : Addr} {oc_condition kV_condition dc_condition pm_condition cd_condition ct_condition : Value} {od_condition an_condition : Option Addr} {sl_condition : Array (Option Value)}
    {f_both : Addr} {oc_both kV_both dc_both pm_both cd_both ct_both : Value} {od_both an_both : Option Addr} {sl_both : Array (Option Value)}
    {f_one : Addr} {oc_one kV_one dc_one pm_one cd_one ct_one : Value} {od_one an_one : Option Addr} {sl_one : Array (Option Value)}
    {f_value : Addr} {oc_value kV_value dc_value pm_value cd_value ct_value : Value} {od_value an_value : Option Addr} {sl_value : Array (Option Value)}
    {f_law_pool : Addr} {oc_law_pool kV_law_pool dc_law_pool pm_law_pool cd_law_pool ct_law_pool : Value} {od_law_pool an_law_pool : Option Addr} {sl_law_pool : Array (Option Value)}
    {f_law_take : Addr} {oc_law_take kV_law_take dc_law_take pm_law_take cd_law_take ct_law_take : Value} {od_law_take an_law_take : Option Addr} {sl_law_take : Array (Option Value)}
    {f_law_atoms : Addr} {oc_law_atoms kV_law_atoms dc_law_atoms pm_law_atoms cd_law_atoms ct_law_atoms : Value} {od_law_atoms an_law_atoms : Option Addr} {sl_law_atoms : Array (Option Value)}
    {f_law_form : Addr} {oc_law_form kV_law_form dc_law_form pm_law_form cd_law_form ct_law_form : Value} {od_law_form an_law_form : Option Addr} {sl_law_form : Array (Option Value)}
    {f_law_words : Addr} {oc_law_words kV_law_words dc_law_words pm_law_words cd_law_words ct_law_words : Value} {od_law_words an_law_words : Option Addr} {sl_law_words : Array (Option Value)}
    {f_law_is_like : Addr} {oc_law_is_like kV_law_is_like dc_law_is_like pm_law_is_like cd_law_is_like ct_law_is_like : Value} {od_law_is_like an_law_is_like : Option Addr} {sl_law_is_like : Array (Option Value)}
    {f_law_atom : Addr} {oc_law_atom kV_law_atom dc_law_atom pm_law_atom cd_law_atom ct_law_atom : Value} {od_law_atom an_law_atom : Option Addr} {sl_law_atom : Array (Option Value)}
    {f_law_built : Addr} {oc_law_built kV_law_built dc_law_built pm_law_built cd_law_built ct_law_built : Value} {od_law_built an_law_built : Option Addr} {sl_law_built : Array (Option Value)}
    {f_law_text : Addr} {oc_law_text kV_law_text dc_law_text pm_law_text cd_law_text ct_law_text : Value} {od_law_text an_law_text : Option Addr} {sl_law_text : Array (Option Value)}
    {f_law_more : Addr} {oc_law_more kV_law_more dc_law_more pm_law_more cd_law_more ct_law_more : Value} {od_law_more an_law_more : Option Addr} {sl_law_more : Array (Option Value)}
    {f_law : Addr} {oc_law kV_law dc_law pm_law cd_law ct_law : Value} {od_law an_law : Option Addr} {sl_law : Array (Option Value)}
    {f_where : Addr} {oc_where kV_where dc_where pm_where cd_where ct_where : Value} {od_where an_where : Option Addr} {sl_where : Array (Option Value)}
    {ia1 ia2 ia3 ia4 : Option Value}
    (X : K.In h) (G : h.Ns mainGlobals mg) (hfa : mg "law" = some (.ref fa))
    (aC_FarError : PySem.W.nsIn K mainGlobals "FarError" = some (some (.ref C_FarError)))
    (aC_InvalidSyntax : PySem.W.nsIn K mainGlobals "InvalidSyntax" = some (some (.ref C_InvalidSyntax)))
    (l_InvalidSyntax : K.lookup C_InvalidSyntax = some (excClassObj nm_InvalidSyntax q_InvalidSyntax C_InvalidSyntax N_InvalidSyntax bs_InvalidSyntax (veM C_FarError) true sn_InvalidSyntax sb_InvalidSyntax ab_InvalidSyntax co_InvalidSyntax dd_InvalidSyntax x_InvalidSyntax y_InvalidSyntax zz_InvalidSyntax u_InvalidSyntax v_InvalidSyntax "ValueError.__new__"))
    (sa_InvalidSyntax : PySem.W.findIn K (.ref C_InvalidSyntax) "__setattr__" = some (some (.builtin "object.__setattr__")))
    (kC_InvalidSyntax : PySem.W.keepIn K (.ref C_InvalidSyntax) = true)
    (ga_InvalidSyntax : PySem.W.findIn K (.ref C_InvalidSyntax) "__getattribute__" = some (some (.builtin "BaseException.__getattribute__")))
    (gg_InvalidSyntax : PySem.W.findIn K (.ref C_InvalidSyntax) "__getattr__" = some none)
    (ex_InvalidSyntax : PySem.W.subIn K (.ref C_InvalidSyntax) (.type "BaseException") = some true)
    (ac_InvalidSyntax : PySem.W.findIn K (.ref C_InvalidSyntax) "__class__" = some (some (.builtin "object.__class__")))
    (mo_InvalidSyntax : PySem.W.mroIn K C_InvalidSyntax (.type "object") = some true)
    (no_InvalidSyntax : PySem.W.findIn K (.ref C_InvalidSyntax) "position" = some none)
    (i_InvalidSyntax : PySem.W.findIn K (.ref C_InvalidSyntax) "__init__" = some (some (.ref f_InvalidSyntax___init__)))
    (t_InvalidSyntax : PySem.W.isFn K (.ref f_InvalidSyntax___init__) = true)
    (l_InvalidSyntax___init__ : K.lookup f_InvalidSyntax___init__ = some ⟨oc_InvalidSyntax___init__, od_InvalidSyntax___init__, .func (PySem.W.fnOf "__init__" "InvalidSyntax.__init__" (defArgs S_InvalidSyntax___init__) (defBody S_InvalidSyntax___init__) (defScope S_InvalidSyntax___init__) .none kV_InvalidSyntax___init__ dc_InvalidSyntax___init__ pm_InvalidSyntax___init__ an_InvalidSyntax___init__ cd_InvalidSyntax___init__ ct_InvalidSyntax___init__), sl_InvalidSyntax___init__⟩)
    (c_InvalidSyntax___init__ : PySem.W.codeIn K cd_InvalidSyntax___init__ "InvalidSyntax.__init__" = true)
    (k_InvalidSyntax___init__ : PySem.W.keepIn K (.ref f_InvalidSyntax___init__) = true)
    (aC_TooLarge : PySem.W.nsIn K mainGlobals "TooLarge" = some (some (.ref C_TooLarge)))
    (l_TooLarge : K.lookup C_TooLarge = some (excClassObj nm_TooLarge q_TooLarge C_TooLarge N_TooLarge bs_TooLarge (veM C_FarError) true sn_TooLarge sb_TooLarge ab_TooLarge co_TooLarge dd_TooLarge x_TooLarge y_TooLarge zz_TooLarge u_TooLarge v_TooLarge "ValueError.__new__"))
    (sa_TooLarge : PySem.W.findIn K (.ref C_TooLarge) "__setattr__" = some (some (.builtin "object.__setattr__")))
    (kC_TooLarge : PySem.W.keepIn K (.ref C_TooLarge) = true)
    (ga_TooLarge : PySem.W.findIn K (.ref C_TooLarge) "__getattribute__" = some (some (.builtin "BaseException.__getattribute__")))
    (gg_TooLarge : PySem.W.findIn K (.ref C_TooLarge) "__getattr__" = some none)
    (ex_TooLarge : PySem.W.subIn K (.ref C_TooLarge) (.type "BaseException") = some true)
    (ac_TooLarge : PySem.W.findIn K (.ref C_TooLarge) "__class__" = some (some (.builtin "object.__class__")))
    (mo_TooLarge : PySem.W.mroIn K C_TooLarge (.type "object") = some true)
    (no_TooLarge : PySem.W.findIn K (.ref C_TooLarge) "word" = some none)
    (i_TooLarge : PySem.W.findIn K (.ref C_TooLarge) "__init__" = some (some (.ref f_TooLarge___init__)))
    (t_TooLarge : PySem.W.isFn K (.ref f_TooLarge___init__) = true)
    (l_TooLarge___init__ : K.lookup f_TooLarge___init__ = some ⟨oc_TooLarge___init__, od_TooLarge___init__, .func (PySem.W.fnOf "__init__" "TooLarge.__init__" (defArgs S_TooLarge___init__) (defBody S_TooLarge___init__) (defScope S_TooLarge___init__) .none kV_TooLarge___init__ dc_TooLarge___init__ pm_TooLarge___init__ an_TooLarge___init__ cd_TooLarge___init__ ct_TooLarge___init__), sl_TooLarge___init__⟩)
    (c_TooLarge___init__ : PySem.W.codeIn K cd_TooLarge___init__ "TooLarge.__init__" = true)
    (k_TooLarge___init__ : PySem.W.keepIn K (.ref f_TooLarge___init__) = true)
    (a_LETTERS : PySem.W.nsIn K mainGlobals "_LETTERS" = some (some (.str (Str.ofString "abcdefghijklmnopqrstuvwxyz") t_LETTERS)))
    (a_DIGITS : PySem.W.nsIn K mainGlobals "_DIGITS" = some (some (.str (Str.ofString "0123456789") t_DIGITS)))
    (a_GAPS : PySem.W.nsIn K mainGlobals "_GAPS" = some (some (.str (Str.ofString " \n") t_GAPS)))
    (a_MOST_DIGITS : PySem.W.nsIn K mainGlobals "_MOST_DIGITS" = some (some (.int 150 t_MOST_DIGITS)))
    (a_is_word : PySem.W.nsIn K mainGlobals "is_word" = some (some (.ref f_is_word)))
    (l_is_word : K.lookup f_is_word = some ⟨oc_is_word, od_is_word, .func (PySem.W.fnOf "is_word" "is_word" (defArgs S_is_word) (defBody S_is_word) (defScope S_is_word) .none kV_is_word dc_is_word pm_is_word an_is_word cd_is_word ct_is_word), sl_is_word⟩)
    (c_is_word : PySem.W.codeIn K cd_is_word "is_word" = true)
    (k_is_word : PySem.W.keepIn K (.ref f_is_word) = true)
    (a_is_number : PySem.W.nsIn K mainGlobals "is_number" = some (some (.ref f_is_number)))
    (l_is_number : K.lookup f_is_number = some ⟨oc_is_number, od_is_number, .func (PySem.W.fnOf "is_number" "is_number" (defArgs S_is_number) (defBody S_is_number) (defScope S_is_number) .none kV_is_number dc_is_number pm_is_number an_is_number cd_is_number ct_is_number), sl_is_number⟩)
    (c_is_number : PySem.W.codeIn K cd_is_number "is_number" = true)
    (k_is_number : PySem.W.keepIn K (.ref f_is_number) = true)
    (a_end_of_run : PySem.W.nsIn K mainGlobals "_end_of_run" = some (some (.ref f_end_of_run)))
    (l_end_of_run : K.lookup f_end_of_run = some ⟨oc_end_of_run, od_end_of_run, .func (PySem.W.fnOf "_end_of_run" "_end_of_run" (defArgs S_end_of_run) (defBody S_end_of_run) (defScope S_end_of_run) .none kV_end_of_run dc_end_of_run pm_end_of_run an_end_of_run cd_end_of_run ct_end_of_run), sl_end_of_run⟩)
    (c_end_of_run : PySem.W.codeIn K cd_end_of_run "_end_of_run" = true)
    (k_end_of_run : PySem.W.keepIn K (.ref f_end_of_run) = true)
    (a_tokens_of : PySem.W.nsIn K mainGlobals "tokens_of" = some (some (.ref f_tokens_of)))
    (l_tokens_of : K.lookup f_tokens_of = some ⟨oc_tokens_of, od_tokens_of, .func (PySem.W.fnOf "tokens_of" "tokens_of" (defArgs S_tokens_of) (defBody S_tokens_of) (defScope S_tokens_of) .none kV_tokens_of dc_tokens_of pm_tokens_of an_tokens_of cd_tokens_of ct_tokens_of), sl_tokens_of⟩)
    (c_tokens_of : PySem.W.codeIn K cd_tokens_of "tokens_of" = true)
    (k_tokens_of : PySem.W.keepIn K (.ref f_tokens_of) = true)
    (aC_Reader : PySem.W.nsIn K mainGlobals "Reader" = some (some (.ref C_Reader)))
    (pg_Reader : PySem.W.plainGet K C_Reader Str.empty = true)
    (hd_Reader : PySem.W.hasDictIn K C_Reader = true)
    (po_Reader : PySem.W.plainOver K C_Reader = true)
    (sa_Reader : PySem.W.findIn K (.ref C_Reader) "__setattr__" = some (some (.builtin "object.__setattr__")))
    (mk_Reader : PySem.W.makesIn K C_Reader = true)
    (kc_Reader : PySem.W.keepIn K (.ref C_Reader) = true)
    (cc_Reader : PySem.W.findIn K (.ref C_Reader) "__class__" = some (some (.builtin "object.__class__")))
    (cm_Reader : PySem.W.mroIn K C_Reader (.type "object") = some true)
    (ic_Reader : PySem.W.isClsIn K C_Reader = true)
    (tc_Reader : PySem.W.typeIn K (.ref C_Reader) = some (.type "type"))
    (cgO : PySem.W.specialIn K (.builtin "object.__class__") "__get__" = some (some (.builtin "getset_descriptor.__get__")))
    (ctO : PySem.W.takesIn K (.builtin "object.__class__") = some true)
    (np_Reader_tokens : PySem.W.findIn K (.ref C_Reader) "_tokens" = some none)
    (np_Reader_at : PySem.W.findIn K (.ref C_Reader) "_at" = some none)
    (a_Reader___init__ : PySem.W.findIn K (.ref C_Reader) "__init__" = some (some (.ref f_Reader___init__)))
    (i_Reader___init__ : PySem.W.isFn K (.ref f_Reader___init__) = true)
    (l_Reader___init__ : K.lookup f_Reader___init__ = some ⟨oc_Reader___init__, od_Reader___init__, .func (PySem.W.fnOf "__init__" "Reader.__init__" (defArgs S_Reader___init__) (defBody S_Reader___init__) (defScope S_Reader___init__) .none kV_Reader___init__ dc_Reader___init__ pm_Reader___init__ an_Reader___init__ cd_Reader___init__ ct_Reader___init__), sl_Reader___init__⟩)
    (c_Reader___init__ : PySem.W.codeIn K cd_Reader___init__ "Reader.__init__" = true)
    (k_Reader___init__ : PySem.W.keepIn K (.ref f_Reader___init__) = true)
    (a_Reader_token : PySem.W.findIn K (.ref C_Reader) "token" = some (some (.ref f_Reader_token)))
    (i_Reader_token : PySem.W.isFn K (.ref f_Reader_token) = true)
    (l_Reader_token : K.lookup f_Reader_token = some ⟨oc_Reader_token, od_Reader_token, .func (PySem.W.fnOf "token" "Reader.token" (defArgs S_Reader_token) (defBody S_Reader_token) (defScope S_Reader_token) .none kV_Reader_token dc_Reader_token pm_Reader_token an_Reader_token cd_Reader_token ct_Reader_token), sl_Reader_token⟩)
    (c_Reader_token : PySem.W.codeIn K cd_Reader_token "Reader.token" = true)
    (k_Reader_token : PySem.W.keepIn K (.ref f_Reader_token) = true)
    (a_Reader_place : PySem.W.findIn K (.ref C_Reader) "place" = some (some (.ref f_Reader_place)))
    (i_Reader_place : PySem.W.isFn K (.ref f_Reader_place) = true)
    (l_Reader_place : K.lookup f_Reader_place = some ⟨oc_Reader_place, od_Reader_place, .func (PySem.W.fnOf "place" "Reader.place" (defArgs S_Reader_place) (defBody S_Reader_place) (defScope S_Reader_place) .none kV_Reader_place dc_Reader_place pm_Reader_place an_Reader_place cd_Reader_place ct_Reader_place), sl_Reader_place⟩)
    (c_Reader_place : PySem.W.codeIn K cd_Reader_place "Reader.place" = true)
    (k_Reader_place : PySem.W.keepIn K (.ref f_Reader_place) = true)
    (a_Reader_pass_any : PySem.W.findIn K (.ref C_Reader) "pass_any" = some (some (.ref f_Reader_pass_any)))
    (i_Reader_pass_any : PySem.W.isFn K (.ref f_Reader_pass_any) = true)
    (l_Reader_pass_any : K.lookup f_Reader_pass_any = some ⟨oc_Reader_pass_any, od_Reader_pass_any, .func (PySem.W.fnOf "pass_any" "Reader.pass_any" (defArgs S_Reader_pass_any) (defBody S_Reader_pass_any) (defScope S_Reader_pass_any) .none kV_Reader_pass_any dc_Reader_pass_any pm_Reader_pass_any an_Reader_pass_any cd_Reader_pass_any ct_Reader_pass_any), sl_Reader_pass_any⟩)
    (c_Reader_pass_any : PySem.W.codeIn K cd_Reader_pass_any "Reader.pass_any" = true)
    (k_Reader_pass_any : PySem.W.keepIn K (.ref f_Reader_pass_any) = true)
    (a_Reader_passes : PySem.W.findIn K (.ref C_Reader) "passes" = some (some (.ref f_Reader_passes)))
    (i_Reader_passes : PySem.W.isFn K (.ref f_Reader_passes) = true)
    (l_Reader_passes : K.lookup f_Reader_passes = some ⟨oc_Reader_passes, od_Reader_passes, .func (PySem.W.fnOf "passes" "Reader.passes" (defArgs S_Reader_passes) (defBody S_Reader_passes) (defScope S_Reader_passes) .none kV_Reader_passes dc_Reader_passes pm_Reader_passes an_Reader_passes cd_Reader_passes ct_Reader_passes), sl_Reader_passes⟩)
    (c_Reader_passes : PySem.W.codeIn K cd_Reader_passes "Reader.passes" = true)
    (k_Reader_passes : PySem.W.keepIn K (.ref f_Reader_passes) = true)
    (a_Reader_pass_only : PySem.W.findIn K (.ref C_Reader) "pass_only" = some (some (.ref f_Reader_pass_only)))
    (i_Reader_pass_only : PySem.W.isFn K (.ref f_Reader_pass_only) = true)
    (l_Reader_pass_only : K.lookup f_Reader_pass_only = some ⟨oc_Reader_pass_only, od_Reader_pass_only, .func (PySem.W.fnOf "pass_only" "Reader.pass_only" (defArgs S_Reader_pass_only) (defBody S_Reader_pass_only) (defScope S_Reader_pass_only) .none kV_Reader_pass_only dc_Reader_pass_only pm_Reader_pass_only an_Reader_pass_only cd_Reader_pass_only ct_Reader_pass_only), sl_Reader_pass_only⟩)
    (c_Reader_pass_only : PySem.W.codeIn K cd_Reader_pass_only "Reader.pass_only" = true)
    (k_Reader_pass_only : PySem.W.keepIn K (.ref f_Reader_pass_only) = true)
    (a_Reader_pass_one : PySem.W.findIn K (.ref C_Reader) "pass_one" = some (some (.ref f_Reader_pass_one)))
    (i_Reader_pass_one : PySem.W.isFn K (.ref f_Reader_pass_one) = true)
    (l_Reader_pass_one : K.lookup f_Reader_pass_one = some ⟨oc_Reader_pass_one, od_Reader_pass_one, .func (PySem.W.fnOf "pass_one" "Reader.pass_one" (defArgs S_Reader_pass_one) (defBody S_Reader_pass_one) (defScope S_Reader_pass_one) .none kV_Reader_pass_one dc_Reader_pass_one pm_Reader_pass_one an_Reader_pass_one cd_Reader_pass_one ct_Reader_pass_one), sl_Reader_pass_one⟩)
    (c_Reader_pass_one : PySem.W.codeIn K cd_Reader_pass_one "Reader.pass_one" = true)
    (k_Reader_pass_one : PySem.W.keepIn K (.ref f_Reader_pass_one) = true)
    (a_Reader_pass_number : PySem.W.findIn K (.ref C_Reader) "pass_number" = some (some (.ref f_Reader_pass_number)))
    (i_Reader_pass_number : PySem.W.isFn K (.ref f_Reader_pass_number) = true)
    (l_Reader_pass_number : K.lookup f_Reader_pass_number = some ⟨oc_Reader_pass_number, od_Reader_pass_number, .func (PySem.W.fnOf "pass_number" "Reader.pass_number" (defArgs S_Reader_pass_number) (defBody S_Reader_pass_number) (defScope S_Reader_pass_number) .none kV_Reader_pass_number dc_Reader_pass_number pm_Reader_pass_number an_Reader_pass_number cd_Reader_pass_number ct_Reader_pass_number), sl_Reader_pass_number⟩)
    (c_Reader_pass_number : PySem.W.codeIn K cd_Reader_pass_number "Reader.pass_number" = true)
    (k_Reader_pass_number : PySem.W.keepIn K (.ref f_Reader_pass_number) = true)
    (a_Reader_pass_end : PySem.W.findIn K (.ref C_Reader) "pass_end" = some (some (.ref f_Reader_pass_end)))
    (i_Reader_pass_end : PySem.W.isFn K (.ref f_Reader_pass_end) = true)
    (l_Reader_pass_end : K.lookup f_Reader_pass_end = some ⟨oc_Reader_pass_end, od_Reader_pass_end, .func (PySem.W.fnOf "pass_end" "Reader.pass_end" (defArgs S_Reader_pass_end) (defBody S_Reader_pass_end) (defScope S_Reader_pass_end) .none kV_Reader_pass_end dc_Reader_pass_end pm_Reader_pass_end an_Reader_pass_end cd_Reader_pass_end ct_Reader_pass_end), sl_Reader_pass_end⟩)
    (c_Reader_pass_end : PySem.W.codeIn K cd_Reader_pass_end "Reader.pass_end" = true)
    (k_Reader_pass_end : PySem.W.keepIn K (.ref f_Reader_pass_end) = true)
    (a_KEYWORDS : PySem.W.nsIn K mainGlobals "_KEYWORDS" = some (some (.ref t_KEYWORDS)))
    (l_KEYWORDS : K.lookup t_KEYWORDS = some ⟨.type "tuple", dd_KEYWORDS, .seq #[.str (Str.ofString "array") t_KEYWORDS0, .str (Str.ofString "for") t_KEYWORDS1, .str (Str.ofString "read") t_KEYWORDS2, .str (Str.ofString "write") t_KEYWORDS3, .str (Str.ofString "flush") t_KEYWORDS4, .str (Str.ofString "n") t_KEYWORDS5] n_KEYWORDS, ds_KEYWORDS⟩)
    (a_is_name : PySem.W.nsIn K mainGlobals "is_name" = some (some (.ref f_is_name)))
    (l_is_name : K.lookup f_is_name = some ⟨oc_is_name, od_is_name, .func (PySem.W.fnOf "is_name" "is_name" (defArgs S_is_name) (defBody S_is_name) (defScope S_is_name) .none kV_is_name dc_is_name pm_is_name an_is_name cd_is_name ct_is_name), sl_is_name⟩)
    (c_is_name : PySem.W.codeIn K cd_is_name "is_name" = true)
    (k_is_name : PySem.W.keepIn K (.ref f_is_name) = true)
    (a_KINDS : PySem.W.nsIn K mainGlobals "_KINDS" = some (some (.ref t_KINDS)))
    (l_KINDS : K.lookup t_KINDS = some ⟨.type "tuple", dd_KINDS, .seq #[.str (Str.ofString "hit") t_KINDS0, .str (Str.ofString "miss") t_KINDS1, .str (Str.ofString "crowded") t_KINDS2, .str (Str.ofString "back") t_KINDS3, .str (Str.ofString "thrown") t_KINDS4] n_KINDS, ds_KINDS⟩)
    (a_FIELDS : PySem.W.nsIn K mainGlobals "_FIELDS" = some (some (.ref t_FIELDS)))
    (l_FIELDS : K.lookup t_FIELDS = some ⟨.type "tuple", dd_FIELDS, .seq #[.str (Str.ofString "kind") t_FIELDS0, .str (Str.ofString "level") t_FIELDS1, .str (Str.ofString "access") t_FIELDS2, .str (Str.ofString "other") t_FIELDS3, .str (Str.ofString "array") t_FIELDS4, .str (Str.ofString "word") t_FIELDS5] n_FIELDS, ds_FIELDS⟩)
    (a_NUMBERS : PySem.W.nsIn K mainGlobals "_NUMBERS" = some (some (.ref t_NUMBERS)))
    (l_NUMBERS : K.lookup t_NUMBERS = some ⟨.type "tuple", dd_NUMBERS, .seq #[.str (Str.ofString "level") t_NUMBERS0, .str (Str.ofString "access") t_NUMBERS1, .str (Str.ofString "other") t_NUMBERS2] n_NUMBERS, ds_NUMBERS⟩)
    (a_WORDS : PySem.W.nsIn K mainGlobals "_WORDS" = some (some (.ref t_WORDS)))
    (l_WORDS : K.lookup t_WORDS = some ⟨.type "tuple", dd_WORDS, .seq #[.str (Str.ofString "read") t_WORDS0, .str (Str.ofString "write") t_WORDS1] n_WORDS, ds_WORDS⟩)
    (a_MOST_DEPTH : PySem.W.nsIn K mainGlobals "_MOST_DEPTH" = some (some (.int 30 t_MOST_DEPTH)))
    (aC_Condition : PySem.W.nsIn K mainGlobals "Condition" = some (some (.ref C_Condition)))
    (pg_Condition : PySem.W.plainGet K C_Condition Str.empty = true)
    (hd_Condition : PySem.W.hasDictIn K C_Condition = true)
    (po_Condition : PySem.W.plainOver K C_Condition = true)
    (sa_Condition : PySem.W.findIn K (.ref C_Condition) "__setattr__" = some (some (.builtin "object.__setattr__")))
    (mk_Condition : PySem.W.makesIn K C_Condition = true)
    (kc_Condition : PySem.W.keepIn K (.ref C_Condition) = true)
    (cc_Condition : PySem.W.findIn K (.ref C_Condition) "__class__" = some (some (.builtin "object.__class__")))
    (cm_Condition : PySem.W.mroIn K C_Condition (.type "object") = some true)
    (ic_Condition : PySem.W.isClsIn K C_Condition = true)
    (tc_Condition : PySem.W.typeIn K (.ref C_Condition) = some (.type "type"))
    (np_Condition_parts : PySem.W.findIn K (.ref C_Condition) "_parts" = some none)
    (a_Condition___init__ : PySem.W.findIn K (.ref C_Condition) "__init__" = some (some (.ref f_Condition___init__)))
    (i_Condition___init__ : PySem.W.isFn K (.ref f_Condition___init__) = true)
    (l_Condition___init__ : K.lookup f_Condition___init__ = some ⟨oc_Condition___init__, od_Condition___init__, .func (PySem.W.fnOf "__init__" "Condition.__init__" (defArgs S_Condition___init__) (defBody S_Condition___init__) (defScope S_Condition___init__) .none kV_Condition___init__ dc_Condition___init__ pm_Condition___init__ an_Condition___init__ cd_Condition___init__ ct_Condition___init__), sl_Condition___init__⟩)
    (c_Condition___init__ : PySem.W.codeIn K cd_Condition___init__ "Condition.__init__" = true)
    (k_Condition___init__ : PySem.W.keepIn K (.ref f_Condition___init__) = true)
    (a_Condition_parts : PySem.W.findIn K (.ref C_Condition) "parts" = some (some (.ref f_Condition_parts)))
    (i_Condition_parts : PySem.W.isFn K (.ref f_Condition_parts) = true)
    (l_Condition_parts : K.lookup f_Condition_parts = some ⟨oc_Condition_parts, od_Condition_parts, .func (PySem.W.fnOf "parts" "Condition.parts" (defArgs S_Condition_parts) (defBody S_Condition_parts) (defScope S_Condition_parts) .none kV_Condition_parts dc_Condition_parts pm_Condition_parts an_Condition_parts cd_Condition_parts ct_Condition_parts), sl_Condition_parts⟩)
    (c_Condition_parts : PySem.W.codeIn K cd_Condition_parts "Condition.parts" = true)
    (k_Condition_parts : PySem.W.keepIn K (.ref f_Condition_parts) = true)
    (a_Condition___call__ : PySem.W.findIn K (.ref C_Condition) "__call__" = some (some (.ref f_Condition___call__)))
    (i_Condition___call__ : PySem.W.isFn K (.ref f_Condition___call__) = true)
    (l_Condition___call__ : K.lookup f_Condition___call__ = some ⟨oc_Condition___call__, od_Condition___call__, .func (PySem.W.fnOf "__call__" "Condition.__call__" (defArgs S_Condition___call__) (defBody S_Condition___call__) (defScope S_Condition___call__) .none kV_Condition___call__ dc_Condition___call__ pm_Condition___call__ an_Condition___call__ cd_Condition___call__ ct_Condition___call__), sl_Condition___call__⟩)
    (c_Condition___call__ : PySem.W.codeIn K cd_Condition___call__ "Condition.__call__" = true)
    (k_Condition___call__ : PySem.W.keepIn K (.ref f_Condition___call__) = true)
    (a_Condition___and__ : PySem.W.findIn K (.ref C_Condition) "__and__" = some (some (.ref f_Condition___and__)))
    (i_Condition___and__ : PySem.W.isFn K (.ref f_Condition___and__) = true)
    (l_Condition___and__ : K.lookup f_Condition___and__ = some ⟨oc_Condition___and__, od_Condition___and__, .func (PySem.W.fnOf "__and__" "Condition.__and__" (defArgs S_Condition___and__) (defBody S_Condition___and__) (defScope S_Condition___and__) .none kV_Condition___and__ dc_Condition___and__ pm_Condition___and__ an_Condition___and__ cd_Condition___and__ ct_Condition___and__), sl_Condition___and__⟩)
    (c_Condition___and__ : PySem.W.codeIn K cd_Condition___and__ "Condition.__and__" = true)
    (k_Condition___and__ : PySem.W.keepIn K (.ref f_Condition___and__) = true)
    (a_Condition___or__ : PySem.W.findIn K (.ref C_Condition) "__or__" = some (some (.ref f_Condition___or__)))
    (i_Condition___or__ : PySem.W.isFn K (.ref f_Condition___or__) = true)
    (l_Condition___or__ : K.lookup f_Condition___or__ = some ⟨oc_Condition___or__, od_Condition___or__, .func (PySem.W.fnOf "__or__" "Condition.__or__" (defArgs S_Condition___or__) (defBody S_Condition___or__) (defScope S_Condition___or__) .none kV_Condition___or__ dc_Condition___or__ pm_Condition___or__ an_Condition___or__ cd_Condition___or__ ct_Condition___or__), sl_Condition___or__⟩)
    (c_Condition___or__ : PySem.W.codeIn K cd_Condition___or__ "Condition.__or__" = true)
    (k_Condition___or__ : PySem.W.keepIn K (.ref f_Condition___or__) = true)
    (a_Condition___invert__ : PySem.W.findIn K (.ref C_Condition) "__invert__" = some (some (.ref f_Condition___invert__)))
    (i_Condition___invert__ : PySem.W.isFn K (.ref f_Condition___invert__) = true)
    (l_Condition___invert__ : K.lookup f_Condition___invert__ = some ⟨oc_Condition___invert__, od_Condition___invert__, .func (PySem.W.fnOf "__invert__" "Condition.__invert__" (defArgs S_Condition___invert__) (defBody S_Condition___invert__) (defScope S_Condition___invert__) .none kV_Condition___invert__ dc_Condition___invert__ pm_Condition___invert__ an_Condition___invert__ cd_Condition___invert__ ct_Condition___invert__), sl_Condition___invert__⟩)
    (c_Condition___invert__ : PySem.W.codeIn K cd_Condition___invert__ "Condition.__invert__" = true)
    (k_Condition___invert__ : PySem.W.keepIn K (.ref f_Condition___invert__) = true)
    (a_Condition___eq__ : PySem.W.findIn K (.ref C_Condition) "__eq__" = some (some (.ref f_Condition___eq__)))
    (i_Condition___eq__ : PySem.W.isFn K (.ref f_Condition___eq__) = true)
    (l_Condition___eq__ : K.lookup f_Condition___eq__ = some ⟨oc_Condition___eq__, od_Condition___eq__, .func (PySem.W.fnOf "__eq__" "Condition.__eq__" (defArgs S_Condition___eq__) (defBody S_Condition___eq__) (defScope S_Condition___eq__) .none kV_Condition___eq__ dc_Condition___eq__ pm_Condition___eq__ an_Condition___eq__ cd_Condition___eq__ ct_Condition___eq__), sl_Condition___eq__⟩)
    (c_Condition___eq__ : PySem.W.codeIn K cd_Condition___eq__ "Condition.__eq__" = true)
    (k_Condition___eq__ : PySem.W.keepIn K (.ref f_Condition___eq__) = true)
    (a_read_condition : PySem.W.nsIn K mainGlobals "read_condition" = some (some (.ref f_read_condition)))
    (l_read_condition : K.lookup f_read_condition = some ⟨oc_read_condition, od_read_condition, .func (PySem.W.fnOf "read_condition" "read_condition" (defArgs S_read_condition) (defBody S_read_condition) (defScope S_read_condition) .none kV_read_condition dc_read_condition pm_read_condition an_read_condition cd_read_condition ct_read_condition), sl_read_condition⟩)
    (c_read_condition : PySem.W.codeIn K cd_read_condition "read_condition" = true)
    (k_read_condition : PySem.W.keepIn K (.ref f_read_condition) = true)
    (a_condition : PySem.W.nsIn K mainGlobals "_condition" = some (some (.ref f_condition)))
    (l_condition : K.lookup f_condition = some ⟨oc_condition, od_condition, .func (PySem.W.fnOf "_condition" "_condition" (defArgs S_condition) (defBody S_condition) (defScope S_condition) .none kV_condition dc_condition pm_condition an_condition cd_condition ct_condition), sl_condition⟩)
    (c_condition : PySem.W.codeIn K cd_condition "_condition" = true)
    (k_condition : PySem.W.keepIn K (.ref f_condition) = true)
    (a_both : PySem.W.nsIn K mainGlobals "_both" = some (some (.ref f_both)))
    (l_both : K.lookup f_both = some ⟨oc_both, od_both, .func (PySem.W.fnOf "_both" "_both" (defArgs S_both) (defBody S_both) (defScope S_both) .none kV_both dc_both pm_both an_both cd_both ct_both), sl_both⟩)
    (c_both : PySem.W.codeIn K cd_both "_both" = true)
    (k_both : PySem.W.keepIn K (.ref f_both) = true)
    (a_one : PySem.W.nsIn K mainGlobals "_one" = some (some (.ref f_one)))
    (l_one : K.lookup f_one = some ⟨oc_one, od_one, .func (PySem.W.fnOf "_one" "_one" (defArgs S_one) (defBody S_one) (defScope S_one) .none kV_one dc_one pm_one an_one cd_one ct_one), sl_one⟩)
    (c_one : PySem.W.codeIn K cd_one "_one" = true)
    (k_one : PySem.W.keepIn K (.ref f_one) = true)
    (a_value : PySem.W.nsIn K mainGlobals "_value" = some (some (.ref f_value)))
    (l_value : K.lookup f_value = some ⟨oc_value, od_value, .func (PySem.W.fnOf "_value" "_value" (defArgs S_value) (defBody S_value) (defScope S_value) .none kV_value dc_value pm_value an_value cd_value ct_value), sl_value⟩)
    (c_value : PySem.W.codeIn K cd_value "_value" = true)
    (k_value : PySem.W.keepIn K (.ref f_value) = true)
    (a_law_pool : PySem.W.nsIn K mainGlobals "_law_pool" = some (some (.ref f_law_pool)))
    (l_law_pool : K.lookup f_law_pool = some ⟨oc_law_pool, od_law_pool, .func (PySem.W.fnOf "_law_pool" "_law_pool" (defArgs S_law_pool) (defBody S_law_pool) (defScope S_law_pool) .none kV_law_pool dc_law_pool pm_law_pool an_law_pool cd_law_pool ct_law_pool), sl_law_pool⟩)
    (c_law_pool : PySem.W.codeIn K cd_law_pool "_law_pool" = true)
    (k_law_pool : PySem.W.keepIn K (.ref f_law_pool) = true)
    (a_law_take : PySem.W.nsIn K mainGlobals "_law_take" = some (some (.ref f_law_take)))
    (l_law_take : K.lookup f_law_take = some ⟨oc_law_take, od_law_take, .func (PySem.W.fnOf "_law_take" "_law_take" (defArgs S_law_take) (defBody S_law_take) (defScope S_law_take) .none kV_law_take dc_law_take pm_law_take an_law_take cd_law_take ct_law_take), sl_law_take⟩)
    (c_law_take : PySem.W.codeIn K cd_law_take "_law_take" = true)
    (k_law_take : PySem.W.keepIn K (.ref f_law_take) = true)
    (a_law_atoms : PySem.W.nsIn K mainGlobals "_law_atoms" = some (some (.ref f_law_atoms)))
    (l_law_atoms : K.lookup f_law_atoms = some ⟨oc_law_atoms, od_law_atoms, .func (PySem.W.fnOf "_law_atoms" "_law_atoms" (defArgs S_law_atoms) (defBody S_law_atoms) (defScope S_law_atoms) .none kV_law_atoms dc_law_atoms pm_law_atoms an_law_atoms cd_law_atoms ct_law_atoms), sl_law_atoms⟩)
    (c_law_atoms : PySem.W.codeIn K cd_law_atoms "_law_atoms" = true)
    (k_law_atoms : PySem.W.keepIn K (.ref f_law_atoms) = true)
    (a_law_form : PySem.W.nsIn K mainGlobals "_law_form" = some (some (.ref f_law_form)))
    (l_law_form : K.lookup f_law_form = some ⟨oc_law_form, od_law_form, .func (PySem.W.fnOf "_law_form" "_law_form" (defArgs S_law_form) (defBody S_law_form) (defScope S_law_form) .none kV_law_form dc_law_form pm_law_form an_law_form cd_law_form ct_law_form), sl_law_form⟩)
    (c_law_form : PySem.W.codeIn K cd_law_form "_law_form" = true)
    (k_law_form : PySem.W.keepIn K (.ref f_law_form) = true)
    (a_law_words : PySem.W.nsIn K mainGlobals "_law_words" = some (some (.ref f_law_words)))
    (l_law_words : K.lookup f_law_words = some ⟨oc_law_words, od_law_words, .func (PySem.W.fnOf "_law_words" "_law_words" (defArgs S_law_words) (defBody S_law_words) (defScope S_law_words) .none kV_law_words dc_law_words pm_law_words an_law_words cd_law_words ct_law_words), sl_law_words⟩)
    (c_law_words : PySem.W.codeIn K cd_law_words "_law_words" = true)
    (k_law_words : PySem.W.keepIn K (.ref f_law_words) = true)
    (a_law_is_like : PySem.W.nsIn K mainGlobals "_law_is_like" = some (some (.ref f_law_is_like)))
    (l_law_is_like : K.lookup f_law_is_like = some ⟨oc_law_is_like, od_law_is_like, .func (PySem.W.fnOf "_law_is_like" "_law_is_like" (defArgs S_law_is_like) (defBody S_law_is_like) (defScope S_law_is_like) .none kV_law_is_like dc_law_is_like pm_law_is_like an_law_is_like cd_law_is_like ct_law_is_like), sl_law_is_like⟩)
    (c_law_is_like : PySem.W.codeIn K cd_law_is_like "_law_is_like" = true)
    (k_law_is_like : PySem.W.keepIn K (.ref f_law_is_like) = true)
    (a_law_atom : PySem.W.nsIn K mainGlobals "_law_atom" = some (some (.ref f_law_atom)))
    (l_law_atom : K.lookup f_law_atom = some ⟨oc_law_atom, od_law_atom, .func (PySem.W.fnOf "_law_atom" "_law_atom" (defArgs S_law_atom) (defBody S_law_atom) (defScope S_law_atom) .none kV_law_atom dc_law_atom pm_law_atom an_law_atom cd_law_atom ct_law_atom), sl_law_atom⟩)
    (c_law_atom : PySem.W.codeIn K cd_law_atom "_law_atom" = true)
    (k_law_atom : PySem.W.keepIn K (.ref f_law_atom) = true)
    (a_law_built : PySem.W.nsIn K mainGlobals "_law_built" = some (some (.ref f_law_built)))
    (l_law_built : K.lookup f_law_built = some ⟨oc_law_built, od_law_built, .func (PySem.W.fnOf "_law_built" "_law_built" (defArgs S_law_built) (defBody S_law_built) (defScope S_law_built) .none kV_law_built dc_law_built pm_law_built an_law_built cd_law_built ct_law_built), sl_law_built⟩)
    (c_law_built : PySem.W.codeIn K cd_law_built "_law_built" = true)
    (k_law_built : PySem.W.keepIn K (.ref f_law_built) = true)
    (a_law_text : PySem.W.nsIn K mainGlobals "_law_text" = some (some (.ref f_law_text)))
    (l_law_text : K.lookup f_law_text = some ⟨oc_law_text, od_law_text, .func (PySem.W.fnOf "_law_text" "_law_text" (defArgs S_law_text) (defBody S_law_text) (defScope S_law_text) .none kV_law_text dc_law_text pm_law_text an_law_text cd_law_text ct_law_text), sl_law_text⟩)
    (c_law_text : PySem.W.codeIn K cd_law_text "_law_text" = true)
    (k_law_text : PySem.W.keepIn K (.ref f_law_text) = true)
    (a_law_more : PySem.W.nsIn K mainGlobals "_law_more" = some (some (.ref f_law_more)))
    (l_law_more : K.lookup f_law_more = some ⟨oc_law_more, od_law_more, .func (PySem.W.fnOf "_law_more" "_law_more" (defArgs S_law_more) (defBody S_law_more) (defScope S_law_more) .none kV_law_more dc_law_more pm_law_more an_law_more cd_law_more ct_law_more), sl_law_more⟩)
    (c_law_more : PySem.W.codeIn K cd_law_more "_law_more" = true)
    (k_law_more : PySem.W.keepIn K (.ref f_law_more) = true)
    (a_law : PySem.W.nsIn K mainGlobals "law" = some (some (.ref f_law)))
    (l_law : K.lookup f_law = some ⟨oc_law, od_law, .func (PySem.W.fnOf "law" "law" (defArgs S_law) (defBody S_law) (defScope S_law) .none kV_law dc_law pm_law an_law cd_law ct_law), sl_law⟩)
    (c_law : PySem.W.codeIn K cd_law "law" = true)
    (k_law : PySem.W.keepIn K (.ref f_law) = true)
    (z_len : PySem.W.nsIn K mainGlobals "len" = some none)
    (z_isinstance : PySem.W.nsIn K mainGlobals "isinstance" = some none)
    (z_int : PySem.W.nsIn K mainGlobals "int" = some none)
    (z_abs : PySem.W.nsIn K mainGlobals "abs" = some none)
    (z_range : PySem.W.nsIn K mainGlobals "range" = some none)
    (z_max : PySem.W.nsIn K mainGlobals "max" = some none)
    (z_min : PySem.W.nsIn K mainGlobals "min" = some none)
    (z_str : PySem.W.nsIn K mainGlobals "str" = some none)
    (z_all : PySem.W.nsIn K mainGlobals "all" = some none)
    (anO : PySem.W.specialIn K (.builtin "object.__class__") "__get__" = some (some (.builtin "getset_descriptor.__get__")))
    (tkO : PySem.W.takesIn K (.builtin "object.__class__") = some true)
    (a_where : PySem.W.nsIn K mainGlobals "where" = some (some (.ref f_where)))
    (l_where : K.lookup f_where = some ⟨oc_where, od_where, .func (PySem.W.fnOf "where" "where" (defArgs S_where) (defBody S_where) (defScope S_where) .none kV_where dc_where pm_where an_where cd_where ct_where), sl_where⟩)
    (c_where : PySem.W.codeIn K cd_where "where" = true)
    (k_where : PySem.W.keepIn K (.ref f_where) = true)
    (fiC : PySem.W.fnIn K f_Condition___call__ = true)
    (si : PySem.W.subIn K (.type "int") (.ref C_Condition) = some false)
    (sf : PySem.W.selfFirst K C_Condition = true)
    (ra : PySem.W.findIn K (.ref C_Condition) "__rand__" = some none)
    (ro : PySem.W.findIn K (.ref C_Condition) "__ror__" = some none)
    (ia : PySem.W.findIn K (.type "int") "__and__" = some ia1)
    (ib : PySem.W.findIn K (.type "int") "__rand__" = some ia2)
    (ic : PySem.W.findIn K (.type "int") "__or__" = some ia3)
    (id_ : PySem.W.findIn K (.type "int") "__ror__" = some ia4)
    (neC : PySem.W.findIn K (.ref C_Condition) "__ne__" = some (some (.builtin "object.__ne__")))
    (suT : PySem.W.subIn K (.type "tuple") (.ref C_Condition) = some false)
    (df0 : dd_FIELDS = none) :
    ∃ fd : FuncData, (∀ (s : Shared) (v : Value), BindsTo s fd ⟨[v], []⟩ [("_law_script", v)]) ∧ ∀ base : Heap, K.In base → base.Ns mainGlobals mg → RunG l.prog w K mg base CX0 29 fa fd ["_law_script"] (spLaw K) := by
  have e := hfa.symm.trans (PySem.W.mg_of X G a_law)
  cases e
  have F_InvalidSyntax___init__ := fun_mk (x := "__init__") (qual := "InvalidSyntax.__init__") (st := S_InvalidSyntax___init__) l_InvalidSyntax___init__ c_InvalidSyntax___init__ k_InvalidSyntax___init__
  have b_InvalidSyntax___init__ := F_InvalidSyntax___init__.binds (ps := ["self", "position"]) fun _ _ _ _ _ _ us hl => match us, hl with | [_, _], _ => rfl
  have F_TooLarge___init__ := fun_mk (x := "__init__") (qual := "TooLarge.__init__") (st := S_TooLarge___init__) l_TooLarge___init__ c_TooLarge___init__ k_TooLarge___init__
  have b_TooLarge___init__ := F_TooLarge___init__.binds (ps := ["self", "word"]) fun _ _ _ _ _ _ us hl => match us, hl with | [_, _], _ => rfl
  have g_LETTERS := PySem.W.mg_of X G a_LETTERS
  have g_DIGITS := PySem.W.mg_of X G a_DIGITS
  have g_GAPS := PySem.W.mg_of X G a_GAPS
  have g_MOST_DIGITS := PySem.W.mg_of X G a_MOST_DIGITS
  have F_is_word := fun_mk (x := "is_word") (qual := "is_word") (st := S_is_word) l_is_word c_is_word k_is_word
  have b_is_word := F_is_word.binds (ps := ["text"]) fun _ _ _ _ _ _ us hl => match us, hl with | [_], _ => rfl
  have g_is_word := PySem.W.mg_of X G a_is_word
  have F_is_number := fun_mk (x := "is_number") (qual := "is_number") (st := S_is_number) l_is_number c_is_number k_is_number
  have b_is_number := F_is_number.binds (ps := ["text"]) fun _ _ _ _ _ _ us hl => match us, hl with | [_], _ => rfl
  have g_is_number := PySem.W.mg_of X G a_is_number
  have F_end_of_run := fun_mk (x := "_end_of_run") (qual := "_end_of_run") (st := S_end_of_run) l_end_of_run c_end_of_run k_end_of_run
  have b_end_of_run := F_end_of_run.binds (ps := ["text", "begin"]) fun _ _ _ _ _ _ us hl => match us, hl with | [_, _], _ => rfl
  have g_end_of_run := PySem.W.mg_of X G a_end_of_run
  have F_tokens_of := fun_mk (x := "tokens_of") (qual := "tokens_of") (st := S_tokens_of) l_tokens_of c_tokens_of k_tokens_of
  have b_tokens_of := F_tokens_of.binds (ps := ["text"]) fun _ _ _ _ _ _ us hl => match us, hl with | [_], _ => rfl
  have g_tokens_of := PySem.W.mg_of X G a_tokens_of
  have kit_Reader : InsKit K C_Reader := ⟨⟨pg_Reader, hd_Reader, po_Reader, sa_Reader⟩, cc_Reader, cgO, ctO, cm_Reader⟩
  have mC_Reader := PySem.W.mg_of X G aC_Reader
  have F_Reader___init__ := fun_mk (x := "__init__") (qual := "Reader.__init__") (st := S_Reader___init__) l_Reader___init__ c_Reader___init__ k_Reader___init__
  have b_Reader___init__ := F_Reader___init__.binds (ps := ["self", "text"]) fun _ _ _ _ _ _ us hl => match us, hl with | [_, _], _ => rfl
  have M_Reader___init__ : Meth K C_Reader "__init__" f_Reader___init__ := ⟨a_Reader___init__, i_Reader___init__, k_Reader___init__⟩
  have MK_Reader : Mk K C_Reader f_Reader___init__ := ⟨mk_Reader, a_Reader___init__, i_Reader___init__, kc_Reader⟩
  have F_Reader_token := fun_mk (x := "token") (qual := "Reader.token") (st := S_Reader_token) l_Reader_token c_Reader_token k_Reader_token
  have b_Reader_token := F_Reader_token.binds (ps := ["self"]) fun _ _ _ _ _ _ us hl => match us, hl with | [_], _ => rfl
  have M_Reader_token : Meth K C_Reader "token" f_Reader_token := ⟨a_Reader_token, i_Reader_token, k_Reader_token⟩
  have F_Reader_place := fun_mk (x := "place") (qual := "Reader.place") (st := S_Reader_place) l_Reader_place c_Reader_place k_Reader_place
  have b_Reader_place := F_Reader_place.binds (ps := ["self"]) fun _ _ _ _ _ _ us hl => match us, hl with | [_], _ => rfl
  have M_Reader_place : Meth K C_Reader "place" f_Reader_place := ⟨a_Reader_place, i_Reader_place, k_Reader_place⟩
  have F_Reader_pass_any := fun_mk (x := "pass_any") (qual := "Reader.pass_any") (st := S_Reader_pass_any) l_Reader_pass_any c_Reader_pass_any k_Reader_pass_any
  have b_Reader_pass_any := F_Reader_pass_any.binds (ps := ["self"]) fun _ _ _ _ _ _ us hl => match us, hl with | [_], _ => rfl
  have M_Reader_pass_any : Meth K C_Reader "pass_any" f_Reader_pass_any := ⟨a_Reader_pass_any, i_Reader_pass_any, k_Reader_pass_any⟩
  have F_Reader_passes := fun_mk (x := "passes") (qual := "Reader.passes") (st := S_Reader_passes) l_Reader_passes c_Reader_passes k_Reader_passes
  have b_Reader_passes := F_Reader_passes.binds (ps := ["self", "token"]) fun _ _ _ _ _ _ us hl => match us, hl with | [_, _], _ => rfl
  have M_Reader_passes : Meth K C_Reader "passes" f_Reader_passes := ⟨a_Reader_passes, i_Reader_passes, k_Reader_passes⟩
  have F_Reader_pass_only := fun_mk (x := "pass_only") (qual := "Reader.pass_only") (st := S_Reader_pass_only) l_Reader_pass_only c_Reader_pass_only k_Reader_pass_only
  have b_Reader_pass_only := F_Reader_pass_only.binds (ps := ["self", "token"]) fun _ _ _ _ _ _ us hl => match us, hl with | [_, _], _ => rfl
  have M_Reader_pass_only : Meth K C_Reader "pass_only" f_Reader_pass_only := ⟨a_Reader_pass_only, i_Reader_pass_only, k_Reader_pass_only⟩
  have F_Reader_pass_one := fun_mk (x := "pass_one") (qual := "Reader.pass_one") (st := S_Reader_pass_one) l_Reader_pass_one c_Reader_pass_one k_Reader_pass_one
  have b_Reader_pass_one := F_Reader_pass_one.binds (ps := ["self", "tokens"]) fun _ _ _ _ _ _ us hl => match us, hl with | [_, _], _ => rfl
  have M_Reader_pass_one : Meth K C_Reader "pass_one" f_Reader_pass_one := ⟨a_Reader_pass_one, i_Reader_pass_one, k_Reader_pass_one⟩
  have F_Reader_pass_number := fun_mk (x := "pass_number") (qual := "Reader.pass_number") (st := S_Reader_pass_number) l_Reader_pass_number c_Reader_pass_number k_Reader_pass_number
  have b_Reader_pass_number := F_Reader_pass_number.binds (ps := ["self"]) fun _ _ _ _ _ _ us hl => match us, hl with | [_], _ => rfl
  have M_Reader_pass_number : Meth K C_Reader "pass_number" f_Reader_pass_number := ⟨a_Reader_pass_number, i_Reader_pass_number, k_Reader_pass_number⟩
  have F_Reader_pass_end := fun_mk (x := "pass_end") (qual := "Reader.pass_end") (st := S_Reader_pass_end) l_Reader_pass_end c_Reader_pass_end k_Reader_pass_end
  have b_Reader_pass_end := F_Reader_pass_end.binds (ps := ["self"]) fun _ _ _ _ _ _ us hl => match us, hl with | [_], _ => rfl
  have M_Reader_pass_end : Meth K C_Reader "pass_end" f_Reader_pass_end := ⟨a_Reader_pass_end, i_Reader_pass_end, k_Reader_pass_end⟩
  have g_KEYWORDS := PySem.W.mg_of X G a_KEYWORDS
  have q_KEYWORDS : ∀ H, SqT K H t_KEYWORDS ((["array", "for", "read", "write", "flush", "n"] : List Str).map V.str) := fun H => .inr ⟨_, _, _, l_KEYWORDS, rfl, rfl, (by show 6 ≤ sizeLine; decide), (.cons ⟨_, rfl⟩ (.cons ⟨_, rfl⟩ (.cons ⟨_, rfl⟩ (.cons ⟨_, rfl⟩ (.cons ⟨_, rfl⟩ (.cons ⟨_, rfl⟩ .nil))))))⟩
  have F_is_name := fun_mk (x := "is_name") (qual := "is_name") (st := S_is_name) l_is_name c_is_name k_is_name
  have b_is_name := F_is_name.binds (ps := ["value"]) fun _ _ _ _ _ _ us hl => match us, hl with | [_], _ => rfl
  have g_is_name := PySem.W.mg_of X G a_is_name
  have g_KINDS := PySem.W.mg_of X G a_KINDS
  have q_KINDS : ∀ H, SqT K H t_KINDS ((["hit", "miss", "crowded", "back", "thrown"] : List Str).map V.str) := fun H => .inr ⟨_, _, _, l_KINDS, rfl, rfl, (by show 5 ≤ sizeLine; decide), (.cons ⟨_, rfl⟩ (.cons ⟨_, rfl⟩ (.cons ⟨_, rfl⟩ (.cons ⟨_, rfl⟩ (.cons ⟨_, rfl⟩ .nil)))))⟩
  have g_FIELDS := PySem.W.mg_of X G a_FIELDS
  have q_FIELDS : ∀ H, SqT K H t_FIELDS ((["kind", "level", "access", "other", "array", "word"] : List Str).map V.str) := fun H => .inr ⟨_, _, _, l_FIELDS, rfl, rfl, (by show 6 ≤ sizeLine; decide), (.cons ⟨_, rfl⟩ (.cons ⟨_, rfl⟩ (.cons ⟨_, rfl⟩ (.cons ⟨_, rfl⟩ (.cons ⟨_, rfl⟩ (.cons ⟨_, rfl⟩ .nil))))))⟩
  have g_NUMBERS := PySem.W.mg_of X G a_NUMBERS
  have q_NUMBERS : ∀ H, SqT K H t_NUMBERS ((["level", "access", "other"] : List Str).map V.str) := fun H => .inr ⟨_, _, _, l_NUMBERS, rfl, rfl, (by show 3 ≤ sizeLine; decide), (.cons ⟨_, rfl⟩ (.cons ⟨_, rfl⟩ (.cons ⟨_, rfl⟩ .nil)))⟩
  have g_WORDS := PySem.W.mg_of X G a_WORDS
  have q_WORDS : ∀ H, SqT K H t_WORDS ((["read", "write"] : List Str).map V.str) := fun H => .inr ⟨_, _, _, l_WORDS, rfl, rfl, (by show 2 ≤ sizeLine; decide), (.cons ⟨_, rfl⟩ (.cons ⟨_, rfl⟩ .nil))⟩
  have g_MOST_DEPTH := PySem.W.mg_of X G a_MOST_DEPTH
  have kit_Condition : InsKit K C_Condition := ⟨⟨pg_Condition, hd_Condition, po_Condition, sa_Condition⟩, cc_Condition, cgO, ctO, cm_Condition⟩
  have mC_Condition := PySem.W.mg_of X G aC_Condition
  have F_Condition___init__ := fun_mk (x := "__init__") (qual := "Condition.__init__") (st := S_Condition___init__) l_Condition___init__ c_Condition___init__ k_Condition___init__
  have b_Condition___init__ := F_Condition___init__.binds (ps := ["self", "parts"]) fun _ _ _ _ _ _ us hl => match us, hl with | [_, _], _ => rfl
  have M_Condition___init__ : Meth K C_Condition "__init__" f_Condition___init__ := ⟨a_Condition___init__, i_Condition___init__, k_Condition___init__⟩
  have MK_Condition : Mk K C_Condition f_Condition___init__ := ⟨mk_Condition, a_Condition___init__, i_Condition___init__, kc_Condition⟩
  have F_Condition_parts := fun_mk (x := "parts") (qual := "Condition.parts") (st := S_Condition_parts) l_Condition_parts c_Condition_parts k_Condition_parts
  have b_Condition_parts := F_Condition_parts.binds (ps := ["self"]) fun _ _ _ _ _ _ us hl => match us, hl with | [_], _ => rfl
  have M_Condition_parts : Meth K C_Condition "parts" f_Condition_parts := ⟨a_Condition_parts, i_Condition_parts, k_Condition_parts⟩
  have F_Condition___call__ := fun_mk (x := "__call__") (qual := "Condition.__call__") (st := S_Condition___call__) l_Condition___call__ c_Condition___call__ k_Condition___call__
  have b_Condition___call__ := F_Condition___call__.binds (ps := ["self", "row"]) fun _ _ _ _ _ _ us hl => match us, hl with | [_, _], _ => rfl
  have M_Condition___call__ : Meth K C_Condition "__call__" f_Condition___call__ := ⟨a_Condition___call__, i_Condition___call__, k_Condition___call__⟩
  have F_Condition___and__ := fun_mk (x := "__and__") (qual := "Condition.__and__") (st := S_Condition___and__) l_Condition___and__ c_Condition___and__ k_Condition___and__
  have b_Condition___and__ := F_Condition___and__.binds (ps := ["self", "other"]) fun _ _ _ _ _ _ us hl => match us, hl with | [_, _], _ => rfl
  have M_Condition___and__ : Meth K C_Condition "__and__" f_Condition___and__ := ⟨a_Condition___and__, i_Condition___and__, k_Condition___and__⟩
  have F_Condition___or__ := fun_mk (x := "__or__") (qual := "Condition.__or__") (st := S_Condition___or__) l_Condition___or__ c_Condition___or__ k_Condition___or__
  have b_Condition___or__ := F_Condition___or__.binds (ps := ["self", "other"]) fun _ _ _ _ _ _ us hl => match us, hl with | [_, _], _ => rfl
  have M_Condition___or__ : Meth K C_Condition "__or__" f_Condition___or__ := ⟨a_Condition___or__, i_Condition___or__, k_Condition___or__⟩
  have F_Condition___invert__ := fun_mk (x := "__invert__") (qual := "Condition.__invert__") (st := S_Condition___invert__) l_Condition___invert__ c_Condition___invert__ k_Condition___invert__
  have b_Condition___invert__ := F_Condition___invert__.binds (ps := ["self"]) fun _ _ _ _ _ _ us hl => match us, hl with | [_], _ => rfl
  have M_Condition___invert__ : Meth K C_Condition "__invert__" f_Condition___invert__ := ⟨a_Condition___invert__, i_Condition___invert__, k_Condition___invert__⟩
  have F_Condition___eq__ := fun_mk (x := "__eq__") (qual := "Condition.__eq__") (st := S_Condition___eq__) l_Condition___eq__ c_Condition___eq__ k_Condition___eq__
  have b_Condition___eq__ := F_Condition___eq__.binds (ps := ["self", "other"]) fun _ _ _ _ _ _ us hl => match us, hl with | [_, _], _ => rfl
  have M_Condition___eq__ : Meth K C_Condition "__eq__" f_Condition___eq__ := ⟨a_Condition___eq__, i_Condition___eq__, k_Condition___eq__⟩
  have F_read_condition := fun_mk (x := "read_condition") (qual := "read_condition") (st := S_read_condition) l_read_condition c_read_condition k_read_condition
  have b_read_condition := F_read_condition.binds (ps := ["text"]) fun _ _ _ _ _ _ us hl => match us, hl with | [_], _ => rfl
  have g_read_condition := PySem.W.mg_of X G a_read_condition
  have F_condition := fun_mk (x := "_condition") (qual := "_condition") (st := S_condition) l_condition c_condition k_condition
  have b_condition := F_condition.binds (ps := ["reader", "depth"]) fun _ _ _ _ _ _ us hl => match us, hl with | [_, _], _ => rfl
  have g_condition := PySem.W.mg_of X G a_condition
  have F_both := fun_mk (x := "_both") (qual := "_both") (st := S_both) l_both c_both k_both
  have b_both := F_both.binds (ps := ["reader", "depth"]) fun _ _ _ _ _ _ us hl => match us, hl with | [_, _], _ => rfl
  have g_both := PySem.W.mg_of X G a_both
  have F_one := fun_mk (x := "_one") (qual := "_one") (st := S_one) l_one c_one k_one
  have b_one := F_one.binds (ps := ["reader", "depth"]) fun _ _ _ _ _ _ us hl => match us, hl with | [_, _], _ => rfl
  have g_one := PySem.W.mg_of X G a_one
  have F_value := fun_mk (x := "_value") (qual := "_value") (st := S_value) l_value c_value k_value
  have b_value := F_value.binds (ps := ["reader", "field"]) fun _ _ _ _ _ _ us hl => match us, hl with | [_, _], _ => rfl
  have g_value := PySem.W.mg_of X G a_value
  have F_law_pool := fun_mk (x := "_law_pool") (qual := "_law_pool") (st := S_law_pool) l_law_pool c_law_pool k_law_pool
  have b_law_pool := F_law_pool.binds (ps := ["_law_script", "_law_k"]) fun _ _ _ _ _ _ us hl => match us, hl with | [_, _], _ => rfl
  have g_law_pool := PySem.W.mg_of X G a_law_pool
  have F_law_take := fun_mk (x := "_law_take") (qual := "_law_take") (st := S_law_take) l_law_take c_law_take k_law_take
  have b_law_take := F_law_take.binds (ps := ["_law_pool_here", "_law_wide"]) fun _ _ _ _ _ _ us hl => match us, hl with | [_, _], _ => rfl
  have g_law_take := PySem.W.mg_of X G a_law_take
  have F_law_atoms := fun_mk (x := "_law_atoms") (qual := "_law_atoms") (st := S_law_atoms) l_law_atoms c_law_atoms k_law_atoms
  have b_law_atoms := F_law_atoms.binds (ps := ["_law_pool_here"]) fun _ _ _ _ _ _ us hl => match us, hl with | [_], _ => rfl
  have g_law_atoms := PySem.W.mg_of X G a_law_atoms
  have F_law_form := fun_mk (x := "_law_form") (qual := "_law_form") (st := S_law_form) l_law_form c_law_form k_law_form
  have b_law_form := F_law_form.binds (ps := ["_law_pool_here", "_law_depth"]) fun _ _ _ _ _ _ us hl => match us, hl with | [_, _], _ => rfl
  have g_law_form := PySem.W.mg_of X G a_law_form
  have F_law_words := fun_mk (x := "_law_words") (qual := "_law_words") (st := S_law_words) l_law_words c_law_words k_law_words
  have b_law_words := F_law_words.binds (ps := ["_law_form_here", "_law_rank"]) fun _ _ _ _ _ _ us hl => match us, hl with | [_, _], _ => rfl
  have g_law_words := PySem.W.mg_of X G a_law_words
  have F_law_is_like := fun_mk (x := "_law_is_like") (qual := "_law_is_like") (st := S_law_is_like) l_law_is_like c_law_is_like k_law_is_like
  have b_law_is_like := F_law_is_like.binds (ps := ["_law_condition", "_law_form_here"]) fun _ _ _ _ _ _ us hl => match us, hl with | [_, _], _ => rfl
  have g_law_is_like := PySem.W.mg_of X G a_law_is_like
  have F_law_atom := fun_mk (x := "_law_atom") (qual := "_law_atom") (st := S_law_atom) l_law_atom c_law_atom k_law_atom
  have b_law_atom := F_law_atom.binds (ps := ["_law_field", "_law_thing"]) fun _ _ _ _ _ _ us hl => match us, hl with | [_, _], _ => rfl
  have g_law_atom := PySem.W.mg_of X G a_law_atom
  have F_law_built := fun_mk (x := "_law_built") (qual := "_law_built") (st := S_law_built) l_law_built c_law_built k_law_built
  have b_law_built := F_law_built.binds (ps := ["_law_form_here"]) fun _ _ _ _ _ _ us hl => match us, hl with | [_], _ => rfl
  have g_law_built := PySem.W.mg_of X G a_law_built
  have F_law_text := fun_mk (x := "_law_text") (qual := "_law_text") (st := S_law_text) l_law_text c_law_text k_law_text
  have b_law_text := F_law_text.binds (ps := ["_law_pool_here", "_law_tokens"]) fun _ _ _ _ _ _ us hl => match us, hl with | [_, _], _ => rfl
  have g_law_text := PySem.W.mg_of X G a_law_text
  have F_law_more := fun_mk (x := "_law_more") (qual := "_law_more") (st := S_law_more) l_law_more c_law_more k_law_more
  have b_law_more := F_law_more.binds (ps := ["_law_pool_here", "_law_form_here"]) fun _ _ _ _ _ _ us hl => match us, hl with | [_, _], _ => rfl
  have g_law_more := PySem.W.mg_of X G a_law_more
  have F_law := fun_mk (x := "law") (qual := "law") (st := S_law) l_law c_law k_law
  have b_law := F_law.binds (ps := ["_law_script"]) fun _ _ _ _ _ _ us hl => match us, hl with | [_], _ => rfl
  have g_law := PySem.W.mg_of X G a_law
  have X_InvalidSyntax : ErX K mg "InvalidSyntax" C_InvalidSyntax C_FarError "position" := ⟨⟨_, _, _, _, _, _, _, _, _, _, _, _, _, _, l_InvalidSyntax⟩, sa_InvalidSyntax, kC_InvalidSyntax, ga_InvalidSyntax, gg_InvalidSyntax, ex_InvalidSyntax, ac_InvalidSyntax, anO, tkO, mo_InvalidSyntax, no_InvalidSyntax, PySem.W.mg_of X G aC_InvalidSyntax⟩
  have SX_InvalidSyntax : ∀ base : Heap, SxC l.prog w K mg base "InvalidSyntax" C_InvalidSyntax "position" := fun base => ⟨X_InvalidSyntax.oexc, X_InvalidSyntax.m, _, _, i_InvalidSyntax, beq_iff_eq.mp t_InvalidSyntax, sx_InvalidSyntax X_InvalidSyntax.oxc X_InvalidSyntax.no F_InvalidSyntax___init__, b_InvalidSyntax___init__⟩
  have X_TooLarge : ErX K mg "TooLarge" C_TooLarge C_FarError "word" := ⟨⟨_, _, _, _, _, _, _, _, _, _, _, _, _, _, l_TooLarge⟩, sa_TooLarge, kC_TooLarge, ga_TooLarge, gg_TooLarge, ex_TooLarge, ac_TooLarge, anO, tkO, mo_TooLarge, no_TooLarge, PySem.W.mg_of X G aC_TooLarge⟩
  have SX_TooLarge : ∀ base : Heap, SxC l.prog w K mg base "TooLarge" C_TooLarge "word" := fun base => ⟨X_TooLarge.oexc, X_TooLarge.m, _, _, i_TooLarge, beq_iff_eq.mp t_TooLarge, sx_TooLarge X_TooLarge.oxc X_TooLarge.no F_TooLarge___init__, b_TooLarge___init__⟩
  have F_where := fun_mk (x := "where") (qual := "where") (st := S_where) l_where c_where k_where
  have g_where := PySem.W.mg_of X G a_where
  refine ⟨PySem.W.fnOf "law" "law" (defArgs S_law) (defBody S_law) (defScope S_law) .none kV_law dc_law pm_law an_law cd_law ct_law, fun s v => .of_eq rfl, fun base _ _ => ?_⟩
  have tb : TkB mg := ⟨⟨_, g_LETTERS⟩, ⟨_, g_DIGITS⟩, ⟨_, g_GAPS⟩, PySem.W.mg_none_of X G z_len, PySem.W.mg_none_of X G z_max, PySem.W.mg_none_of X G z_all⟩
  have tx : TxB K mg := ⟨⟨_, g_KEYWORDS, q_KEYWORDS⟩, PySem.W.mg_none_of X G z_isinstance, PySem.W.mg_none_of X G z_str⟩
  have Zr : RdC K mg C_Reader := ⟨kit_Reader, np_Reader_tokens, np_Reader_at⟩
  have GS := SX_InvalidSyntax base
  have GT := SX_TooLarge base
  have B2 : Bn2 mg := ⟨PySem.W.mg_none_of X G z_len, PySem.W.mg_none_of X G z_int, PySem.W.mg_none_of X G z_abs⟩
  have Z : CnC K mg C_Condition := ⟨kit_Condition, np_Condition_parts, ic_Condition, tc_Condition, mC_Condition, PySem.W.mg_none_of X G z_isinstance⟩
  have FB : FdB K mg := ⟨⟨t_FIELDS, g_FIELDS, q_FIELDS, _, l_FIELDS, rfl, df0⟩⟩
  have CM : CnM l.prog w K mg base C_Condition := ⟨Z, _, _, MK_Condition, b_Condition___init__, ok_cinit F_Condition___init__ Z⟩
  have BA : BinOwn K C_Condition "and" f_Condition___and__ := { sf := sf, hs := a_Condition___and__, hf := i_Condition___and__, hr := ra, ti := ⟨ia1, ia2, ia, ib⟩, su := si }
  have BO : BinOwn K C_Condition "or" f_Condition___or__ := { sf := sf, hs := a_Condition___or__, hf := i_Condition___or__, hr := ro, ti := ⟨ia3, ia4, ic, id_⟩, su := si }
  have CD : CnD l.prog w K mg base C_Condition := ⟨CM, FB, _, _, BA, b_Condition___and__, ok_cbi F_Condition___and__ CM⟩
  have cO : CallO K C_Condition f_Condition___call__ := ⟨a_Condition___call__, i_Condition___call__, fiC⟩
  have GPt := ok_cparts (P := l.prog) (w := w) (base := base) F_Condition_parts Z
  have CL : CnL l.prog w K mg base C_Condition := { D := CD, or_ := ⟨_, _, BO, b_Condition___or__, ok_cor F_Condition___or__ CM⟩, inv := ⟨_, _, a_Condition___invert__, i_Condition___invert__, b_Condition___invert__, ok_cinv F_Condition___invert__ CM⟩, call := ⟨_, cO, fun n => ((ok_call F_Condition___call__ Z FB cO b_Condition___call__ n).raw b_Condition___call__ .nil).imp fun vs H Q E h => by rw [List.append_nil]; exact h⟩, parts := ⟨_, _, M_Condition_parts, b_Condition_parts, GPt⟩, wh := ⟨_, _, F_where, g_where⟩ }
  have CR : CrS l.prog w K mg base C_Condition C_Reader C_InvalidSyntax C_TooLarge := {
    Zr := Zr
    D := CD
    L := CL
    tok := ⟨_, _, M_Reader_token, b_Reader_token, ok_token F_Reader_token Zr⟩
    any := ⟨_, _, M_Reader_pass_any, b_Reader_pass_any, ok_pass_any F_Reader_pass_any F_Reader_token b_Reader_token M_Reader_token Zr⟩
    passes := ⟨_, _, M_Reader_passes, b_Reader_passes, ok_passes F_Reader_passes F_Reader_token b_Reader_token M_Reader_token Zr⟩
    only := ⟨_, _, M_Reader_pass_only, b_Reader_pass_only, ok_pass_only F_Reader_pass_only F_Reader_passes b_Reader_passes M_Reader_passes F_Reader_token b_Reader_token M_Reader_token F_Reader_place b_Reader_place M_Reader_place Zr GS⟩
    one := ⟨_, _, M_Reader_pass_one, b_Reader_pass_one, ok_pass_one F_Reader_pass_one F_Reader_pass_any b_Reader_pass_any M_Reader_pass_any F_Reader_token b_Reader_token M_Reader_token F_Reader_place b_Reader_place M_Reader_place Zr GS⟩
    num := ⟨_, _, M_Reader_pass_number, b_Reader_pass_number, ok_number F_Reader_pass_number F_Reader_pass_any b_Reader_pass_any M_Reader_pass_any F_Reader_token b_Reader_token M_Reader_token F_Reader_place b_Reader_place M_Reader_place F_is_number b_is_number g_is_number tb (PySem.W.mg_none_of X G z_len) (PySem.W.mg_none_of X G z_int) ⟨_, g_MOST_DIGITS⟩ Zr GS GT⟩
    isn := ⟨_, _, g_is_name, F_is_name.kp, b_is_name, ok_is_name F_is_name F_is_word b_is_word g_is_word F_end_of_run b_end_of_run g_end_of_run tb tx⟩
    fields := ⟨_, g_FIELDS, q_FIELDS⟩
    nums := ⟨_, g_NUMBERS, q_NUMBERS⟩
    kinds := ⟨_, g_KINDS, q_KINDS⟩
    words := ⟨_, g_WORDS, q_WORDS⟩
    most := ⟨_, g_MOST_DEPTH⟩ }
  have CW : CwS l.prog w K mg base C_Condition C_Reader C_InvalidSyntax C_TooLarge := {
    Z := CR
    rd := ⟨_, _, MK_Reader, b_Reader___init__, ok_rd_init F_Reader___init__ F_tokens_of b_tokens_of g_tokens_of F_end_of_run b_end_of_run g_end_of_run tb Zr⟩
    mR := mC_Reader
    fin := ⟨_, _, M_Reader_pass_end, b_Reader_pass_end, ok_pass_end F_Reader_pass_end F_Reader_token b_Reader_token M_Reader_token F_Reader_place b_Reader_place M_Reader_place Zr GS⟩
    is := PySem.W.mg_none_of X G z_isinstance
    st := PySem.W.mg_none_of X G z_str
    one := ⟨_, _, F_one, g_one⟩
    both := ⟨_, _, F_both, g_both⟩
    cond := ⟨_, _, F_condition, g_condition⟩
    val := ⟨_, _, F_value, g_value⟩ }
  have GR := ok_read F_read_condition CW
  have TAKE : CalB l.prog w K mg base CX0 "_law_take" 1 PreT ResT := ⟨⟨_, _, _, take_B (ok_take F_law_take B2), g_law_take, F_law_take.kp, b_law_take⟩⟩
  have ATOMS : CalB l.prog w K mg base CX0 "_law_atoms" 2 PreN ResAtX := ⟨⟨_, _, _, t_atomsX F_law_atoms TAKE, g_law_atoms, F_law_atoms.kp, b_law_atoms⟩⟩
  exact law_sp (run_law F_law {
    Z := CL
    E := ⟨⟨_, _, a_Condition___eq__, i_Condition___eq__, b_Condition___eq__, ok_ceq F_Condition___eq__ Z a_Condition___eq__ i_Condition___eq__ b_Condition___eq__ suT⟩, neC, suT⟩
    pool := ⟨⟨_, _, _, pool_P (ok_pool F_law_pool B2), g_law_pool, F_law_pool.kp, b_law_pool⟩⟩
    take := TAKE
    atoms := ATOMS
    form := fun n hn => ⟨⟨_, _, _, (t_formX F_law_form g_law_form b_law_form TAKE ATOMS n).mono (by omega), g_law_form, F_law_form.kp, b_law_form⟩⟩
    words := fun fm ok hd => ⟨⟨_, _, _, (t_words F_law_words g_law_words b_law_words (PySem.W.mg_none_of X G z_int) (PySem.W.mg_none_of X G z_str) fm ok (by omega) 0).mono (by omega), g_law_words, F_law_words.kp, b_law_words⟩⟩
    more := fun fm ok hd => ⟨⟨_, _, _, t_more F_law_more TAKE F_law_words g_law_words b_law_words (PySem.W.mg_none_of X G z_int) (PySem.W.mg_none_of X G z_str) (PySem.W.mg_none_of X G z_range) fm ok (by omega), g_law_more, F_law_more.kp, b_law_more⟩⟩
    text := ⟨⟨_, _, _, t_textU F_law_text TAKE, g_law_text, F_law_text.kp, b_law_text⟩⟩
    built := fun fm ok => ⟨⟨_, _, _, t_built F_law_built g_law_built b_law_built F_law_atom g_law_atom b_law_atom CL fm ok, g_law_built, F_law_built.kp, b_law_built⟩⟩
    like := ⟨_, _, g_law_is_like, F_law_is_like.kp, b_law_is_like, ok_like F_law_is_like g_law_is_like b_law_is_like Z M_Condition_parts b_Condition_parts GPt (PySem.W.mg_none_of X G z_len)⟩
    read := fun z p hz ht ok hh => ⟨⟨_, _, _, t_read GR hz ht ok hh, g_read_condition, F_read_condition.kp, b_read_condition⟩⟩
    rng := PySem.W.mg_none_of X G z_range
    len := PySem.W.mg_none_of X G z_len
    max := PySem.W.mg_none_of X G z_max
    min := PySem.W.mg_none_of X G z_min })


end K82

namespace K82
end K82
open PySem PySem.W PyProof.Rows
set_option maxRecDepth 100000 in
set_option maxHeartbeats 0 in
theorem PySem.Challenge.cw_farmisses_k82_texts_of_conditions_holds : PySem.Challenge.rw_farmisses_k82_texts_of_conditions.Holds := by
  w_on; o_law; k_head; (case hw => w_witness2)
  k_fill
  refine VX.walk_G (l := PySem.Challenge.rw_farmisses_k82_texts_of_conditions) (n := 63) (k := 29) (x := "_law_script") (CX := L2.CX0) (sp := K82.spLaw) rfl (by decide) rfl ⟨rfl, by decide, by decide⟩ (fun w h Y => PySem.W.kIn_of Y) ?F (fun _ _ a ns hl hO hS => ⟨a, ns, rfl, hS, hl, hO, fun _ => rfl⟩) (fun _ _ _ _ z => z)
  case F =>
    intro w mg fa h KX G hmg
    refine' K82.all_mk KX G hmg ?aC_FarError ?aC_InvalidSyntax ?l_InvalidSyntax ?sa_InvalidSyntax ?kC_InvalidSyntax ?ga_InvalidSyntax ?gg_InvalidSyntax ?ex_InvalidSyntax ?ac_InvalidSyntax ?mo_InvalidSyntax ?no_InvalidSyntax ?i_InvalidSyntax ?t_InvalidSyntax ?l_InvalidSyntax___init__ ?c_InvalidSyntax___init__ ?k_InvalidSyntax___init__ ?aC_TooLarge ?l_TooLarge ?sa_TooLarge ?kC_TooLarge ?ga_TooLarge ?gg_TooLarge ?ex_TooLarge ?ac_TooLarge ?mo_TooLarge ?no_TooLarge ?i_TooLarge ?t_TooLarge ?l_TooLarge___init__ ?c_TooLarge___init__ ?k_TooLarge___init__ ?a_LETTERS ?a_DIGITS ?a_GAPS ?a_MOST_DIGITS ?a_is_word ?l_is_word ?c_is_word ?k_is_word ?a_is_number ?l_is_number ?c_is_number ?k_is_number ?a_end_of_run ?l_end_of_run ?c_end_of_run ?k_end_of_run ?a_tokens_of ?l_tokens_of ?c_tokens_of ?k_tokens_of ?aC_Reader ?pg_Reader ?hd_Reader ?po_Reader ?sa_Reader ?mk_Reader ?kc_Reader ?cc_Reader ?cm_Reader ?ic_Reader ?tc_Reader ?cgO ?ctO ?np_Reader_tokens ?np_Reader_at ?a_Reader___init__ ?i_Reader___init__ ?l_Reader___init__ ?c_Reader___init__ ?k_Reader___init__ ?a_Reader_token ?i_Reader_token ?l_Reader_token ?c_Reader_token ?k_Reader_token ?a_Reader_place ?i_Reader_place ?l_Reader_place ?c_Reader_place ?k_Reader_place ?a_Reader_pass_any ?i_Reader_pass_any ?l_Reader_pass_any ?c_Reader_pass_any ?k_Reader_pass_any ?a_Reader_passes ?i_Reader_passes ?l_Reader_passes ?c_Reader_passes ?k_Reader_passes ?a_Reader_pass_only ?i_Reader_pass_only ?l_Reader_pass_only ?c_Reader_pass_only ?k_Reader_pass_only ?a_Reader_pass_one ?i_Reader_pass_one ?l_Reader_pass_one ?c_Reader_pass_one ?k_Reader_pass_one ?a_Reader_pass_number ?i_Reader_pass_number ?l_Reader_pass_number ?c_Reader_pass_number ?k_Reader_pass_number ?a_Reader_pass_end ?i_Reader_pass_end ?l_Reader_pass_end ?c_Reader_pass_end ?k_Reader_pass_end ?a_KEYWORDS ?l_KEYWORDS ?a_is_name ?l_is_name ?c_is_name ?k_is_name ?a_KINDS ?l_KINDS ?a_FIELDS ?l_FIELDS ?a_NUMBERS ?l_NUMBERS ?a_WORDS ?l_WORDS ?a_MOST_DEPTH ?aC_Condition ?pg_Condition ?hd_Condition ?po_Condition ?sa_Condition ?mk_Condition ?kc_Condition ?cc_Condition ?cm_Condition ?ic_Condition ?tc_Condition ?np_Condition_parts ?a_Condition___init__ ?i_Condition___init__ ?l_Condition___init__ ?c_Condition___init__ ?k_Condition___init__ ?a_Condition_parts ?i_Condition_parts ?l_Condition_parts ?c_Condition_parts ?k_Condition_parts ?a_Condition___call__ ?i_Condition___call__ ?l_Condition___call__ ?c_Condition___call__ ?k_Condition___call__ ?a_Condition___and__ ?i_Condition___and__ ?l_Condition___and__ ?c_Condition___and__ ?k_Condition___and__ ?a_Condition___or__ ?i_Condition___or__ ?l_Condition___or__ ?c_Condition___or__ ?k_Condition___or__ ?a_Condition___invert__ ?i_Condition___invert__ ?l_Condition___invert__ ?c_Condition___invert__ ?k_Condition___invert__ ?a_Condition___eq__ ?i_Condition___eq__ ?l_Condition___eq__ ?c_Condition___eq__ ?k_Condition___eq__ ?a_read_condition ?l_read_condition ?c_read_condition ?k_read_condition ?a_condition ?l_condition ?c_condition ?k_condition ?a_both ?l_both ?c_both ?k_both ?a_one ?l_one ?c_one ?k_one ?a_value ?l_value ?c_value ?k_value ?a_law_pool ?l_law_pool ?c_law_pool ?k_law_pool ?a_law_take ?l_law_take ?c_law_take ?k_law_take ?a_law_atoms ?l_law_atoms ?c_law_atoms ?k_law_atoms ?a_law_form ?l_law_form ?c_law_form ?k_law_form ?a_law_words ?l_law_words ?c_law_words ?k_law_words ?a_law_is_like ?l_law_is_like ?c_law_is_like ?k_law_is_like ?a_law_atom ?l_law_atom ?c_law_atom ?k_law_atom ?a_law_built ?l_law_built ?c_law_built ?k_law_built ?a_law_text ?l_law_text ?c_law_text ?k_law_text ?a_law_more ?l_law_more ?c_law_more ?k_law_more ?a_law ?l_law ?c_law ?k_law ?z_len ?z_isinstance ?z_int ?z_abs ?z_range ?z_max ?z_min ?z_str ?z_all ?anO ?tkO ?a_where ?l_where ?c_where ?k_where ?fiC ?si ?sf ?ra ?ro ?ia ?ib ?ic ?id_ ?neC ?suT ?df0
    (case aC_FarError => k_is)
    (case aC_InvalidSyntax => k_is)
    (case l_InvalidSyntax => k_is)
    (case sa_InvalidSyntax => k_is)
    (case kC_InvalidSyntax => k_is)
    (case ga_InvalidSyntax => k_is)
    (case gg_InvalidSyntax => k_is)
    (case ex_InvalidSyntax => k_is)
    (case ac_InvalidSyntax => k_is)
    (case mo_InvalidSyntax => k_is)
    (case no_InvalidSyntax => k_is)
    (case i_InvalidSyntax => k_is)
    (case t_InvalidSyntax => k_is)
    (case l_InvalidSyntax___init__ => k_is)
    (case c_InvalidSyntax___init__ => k_is)
    (case k_InvalidSyntax___init__ => k_is)
    (case aC_TooLarge => k_is)
    (case l_TooLarge => k_is)
    (case sa_TooLarge => k_is)
    (case kC_TooLarge => k_is)
    (case ga_TooLarge => k_is)
    (case gg_TooLarge => k_is)
    (case ex_TooLarge => k_is)
    (case ac_TooLarge => k_is)
    (case mo_TooLarge => k_is)
    (case no_TooLarge => k_is)
    (case i_TooLarge => k_is)
    (case t_TooLarge => k_is)
    (case l_TooLarge___init__ => k_is)
    (case c_TooLarge___init__ => k_is)
    (case k_TooLarge___init__ => k_is)
    (case a_LETTERS => k_is)
    (case a_DIGITS => k_is)
    (case a_GAPS => k_is)
    (case a_MOST_DIGITS => k_is)
    (case a_is_word => k_is)
    (case l_is_word => k_is)
    (case c_is_word => k_is)
    (case k_is_word => k_is)
    (case a_is_number => k_is)
    (case l_is_number => k_is)
    (case c_is_number => k_is)
    (case k_is_number => k_is)
    (case a_end_of_run => k_is)
    (case l_end_of_run => k_is)
    (case c_end_of_run => k_is)
    (case k_end_of_run => k_is)
    (case a_tokens_of => k_is)
    (case l_tokens_of => k_is)
    (case c_tokens_of => k_is)
    (case k_tokens_of => k_is)
    (case aC_Reader => k_is)
    (case pg_Reader => k_is)
    (case hd_Reader => k_is)
    (case po_Reader => k_is)
    (case sa_Reader => k_is)
    (case mk_Reader => k_is)
    (case kc_Reader => k_is)
    (case cc_Reader => k_is)
    (case cm_Reader => k_is)
    (case ic_Reader => k_is)
    (case tc_Reader => k_is)
    (case cgO => k_is)
    (case ctO => k_is)
    (case np_Reader_tokens => k_is)
    (case np_Reader_at => k_is)
    (case a_Reader___init__ => k_is)
    (case i_Reader___init__ => k_is)
    (case l_Reader___init__ => k_is)
    (case c_Reader___init__ => k_is)
    (case k_Reader___init__ => k_is)
    (case a_Reader_token => k_is)
    (case i_Reader_token => k_is)
    (case l_Reader_token => k_is)
    (case c_Reader_token => k_is)
    (case k_Reader_token => k_is)
    (case a_Reader_place => k_is)
    (case i_Reader_place => k_is)
    (case l_Reader_place => k_is)
    (case c_Reader_place => k_is)
    (case k_Reader_place => k_is)
    (case a_Reader_pass_any => k_is)
    (case i_Reader_pass_any => k_is)
    (case l_Reader_pass_any => k_is)
    (case c_Reader_pass_any => k_is)
    (case k_Reader_pass_any => k_is)
    (case a_Reader_passes => k_is)
    (case i_Reader_passes => k_is)
    (case l_Reader_passes => k_is)
    (case c_Reader_passes => k_is)
    (case k_Reader_passes => k_is)
    (case a_Reader_pass_only => k_is)
    (case i_Reader_pass_only => k_is)
    (case l_Reader_pass_only => k_is)
    (case c_Reader_pass_only => k_is)
    (case k_Reader_pass_only => k_is)
    (case a_Reader_pass_one => k_is)
    (case i_Reader_pass_one => k_is)
    (case l_Reader_pass_one => k_is)
    (case c_Reader_pass_one => k_is)
    (case k_Reader_pass_one => k_is)
    (case a_Reader_pass_number => k_is)
    (case i_Reader_pass_number => k_is)
    (case l_Reader_pass_number => k_is)
    (case c_Reader_pass_number => k_is)
    (case k_Reader_pass_number => k_is)
    (case a_Reader_pass_end => k_is)
    (case i_Reader_pass_end => k_is)
    (case l_Reader_pass_end => k_is)
    (case c_Reader_pass_end => k_is)
    (case k_Reader_pass_end => k_is)
    (case a_KEYWORDS => k_is)
    (case l_KEYWORDS => k_is)
    (case a_is_name => k_is)
    (case l_is_name => k_is)
    (case c_is_name => k_is)
    (case k_is_name => k_is)
    (case a_KINDS => k_is)
    (case l_KINDS => k_is)
    (case a_FIELDS => k_is)
    (case l_FIELDS => k_is)
    (case a_NUMBERS => k_is)
    (case l_NUMBERS => k_is)
    (case a_WORDS => k_is)
    (case l_WORDS => k_is)
    (case a_MOST_DEPTH => k_is)
    (case aC_Condition => k_is)
    (case pg_Condition => k_is)
    (case hd_Condition => k_is)
    (case po_Condition => k_is)
    (case sa_Condition => k_is)
    (case mk_Condition => k_is)
    (case kc_Condition => k_is)
    (case cc_Condition => k_is)
    (case cm_Condition => k_is)
    (case ic_Condition => k_is)
    (case tc_Condition => k_is)
    (case np_Condition_parts => k_is)
    (case a_Condition___init__ => k_is)
    (case i_Condition___init__ => k_is)
    (case l_Condition___init__ => k_is)
    (case c_Condition___init__ => k_is)
    (case k_Condition___init__ => k_is)
    (case a_Condition_parts => k_is)
    (case i_Condition_parts => k_is)
    (case l_Condition_parts => k_is)
    (case c_Condition_parts => k_is)
    (case k_Condition_parts => k_is)
    (case a_Condition___call__ => k_is)
    (case i_Condition___call__ => k_is)
    (case l_Condition___call__ => k_is)
    (case c_Condition___call__ => k_is)
    (case k_Condition___call__ => k_is)
    (case a_Condition___and__ => k_is)
    (case i_Condition___and__ => k_is)
    (case l_Condition___and__ => k_is)
    (case c_Condition___and__ => k_is)
    (case k_Condition___and__ => k_is)
    (case a_Condition___or__ => k_is)
    (case i_Condition___or__ => k_is)
    (case l_Condition___or__ => k_is)
    (case c_Condition___or__ => k_is)
    (case k_Condition___or__ => k_is)
    (case a_Condition___invert__ => k_is)
    (case i_Condition___invert__ => k_is)
    (case l_Condition___invert__ => k_is)
    (case c_Condition___invert__ => k_is)
    (case k_Condition___invert__ => k_is)
    (case a_Condition___eq__ => k_is)
    (case i_Condition___eq__ => k_is)
    (case l_Condition___eq__ => k_is)
    (case c_Condition___eq__ => k_is)
    (case k_Condition___eq__ => k_is)
    (case a_read_condition => k_is)
    (case l_read_condition => k_is)
    (case c_read_condition => k_is)
    (case k_read_condition => k_is)
    (case a_condition => k_is)
    (case l_condition => k_is)
    (case c_condition => k_is)
    (case k_condition => k_is)
    (case a_both => k_is)
    (case l_both => k_is)
    (case c_both => k_is)
    (case k_both => k_is)
    (case a_one => k_is)
    (case l_one => k_is)
    (case c_one => k_is)
    (case k_one => k_is)
    (case a_value => k_is)
    (case l_value => k_is)
    (case c_value => k_is)
    (case k_value => k_is)
    (case a_law_pool => k_is)
    (case l_law_pool => k_is)
    (case c_law_pool => k_is)
    (case k_law_pool => k_is)
    (case a_law_take => k_is)
    (case l_law_take => k_is)
    (case c_law_take => k_is)
    (case k_law_take => k_is)
    (case a_law_atoms => k_is)
    (case l_law_atoms => k_is)
    (case c_law_atoms => k_is)
    (case k_law_atoms => k_is)
    (case a_law_form => k_is)
    (case l_law_form => k_is)
    (case c_law_form => k_is)
    (case k_law_form => k_is)
    (case a_law_words => k_is)
    (case l_law_words => k_is)
    (case c_law_words => k_is)
    (case k_law_words => k_is)
    (case a_law_is_like => k_is)
    (case l_law_is_like => k_is)
    (case c_law_is_like => k_is)
    (case k_law_is_like => k_is)
    (case a_law_atom => k_is)
    (case l_law_atom => k_is)
    (case c_law_atom => k_is)
    (case k_law_atom => k_is)
    (case a_law_built => k_is)
    (case l_law_built => k_is)
    (case c_law_built => k_is)
    (case k_law_built => k_is)
    (case a_law_text => k_is)
    (case l_law_text => k_is)
    (case c_law_text => k_is)
    (case k_law_text => k_is)
    (case a_law_more => k_is)
    (case l_law_more => k_is)
    (case c_law_more => k_is)
    (case k_law_more => k_is)
    (case a_law => k_is)
    (case l_law => k_is)
    (case c_law => k_is)
    (case k_law => k_is)
    (case z_len => k_is)
    (case z_isinstance => k_is)
    (case z_int => k_is)
    (case z_abs => k_is)
    (case z_range => k_is)
    (case z_max => k_is)
    (case z_min => k_is)
    (case z_str => k_is)
    (case z_all => k_is)
    (case anO => k_is)
    (case tkO => k_is)
    (case a_where => k_is)
    (case l_where => k_is)
    (case c_where => k_is)
    (case k_where => k_is)
    (case fiC => k_is)
    (case si => k_is)
    (case sf => k_is)
    (case ra => k_is)
    (case ro => k_is)
    (case ia => k_is)
    (case ib => k_is)
    (case ic => k_is)
    (case id_ => k_is)
    (case neC => k_is)
    (case suT => k_is)
    (case df0 => rfl)

