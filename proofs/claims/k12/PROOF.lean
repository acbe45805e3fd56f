import PyProof.Rows.All
import Wide.All
import OpenK.AllK
import Wide.FinOn
import HandS.ForMost
import HandS.IsInst
import HandS.Property
import HandS.Star
import HandS.Rev
import HandS.TupMul
import HandS.Wide
import HandS.Style
import HandS.Walk
import HandS.Defaults
import HandS.ForExc
import HandS.ExcInit
import HandS.ExcIs
import HandS.ExcField
import HandS.RaiseMore
import HandS.ExcValue
import KE.GoesEnum
import KE.GoesMore
import HandS.TupAny
import KE.KRevSl
import KE.KExcIs
import PyProof.ReprRoads
import HandS.TryMany
import HandS.Gcd
import KE.KMathGC
import HandS.Steps
import HandS.Text
import PySem.Challenge.RW_farmisses_k12_caches_refused
import HandS.WordsExc
import HandS.ExcOwn
import HandS.Conv
import PyProof.P3Eq
set_option Elab.async false
set_option linter.all false
set_option maxRecDepth 100000
set_option maxHeartbeats 4000000
/-! Rules of my own over the hand layer. -/
namespace VR
open PySem PySem.Spec PyProof.Rows L2

/-! ### an own binary operator whose right side is of the same class, or of a built-in type -/
section
open PySem.W
variable {prog : Program} {w : World} {A : Around} {E : Value → Shared → Prop} {s : Shared} {K : Frag} {x C L f y : Addr} {h₀ : Heap} {m : Str → Option Value} {ox : Obj} {od : Option Obj} {nm : String}
theorem binSame {op : Operator} {Q : Value → Shared → Prop} (X : K.In s.heap) (I : InstAt s.heap x ox C od) (hb : Looks (model prog w) s.heap (typeOf (.ref y)) (.ref C)) (hc : selfFirst K C = true)
    (hs : findIn K (.ref C) (PySem.dunder op.info.2) = some (some (.ref f))) (hf : isFn K (.ref f) = true)
    (h : wpAny (model prog w) A (call (.ref f) [.ref x, .ref y]) (PySem.W.CmpBack Q) E s) : wpAny (model prog w) A (binaryOp op (.ref x) (.ref y)) Q E s := by
  obtain ⟨cd, rest, hcd, hm⟩ := ksp_first hc
  rcases hi : op.info with ⟨sym, nm'⟩
  rw [hi] at hs
  dsimp only at hs
  have one := ksp_try X I hs hf h
  obtain ⟨hh, g, d, tt, os⟩ := s
  have L1 : Looks (model prog w) hh (typeOf (.ref x)) (.ref C) := I.type
  have L2 : Looks (model prog w) hh (typeOf (.ref y)) (.ref C) := hb
  have L3 : Looks (model prog w) hh (fillsNumberSlot (.ref C) nm') true := fills_K X hcd hm hs
  have he : (Value.ref C == Value.ref C) = true := by simp
  simp only [binaryOp, hi]
  refine wpAny_holding (wpAny_bind ?_)
  unfold binaryOp1
  refine wpAny_bind (L1.at (wpAny_bind (L2.at (wpAny_bind (L3.at ?_)))))
  simp only [he, if_true]
  ksp_lk
  refine wpAny_mono one (fun r s' hr' => ?_) fun _ _ e => e
  obtain ⟨v, rfl, hq⟩ := hr'
  ksp_lk
  exact hq
end

/-- what the class at C must say that its own operator f is asked -/
structure BinOwn (K : PySem.W.Frag) (C : Addr) (nm : String) (f : Addr) : Prop where
  sf : PySem.W.selfFirst K C = true
  hs : PySem.W.findIn K (.ref C) (PySem.dunder nm) = some (some (.ref f))
  hf : PySem.W.isFn K (.ref f) = true
  hr : PySem.W.findIn K (.ref C) (dunderR nm) = some none
  ti : ∃ fo ro, PySem.W.findIn K (.type "int") (PySem.dunder nm) = some fo ∧ PySem.W.findIn K (.type "int") (dunderR nm) = some ro
  su : PySem.W.subIn K (.type "int") (.ref C) = some false

theorem relV_back {v : V} {u : Value} (r : RelV v u) {Q : Value → Shared → Prop} {s : Shared} (q : Q u s) : PySem.W.CmpBack Q u s := by
  cases v with
  | non => cases (show u = Value.none from r); exact q
  | bl b => cases (show u = Value.bool b from r); exact q
  | int i => obtain ⟨t, e⟩ := (show ∃ t, u = Value.int i t from r); cases e; exact q
  | str i => obtain ⟨t, e⟩ := (show ∃ t, u = Value.str i t from r); cases e; exact q
  | byt i => obtain ⟨t, e⟩ := (show ∃ t, u = Value.bytes i t from r); cases e; exact q
  | flt i => obtain ⟨t, e⟩ := (show ∃ t, u = Value.float i t from r); cases e; exact q
  | ref a => cases (show u = Value.ref a from r); exact q
  | ty n => cases (show u = Value.type n from r); exact q

/-- one + other -/
def rOwn (C : Addr) (sp : Sp) (E : XK) : R2 := fun x y H Q => ∃ a dx fs, x = .ref a ∧ H a = some (.ins C dx fs) ∧ ((∃ b dy gs, y = .ref b ∧ H b = some (.ins C dy gs)) ∨ ∃ i, y = .int i) ∧ sp [x, y] H Q E
section
variable {X : Cx} {CX : CXT} {k : Nat} {C f : Addr} {fd : FuncData} {ps : List Str} {sp : Sp} {E : XK} {op : Operator}
theorem op_own (B : BinOwn X.K C op.info.2 f) (F : FnOk X.prog X.w X.K X.mg X.base CX k f fd ps sp) (hr : Room k X.A) (hb : Binds X.K fd ps []) (hx : Passes CX X E) : OpR X (binaryOp op) (rOwn C sp E) := by
  intro pins s σ H x y v u Q I rx ry h
  obtain ⟨a, dx, fs, rfl, ha, hy, q⟩ := h
  cases rx
  obtain ⟨mA, O, _⟩ := ins_get I.hok ha
  obtain ⟨od, J, _⟩ := O.look
  have call : ∀ {u : Value}, RelV y u → wpAny (model X.prog X.w) X.A (call (.ref f) [.ref a, u]) (PySem.W.CmpBack (EP X pins σ Q)) X.xe s := fun {u} ry =>
    wpAny_mono (run_fn (us := [.ref a, u]) (vs := [.ref a, y]) (dvs := []) F hr hb .nil hx I (.cons rfl (.cons ry .nil)) q) (fun r s' hq => by
      obtain ⟨z, H', I', rz, hz⟩ := hq
      exact relV_back rz ⟨z, H', I', rz, hz⟩) fun _ _ z => z
  rcases hy with ⟨b, dy, gs, rfl, hb'⟩ | ⟨i, rfl⟩
  · cases ry
    obtain ⟨mB, O', _⟩ := ins_get I.hok hb'
    obtain ⟨od', J', _⟩ := O'.look
    exact binSame I.kIn J J'.type B.sf B.hs B.hf (call rfl)
  · obtain ⟨t, rfl⟩ := (show ∃ t, u = Value.int i t from ry)
    obtain ⟨m, hF⟩ := I.fr
    obtain ⟨fo, ro, h1, h2⟩ := B.ti
    exact PySem.W.ksp_binT hF I.ok.mod.kin J rfl B.sf B.hs B.hf B.hr (.inl rfl) h1 h2 B.su (call ⟨t, rfl⟩)
/-- -one -/
def rOwnU (C : Addr) (sp : Sp) (E : XK) : V → Hp → VK → Prop := fun x H Q => ∃ a dx fs, x = .ref a ∧ H a = some (.ins C dx fs) ∧ sp [x] H Q E
theorem un_own (hs : PySem.W.findIn X.K (.ref C) "__neg__" = some (some (.ref f))) (hf : PySem.W.isFn X.K (.ref f) = true) (F : FnOk X.prog X.w X.K X.mg X.base CX k f fd ps sp) (hr : Room k X.A) (hb : Binds X.K fd ps []) (hx : Passes CX X E) :
    UnR X (unaryOp .USub) (rOwnU C sp E) := by
  intro pins s σ H x v Q I rx h
  obtain ⟨a, dx, fs, rfl, ha, q⟩ := h
  cases rx
  obtain ⟨mA, O, _⟩ := ins_get I.hok ha
  obtain ⟨od, J, _⟩ := O.look
  obtain ⟨m, hF⟩ := I.fr
  exact PySem.W.ksp_neg hF I.ok.mod.kin J hs hf (run_fn (us := [.ref a]) (vs := [.ref a]) (dvs := []) F hr hb .nil hx I (.cons rfl .nil) q)
end

/-! ### enumerate(tuple) -/
def IteT (K : PySem.W.Frag) (a : Addr) : It :=
  ⟨fun i H => ∃ (xs : List V) (x : V), SqT K H a xs ∧ xs[i]? = some x, fun i H v H' => ∃ T x, v = .ref T ∧ H T = none ∧ H' = upd H T (.tup [.int (i : Nat), x]) ∧ ∀ xs, SqT K H a xs → xs[i]? = some x, fun i H => ∃ xs : List V, SqT K H a xs ∧ xs.length = i⟩
theorem isTup_isTuple {h : Heap} {a : Addr} {its : Array Value} (x : IsTup h a its) : h.IsTuple a its := x
theorem turn_enumT {P : Program} {w : World} {K : PySem.W.Frag} {elts : List Expr} {kk : Nat} {tpos : Pos} (a e it : Addr) (hai : a ≠ it) (hae : a ≠ e) :
    Turn P w K (.Tuple elts kk tpos) (IteT K a) [e, it] e (fun i h => (∃ old, IsEnum h e it ((i : Nat) : Int) old) ∧ h.IsTupleIter it a i ∧ e ≠ it) where
  mem := by simp
  obj := fun i h st b hb => by
    obtain ⟨⟨old, he⟩, ⟨o, ho, hc, hd⟩, _⟩ := st
    have e' : b = e ∨ b = it := by simpa using hb
    rcases e' with z | z
    · rw [z]; exact ⟨_, he, fun v q => nomatch q⟩
    · rw [z]; exact ⟨o, ho, fun v q => by rw [hd] at q; cases q⟩
  keep := fun i h h' st k => let ⟨⟨old, he⟩, hi, hne⟩ := st; ⟨⟨old, k e (by simp) _ he⟩, hi.at fun o q => k it (by simp) o q, hne⟩
  item := by
    intro X hP hw hK hc i pins s σ H E I hf st hg
    subst hP hw hK
    obtain ⟨⟨old, he⟩, hit, hne⟩ := st
    obtain ⟨xs, x, hq, hx⟩ := hg
    obtain ⟨its, rv, p, hz⟩ := I.tuple hq
    obtain ⟨u, hu, ru⟩ := rv.get hx
    have hel : e < s.heap.objs.size := Heap.lt_size he
    have hil : it < s.heap.objs.size := by obtain ⟨_, q, _⟩ := hit; exact Heap.lt_size q
    have hlt : i < its.toArray.size := by
      have := (List.getElem?_eq_some_iff.mp hu).1
      simpa using this
    have D := Draws.tuple (prog := X.prog) (w := X.w) (A := X.A.in1) (show X.A.in1.handled = none from I.ok.hd hc) it a hai its.toArray
    refine wpAny_pyNext_enum_itemC (i := i) D he ⟨hit, isTup_isTuple p⟩ hlt hne (by simp [hne, Ne.symm hae]) fun y h' tk hy ho hst' hT hsz hk => ?_
    obtain ⟨hit', hit2⟩ := hst'
    have ey : y = u := by
      have q : its.toArray[i]? = some u := by simpa using hu
      have q2 : its.toArray[i]? = some y := hy
      rw [q] at q2
      exact (Option.some.inj q2).symm
    subst ey
    refine ⟨_, rfl, wpAny_letOwnedTupleGo_enum (s := { s with heap := h', toks := tk + 1 }) ho fun h'' he' sb => ?_⟩
    have hT2 : h''.get? s.heap.objs.size = some { cls := .type "tuple", data := .seq #[.int i tk, y] } := (sb.2 _ (Nat.ne_of_gt hel)).trans hT
    have new : ObjOk X.prog X.w (upd H s.heap.objs.size (.tup [.int (i : Nat), x])) h'' s.heap.objs.size (.tup [.int (i : Nat), x]) :=
      ⟨by show 2 ≤ sizeLine; decide, [.int i tk, y], .cons ⟨_, rfl⟩ (.cons ru .nil), ⟨_, hT2, rfl, _, rfl⟩⟩
    have I1 : Inv X pins σ (upd H s.heap.objs.size (.tup [.int (i : Nat), x])) { s with heap := h'', toks := tk + 1 } :=
      I.turnedNew (ch := [e, it]) (fun b ob hb q => (sb.2 b (fun z => hb (by simp [z]))).trans (hk b ob (fun z => hb (by simp [z])) (fun z => hb (by simp [z])) q)) hf (Nat.le_refl _) new
    refine ⟨.ref s.heap.objs.size, _, I1, rfl, ⟨_, x, rfl, I.hok.fresh (Nat.le_refl _), rfl, fun ys hy => by rw [I.tuple_inj hy hq]; exact hx⟩, ⟨⟨y, ?_⟩, hit'.at fun o q => (sb.2 it (Ne.symm hne)).trans q, hne⟩, fun b hb => ?_⟩
    · have e1 : ((i + 1 : Nat) : Int) = (i : Int) + 1 := by omega
      rw [e1]; exact he'
    · have hb' : b < s.heap.objs.size := by
        have e' : b = e ∨ b = it := by simpa using hb
        rcases e' with z | z
        · rw [z]; exact hel
        · rw [z]; exact hil
      rw [upd_ne (Nat.ne_of_lt hb')]
      exact (hf b hb).1
  done := by
    intro X hP hw hK hc i pins s σ H E I hf st hg
    subst hP hw hK
    obtain ⟨⟨old, he⟩, hit, hne⟩ := st
    obtain ⟨xs, hq, hx⟩ := hg
    obtain ⟨its, rv, p, hz⟩ := I.tuple hq
    obtain ⟨f0, f1, f2, f3, f4, f5⟩ := hf it (by simp)
    have hl := rv.length
    have D := Draws.tuple (prog := X.prog) (w := X.w) (A := X.A.in1) (show X.A.in1.handled = none from I.ok.hd hc) it a hai its.toArray
    have hz : its.toArray.size = i := by rw [List.size_toArray]; omega
    subst hz
    exact wpAny_pyNext_enum_endD D he ⟨hit, isTup_isTuple p⟩ fun h' eb => ⟨rfl, I.turned (t' := s.toks) (fun b o hb q => eb b o hb q) f0 f1 f3 f4 f5⟩
  self := fun A i s Q E st h => let ⟨⟨_, he⟩, _⟩ := st; wpAny_pyIter_enum he h
theorem meets_enumB1 {v : Value} {o : Obj} {H : Heap → Prop} (B : Begins v o H) :
    Meets (Builtin.«enumerate.__new__» ⟨[.type "enumerate", v], []⟩) (fun _ R s => H s.heap ∧
      R (.ok (.ret (.ref (s.heap.push o).objs.size))) { s with heap := (s.heap.push o).push { cls := .type "enumerate", data := .fields #[.none, .bool false, .ref s.heap.objs.size, rawInt 0, .none, .none] } }) :=
  .of_wp fun prog w A R s h => by
    obtain ⟨hp, g, d, tk, os⟩ := s; obtain ⟨h1, h⟩ := h
    have hsub := sub_enumerate
    have q1 : ∀ {A' : Around} {E : Value → Shared → Prop} {Q : Value → Shared → Prop}, Q (.ref hp.objs.size) ⟨hp.push o, g, d, tk, os⟩ → wpAny (model prog w) A' (pyIter v) Q E ⟨hp, g, d, tk, os⟩ :=
      fun q => B.iter prog w _ _ ⟨hp, g, d, tk, os⟩ _ h1 q
    wp_walk using q1
    refine wpAny_stack_any fun st => wpAny_pure ?_
    split
    · rename_i c _ _ _ _ _
      cases (c == Value.type "enumerate")
      · wp_walk using q1
        exact ⟨_, rfl, h⟩
      · wp_walk using q1
        exact ⟨_, rfl, h⟩
    · wp_walk using q1
      exact ⟨_, rfl, h⟩
theorem call_enumT {prog : Program} {w : World} {A : Around} {E : Value → Shared → Prop} {s : Shared} {l : Addr} {items : Array Value} {Q : Value → Shared → Prop} (hL : s.heap.IsTuple l items)
    (h : ∀ h', IsEnum h' (s.heap.objs.size + 1) s.heap.objs.size 0 .none → h'.IsTupleIter s.heap.objs.size l 0 → h'.objs.size = s.heap.objs.size + 2 →
      (∀ b o, s.heap.get? b = some o → h'.get? b = some o) → Q (.ref (s.heap.objs.size + 1)) { s with heap := h' }) :
    wpAny (model prog w) A (call (.type "enumerate") [.ref l]) Q E s := by
  refine callType_new F.called_enumerate (by decide) (F.typeCall_enumerate_1 _) (F.newCall_enumerate_1 _) (fun obj => F.args_object_init_2 obj _) F.entry_enumerate_new
    (meets_enumB1 (begins_tuple l items)) ⟨hL, ?_⟩
  have hz : (s.heap.push { cls := .type "tuple_iterator", data := .fields #[.ref l, .int 0 0] }).objs.size = s.heap.objs.size + 1 := Heap.size_push ..
  show _ ∧ _
  rw [hz]
  have he : IsEnum ((s.heap.push { cls := .type "tuple_iterator", data := .fields #[.ref l, .int 0 0] }).push
      { cls := .type "enumerate", data := .fields #[.none, .bool false, .ref s.heap.objs.size, rawInt 0, .none, .none] }) (s.heap.objs.size + 1) s.heap.objs.size 0 .none := by
    have := Heap.get?_push_size (s.heap.push { cls := .type "tuple_iterator", data := .fields #[.ref l, .int 0 0] })
      (o := { cls := .type "enumerate", data := .fields #[.none, .bool false, .ref s.heap.objs.size, rawInt 0, .none, .none] }) rfl
    rw [hz] at this; exact this
  refine ⟨⟨_, he, rfl⟩, h _ he ⟨_, Heap.get?_push_of_some _ (Heap.get?_push_size _ rfl), rfl, rfl⟩ (by rw [Heap.size_push, hz]) fun b o x => Heap.get?_push_of_some _ (Heap.get?_push_of_some _ x)⟩
def iEnumT (K : PySem.W.Frag) (ta : TA) : TI := fun σ H R => ta σ H fun vs H1 => ∃ a xs, vs = [.ref a] ∧ SqT K H1 a xs ∧ R (IteT K a) H1
theorem pi_enumT {X : Cx} {e : Expr} {ta : TA} {p pos tpos : Pos} {elts : List Expr} {kk : Nat} (hg : Gl X "enumerate") (hm : X.mg "enumerate" = none) (ha : PA X [e] ta) (hs : starEach [e] X.env = [(false, eval e X.env)] := by rfl) :
    PI X (.Tuple elts kk tpos) (.Call (.Name "enumerate" p) [e] [] pos) (iEnumT X.K ta) := by
  refine ⟨fun pins s σ H R I h => ?_⟩
  refine Call_ (ld_blt I hg hm boot_enumerate (PyProof.Rows.callWith_type1 (thn (ha.run pos pins s σ H _ I h) fun us s1 ⟨vs, H1, I1, r1, q1⟩ => ?_) hs rfl))
  obtain ⟨a, xs, ex, hq, q⟩ := q1
  subst ex
  cases r1 with
  | cons r rr =>
    cases rr
    cases r
    obtain ⟨its, rv, p', hz⟩ := I1.tuple hq
    have hal : a < s1.heap.objs.size := by obtain ⟨o, ho, _⟩ := id p'; exact Heap.lt_size ho
    refine call_enumT (isTup_isTuple p') fun h' he hit hsz hk => wpAny_pyIter_enum he ?_
    have I2 : Inv X pins σ H1 { s1 with heap := h' } := I1.kept (t' := s1.toks) hk
    refine ⟨s1.heap.objs.size + 1, [s1.heap.objs.size + 1, s1.heap.objs.size], _, _, H1, rfl, I2, turn_enumT a (s1.heap.objs.size + 1) s1.heap.objs.size (Nat.ne_of_lt hal) (Nat.ne_of_lt (Nat.lt_succ_of_lt hal)), ⟨⟨.none, he⟩, hit, Nat.succ_ne_self _⟩, fun b hb => ?_, q⟩
    have e' : b = s1.heap.objs.size + 1 ∨ b = s1.heap.objs.size := by simpa using hb
    have hle : s1.heap.objs.size ≤ b := by
      rcases e' with z | z
      · rw [z]; exact Nat.le_add_right _ _
      · rw [z]; exact Nat.le_refl _
    exact I1.fpOk hle (I1.hok.fresh hle)
theorem walk_enumT {K : PySem.W.Frag} {a : Addr} {xs : List V} : Walk (IteT K a) xs.length (fun H => SqT K H a xs) (YPair (fun i => some (.int (i : Nat))) (fun i => xs[i]?)) := by
  refine ⟨fun i _ hi q => ⟨xs, xs[i], q, by simp [hi]⟩, fun _ q => ⟨xs, q, rfl⟩, fun i H v H' _ q y => ?_⟩
  obtain ⟨T, x, h1, h2, h3, h4⟩ := y
  exact ⟨T, .int (i : Nat), x, h1, h2, h3, rfl, h4 xs q⟩
end VR

namespace VR
open PySem PySem.Spec PyProof.Rows L2
section
open PySem.W
variable {prog : Program} {w : World} {A : Around} {E : Value → Shared → Prop} {s : Shared} {K : Frag} {x C L f y : Addr} {h₀ : Heap} {m : Str → Option Value} {ox : Obj} {od : Option Obj} {nm : String} {b tb : Value}
/-- x != b, the class at C with an own __eq__ and no __ne__ -/
theorem ne_K {Q : Value → Shared → Prop} (hu : A.units + 1 < cLine) (X : K.In s.heap) (I : InstAt s.heap x ox C od) (hb : Looks (model prog w) s.heap (typeOf b) tb) (hn : notFirst K C tb = true)
    (hs : findIn K (.ref C) "__ne__" = some (some (.builtin "object.__ne__"))) (he : findIn K (.ref C) "__eq__" = some (some (.ref f))) (hf : isFn K (.ref f) = true) (hm : mroIn K C (.type "object") = some true)
    (h : wpAny (model prog w) A.in1 (call (.ref f) [.ref x, b]) (fun v s' => ∃ c, v = .bool c ∧ Q (.bool (!c)) s') E s) : wpAny (model prog w) A (richCompare .NotEq (.ref x) b) Q E s := by
  have sub : Looks (model prog w) s.heap (isInstance (.ref x) (.type "object")) true := I.type.andThen (looks_mroIn X hm)
  have one : wpAny (model prog w) A (tryCompare (.ref x) "__ne__" b) (fun r s' => ∃ v, r = some v ∧ Q v s') E s := by
    unfold tryCompare
    have inner : wpAny (model prog w) A (call (.builtin "object.__ne__") [.ref x, b]) (fun v s' => ∃ c, v = .bool (!c) ∧ Q (.bool (!c)) s') E s := by
      refine wpAny_call (codeAny_call_builtin PySem.F.slot_tuple_iterator_ne.plain PySem.F.cmpEntry_ne (check_slot PySem.F.cmpKind_ne PySem.F.cmpSplit_ne sub (PySem.F.cmpArgs_ne _ _) ?_))
      unfold Builtin.«object.__ne__»
      refine wpAny_bind (wpAny_of_eq (a := ((Value.ref x : Value), [b])) (by first | rfl | (simp only [slotArgs]; rfl)) ?_)
      dsimp only
      refine wpAny_bind (wpAny_cRoomFor hu ?_)
      refine wpAny_bind (ifBound_K X I he hf (wpAny_mono h (fun v s' hv => ?_) fun _ _ e => e))
      obtain ⟨c, rfl, hq⟩ := hv
      dsimp only
      refine wpAny_bind (wpAny_truthy_bool ?_)
      exact wpAny_pure ⟨c, rfl, hq⟩
    have two : wpAny (model prog w) A (callSpecialIfBound? (.ref x) "__ne__" [b]) (fun r s' => ∃ c, r = some (.bool (!c)) ∧ Q (.bool (!c)) s') E s := by
      simp only [callSpecialIfBound?, bindSpecialIfBound?]
      refine wpAny_holding (wpAny_bind (wpAny_bind (wpAny_bind (I.type.here ((looks_findIn X hs).here ?_)))))
      simp only [PySem.F.slot_tuple_iterator_ne.bind]
      refine wpAny_bind (wpAny_askSetting (wpAny_ite ?_))
      have fin : wpAny (model prog w) A (call (.builtin "object.__ne__") ([.ref x] ++ [b]) >>= fun v => pure (some v)) (fun r s' => ∃ c, r = some (.bool (!c)) ∧ Q (.bool (!c)) s') E s :=
        wpAny_bind (wpAny_mono inner (fun v s' ⟨c, e, q⟩ => wpAny_pure ⟨c, by rw [e], q⟩) fun _ _ h' => h')
      split
      · exact wpAny_bind (wpAny_pure (wpAny_pure fin))
      · exact wpAny_tryCatch (wpAny_bind (wpAny_pure (wpAny_pure fin)))
    refine wpAny_bind (wpAny_mono two (fun v s' hv => ?_) fun _ _ e => e)
    obtain ⟨c, rfl, hq⟩ := hv
    exact wpAny_pure ⟨_, rfl, hq⟩
  unfold richCompare
  simp only [oneThing_ref]
  refine wpAny_holding (wpAny_bind (wpAny_cRoomFor (Nat.lt_of_succ_lt hu) ?_))
  refine wpAny_bind (I.type.here (wpAny_bind (hb.here ?_)))
  split
  · rename_i q
    have e : subIn K tb (.ref C) = some false := by
      rcases Bool.or_eq_true_iff.mp hn with e | e
      · rw [beq_iff_eq.mp e] at q; simp at q
      · exact beq_iff_eq.mp e
    refine wpAny_bind ((looks_subIn X e).here ?_)
    simp only [Bool.false_eq_true, if_false]
    refine wpAny_bind (wpAny_mono one (fun r s' z => ?_) fun _ _ e => e)
    obtain ⟨v, rfl, hq⟩ := z
    exact wpAny_pure hq
  · refine wpAny_bind (wpAny_pure ?_)
    simp only [Bool.false_eq_true, if_false]
    refine wpAny_bind (wpAny_mono one (fun r s' z => ?_) fun _ _ e => e)
    obtain ⟨v, rfl, hq⟩ := z
    exact wpAny_pure hq
end

/-- what the class at C must say for type(x) and isinstance -/
structure InsKit (K : PySem.W.Frag) (C : Addr) : Prop where
  cl : Cls K C
  ha : PySem.W.findIn K (.ref C) "__class__" = some (some (.builtin "object.__class__"))
  hn : PySem.W.specialIn K (.builtin "object.__class__") "__get__" = some (some (.builtin "getset_descriptor.__get__"))
  ht : PySem.W.takesIn K (.builtin "object.__class__") = some true
  hm : PySem.W.mroIn K C (.type "object") = some true
theorem InsKit.ty {K : PySem.W.Frag} {C a dx : Addr} {H : Hp} {fs : List (Str × V)} (k : InsKit K C) (e : H a = some (.ins C dx fs)) : TyX K H (.ref a) (.ref C) := .base (.ins e k.cl k.ha k.hn k.ht k.hm)
theorem TyX.tupT {K : PySem.W.Frag} {H : Hp} {a : Addr} {xs : List V} (h : SqT K H a xs) : TyX K H (.ref a) (.type "tuple") := by
  rcases h with (h | ⟨o, h⟩) | h
  · exact .base (.tup h)
  · exact .fTuple h
  · obtain ⟨o, its, n, h1, h2, _⟩ := h
    exact .kTuple h1 h2
/-- one == other, one != other by an own __eq__ that tells a bool -/
def rOwnE (K : PySem.W.Frag) (C : Addr) (sp : Sp) (E : XK) (neg : Bool) : R2 := fun x y H Q => ∃ a dx fs t, x = .ref a ∧ H a = some (.ins C dx fs) ∧ TyX K H y t ∧ PySem.W.notFirst K C t = true ∧ sp [x, y] H (fun v H' => ∃ c, v = .bl c ∧ Q (.bl (if neg then !c else c)) H') E
section
variable {X : Cx} {CX : CXT} {k : Nat} {C f : Addr} {fd : FuncData} {ps : List Str} {sp : Sp} {E : XK}
theorem op_ownEq (he : PySem.W.findIn X.K (.ref C) "__eq__" = some (some (.ref f))) (hf : PySem.W.isFn X.K (.ref f) = true) (F : FnOk X.prog X.w X.K X.mg X.base CX k f fd ps sp) (hr : Room k X.A) (hb : Binds X.K fd ps []) (hx : Passes CX X E) :
    OpR X (compareOp .Eq) (rOwnE X.K C sp E false) := by
  intro pins s σ H x y v u Q I rx ry h
  obtain ⟨a, dx, fs, t, rfl, ha, ty, hn, q⟩ := h
  cases rx
  obtain ⟨mA, O, _⟩ := ins_get I.hok ha
  obtain ⟨od, J, _⟩ := O.look
  obtain ⟨m, hF⟩ := I.fr
  obtain ⟨P, Z, hp, _⟩ := kit_of I ry ty
  show wpAny (model X.prog X.w) X.A (richCompare .Eq (.ref a) u) (EP X pins σ Q) X.xe s
  refine PySem.W.cmp_K (op := .Eq) hr.units0 hF I.ok.mod.kin J (Z.ty _ _ I.kIn hp) hn he hf ?_
  refine wpAny_mono (run_fn (us := [.ref a, u]) (vs := [.ref a, y]) (dvs := []) F hr hb .nil hx I (.cons rfl (.cons ry .nil)) q) (fun r s' hq => ?_) fun _ _ z => z
  obtain ⟨z, H', I', rz, c, ez, hz⟩ := hq
  subst ez
  cases rz
  exact ⟨.bl c, H', I', rfl, hz⟩
theorem op_ownNe (h0 : PySem.W.findIn X.K (.ref C) "__ne__" = some (some (.builtin "object.__ne__"))) (hmo : PySem.W.mroIn X.K C (.type "object") = some true)
    (he : PySem.W.findIn X.K (.ref C) "__eq__" = some (some (.ref f))) (hf : PySem.W.isFn X.K (.ref f) = true) (F : FnOk X.prog X.w X.K X.mg X.base CX k f fd ps sp) (hr : Room (k + 1) X.A) (hb : Binds X.K fd ps []) (hx : Passes CX X E) :
    OpR X (compareOp .NotEq) (rOwnE X.K C sp E true) := by
  intro pins s σ H x y v u Q I rx ry h
  obtain ⟨a, dx, fs, t, rfl, ha, ty, hn, q⟩ := h
  cases rx
  obtain ⟨mA, O, _⟩ := ins_get I.hok ha
  obtain ⟨od, J, _⟩ := O.look
  obtain ⟨P, Z, hp, _⟩ := kit_of I ry ty
  show wpAny (model X.prog X.w) X.A (richCompare .NotEq (.ref a) u) (EP X pins σ Q) X.xe s
  refine ne_K (Nat.lt_of_le_of_lt (Nat.add_le_add_left (by decide : 1 ≤ 64) _) hr.units) I.kIn J (Z.ty _ _ I.kIn hp) hn h0 he hf hmo ?_
  have r2 : Vals [V.ref a, y] [Value.ref a, u] := .cons rfl (.cons ry .nil)
  have hl : ([Value.ref a, u] : List Value).length = ps.length := by rw [← r2.length]; exact F.len _ _ _ _ q
  refine wpAny_call (codeAny_mono (F.run X.A.in1 X.stack s H ⟨[.ref a, u], []⟩ [.ref a, u] [.ref a, y] _ E hr.in1 I.env0.in1 (by simpa using hb s [.ref a, u] I.kIn (by simpa using hl)) r2 q) fun r s' hq => ?_)
  cases r with
  | error e => exact hx pins σ H s e s' I hq
  | ok fl =>
    cases fl with
    | ret w =>
      obtain ⟨z, H', I', rz, c, ez, hz⟩ := I.after hq
      subst ez
      cases rz
      exact ⟨c, rfl, .bl (!c), H', I', rfl, hz⟩
    | next => exact False.elim hq
    | brk => exact False.elim hq
    | cont => exact False.elim hq
end
end VR

namespace VR
open PySem PySem.Spec PyProof.Rows L2
theorem filterMap_cong {α β : Type} {f g : α → Option β} : ∀ {l : List α}, (∀ a, a ∈ l → f a = g a) → l.filterMap f = l.filterMap g
  | [], _ => rfl
  | a :: l, h => by
    rw [List.filterMap_cons, List.filterMap_cons, h a (List.mem_cons_self ..), filterMap_cong (l := l) fun b hb => h b (List.mem_cons_of_mem _ hb)]
section
open HT
variable {prog : Program} {w : World} {A : Around} {E : Value → Shared → Prop} {s : Shared}
theorem sliceApplied_rev {sl : Addr} {vs : Value} {n : Nat} {Q : Int × Int × Nat → Shared → Prop} (hs : s.heap.IsSliceOf sl .none .none vs) (ps : IsPart vs (some (-1)))
    (h : Q ((n : Int) - 1, -1, n) s) : wpAny (model prog w) A (Builtin.Slice.sliceApplied (.ref sl) (pure (n : Int))) Q E s := by
  obtain ⟨os, hos, hcs, hds⟩ := id hs
  unfold Builtin.Slice.sliceApplied Builtin.Slice.sliceFields
  refine wpAny_bind (wpAny_bind (wpAny_field hos hds (x := .none) rfl (wpAny_bind (wpAny_field hos hds (x := .none) rfl (wpAny_bind (wpAny_field hos hds (x := vs) rfl (wpAny_pure ?_)))))))
  refine wpAny_bind (slicePart_ ps ?_)
  show wpAny _ _ (if ((-1 : Int) == 0) = true then _ else _) _ _ s
  rw [if_neg (by decide)]
  refine wpAny_bind (slicePart_ .none (wpAny_bind (slicePart_ .none (wpAny_bind (wpAny_pure ?_)))))
  show wpAny _ _ (match Builtin.Slice.sliceAdjust none none (-1) (n : Int) with | (lo, hi) => pure (lo, (-1 : Int), Builtin.Slice.slicePlaces lo hi (-1))) _ _ s
  have e1 : Builtin.Slice.sliceAdjust none none (-1) (n : Int) = ((n : Int) - 1, -1) := by
    unfold Builtin.Slice.sliceAdjust
    have h1 : ((-1 : Int) < 0) := by decide
    simp only [h1, if_true]
  have e2 : Builtin.Slice.slicePlaces ((n : Int) - 1) (-1) (-1) = n := by
    unfold Builtin.Slice.slicePlaces
    have h1 : ¬ ((-1 : Int) > 0) := by decide
    have h2 : (-(-1 : Int)) = 1 := by decide
    simp only [h1, if_false, h2, Int.ediv_one]
    split <;> omega
  rw [e1]
  show wpAny _ _ (pure ((n : Int) - 1, (-1 : Int), Builtin.Slice.slicePlaces ((n : Int) - 1) (-1) (-1))) _ _ s
  rw [e2]
  exact wpAny_pure h
theorem pick_rev (xs : Array Value) : ((List.range xs.size).filterMap fun (m : Nat) => xs[(((xs.size : Int) - 1) + (m : Int) * (-1)).toNat]?).toArray = xs.toList.reverse.toArray := by
  have e : ∀ m, m ∈ List.range xs.size → xs[(((xs.size : Int) - 1) + (m : Int) * (-1)).toNat]? = xs[xs.size - 1 - m]? := by
    intro m hm
    have := List.mem_range.mp hm
    have q : (((xs.size : Int) - 1) + (m : Int) * (-1)).toNat = xs.size - 1 - m := by omega
    rw [q]
  have e3 : ((List.range xs.size).filterMap fun (m : Nat) => xs[(((xs.size : Int) - 1) + (m : Int) * (-1)).toNat]?) = (List.range xs.size).filterMap fun m => xs[xs.size - 1 - m]? :=
    filterMap_cong e
  rw [e3]
  have e4 : ((List.range xs.size).filterMap fun m => xs[xs.size - 1 - m]?) = ((List.range xs.size).map fun k => xs.size - 1 - k).filterMap (xs[·]?) := by
    rw [List.filterMap_map]; rfl
  rw [e4, PySem.W.krv_range, List.filterMap_reverse, PySem.W.krv_all]
theorem getItem_tuple_rev {t sl : Addr} {items : Array Value} {vs : Value} {Q : Value → Shared → Prop} (ht : IsTup s.heap t items) (hs : s.heap.IsSliceOf sl .none .none vs) (ps : IsPart vs (some (-1)))
    (h : Q (.ref s.heap.objs.size) { s with heap := s.heap.push { cls := .type "tuple", data := .seq items.toList.reverse.toArray } })
    (hsz : items.size ≤ sizeLine) : wpAny (model prog w) A (getItem (.ref t) (.ref sl)) Q E s := by
  have htake : sizeOk (.seq items.toList.reverse.toArray) := by
    show items.toList.reverse.toArray.size ≤ sizeLine
    rw [List.size_toArray, List.length_reverse, Array.length_toList]
    exact hsz
  obtain ⟨os, hos, hcs, hds⟩ := id hs
  have hTs : s.TypeIs (.ref sl) "slice" := ⟨os, hos, hcs⟩
  unfold getItem
  try with_reducible refine wpAny_holding ?_
  first | refine wpAny_bind (wpAny_pure ?_) | skip
  refine wpAny_bind (wpAny_sequenceKey ht.typeIs (by decide) ?_)
  refine wpAny_bind (wpAny_callSpecial?_slot (name := Str.ofString "__getitem__") ht.typeIs PyProof.Rows.slot_tuple_getitem
    (wpAny_call_entry PyProof.Rows.slot_tuple_getitem ht.typeIs entry_tuple_getitem ?_ (args_tuple_getitem _ _)))
  show wpAny _ _ (Builtin.Tuple.tupleItemsOf (.ref t) >>= _) _ _ s
  refine wpAny_bind (tupleItemsOf_ ht ?_)
  refine wpAny_bind (wpAny_typeOf hTs ?_)
  rw [if_pos (by decide)]
  refine wpAny_bind (sliceApplied_rev hs ps ?_)
  have hno : ¬ ((((items.size : Int) - 1) == 0 && (-1 : Int) == 1 && items.size == items.size) = true) := by
    intro q
    rw [Bool.and_eq_true, Bool.and_eq_true] at q
    exact absurd q.1.2 (by decide)
  show wpAny _ _ (if (((items.size : Int) - 1) == 0 && (-1 : Int) == 1 && items.size == items.size) = true then _ else _) _ _ s
  rw [if_neg hno, pick_rev]
  first
    | exact wpAny_bind (m := Builtin.Tuple.tupleExact _) (wpAny_newObj_type (wpAny_pure ⟨_, rfl, wpAny_pure h⟩) htake)
    | exact wpAny_bind (m := Builtin.Tuple.tupleExact _) (wpAny_newObj_type (wpAny_bind (wpAny_pure (wpAny_pure ⟨_, rfl, wpAny_pure h⟩))) htake)
    | exact wpAny_bind (wpAny_bind (m := Builtin.Tuple.tupleExact _) (wpAny_newObj_type (wpAny_pure (wpAny_pure ⟨_, rfl, wpAny_pure h⟩)) htake))
    | exact wpAny_bind (wpAny_bind (m := Builtin.Tuple.tupleExact _) (wpAny_newObj_type (wpAny_pure ⟨_, rfl, wpAny_pure h⟩) htake))
end
/-- t[::-1], a tuple -/
def tRevT (K : PySem.W.Frag) (te : TE) : TE := fun σ H Q => te σ H fun x H1 => ∃ a xs, x = .ref a ∧ SqT K H1 a xs ∧ ∀ p, H1 p = none → Q (.ref p) (upd H1 p (.tup xs.reverse))
theorem pe_revT {X : Cx} {e : Expr} {te : TE} {k : Nat} {p1 p2 p3 pos : Pos} (he : PE X e te) : PE X (.Subscript e (.Slice none none (some (.UnaryOp .USub (.Constant (.int 1) k p1) p2)) p3) pos) (tRevT X.K te) := by
  refine ⟨fun pins s σ H Q I h => ?_⟩
  refine Subscript_ (thn (he.run pins s σ H _ I h) fun v s1 ⟨x, H1, I1, r1, q1⟩ => ?_)
  obtain ⟨a, xs, ex, hx, q⟩ := q1
  subst ex
  cases r1
  have hst : PO X (some (.UnaryOp .USub (.Constant (.int 1) k p1) p2)) (tPart (tUn (rU fun i => .int (-i)) (tC (.int 1)))) := po_some (pe_un un_neg pe_int)
  refine wpAny_Slice (thn (po_none.run pins s1 σ H1 (fun o H2 => o = none ∧ H2 = H1) I1 ⟨rfl, rfl⟩) fun vl s2 ⟨l, H2, I2, pl, el, e2⟩ => ?_)
  subst el e2
  refine thn (po_none.run pins s2 σ H2 (fun o H3 => o = none ∧ H3 = H2) I2 ⟨rfl, rfl⟩) fun vu s3 ⟨u, H3, I3, pu, eu, e3⟩ => ?_
  subst eu e3
  refine thn (hst.run pins s3 σ H3 (fun o H4 => o = some (-1) ∧ H4 = H3) I3 ⟨1, rfl, -1, rfl, rfl, rfl⟩) fun vs s4 ⟨o, H4, I4, ps, eo, e4⟩ => ?_
  subst eo e4
  have I5 : Inv X pins σ H4 { s4 with heap := s4.heap.push { cls := .type "slice", data := .fields #[vl, vu, vs] } } := I4.kept (t' := s4.toks) fun b ob q => Heap.get?_push_of_some _ q
  obtain ⟨its, r, ht, hz⟩ := I5.tuple hx
  have hlen := r.length
  cases pl
  cases pu
  show wpAny (model X.prog X.w) X.A (subscriptTail e (.Slice none none (some (.UnaryOp .USub (.Constant (.int 1) k p1) p2)) p3) (.ref a) (.ref s4.heap.objs.size)) (EP X pins σ Q) X.xe { s4 with heap := s4.heap.push { cls := .type "slice", data := .fields #[.none, .none, vs] } }
  refine tail_any (ops := [.ref a, .ref s4.heap.objs.size]) ht.typeIs (PyProof.Rows.slot_tuple_getitem.lookup) ?_ (by with_unfolding_all rfl)
  refine getItem_tuple_rev ht (Heap.IsSliceOf.new _ .none .none vs) ps ?_ (by rw [List.size_toArray]; omega)
  refine ⟨.ref _, _, I5.laid (t' := s4.toks) (o := .tup xs.reverse) (fun b ob q => Heap.get?_push_of_some _ q) (Nat.le_refl _) ?_, rfl, q _ (I5.hok.fresh (Nat.le_refl _))⟩
  exact ⟨by rw [List.length_reverse]; exact hz, _, r.reverse, IsTup.new _ _⟩
end VR

/-! Small words: lists of ints as values, heaps that grow. -/
namespace VR
open PySem PySem.Spec PyProof.Rows L2
def iz (xs : List Int) : List V := xs.map V.int
theorem iz_get {xs : List Int} {i : Nat} {x : Int} (h : xs[i]? = some x) : (iz xs)[i]? = some (V.int x) := by unfold iz; rw [List.getElem?_map, h]; rfl
theorem of_iz_get {xs : List Int} {i : Nat} {v : V} (h : (iz xs)[i]? = some v) : ∃ x, xs[i]? = some x ∧ v = V.int x := by
  unfold iz at h
  rw [List.getElem?_map] at h
  cases e : xs[i]? with
  | none => rw [e] at h; cases h
  | some x => rw [e] at h; exact ⟨x, rfl, (Option.some.inj h).symm⟩
theorem iz_len (xs : List Int) : (iz xs).length = xs.length := by simp [iz]
theorem iz_set (xs : List Int) (j : Nat) (x : Int) : (iz xs).set j (V.int x) = iz (xs.set j x) := by simp [iz, List.map_set]
theorem smallL {n : Nat} (h : n ≤ 10000) : n ≤ sizeLine := by rw [sizeLine_eq]; omega
theorem _root_.L2.Same.tup {K : PySem.W.Frag} {H H' : Hp} {a : Addr} {xs : List V} (e : Same H H') (h : SqT K H a xs) : SqT K H' a xs := by
  rcases h with (h | ⟨o, h⟩) | h
  · exact .inl (.inl (e _ _ h))
  · exact .inl (.inr ⟨o, e _ _ h⟩)
  · exact .inr h
theorem _root_.L2.Same.new {H : Hp} {p : Addr} {o : HO} (h : H p = none) : Same H (upd H p o) := fun b u e => by rw [upd_ne (ne_of_none e h)]; exact e
theorem _root_.L2.Same.upd0 {H H' : Hp} {l : Addr} {o : HO} (e : Same H H') (h : H l = none) : Same H (upd H' l o) := fun b u q => by rw [upd_ne (ne_of_none q h)]; exact e b u q
theorem _root_.L2.Same.upN {H H' : Hp} {l : Addr} {o : HO} (e : Same H H') (h : H' l = none) : Same H (upd H' l o) := e.trans (L2.Same.new h)
theorem ite_max (a b : Nat) : (if (b : Int) > (a : Int) then V.int (b : Int) else V.int (a : Int)) = V.int ((max a b : Nat) : Int) := by
  split <;> congr 1 <;> omega
theorem iz_rep (n : Nat) : (List.replicate n [V.int 0]).flatten = iz (List.replicate n 0) := by
  induction n with
  | zero => rfl
  | succ n ih => rw [List.replicate_succ, List.flatten_cons, ih, List.replicate_succ]; rfl
theorem ixN_nat {n k : Nat} (h : k < n) : ixN n (k : Int) = some k := by
  unfold ixN
  rw [if_pos (by omega), if_pos (by omega)]
  simp

/-- a store to an object that is no tuple leaves the tuples -/
theorem _root_.L2.SqT.updNT {K : PySem.W.Frag} {H : Hp} {a p : Addr} {xs : List V} {o u : HO} (h : SqT K H a xs) (hp : H p = some u) (nt : ∀ ys, u ≠ .tup ys) (nf : ∀ ob v, u ≠ .frz ob v) : SqT K (upd H p o) a xs := by
  rcases h with (h | ⟨ob, h⟩) | h
  · exact .inl (.inl (by rw [upd_ne (ne_of h hp fun e => nt _ e.symm)]; exact h))
  · exact .inl (.inr ⟨ob, by rw [upd_ne (ne_of h hp fun e => nf _ _ e.symm)]; exact h⟩)
  · exact .inr h
theorem _root_.L2.SqT.updIns {K : PySem.W.Frag} {H : Hp} {a p C dx : Addr} {xs : List V} {o : HO} {fs : List (Str × V)} (h : SqT K H a xs) (hp : H p = some (.ins C dx fs)) : SqT K (upd H p o) a xs := h.updNT hp (fun _ e => nomatch e) (fun _ _ e => nomatch e)
end VR

/-! Tuples of ints as data. -/
namespace VR
open PySem PySem.Spec PyProof.Rows L2
def dI (xs : List Int) : PyData := .tuple (xs.map PyData.int)
theorem eqvAll_ints : ∀ xs ys : List Int, PyData.eqvAll (xs.map PyData.int) (ys.map PyData.int) = decide (xs = ys)
  | [], [] => by simp [PyData.eqvAll]
  | [], _ :: _ => by simp [PyData.eqvAll]
  | _ :: _, [] => by simp [PyData.eqvAll]
  | x :: xs, y :: ys => by
    rw [List.map_cons, List.map_cons, PyData.eqvAll, eqvAll_ints xs ys, PyData.eqv]
    by_cases h : x = y <;> by_cases g : xs = ys <;> simp [h, g]
theorem eqv_ints (xs ys : List Int) : PyData.eqv (dI xs) (dI ys) = decide (xs = ys) := by
  unfold dI
  rw [PyData.eqv, eqvAll_ints]
theorem canAll_ints : ∀ xs : List Int, PyData.canLayAll0 (xs.map PyData.int) = true
  | [] => by simp [PyData.canLayAll0]
  | x :: xs => by rw [List.map_cons, PyData.canLayAll0, canAll_ints xs, PyData.canLay0]; rfl
theorem depth_ints : ∀ xs : List Int, PyData.depthAll (xs.map PyData.int) = 0
  | [] => by simp [PyData.depthAll]
  | x :: xs => by rw [List.map_cons, PyData.depthAll, depth_ints xs, PyData.depth]; rfl
theorem shaped_ints (xs : List Int) : SeqAt.shaped (dI xs) = true := by
  unfold SeqAt.shaped dI
  rw [PyData.canLay0, canAll_ints, PyData.depth, depth_ints]
  rfl
theorem dpAll_ints {K : PySem.W.Frag} {H : Hp} : ∀ xs : List Int, DpAll K H (iz xs) (xs.map PyData.int)
  | [] => .nil
  | x :: xs => .cons (.int x) (dpAll_ints xs)
theorem dp_ints {K : PySem.W.Frag} {H : Hp} {a : Addr} {xs : List Int} (h : SqT K H a (iz xs)) : Dp K H (.ref a) (dI xs) := .tup h (dpAll_ints xs)
/-- a term of types for isinstance -/
theorem kit_cls_ref {K : PySem.W.Frag} {C : Addr} {t : Value} {b : Bool} (h1 : PySem.W.isClsIn K C = true) (h2 : PySem.W.typeIn K (.ref C) = some (.type "type")) (h3 : (t == .ref C) = false) (h4 : PySem.W.subIn K t (.ref C) = some b) : PySem.W.kitOne K t (.ref C) = some b := by
  unfold PySem.W.kitOne PySem.W.kitCls
  have h1' : (PySem.W.clsIn K C).isSome = true := h1
  rw [h3, if_neg (by decide)]
  show (if ((PySem.W.clsIn K C).isSome && PySem.W.typeIn K (Value.ref C) == some (Value.type "type")) = true then PySem.W.subIn K t (Value.ref C) else none) = some b
  rw [h1', h2, if_pos (by rfl), h4]
theorem kit_self {K : PySem.W.Frag} {t : Value} (h : (t == t) = true) : PySem.W.kitOne K t t = some true := by
  unfold PySem.W.kitOne
  rw [if_pos h]
end VR

/-! Own exceptions with their own __init__, as values. -/
namespace VX
open PySem PySem.W PySem.Calls PyProof.Rows PySem.HandSPX Builtin Builtin.ObjectAttr
section
variable {prog : Program} {w : World} {M : Model} {A : Around} {E : Value → Shared → Prop} {R : Result → Shared → Prop} {h : Heap} {g : Array GenState} {d : Drawn} {t : Nat} {os : OsState}
variable {nm q : Str} {C N : Addr} {bs bm bmB : List Value} {hdct : Bool} {sn : List Str} {sub : List Value} {ab : Bool} {col : Option Bool} {dd : Option Addr} {k0 k1 k2 k3 k5 : Option Value} {B newId initId : String}
theorem newC (F : ExcBaseFacts B newId initId bmB) (hT : ∀ Y : String, bm.contains (.type Y) = bmB.contains (.type Y)) {us : List Value} {kw : List (Str × Value)} {Q : Unit → Shared → Prop}
    (hC : h.get? C = some (excClassObj nm q C N bs bm hdct sn sub ab col dd k0 k1 k2 k3 k5 newId)) (hq : Q () ⟨h, g, d, t, os⟩) : wpAny M A (checkBuiltinCall newId ⟨.ref C :: us, kw⟩) Q E ⟨h, g, d, t, os⟩ := by
  have z1 : (Value.ref C :: bm).contains (.type B) = true := by rw [List.contains_cons, hT, F.hasB, Bool.or_true]
  have z2 := F.noStar
  simp only [checkBuiltinCall, F.newKind, F.newSplit, F.newRow]
  repeat (first | refine wpAny_loadPart_at hC ?_ | (refine wpAny_isSubtype_exc hC ?_; rw [z1]) | refine wpAny_staticBase_exc hC ?_ | refine wpAny_madeBy_exc hC ?_ | simp only [bne_self_eq_false, Bool.false_eq_true, if_false] | wp_step)
  exact hq
end
section
variable {prog : Program} {w : World} {A : Around} {E : Value → Shared → Prop} {R : Result → Shared → Prop} {h : Heap} {g : Array GenState} {d : Drawn} {t : Nat} {os : OsState}
variable {nm q : Str} {C N : Addr} {bs bm bmB : List Value} {hdct : Bool} {sn : List Str} {sub : List Value} {ab : Bool} {col : Option Bool} {dd : Option Addr} {k0 k1 k2 k3 k5 : Option Value} {B newId initId : String}
theorem newR (F : ExcBaseFacts B newId initId bmB) (hT : ∀ Y : String, bm.contains (.type Y) = bmB.contains (.type Y)) {us : List Value} {kw : List (Str × Value)}
    (hC : h.get? C = some (excClassObj nm q C N bs bm hdct sn sub ab col dd k0 k1 k2 k3 k5 newId))
    (hq : R (.ok (.ret (.ref (h.objs.size + 1)))) ⟨(h.push { cls := .type "tuple", data := .seq us.toArray }).push (excO C h.objs.size), g, d, t, os⟩) (hz : us.length ≤ sizeLine) :
    codeAny (model prog w) A (.builtin newId ⟨.ref C :: us, kw⟩) R ⟨h, g, d, t, os⟩ := by
  have z0 := F.ends
  have z1 : (Value.ref C :: bm).contains (.type B) = true := by rw [List.contains_cons, hT, F.hasB, Bool.or_true]
  have z2 : (Value.ref C :: bm).contains (.type "AttributeError") = false := by rw [List.contains_cons, hT, F.noAttr]; rfl
  have z3 : (Value.ref C :: bm).contains (.type "NameError") = false := by rw [List.contains_cons, hT, F.noName]; rfl
  refine codeAny_builtinAt F.entry ?_
  unfold Builtin.«BaseException.__new__»
  refine PySem.wpAt_bind ?_
  show PySem.wpAt _ _ _ (stack >>= _) _ _ _
  refine PySem.wpAt_bind (PySem.wpAt_stack fun p below => PySem.wpAt_of_wpAny ?_)
  wp_walk
  refine PySem.wpAt_of_wpAny ?_
  rw [F.owner]
  repeat (first | with_reducible refine wpAny_madeHere_exc F.canon hC ?_ | with_reducible refine wpAny_loadPart_at hC ?_ | (with_reducible refine wpAny_isSubtype_exc hC ?_; first | rw [z1] | rw [z2] | rw [z3]) | wp_step)
  show R _ _
  rw [Heap.size_push]
  exact hq
theorem tcR (F : ExcBaseFacts B newId initId bmB) (hT : ∀ Y : String, bm.contains (.type Y) = bmB.contains (.type Y)) {us : List Value} {kw : List (Str × Value)} {fI : Addr} {Q : Fin → Shared → Prop}
    (hC : h.get? C = some (excClassObj nm q C N bs bm hdct sn sub ab col dd k0 k1 k2 k3 k5 newId))
    (hi : W.Looks (model prog w) h (typeLookup (.ref C) "__init__") (some (.ref fI))) (hb : ∀ self, W.Looks (model prog w) h (bindSpecial (.ref fI) self) (.ref fI, [self])) (hz : us.length ≤ sizeLine)
    (hq : codeAny (model prog w) A (.call (.ref fI) ⟨.ref (h.objs.size + 1) :: us, kw⟩)
      (fun r s' => match r with | .ok (.ret v) => v = .none ∧ Q (.done (.ret (.ref (h.objs.size + 1)))) s' | .ok _ => False | .error e => E e s')
      ⟨(h.push (W.kdv_tup us)).push (excO C h.objs.size), g, d, t, os⟩) :
    wpAny (model prog w) A (Builtin.«type.__call__» ⟨.ref C :: us, kw⟩) Q E ⟨h, g, d, t, os⟩ := by
  repeat (first | with_reducible refine wpAny_loadPart_at hC ?_ | with_reducible refine wpAny_madeBy_exc hC ?_ | wp_step)
  refine codeAny_call_builtin_code (Code.quiet_builtin _ F.quiet) (newC F hT hC ?_)
  refine newR F hT hC ?_ hz
  show wpAny _ _ _ _ _ _
  have k : ∀ b o, h.get? b = some o → ((h.push (W.kdv_tup us)).push (excO C h.objs.size)).get? b = some o := fun b o e => Heap.get?_push_of_some _ (Heap.get?_push_of_some _ e)
  have y1 := k _ _ hC
  have y2 : ((h.push (W.kdv_tup us)).push (excO C h.objs.size)).get? (h.objs.size + 1) = some (excO C h.objs.size) := by heap_get
  have y3 : (Value.ref C :: bm).contains (.ref C) = true := by simp
  have i1 := hi.keeps k
  have b1 := (hb (.ref (h.objs.size + 1))).keeps k
  unfold isInstance
  repeat (first | with_reducible refine wpAny_loadPart_at y2 ?_ | (with_reducible refine wpAny_isSubtype_exc y1 ?_; rw [y3]) | wp_step)
  show wpAny _ _ (typeLookup (.ref C) _) _ _ _
  refine i1.at ?_
  refine wpAny_holding (wpAny_bind (b1.at ?_))
  refine wpAny_bind (wpAny_call (codeAny_mono hq fun r s' z => ?_))
  rcases r with e | (v | _ | _ | _) <;> first | exact z | exact z.elim | skip
  obtain ⟨rfl, z⟩ := z
  first
    | exact wpAny_pure (wpAny_pure z)
    | (wp_walk; exact z)
theorem tcC {M : Model} {us : List Value} {kw : List (Str × Value)} {Q : Unit → Shared → Prop} (hC : h.get? C = some (excClassObj nm q C N bs bm hdct sn sub ab col dd k0 k1 k2 k3 k5 newId))
    (hq : Q () ⟨h, g, d, t, os⟩) : wpAny M A (checkBuiltinCall "type.__call__" ⟨.ref C :: us, kw⟩) Q E ⟨h, g, d, t, os⟩ := by
  have z1 := tc_sub
  have z2 : (⟨h, g, d, t, os⟩ : Shared).TypeIs (.ref C) "type" := ⟨_, hC, rfl⟩
  simp only [checkBuiltinCall, tc_kind, tc_split]
  repeat (any_goals (first | assumption | with_reducible refine wpAny_loadPart_at hC ?_ | with_reducible refine wpAny_onRaise ?_ | with_reducible refine wpAny_map ?_ | wp_step))
/-- C(.., k = v, ..): the exception's own __init__ is called with the same -/
theorem callX (F : ExcBaseFacts B newId initId bmB) (hT : ∀ Y : String, bm.contains (.type Y) = bmB.contains (.type Y)) {us : List Value} {kw : List (Str × Value)} {fI : Addr}
    (hC : h.get? C = some (excClassObj nm q C N bs bm hdct sn sub ab col dd k0 k1 k2 k3 k5 newId))
    (hi : W.Looks (model prog w) h (typeLookup (.ref C) "__init__") (some (.ref fI))) (hb : ∀ self, W.Looks (model prog w) h (bindSpecial (.ref fI) self) (.ref fI, [self])) (hz : us.length ≤ sizeLine)
    (hq : codeAny (model prog w) (A.under (.builtin "type.__call__" ⟨.ref C :: us, kw⟩)) (.call (.ref fI) ⟨.ref (h.objs.size + 1) :: us, kw⟩) (W.InitBack (h.objs.size + 1) R)
      ⟨(h.push (W.kdv_tup us)).push (excO C h.objs.size), g, d, t, os⟩) :
    codeAny (model prog w) A (.call (.ref C) ⟨us, kw⟩) R ⟨h, g, d, t, os⟩ := by
  have f1 := tc_lookup
  have f2 := tc_bind (.ref C)
  have z2 : (⟨h, g, d, t, os⟩ : Shared).TypeIs (.ref C) "type" := ⟨_, hC, rfl⟩
  refine codeAny_of_tree ?_
  show wpAny _ _ (callAny (.ref C) _) _ _ _
  repeat (any_goals (first | assumption | with_reducible refine wpAny_loadPart_at hC ?_ | wp_step))
  refine ⟨rfl, ?_⟩
  refine codeAny_call_builtin_at (Code.quiet_builtin _ (by decide +kernel)) entry_typeCall (tcC hC (tcR F hT hC hi hb hz ?_))
  refine codeAny_mono hq fun r s' z => ?_
  rcases r with e | (v | _ | _ | _) <;> exact z
end
end VX

namespace VX
open PySem PySem.W PySem.Calls PyProof.Rows PySem.HandSPX Builtin Builtin.ObjectAttr
section
variable {prog : Program} {w : World} {A : Around} {R : Result → Shared → Prop} {hp : Heap} {g : Array GenState} {d : Drawn} {t : Nat} {os : OsState}
/-- self.x = v on an exception without a dict, whatever its built-in base -/
theorem osaX {K : W.Frag} {name : Str} {tk : Tok} {v : Value} {x C : Addr} {fv : Array Value} {cd : ClassData}
    (X : K.In hp) (hx : hp.get? x = some { cls := .ref C, data := .fields fv }) (hcd : W.clsIn K C = some cd) (ne : cd.mro.isEmpty = false) (hob : cd.mro.contains (.type "object") = true)
    (hr : ∀ self, refuseLoop self "__setattr__" cd.mro = pure ()) (hh : cd.hasDict = true) (ha : W.findIn K (.ref C) name = some none)
    (hq : ∀ h' tk' dx, (∀ b o, b ≠ x → hp.get? b = some o → h'.get? b = some o) → hp.objs.size ≤ dx → dx ≠ x → h'.get? x = some { cls := .ref C, dict := some dx, data := .fields fv } →
      h'.Ns1 dx (fun y => if y = name then some v else none) → R (.ok (.ret .none)) ⟨h', g, d, tk', os⟩) :
    codeAny (model prog w) A (.call (.builtin "object.__setattr__") ⟨[.ref x, .str name tk, v], []⟩) R ⟨hp, g, d, t, os⟩ := by
  have I : W.InstAt hp x { cls := .ref C, data := .fields fv } C none := ⟨hx, rfl, rfl, trivial⟩
  have F := PySem.F.store_object
  have dif : hp.objs.size ≠ x := (Nat.ne_of_lt (Heap.lt_size hx)).symm
  have isob : W.Looks (model prog w) hp (isInstance (.ref x) (.type "object")) true := I.type.andThen (W.looks_mroIn X (by unfold W.mroIn; rw [hcd, Option.bind_some, if_neg (by rw [ne]; decide), hob]))
  refine codeAny_call_builtin F.slot.plain F.entry (@W.check_slot (model prog w) _ _ ⟨hp, g, d, t, os⟩ "object.__setattr__" "object" "__setattr__" (.ref x) [.str name tk, v] [] _ F.kind F.split isob (F.args (.ref x) (.str name tk) v) ?_)
  have lm : W.Looks (model prog w) hp (mroOf (.ref C)) cd.mro := (W.looks_clsIn X hcd).andThen .now
  have lt : W.Looks (model prog w) hp (storeTaker? none) none := .now
  have lc : W.Looks (model prog w) hp (classData C) cd := W.looks_clsIn X hcd
  rw [W.osa_eq, refuse_eq]
  refine wpAny_bind (wpAny_bind (I.type.at (wpAny_bind (lm.at ?_))))
  rw [hr]
  refine wpAny_pure (wpAny_bind (I.type.at (wpAny_bind ((W.looks_findIn X ha).at (wpAny_bind (lt.at ?_))))))
  show wpAny _ _ (storeInOwnDict (.ref x) (.ref C) (.str name tk) name v false) _ _ _
  obtain ⟨nm, bs, mro, ns, qn, hd, sn, sb, ab, col, del⟩ := cd
  dsimp only at hh
  subst hh
  unfold storeInOwnDict ownDictForStores
  repeat (first | with_reducible refine store_in_new ?_ ?_ | with_reducible refine wpAny_loadPart_at hx ?_ | with_reducible refine lc.at ?_ | wp_step)
  · exact ⟨_, #[], _, (Heap.get?_update_ne _ _ _ _ dif).trans (Heap.get?_push_at rfl rfl), rfl, fun e he => absurd he (by simp), fun _ => rfl⟩
  · intro h' tk' hn' hs
    have x1 : (hp.push { cls := .type "dict", data := .dict #[] }).get? x = some { cls := .ref C, data := .fields fv } := Heap.get?_push_of_some _ hx
    refine hq h' tk' hp.objs.size (fun b o hb ho => ?_) (Nat.le_refl _) dif ?_ hn'
    · exact (hs.2 b (Nat.ne_of_lt (Heap.lt_size ho))).trans ((Heap.get?_update_ne _ _ _ _ hb).trans (Heap.get?_push_of_some _ ho))
    · exact (hs.2 x dif.symm).trans (Heap.get?_update_self _ x1 rfl)
end
end VX
namespace VX
open PySem PySem.Spec PyProof.Rows L2 VR

/-- an own exception class with an own __init__, no matter which built-in class it hangs on -/
structure OxC (K : PySem.W.Frag) (C : Addr) : Prop where
  cls : ∃ nm q N bs bm sn sub ab col dd k0 k1 k2 k3 k5 B newId initId bmB, ExcBaseFacts B newId initId bmB ∧ K.lookup C = some (excClassObj nm q C N bs bm true sn sub ab col dd k0 k1 k2 k3 k5 newId) ∧
    (∀ Y : String, bm.contains (.type Y) = bmB.contains (.type Y)) ∧ (∀ self, refuseLoop self "__setattr__" (.ref C :: bm) = pure ()) ∧ bm.contains (.type "object") = true
  sa : PySem.W.findIn K (.ref C) "__setattr__" = some (some (.builtin "object.__setattr__"))
  kC : PySem.W.keepIn K (.ref C) = true
  ga : PySem.W.findIn K (.ref C) "__getattribute__" = some (some (.builtin "BaseException.__getattribute__"))
  gg : PySem.W.findIn K (.ref C) "__getattr__" = some none
  ex : PySem.W.subIn K (.ref C) (.type "BaseException") = some true
  ac : PySem.W.findIn K (.ref C) "__class__" = some (some (.builtin "object.__class__"))
  an : PySem.W.specialIn K (.builtin "object.__class__") "__get__" = some (some (.builtin "getset_descriptor.__get__"))
  tk : PySem.W.takesIn K (.builtin "object.__class__") = some true
  mo : PySem.W.mroIn K C (.type "object") = some true
theorem OxC.cin {K : PySem.W.Frag} {C : Addr} (T : OxC K C) : (PySem.W.clsIn K C).isSome = true := by
  obtain ⟨nm, q, N, bs, bm, sn, sub, ab, col, dd, k0, k1, k2, k3, k5, B, ni, ii, bmB, _, hC, _⟩ := T.cls
  unfold PySem.W.clsIn; rw [hC]; rfl
theorem OxC.hd {K : PySem.W.Frag} {C : Addr} (T : OxC K C) : PySem.W.hasDictIn K C = true := by
  obtain ⟨nm, q, N, bs, bm, sn, sub, ab, col, dd, k0, k1, k2, k3, k5, B, ni, ii, bmB, _, hC, _⟩ := T.cls
  unfold PySem.W.hasDictIn PySem.W.clsIn; rw [hC]; rfl
/-- an exception of the class at C, its one field f holding v -/
def ExAt (H : Hp) (x : V) (C : Addr) (f : Str) (v : V) : Prop := ∃ a dx : Addr, x = .ref a ∧ H a = some (exo a C (some dx)) ∧ H dx = some (exd dx [(f, v)])
theorem ExAt.same {H H' : Hp} {x v : V} {C : Addr} {f : Str} (h : ExAt H x C f v) (s : Same H H') : ExAt H' x C f v := by
  obtain ⟨a, dx, e, h1, h2⟩ := h
  exact ⟨a, dx, e, s _ _ h1, s _ _ h2⟩
/-- self.f = e in such an __init__ -/
def tOx (K : PySem.W.Frag) (f : Str) (to te : TE) : TS := fun D σ H => te σ H fun y H1 => to σ H1 fun x H2 => ∃ a C : Addr, x = .ref a ∧ OxC K C ∧ PySem.W.findIn K (.ref C) f = some none ∧
  H2 a = some (exo a C none) ∧ ∀ dx, H2 dx = none → dx ≠ a → D.nx σ (upd (upd H2 dx (exd dx [(f, y)])) a (exo a C (some dx)))
section
variable {X : Cx} {pins : List (Addr × Obj)} {σ : L2.St} {H : Hp} {s : Shared} {a C dx : Addr} {f : Str} {y : V} {u : Value} {E : Value → Shared → Prop} {A : Around}
theorem putX {Q : Unit → Shared → Prop} (T : OxC X.K C) (I : Inv X pins σ H s) (e : H a = some (exo a C none)) (hno : PySem.W.findIn X.K (.ref C) f = some none) (ry : RelV y u)
    (h : ∀ dx s', H dx = none → dx ≠ a → Inv X pins σ (upd (upd H dx (exd dx [(f, y)])) a (exo a C (some dx))) s' → Q () s') : wpAny (model X.prog X.w) A (setAttr (.ref a) f u) Q E s := by
  obtain ⟨nm, q, N, bs, bm, sn, sub, ab, col, dd, k0, k1, k2, k3, k5, B, ni, ii, bmB, _, hC, _, hr, hob⟩ := T.cls
  have hcl : PySem.W.clsIn X.K C = some { name := nm, bases := bs, mro := .ref C :: bm, ns := N, qualname := q, hasDict := true, slotNames := sn, subclasses := sub, abstract := ab, collection := col, hasDel := false } := by unfold PySem.W.clsIn; rw [hC] <;> rfl
  obtain ⟨t1, ho⟩ := exo_at I.hok e
  obtain ⟨hp, g, d, t, os⟩ := s
  refine PySem.W.set_plain I.kIn (ox := { cls := .ref C, dict := none, data := .fields #[.ref t1, .none, .none, .none, .bool false, .none] }) (od := none) ⟨ho, rfl, rfl, trivial⟩ T.sa ?_
  refine osaX I.kIn ho hcl rfl (by show (Value.ref C :: bm).contains (.type "object") = true; rw [List.contains_cons, hob, Bool.or_true]) hr rfl hno (fun h' tk' dx k dn dne hx hn => ?_)
  have gone : H dx = none := I.hok.fresh dn
  have low : ∀ {b : Addr} {o : Obj}, hp.get? b = some o → b ≠ dx := fun {b o} q => Nat.ne_of_lt (Nat.lt_of_lt_of_le (Heap.lt_size q) dn)
  have apart : ∀ {b : Addr}, H b = none → b ≠ a := fun {b} n z => by
    rw [z, e] at n
    cases n
  have U : Un X.fs [] H (upd (upd H dx (exd dx [(f, y)])) a (exo a C (some dx))) hp h' := {
    keep := fun b o q n _ _ => k b o (apart n) q
    slot := fun b o q n _ _ => ⟨o.slots, k b o (apart n) q⟩
    free := fun b o q n _ => by rw [upd_ne (apart n), upd_ne (low q)]; exact n
    there := fun b o q _ => by
      by_cases hb : b = a
      · exact ⟨_, by rw [hb]; exact hx⟩
      · exact ⟨o, k b o hb q⟩
    tups := fun b xs q => by rw [upd_ne (at_ne e q exo_tup), upd_ne (ne_of_none q gone)]; exact q
    frzs := fun b o v q => by rw [upd_ne (at_ne e q exo_frz), upd_ne (ne_of_none q gone)]; exact q
    tbls := fun b ps q => ⟨#[], by rw [upd_ne (at_ne e q exo_tbl), upd_ne (ne_of_none q gone), q]; simp⟩ }
  refine h dx _ gone dne (I.un (t' := tk') U fun b o q => ?_)
  by_cases hb : b = a
  · subst hb
    rw [upd_same] at q
    cases q
    exact exo_ok hx
  rw [upd_ne hb] at q
  by_cases hd : b = dx
  · subst hd
    rw [upd_same] at q
    cases q
    exact exd_ok hn (relO_put (fs := []) ry fun g => True.intro)
  rw [upd_ne hd] at q
  refine (I.hok b o q).stay (fun c v hc z => k c v ?_ z) (fun c hc => ?_) (fun c xs hc => ?_)
  · rcases hc with hc | hc
    · rw [hc]
      exact hb
    · exact at_ne e hc exo_own
  · rw [upd_ne (at_ne e hc exo_own), upd_ne (ne_of_none hc gone)]; exact hc
  · rw [upd_ne (at_ne e hc exo_tup), upd_ne (ne_of_none hc gone)]; exact hc
end
theorem ps_ox {X : Cx} {o e : Expr} {to te : TE} {f : Str} {p' pos : Pos} (ho : PE X o to) (he : PE X e te) (hs : swapsWith e (some (.Attribute o f p')) pos.line X.env = pure false := by rfl) : PS X (.Assign [.Attribute o f p'] e pos) (tOx X.K f to te) := by
  refine ⟨fun pins s σ H D I h => ?_⟩
  refine plainObj_wpAny_Assign_Attribute (thn (he.run pins s σ H _ I h) fun v s1 ⟨y, H1, I1, r1, q1⟩ => thn (ho.run pins s1 σ H1 _ I1 q1) fun u s2 ⟨x, H2, I2, r2, a, C, ex, T, hno, ea, q⟩ => ?_) hs
  subst ex
  obtain rfl : u = Value.ref a := r2
  exact putX T I2 ea hno r1 fun dx s' n ne J => ⟨σ, _, J, q dx n ne⟩
/-- what __init__(self, v) promises -/
def spOx (K : PySem.W.Frag) (C : Addr) (f : Str) : Sp := fun vs H Q E => ∃ (a : Addr) (v : V), vs = [.ref a, v] ∧ H a = some (exo a C none) ∧ ∀ dx, H dx = none → dx ≠ a → Q .non (upd (upd H dx (exd dx [(f, v)])) a (exo a C (some dx)))
section
variable {X : Cx} {CX : CXT} {k : Nat} {fI C : Addr} {fd : FuncData} {p1 p2 : Str} {f x : Str} {e : Expr} {te : TE} {p pos kpos : Pos}
/-- the class, its __init__ and what that keeps -/
structure OxI (X : Cx) (CX : CXT) (C fI : Addr) (fd : FuncData) (k : Nat) (f : Str) : Prop where
  T : OxC X.K C
  no : PySem.W.findIn X.K (.ref C) f = some none
  iC : PySem.W.findIn X.K (.ref C) "__init__" = some (some (.ref fI))
  tI : PySem.W.typeIn X.K (.ref fI) = some (.type "function")
  F : FnOk X.prog X.w X.K X.mg X.base CX k fI fd [("self" : Str), f] (spOx X.K C f)
theorem runX {pins : List (Addr × Obj)} {σ : L2.St} {H : Hp} {s : Shared} {Q : VK} {us : List Value} {kw : List (Str × Value)} {v : V} {u : Value} (O : OxI X CX C fI fd k f) (hr : Room (k + 1) X.A) (hx : Passes CX X (fun _ _ _ => False))
    (I : Inv X pins σ H s) (hl : us.length ≤ sizeLine) (hb : ∀ (s : Shared) (a : Addr), X.K.In s.heap → BindsTo s fd ⟨.ref a :: us, kw⟩ (([("self" : Str), f]).zip [.ref a, u])) (ru : RelV v u)
    (h : ∀ x H2, Same H H2 → ExAt H2 x C f v → Q x H2) : wpAny (model X.prog X.w) X.A (call (.ref C) us kw) (EP X pins σ Q) X.xe s := by
  obtain ⟨nm, q, N, bs, bm, sn, sub, ab, col, dd, k0, k1, k2, k3, k5, B, ni, ii, bmB, FB, hC, hT, _⟩ := O.T.cls
  obtain ⟨hp, g, dr, tk, os⟩ := s
  have hsz : hp.objs.size ≤ hp.objs.size + 1 := Nat.le_succ _
  have hn : H (hp.objs.size + 1) = none := I.hok.fresh hsz
  have kk : ∀ b o, hp.get? b = some o → ((hp.push (PySem.W.kdv_tup us)).push (PySem.HandSPX.excO C hp.objs.size)).get? b = some o := fun b o e => Heap.get?_push_of_some _ (Heap.get?_push_of_some _ e)
  have hget : ((hp.push (PySem.W.kdv_tup us)).push (PySem.HandSPX.excO C hp.objs.size)).get? (hp.objs.size + 1) = some (PySem.HandSPX.excO C hp.objs.size) := by heap_get
  have I2 : Inv X pins σ (upd H (hp.objs.size + 1) (exo (hp.objs.size + 1) C none)) ⟨(hp.push (PySem.W.kdv_tup us)).push (PySem.HandSPX.excO C hp.objs.size), g, dr, tk, os⟩ :=
    I.laid (t' := tk) (a := hp.objs.size + 1) (o := exo (hp.objs.size + 1) C none) (h' := (hp.push (PySem.W.kdv_tup us)).push (PySem.HandSPX.excO C hp.objs.size)) kk hsz (exo_ok hget)
  have sp : spOx X.K C f [.ref (hp.objs.size + 1), v] (upd H (hp.objs.size + 1) (exo (hp.objs.size + 1) C none)) (fun w H2 => w = .non ∧ Q (.ref (hp.objs.size + 1)) H2) (fun _ _ _ => False) := by
    refine ⟨_, v, rfl, upd_same, fun dx h1 h2 => ⟨rfl, h _ _ ?_ ⟨_, dx, rfl, upd_same, ?_⟩⟩⟩
    · have hd : H dx = none := by rw [upd_ne h2] at h1; exact h1
      intro b o eb
      have b1 : b ≠ hp.objs.size + 1 := ne_of_none eb hn
      have b2 : b ≠ dx := ne_of_none eb hd
      rw [upd_ne b1, upd_ne b2, upd_ne b1]
      exact eb
    · rw [upd_ne h2, upd_same]
  have r2 : Vals [V.ref (hp.objs.size + 1), v] [Value.ref (hp.objs.size + 1), u] := .cons rfl (.cons ru .nil)
  refine wpAny_call (callX FB hT (I.kIn _ _ hC) (PySem.W.looks_findIn I.kIn O.iC) (fun self => PySem.W.bind_fn I.kIn self O.tI) hl
    (codeAny_mono (O.F.run _ X.stack _ _ ⟨Value.ref (hp.objs.size + 1) :: us, kw⟩ [Value.ref (hp.objs.size + 1), u] _ _ (fun _ _ _ => False) (hr.make C us kw) (I2.env0.make C us kw) (hb _ _ I2.kIn) r2 sp) fun r s' hq' => ?_))
  cases r with
  | error er => exact hx pins σ _ _ er s' I2 hq'
  | ok fl =>
    cases fl with
    | ret u =>
      obtain ⟨w, H', I3, rv, ev, q3⟩ := I2.after hq'
      subst ev
      exact ⟨rv, ⟨V.ref (hp.objs.size + 1), H', I3, rfl, q3⟩⟩
    | next => exact False.elim hq'
    | brk => exact False.elim hq'
    | cont => exact False.elim hq'
/-- C(e) -/
def tOxV (C : Addr) (f : Str) (te : TE) : TE := fun σ H Q => te σ H fun v H1 => ∀ x H2, Same H1 H2 → ExAt H2 x C f v → Q x H2
theorem pe_oxP (O : OxI X CX C fI fd k f) (hr : Room (k + 1) X.A) (hx : Passes CX X (fun _ _ _ => False)) (hb : ∀ (s : Shared) (a : Addr) (u : Value), X.K.In s.heap → BindsTo s fd ⟨[.ref a, u], []⟩ (([("self" : Str), f]).zip [.ref a, u]))
    (hg : Gl X x) (hm : X.mg x = some (.ref C)) (he : PE X e te) (hdb : (x == ("__debug__" : Str)) = false := by decide) (hs : starEach [e] X.env = (false, eval e X.env) :: starEach [] X.env := by rfl) :
    PE X (.Call (.Name x p) [e] [] pos) (tOxV C f te) := by
  refine ⟨fun pins s σ H Q I h => ?_⟩
  refine wpAny_Call_Name_kw (ld_glob I hg hm ?_ hdb)
  refine PySem.W.callWith_K (h₀ := X.base) I.ok.mod.kin O.T.kC ?_ hs (by rfl)
  rw [hs]
  show wpAny _ _ (spliced ((false, eval e X.env) :: backTo pos (starEach [] X.env))) _ _ s
  refine Calls.spliced_cons (thn (he.run pins s σ H _ I h) fun u s1 ⟨v, H1, I1, r1, q1⟩ => ?_)
  refine Calls.spliced_nil ⟨I1.kIn, ?_⟩
  exact runX (us := [u]) (kw := []) O hr hx I1 (by show 1 ≤ sizeLine; rw [sizeLine_eq]; omega) (fun s a K => hb s a u K) r1 q1
/-- C(f=e) -/
theorem pe_oxK (O : OxI X CX C fI fd k f) (hr : Room (k + 1) X.A) (hx : Passes CX X (fun _ _ _ => False)) (hb : ∀ (s : Shared) (a : Addr) (u : Value), X.K.In s.heap → BindsTo s fd ⟨[.ref a], [(f, u)]⟩ (([("self" : Str), f]).zip [.ref a, u]))
    (hg : Gl X x) (hm : X.mg x = some (.ref C)) (he : PE X e te) (hdb : (x == ("__debug__" : Str)) = false := by decide) :
    PE X (.Call (.Name x p) [] [⟨some f, e, kpos⟩] pos) (tOxV C f te) := by
  refine ⟨fun pins s σ H Q I h => ?_⟩
  refine wpAny_Call_Name_kw (ld_glob I hg hm ?_ hdb)
  refine PySem.W.callWith_KW0 (h₀ := X.base) I.ok.mod.kin O.T.kC (by rfl) ?_ (by rfl)
  refine thn ((pk_cons (nm := some f) (kpos := kpos) he pk_nil).run pos pins s σ H (fun zs H2 => match zs with | [v] => ∀ x H3, Same H2 H3 → ExAt H3 x C f v → Q x H3 | _ => False) I h) fun ws s2 ⟨zs, H2, I2, rz, q2⟩ => ⟨I2.kIn, ?_⟩
  match zs, ws, rz, q2 with
  | [v], _, .cons r1 .nil, q2 => exact runX (us := []) (kw := [(f, _)]) O hr hx I2 (Nat.zero_le _) (fun s a K => hb s a _ K) r1 q2
end
end VX

namespace VX
open PySem PySem.Spec PyProof.Rows L2 VR
/-! ### fields, isinstance -/
def tOxF (K : PySem.W.Frag) (f : Str) (te : TE) : TE := fun σ H Q => te σ H fun x H1 => ∃ (C : Addr) (v : V), ExAt H1 x C f v ∧ OxC K C ∧ PySem.W.findIn K (.ref C) f = some none ∧ Q v H1
theorem pe_oxf {X : Cx} {e : Expr} {te : TE} {pos : Pos} {n : Str} (he : PE X e te) (hb : attributeBase e n X.env (eval e X.env) = eval e X.env := by rfl) : PE X (.Attribute e n pos) (tOxF X.K n te) := by
  refine ⟨fun pins s σ H Q I h => ?_⟩
  refine attr_of hb (thn (he.run pins s σ H _ I h) fun u s1 ⟨x, H1, I1, rx, C, v, hx, T, hno, q⟩ => ?_)
  obtain ⟨a, dx, rfl, ea, ed⟩ := hx
  obtain rfl : u = Value.ref a := rx
  obtain ⟨t1, ho⟩ := exo_at I1.hok ea
  obtain ⟨mA, hns, hr⟩ := exd_at I1.hok ed
  obtain ⟨od, hod, hl⟩ := lookIn_ns hns
  obtain ⟨u, hu, ru⟩ := RelO.some_of (v := v) (o := mA n) (by have := hr n; simpa [List.lookup] using this)
  have J : PySem.W.InstAt s1.heap a _ C (some od) := ⟨ho, rfl, rfl, hod⟩
  exact HandSPX.exc_get I1.kIn J T.ga T.gg T.ex (PySem.W.findObj_own T.hd hno rfl (by rw [hl, hu])) (handed_of ru) ⟨v, H1, I1.tok _, ru, q⟩
/-- isinstance(e, c), e such an exception -/
def rIsX (K : PySem.W.Frag) : List V → Hp → VK → Prop := fun xs H Q => ∃ (x c : V) (cv : Value) (C : Addr) (f : Str) (v : V) (b : Bool), xs = [x, c] ∧ ClsV c cv ∧ ExAt H x C f v ∧ OxC K C ∧ PySem.W.kitOne K (.ref C) cv = some b ∧ Q (.bl b) H
theorem call_isX {X : Cx} : CallR X (.builtin "isinstance") (rIsX X.K) := by
  intro pins s σ H xs us Q I r h
  obtain ⟨x, c, cv, C, f, v, b, rfl, hc, hx, T, e, q⟩ := h
  obtain ⟨a, dx, rfl, ea, ed⟩ := hx
  obtain ⟨u1, u2, rfl, r1, r2⟩ := vals2 r
  have e2 := hc.eq r2
  subst e2
  obtain rfl : u1 = Value.ref a := r1
  obtain ⟨t1, ho⟩ := exo_at I.hok ea
  obtain ⟨mA, hns, hr⟩ := exd_at I.hok ed
  obtain ⟨od, hod, hl⟩ := lookIn_ns hns
  have J : PySem.W.InstAt s.heap a _ C (some od) := ⟨ho, rfl, rfl, hod⟩
  exact PySem.W.kia_one (PySem.W.kitx_exc T.cin T.ga T.gg T.ex T.ac T.an T.tk T.mo) I.kIn J e (fun z => nomatch z) fun tk => ⟨.bl b, H, I.tok tk, rfl, q⟩
/-! ### repr of a list -/
/-- the items' data: no dict among them, or all the one empty dict -/
def Rpd (K : PySem.W.Frag) (H : Hp) (vs : List V) (ds : List PyData) : Prop :=
  (DpAll K H vs ds ∧ PyData.hasDictAll ds = false) ∨ ∃ (b : Addr) (n : Nat), H b = some (.dT []) ∧ vs = List.replicate n (.ref b) ∧ ds = List.replicate n (.dict [])
theorem reads_dicts {h : Heap} {b : Addr} {o : Obj} {ep : Nat} (e : h.get? b = some o) (c : o.cls = .type "dict") (d : o.data = .dict #[] ep) (nb : b ≠ sysModules) : ∀ (n : Nat) (us : List Value), Vals (List.replicate n (V.ref b)) us →
    ∃ as, ReadsAll h us (List.replicate n (.dict [])) as ∧ sysModules ∉ as
  | 0, _, r => by
    cases r
    exact ⟨[], .nil, fun z => nomatch z⟩
  | n + 1, _, r => by
    rw [List.replicate_succ] at r
    cases r with
    | cons r1 r2 =>
      obtain ⟨as, h1, h2⟩ := reads_dicts e c d nb n _ r2
      obtain rfl := (show _ = Value.ref b from r1)
      refine ⟨([b] ++ []) ++ as, ?_, ?_⟩
      · rw [List.replicate_succ]
        exact .cons (.dict (kvs := []) e c d .nil .nil) h1
      · intro z
        rcases List.mem_append.mp z with z | z
        · simp at z
          exact nb z.symm
        · exact h2 z
theorem Rpd.reads {X : Cx} {pins : List (Addr × Obj)} {σ : L2.St} {H : Hp} {s : Shared} {vs : List V} {ds : List PyData} {us : List Value} (I : L2.Inv X pins σ H s) (h : Rpd X.K H vs ds) (r : Vals vs us) :
    ∃ as, ReadsAll s.heap us ds as ∧ (PyData.hasDictAll ds = true → sysModules ∉ as) := by
  rcases h with ⟨h1, h2⟩ | ⟨b, n, hb, rfl, rfl⟩
  · obtain ⟨as, q⟩ := Dp.readsAll I ds vs us h1 r
    exact ⟨as, q, fun z => by rw [h2] at z; cases z⟩
  · obtain ⟨_, nb, xs, pr, o, es, ep, e1, e2, e3, e4, _⟩ := (show ObjOk X.prog X.w H s.heap b (.dT []) from I.hok b _ hb)
    cases pr
    have es0 : es = #[] := by
      have : es.toList = [] := by rw [e4]; rfl
      exact Array.toList_eq_nil_iff.mp this
    subst es0
    obtain ⟨as, q, z⟩ := reads_dicts e1 e2.1 e3 (beq_eq_false_iff_ne.mp nb) n us r
    exact ⟨as, q, fun _ => z⟩
def rReprL (K : PySem.W.Frag) : List V → Hp → VK → Prop := fun xs H Q => ∃ (a : Addr) (v : V) (vs : List V) (ds : List PyData), xs = [.ref a] ∧ SqL K H a (v :: vs) ∧ Rpd K H (v :: vs) ds ∧ PyData.showableAll ds = true ∧ PyData.depthAll ds ≤ 8 ∧
  (listText (PyData.shownAll ds)).length ≤ sizeLine ∧ Q (.str (listText (PyData.shownAll ds))) H
theorem call_reprL {X : Cx} {k : Nat} (hg : X.A.guards = some []) (hr : Room k X.A) : CallR X (.builtin "repr") (rReprL X.K) := by
  intro pins s σ H xs us Q I r h
  obtain ⟨a, v, vs, ds, rfl, hl, hd, hs, hdp, hz, q⟩ := h
  obtain ⟨u, rfl, r1⟩ := vals1 r
  obtain rfl : u = Value.ref a := r1
  obtain ⟨its, rv, ⟨o, n, ho, hc, _, hda⟩, _⟩ := I.list hl
  obtain ⟨as, ra, hsm⟩ := hd.reads I rv
  cases rv with
  | @cons _ u0 _ ur r1 r2 =>
    obtain ⟨bs, hb, hk⟩ := ReprAllK.of_readsAll (prog := X.prog) (w := X.w) ra hs hsm (fun t ht => Nat.le_trans (listText_mem_le ht) hz)
    have hna : a ∉ bs := not_mem_of_deeper (.list ho hc hda (by simpa using ra)) (by simp only [PyData.depth]; omega) hb
    have hu := hr.units
    refine call_repr_slot (by omega) ⟨o, ho, hc⟩ F.slot_list_repr.toG ?_
    exact call_list_reprK ho hc hda hna (by simpa using hk.length_eq) (fun i y e => hk.item i y (by simpa using e)) (g := []) (by exact hg) (fun b _ => Clear.nil b) (by show X.A.units + 1 + _ < cLine; omega) (fun _ _ e => e)
      (fun h' u tk hk' => ⟨_, _, rfl, .str _, H, I.kept hk', ⟨u, rfl⟩, q⟩) hz
end VX

/-! A law whose def shows lists: its call where nothing is being shown yet. -/
namespace VX
open PySem PySem.Spec PyProof.Rows L2 VR
/-- the call keeps sp wherever nothing is being shown -/
def RunG (P : Program) (w : World) (K : PySem.W.Frag) (mg : Str → Option Value) (base : Heap) (CX : CXT) (k : Nat) (f : Addr) (fd : FuncData) (ps : List Str) (sp : Sp) : Prop :=
  ∀ (A : Around) (outer : List Env) (s : Shared) (H : Hp) (args : Args) (us : List Value) (vs : List V) (Q : VK) (E : XK), A.guards = some [] → Room k A → Env0 P w K mg base A outer s H → BindsTo s fd args (ps.zip us) → Vals vs us → sp vs H Q E →
    codeAny (model P w) A (.call (.ref f) args) (CR CX outer P w H s Q E) s
theorem runG_of {CX : CXT} {P : Program} {w : World} {K : PySem.W.Frag} {mg : Str → Option Value} {base : Heap} {k : Nat} {f : Addr} {name qual : Str} {params : Arguments} {body : List Stmt} {scope : Scope} {dV kV doc pm cdv ct oc : Value} {an od : Option Addr}
    {osl : Array (Option Value)} {N ps : List Str} {sp : Sp} (lk : K.lookup f = some ⟨oc, od, .func (PySem.W.fnOf name qual params body scope dV kV doc pm an cdv ct), osl⟩) (cdK : PySem.W.codeIn K cdv qual = true) (S : FnScope N ps scope)
    (len : ∀ vs H Q E, sp vs H Q E → vs.length = ps.length)
    (bd : ∀ (A : Around) (outer : List Env) (s : Shared) (H : Hp) (vs : List V) (Q : VK) (E : XK), A.guards = some [] → Room k (A.deeper (envOfC qual scope s.heap.objs.size f cdv)) → sp vs H Q E →
      ∃ t, PSs (cxOf CX P w K mg base N qual scope f cdv A outer s H E) body t ∧ t { nx := fun _ H' => Q .non H', rt := Q } (start N vs) H) :
    RunG P w K mg base CX (k + 1) f (PySem.W.fnOf name qual params body scope dV kV doc pm an cdv ct) ps sp := by
  intro A outer s H args us vs Q E hg room e0 hb r hsp
  have ln := len _ _ _ _ hsp
  have up : ∀ b o, base.get? b = some o → s.heap.get? b = some o := fun b o e => (e0.bs b o e).1
  have kinds : ∀ y ∈ ps.zip us, scope.names.lookup y.1 = some .local ∨ (scope.names.lookup y.1 = some .cell ∧ ((cellsFrom (s.heap.objs.size + 1) scope.names []).lookup y.1).isSome = true) := fun ⟨n, v⟩ hy =>
    (S.par n (List.of_mem_zip hy).1).imp id fun q => ⟨q, PySem.W.cellsFrom_some _ _ _ (.inl q)⟩
  have KX : K.In s.heap := e0.mod.kin.keeps up
  refine codeAny_call_function room.depth (KX _ _ lk) rfl S.co S.gen rfl (PySem.W.codeRec_of KX cdK) (hb _ _ _ _ (wpAny_newFunctionEnv_cells S.kind kinds fun env he s1 x => ?_))
  subst he
  refine ⟨(e0.mod.nolimit.keeps up).keeps x.toInCall.keep, codeAny_func ?_⟩
  obtain ⟨t, ht, hq⟩ := bd A outer s H vs Q E hg (room.deeper _) hsp
  refine wpAny_mono (ht.run [] s1 (start N vs) H _ (inv_start S room.hd e0 ln r x) hq) (fun fl s' hs => ?_) fun e s' hs => hs
  match fl, hs with
  | .ret u, ⟨v, σ', H', J, rv, q⟩ => exact ⟨v, H', J.os, J.bare, J.base, J.hok, rv, q⟩
  | .next, ⟨σ', H', J, q⟩ => exact ⟨V.non, H', J.os, J.bare, J.base, J.hok, rfl, q⟩
  | .brk, ⟨_, _, _, q⟩ => exact q.elim
  | .cont, ⟨_, _, _, q⟩ => exact q.elim
theorem okG {P : Program} {w : World} {K : PySem.W.Frag} {mg : Str → Option Value} {base : Heap} {x qual : Str} {st : Stmt} {f : Addr} {fd : FuncData} {N ps : List Str} {k : Nat} {sp : Sp} (F : Fun K x qual st f fd) (S : FnScope N ps (defScope st)) (len : ∀ vs H Q E, sp vs H Q E → vs.length = ps.length)
    (bd : ∀ (cdv : Value) (A : Around) (outer : List Env) (s : Shared) (H : Hp) (vs : List V) (Q : VK) (E : XK), A.guards = some [] → Room k (A.deeper (envOfC qual (defScope st) s.heap.objs.size f cdv)) → sp vs H Q E →
      ∃ t, PSs (cxOf CX0 P w K mg base N qual (defScope st) f cdv A outer s H E).nox (defBody st) t ∧ t { nx := fun _ H' => Q .non H', rt := Q } (start N vs) H) : RunG P w K mg base CX0 (k + 1) f fd ps sp := by
  obtain ⟨oc, od, kV, doc, pm, an, cdv, ct, osl, rfl, lk, hcd⟩ := F.ex
  refine runG_of lk hcd S len fun A outer s H vs Q E hg hr hsp => ?_
  obtain ⟨t, h, q⟩ := bd cdv A outer s H vs Q E hg hr hsp
  exact ⟨t, h.nox, q⟩
/-- the law's call -/
theorem callG {P : Program} {w : World} {K : PySem.W.Frag} {mg mb : Str → Option Value} {CX : CXT} {k : Nat} {fa a : Addr} {fd : FuncData} {x : Str} {sp : Sp} {s₁ : Shared} {vs : List Value} {ns : List Int}
    (KX : K.In s₁.heap) (hns : s₁.heap.Ns mainGlobals mg) (hb : s₁.heap.Ns builtinsNs mb) (hbb : ∀ x : Str, x ≠ "__name__" → mb x = bootBuiltins x) (lim : s₁.heap.NoLimit) (hg : s₁.gens = #[])
    (ha : s₁.heap.get? a = some { cls := .type "list", data := .seq vs.toArray }) (hi : IntsAre vs ns) (hl : ns.length ≤ sizeLine) (room : Room k callerA)
    (F : ∀ base : Heap, K.In base → base.Ns mainGlobals mg → RunG P w K mg base CX k fa fd [x] sp) (bind : ∀ (s : Shared) (u : Value), BindsTo s fd ⟨[u], []⟩ [(x, u)])
    (hsp : ∀ H : Hp, Only H → SqL K H a (ns.map V.int) → sp [.ref a] H (fun v _ => v = .bl true) fun _ _ _ => False)
    (hCX : ∀ H e s', CX [] H s₁ (fun _ _ _ => False) e s' → False) :
    codeAny (model P w) callerA (.call (.ref fa) ⟨[.ref a], []⟩) (fun r s' => r = .ok (.ret (.bool true)) ∧ OldK s₁.heap s'.heap ∧ s'.os = s₁.os ∧ AllBare s'.gens) s₁ := by
  have rv := vals_ints hi
  have lv := hi.length
  suffices main : ∀ H : Hp, Only H → SqL K H a (ns.map V.int) → HOk P w H s₁.heap → (∀ b, H b ≠ none → b = a ∧ K.lookup a = none) →
      codeAny (model P w) callerA (.call (.ref fa) ⟨[.ref a], []⟩) (fun r s' => r = .ok (.ret (.bool true)) ∧ OldK s₁.heap s'.heap ∧ s'.os = s₁.os ∧ AllBare s'.gens) s₁ by
    cases hk : K.lookup a with
    | some o =>
      have e := KX a o hk
      rw [ha] at e
      cases e
      exact main (fun _ => none) (fun _ => .inl rfl) (.inr ⟨_, vs.toArray, _, hk, rfl, rfl, rfl, by rw [List.size_toArray, lv]; exact hl, by simpa using rv⟩) (fun b u z => nomatch (show (none : Option HO) = some u from z)) fun b z => absurd rfl z
    | none =>
      refine main (fun b => if b = a then some (.frz { cls := .type "list", data := .seq vs.toArray } (.lst (ns.map V.int))) else none) (fun b => ?_) (.inl (.inr ⟨{ cls := .type "list", data := .seq vs.toArray }, if_pos rfl⟩)) (fun b u z => ?_) (fun b z => ?_)
      · by_cases hb : b = a
        · exact .inr ⟨_, _, if_pos hb⟩
        · exact .inl (if_neg hb)
      · by_cases hb : b = a
        · cases (if_pos hb).symm.trans z
          subst hb
          exact ⟨ha, by rw [List.length_map]; exact hl, vs, _, rv, ha⟩
        · cases (if_neg hb).symm.trans z
      · by_cases hb : b = a
        · exact ⟨hb, hk⟩
        · exact absurd (if_neg hb) z
  intro H only hS hok hA
  have free : ∀ {b : Addr} {o : Obj} {es : Array DictEntry} {ep : Nat}, s₁.heap.get? b = some o → o.data = .dict es ep → H b = none := fun {b o es ep} e d => by
    cases q : H b with
    | none => rfl
    | some u =>
      obtain ⟨rfl, _⟩ := hA b (by rw [q]; simp)
      rw [ha] at e
      cases e
      exact nomatch (show Data.seq vs.toArray _ = Data.dict es ep from d)
  have nsK : ∀ {b : Addr} {m : Str → Option Value}, s₁.heap.Ns b m → (hidT s₁.heap H).Ns b m := fun {b m} ⟨o, es, ep, e, d, r⟩ => ⟨o, es, ep, hidT_get e (free e d), d, r⟩
  have KB : K.In (hidT s₁.heap H) := fun b o e => hidT_get (KX b o e) (by
    cases q : H b with
    | none => rfl
    | some u =>
      obtain ⟨rfl, z⟩ := hA b (by rw [q]; simp)
      rw [z] at e
      cases e)
  obtain ⟨mc, m1, m2⟩ := lim
  have e0 : Env0 P w K mg (hidT s₁.heap H) callerA [] s₁ H :=
    ⟨rfl, ⟨KB, nsK hns, ⟨mb, nsK hb, hbb⟩, ⟨mc, nsK m1, m2⟩⟩, fun b o e => of_hidT e, Nat.le_of_eq (hidT_size _ _), trivial, fun b hb => absurd (show b ∈ ([] : List Addr) from hb) (by simp), hok, .of_eq hg⟩
  refine codeAny_mono (F _ KB (nsK hns) callerA [] s₁ H ⟨[.ref a], []⟩ [.ref a] [.ref a] _ _ rfl room e0 (bind s₁ (.ref a)) (.cons rfl .nil) (hsp H only hS)) fun r s' h => ?_
  match r, h with
  | .error e, h => exact (hCX H e s' h).elim
  | .ok .next, h => exact h.elim
  | .ok .brk, h => exact h.elim
  | .ok .cont, h => exact h.elim
  | .ok (.ret u), ⟨v, H', os, bare, un, hok', r', q⟩ =>
    obtain rfl : v = .bl true := q
    obtain rfl : u = Value.bool true := r'
    refine ⟨rfl, OldK.of_keep fun b o e => ?_, os, bare⟩
    rcases only b with z | ⟨ob, xs, z⟩
    · exact un.keep b o e z (fun z => nomatch (show b ∈ ([] : List Addr) from z)) (by simp)
    · obtain ⟨e1, _⟩ := hok b _ z
      obtain ⟨e2, _⟩ := hok' b _ (un.frzs b ob _ z)
      rw [e] at e1
      cases e1
      exact e2
theorem walk_G {l : PySem.W.OpenLaw} {n k : Nat} {q : Program} {loose : List Str} {XP : (Str → Option Value) → Heap → Prop} {YP : World → Heap → Prop} {d : DefRec} {K : Params → PySem.W.Frag} {CX : CXT} {sp : PySem.W.Frag → Sp} {x : Str}
    (hn : l.most = some n) (hn2 : n ≤ sizeLine) (hdf : d.params.defaults = []) (hr : Room k callerA)
    (hY : ∀ (w : World) (h : Heap), YP w h → (K w.params).In h)
    (F : ∀ (w : World) (mg : Str → Option Value) (fa : Addr) (h : Heap), (K w.params).In h → h.Ns mainGlobals mg → mg d.name = some (.ref fa) →
      ∃ fd : FuncData, (∀ (s : Shared) (u : Value), BindsTo s fd ⟨[u], []⟩ [(x, u)]) ∧
        ∀ base : Heap, (K w.params).In base → base.Ns mainGlobals mg → RunG l.prog w (K w.params) mg base CX k fa fd [x] (sp (K w.params)))
    (hsp : ∀ (K : PySem.W.Frag) (H : Hp) (a : Addr) (ns : List Int), ns.length ≤ n → Only H → SqL K H a (ns.map V.int) → sp K [.ref a] H (fun v _ => v = .bl true) fun _ _ _ => False)
    (hCX : ∀ (H : Hp) (s : Shared) (e : Value) (s' : Shared), CX [] H s (fun _ _ _ => False) e s' → False) :
    PySem.W.WalkO q loose XP YP l.row.toRowW d [] (fun f vs => PySem.call f vs) := by
  refine Att.attach_call hn hdf fun w s₀ s₁ mg mb fa o pm cd doc a vs ns G Y ho hd hcd hmg hobj hints hlen hg => ?_
  have KX := hY w _ Y
  obtain ⟨fd, bind, FF⟩ := F w mg fa _ KX G.T.g hmg
  exact callG KX G.T.g G.T.b G.T.builtins G.T.nolimit hg hobj hints (Nat.le_trans hlen hn2) hr FF bind (fun H only hS => hsp _ H a ns hlen only hS) fun H e s' => hCX H s₁ e s'
end VX

/-! repr of data that hold no dict. -/
namespace VX
open PySem PySem.Spec PyProof.Rows L2 VR
def rReprB : List V → Hp → VK → Prop := fun xs H Q => ∃ b : Bool, xs = [.bl b] ∧ Q (.str (if b then "True" else "False")) H
theorem call_reprB {X : Cx} : CallR X (.builtin "repr") rReprB := by
  intro pins s σ H xs us Q I r h
  obtain ⟨b, rfl, q⟩ := h
  obtain ⟨u, rfl, r1⟩ := vals1 r
  obtain rfl : u = Value.bool b := r1
  exact PySem.P.repr_of_bool ⟨.str _, H, I.tok _, ⟨_, rfl⟩, q⟩
/-- repr of any data without dicts -/
def rReprD (K : PySem.W.Frag) : List V → Hp → VK → Prop := fun xs H Q => ∃ (v : V) (d : PyData), xs = [v] ∧ Dp K H v d ∧ d.showable = true ∧ d.hasDict = false ∧ d.depth ≤ 8 ∧ d.shown.length ≤ sizeLine ∧ Q (.str d.shown) H
theorem call_reprD {X : Cx} (hg : X.A.guards = some []) (hu : X.A.units + 64 < cLine) : CallR X (.builtin "repr") (rReprD X.K) := by
  intro pins s σ H xs us Q I r h
  obtain ⟨v, d, rfl, hd, hs, hn, hp, hz, q⟩ := h
  obtain ⟨u, rfl, r1⟩ := vals1 r
  cases hd with
  | non =>
    obtain rfl : u = Value.none := r1
    exact PySem.P.repr_of_none ⟨.str _, H, I.tok _, ⟨_, rfl⟩, by simpa [PyData.shown] using q⟩
  | bl b =>
    obtain rfl : u = Value.bool b := r1
    exact PySem.P.repr_of_bool ⟨.str _, H, I.tok _, ⟨_, rfl⟩, by simpa [PyData.shown] using q⟩
  | int i =>
    obtain ⟨t, rfl⟩ := r1
    exact PySem.P.repr_of_int (by simpa [PyData.showable] using hs) ⟨.str _, H, I.tok _, ⟨_, rfl⟩, by simpa [PyData.shown] using q⟩
  | str x =>
    obtain ⟨t, rfl⟩ := r1
    exact PySem.P.repr_of_str ⟨.str _, H, I.tok _, ⟨_, rfl⟩, by simpa [PyData.shown] using q⟩ (by simpa [PyData.shown] using hz)
  | @lst a xs ds h1 h2 =>
    obtain rfl : u = Value.ref a := r1
    obtain ⟨as, ra⟩ := Dp.reads I _ _ _ (Dp.lst h1 h2) rfl
    exact repr_of_reads' ra hs (fun z => by rw [hn] at z; cases z) hg (by omega) (fun _ _ e => e) (fun h' u tk hk => ⟨.str _, H, I.kept hk, ⟨_, rfl⟩, q⟩) hz
  | @tup a xs ds h1 h2 =>
    obtain rfl : u = Value.ref a := r1
    obtain ⟨as, ra⟩ := Dp.reads I _ _ _ (Dp.tup h1 h2) rfl
    exact repr_of_reads' ra hs (fun z => by rw [hn] at z; cases z) hg (by omega) (fun _ _ e => e) (fun h' u tk hk => ⟨.str _, H, I.kept hk, ⟨_, rfl⟩, q⟩) hz
end VX

/-! Several except clauses with names; a def that shows lists, called; len by an own __len__; lcm. -/
namespace VX
open PySem PySem.Spec PyProof.Rows L2 VR
/-- the wishes of clauses that name the error, one behind the other -/
def wAsMany (K : PySem.W.Frag) (Wo : WX) (D : Ends) : List (Value × Nat × (Addr → Value → Option Addr → TS)) → WX
  | [] => Wo
  | (c, i, ts) :: r => wAs K c i ts (wAsMany K Wo D r) D
inductive HdAs (Y : Cx) : List ExceptHandler → List (Value × Nat × (Addr → Value → Option Addr → TS)) → Prop
  | nil : HdAs Y [] []
  | cons {x n : Str} {c : Value} {i : Nat} {ts : Addr → Value → Option Addr → TS} {b1 : Stmt} {bs : List Stmt} {p1 p2 : Pos} {hs : List ExceptHandler} {l : List (Value × Nat × (Addr → Value → Option Addr → TS))} (hn : Y.N[i]? = some n) (hk : Y.env.kindOf n = some .local) (hc : Names Y x c)
      (hq : ∀ (e : Addr) (o : Obj) (k : Value) (d : Option Addr) (w : List (Addr × Obj)), Zc k d o → (∃ vs, o.data = .fields vs) → PSs (Y.suite e ((e, o) :: w)) (b1 :: bs) (ts e k d)) (r : HdAs Y hs l) :
      HdAs Y (.ExceptHandler (some (.Name x p1)) (some n) (b1 :: bs) p2 :: hs) ((c, i, ts) :: l)
section
variable {Y : Cx} {body : List Stmt} {h1 : ExceptHandler} {hs : List ExceptHandler} {l : List (Value × Nat × (Addr → Value → Option Addr → TS))} {pos : Pos} {tb : WX → TS} {Wo : WX}
theorem ps_try_asMany (st : Y.stack = Y.env :: Y.outer) (fr : Y.env.frame = some Y.env.locals) (nd : Y.N.Nodup) (tk : Takes Y Wo)
    (hb : ∀ (W : WX) (w : List (Addr × Obj)) (xe : Value → Shared → Prop), Takes (Y.tr w xe) W → PassesOwn (model Y.prog Y.w) Y.A Y.env xe → PSs (Y.tr w xe) body (tb W)) (hh : HdAs Y (h1 :: hs) l) :
    PS Y (.Try body (h1 :: hs) [] [] pos) (fun D σ H => tb (wAsMany Y.K Wo D l) D σ H) := by
  refine ⟨fun pins s σ H D I0 rd => ?_⟩
  have okY := I0.ok
  have frm : Y.A.frames = some (Y.env :: Y.outer) := by rw [okY.frames, st]
  refine wpAny_Try_except (wpAny_mono ((hb (wAsMany Y.K Wo D l) (Y.pn ++ pins) (fun e t1 => wpAny (model Y.prog Y.w) Y.A (noteFrame e Y.env) (fun _ t2 => wpAny (model Y.prog Y.w) Y.A (setFlight e none) (fun _ t3 =>
    wpAny (model Y.prog Y.w) Y.A (handleBy e Y.env (h1 :: hs)) (SP Y pins D) Y.xe t3) Y.xe t2) Y.xe t1) (fun u t0 caught => ?_) PassesOwn.looking).run [] s σ H D (I0.toTry _) rd) (fun f t1 done => ?_) (fun _ _ z => z))
  · obtain ⟨e, B, sI, pins1, σ1, H1, cls, d, rfl, J1, nb, up1, sky, free, eqO, eqG, wish⟩ := caught
    have J2 : Inv Y pins σ1 H1 sI := J1.ofTry okY
    refine Sky.land Zc.steady frm fr (by rw [← st]; exact sky) fun g3 fl3 up3 => ?_
    have J3 : Inv Y pins σ1 H1 { t0 with heap := g3 } := J2.landed nb fl3.1 (up1.trans up3) eqO eqG
    obtain ⟨o3, w3, at3, zc3, dt3⟩ := fl3.there
    have off : e ∉ frs (Y.env :: Y.outer) := fun hm => by
      obtain ⟨_, o, eo, no⟩ := fl3.2.2.1.mem hm
      rw [at3] at eo
      cases eo
      exact no _ dt3
    have offL : e ≠ Y.env.locals := fun z => off (List.mem_filterMap.mpr ⟨Y.env, List.mem_cons_self, by rw [fr, z]⟩)
    have offF : e ∉ Y.fs := fun hm => by
      obtain ⟨v, hv, q⟩ := List.mem_filterMap.mp hm
      exact off (List.mem_filterMap.mpr ⟨v, List.mem_cons_of_mem _ hv, q⟩)
    have T3 := J3.suite at3 dt3 free offL offF
    have all : ∀ {hs' : List ExceptHandler} {l' : List (Value × Nat × (Addr → Value → Option Addr → TS))}, HdAs Y hs' l' → wAsMany Y.K Wo D l' cls d σ1 H1 → wpAny (model Y.prog Y.w) Y.A (handleBy (.ref e) Y.env hs') (SP Y pins D) Y.xe { t0 with heap := g3 } := by
      intro hs' l' hk
      induction hk with
      | nil =>
        intro wi
        obtain ⟨_, _, _, oe, vs, T, oT, tr, he, hz, hd, hf1, hr⟩ := id fl3
        refine wpAny_handleBy_nil ?_
        unfold PySem.passOn
        refine wpAny_bind (wpAny_field he hd hf1 ?_)
        rw [if_neg (show ¬ ((Value.ref T == Value.none) = true) by simp)]
        have out : wpAny (model Y.prog Y.w) Y.A (setFlight (.ref e) Y.env.frame) (fun _ t4 => wpAny (model Y.prog Y.w) Y.A (throw (.ref e) : Sem Flow) (SP Y pins D) Y.xe t4) Y.xe { t0 with heap := g3 } := by
          rw [fr]
          exact HandSPX.setFlight_upZ fl3 fun g4 hh4 up4 => wpAny_throw (tk _ _ ⟨e, B, sI, pins, σ1, H1, cls, d, rfl, J2, nb, (up1.trans up3).trans up4, .inr (.inr (by rw [st]; exact hh4)), free, eqO, eqG, wi⟩)
        first
          | exact wpAny_bind (wpAny_pure (wpAny_bind out))
          | exact wpAny_bind out
      | @cons x n c i ts b1 bs p1 p2 hs2 l2 hn hl hc hq r ih =>
        intro wi
        obtain ⟨b, eb, yes, no⟩ := wi
        refine wpAny_handleBy_cons (codeAny_handlers_test ?_) (by intro q; cases q)
        have tyE : PySem.W.Looks (model Y.prog Y.w) g3 (typeOf (.ref e)) cls := fun A Q E t k q => wpAny_typeOf_ref (k _ _ at3) (by rw [zc3.1]; exact q)
        have asks := PySem.W.exm_one (M := model Y.prog Y.w) (J3.kIn) tyE eb
        have named : ∀ {Q : Value → Shared → Prop} {E : Value → Shared → Prop}, Q c { t0 with heap := g3 } → wpAny (model Y.prog Y.w) (Y.A.mark (some (.ref e))) (eval (.Name x p1) Y.env) Q E { t0 with heap := g3 } := fun {Q E} q => by
          obtain ⟨hg, hb, hm | ⟨hm, hv, hx⟩⟩ := hc
          · exact ld_glob (X := Y.suite e ((e, o3) :: (Y.pn ++ pins))) T3 hg hm q hb
          · exact ld_blt (X := Y.suite e ((e, o3) :: (Y.pn ++ pins))) T3 hg hm hv q hx hb
        refine named (asks.here ?_)
        cases b with
        | false => exact ih (no rfl)
        | true =>
          refine codeAny_handlers_suite_as (HandSPX.lands_againZ fl3 fun g4 fl4 up4 => ?_)
          have J4 : Inv Y pins σ1 H1 { t0 with heap := g4 } := J2.landed nb fl4.1 ((up1.trans up3).trans up4) eqO eqG
          obtain ⟨o4, w4, at4, zc4, dt4⟩ := fl4.there
          have T4 := J4.suite at4 dt4 free offL offF
          refine store_ok (X := Y.suite e ((e, o4) :: (Y.pn ++ pins))) (v := .ref e) T4 nd hn (.inl hl) rfl (fun t5 T5 => ?_) (.inr hl)
          refine wpAny_mono ((hq e o4 cls d (Y.pn ++ pins) zc4 ⟨_, dt4⟩).run [] t5 _ H1 _ T5 (yes rfl e free)) (fun f t6 done => ?_) (fun _ _ z => z.elim)
          have close : ∀ {σ6 : L2.St} {H6 : Hp} {Q : Shared → Prop}, Inv (Y.suite e ((e, o4) :: (Y.pn ++ pins))) [] σ6 H6 t6 → (∀ t7, Inv Y pins (σ6.set i none) H6 t7 → Q t7) →
              wpAny (model Y.prog Y.w) Y.A (do bindName Y.env n .none; unbindBehindTheSuite Y.env n p2) (fun _ t7 => Q t7) Y.xe t6 := fun {σ6 H6 Q} T6 hq => gone_ok (T6.unsuite okY) nd hn hl hq
          match f, done with
          | .next, ⟨_, _, T6, q6⟩ => exact close T6 fun t7 J7 => ⟨_, _, J7, q6⟩
          | .brk, ⟨_, _, T6, q6⟩ => exact close T6 fun t7 J7 => ⟨_, _, J7, q6⟩
          | .cont, ⟨_, _, T6, q6⟩ => exact close T6 fun t7 J7 => ⟨_, _, J7, q6⟩
          | .ret u, ⟨_, _, _, T6, r6, q6⟩ => exact close T6 fun t7 J7 => ⟨_, _, _, J7, r6, q6⟩
    exact all hh wish
  · match f, done with
    | .next, ⟨_, _, J', q⟩ => exact wpAny_execs_nil ⟨_, _, J'.ofTry okY, q⟩
    | .brk, ⟨_, _, J', q⟩ => exact ⟨_, _, J'.ofTry okY, q⟩
    | .cont, ⟨_, _, J', q⟩ => exact ⟨_, _, J'.ofTry okY, q⟩
    | .ret u, ⟨_, _, _, J', r, q⟩ => exact ⟨_, _, _, J'.ofTry okY, r, q⟩
end
/-! ### a def that shows lists, called where nothing is being shown -/
section
variable {X : Cx} {CX : CXT} {k : Nat} {f : Addr} {fd : FuncData} {ps : List Str} {sp : Sp} {E : XK} {x : Str} {e : Expr} {es : List Expr} {t : TA} {p pos : Pos}
theorem pe_callSh (F : RunG X.prog X.w X.K X.mg X.base CX k f fd ps sp) (gd : X.A.guards = some []) (hr : Room k X.A) (ln : ∀ vs H Q E, sp vs H Q E → vs.length = ps.length) (hg : Gl X x) (hm : X.mg x = some (.ref f)) (hk : PySem.W.keepIn X.K (.ref f) = true) (hb : Binds X.K fd ps []) (hx : Passes CX X E)
    (ha : PA X (e :: es) t) (hdb : (x == ("__debug__" : Str)) = false := by decide) (he : starEach (e :: es) X.env = (false, eval e X.env) :: starEach es X.env := by rfl) (hpl : (backTo pos (starEach es X.env)).any (·.1) = false := by rfl) :
    PE X (.Call (.Name x p) (e :: es) [] pos) (tCall sp [] E t) := by
  refine ⟨fun pins s σ H Q I0 rd => wpAny_Call_Name_kw (ld_glob I0 hg hm ?_ hdb)⟩
  refine PySem.W.callWith_K (h₀ := X.base) I0.ok.mod.kin hk (thn (ha.run pos pins s σ H _ I0 rd) fun us t1 ⟨vs, H1, I1, rv, q⟩ => ⟨I1.kIn, ?_⟩) he hpl
  have q : sp vs H1 Q E := by
    have q' : sp (vs ++ []) H1 Q E := q
    rw [List.append_nil] at q'
    exact q'
  have hl : us.length = ps.length := by rw [← rv.length]; exact ln _ _ _ _ q
  have b := hb t1 us I1.kIn (by rw [List.append_nil]; exact hl)
  rw [List.append_nil] at b
  refine wpAny_call (codeAny_mono (F X.A X.stack t1 H1 ⟨us, []⟩ us vs Q E gd hr I1.env0 b rv q) fun r t2 hq => ?_)
  match r, hq with
  | .error e, hq => exact hx pins σ H1 t1 e t2 I1 hq
  | .ok (.ret u), hq => exact I1.after hq
  | .ok .next, hq => exact False.elim hq
  | .ok .brk, hq => exact False.elim hq
  | .ok .cont, hq => exact False.elim hq
end
def rLcm : List V → Hp → VK → Prop := fun vs H Q => ∃ a b : Int, vs = [.int a, .int b] ∧ a.natAbs < 2 ^ 64 ∧ b.natAbs < 2 ^ 64 ∧ Q (.int ((Nat.lcm a.natAbs b.natAbs : Nat) : Int)) H
theorem cr_lcm {X : Cx} : CallR X (.builtin "math.lcm") rLcm := by
  intro pins s σ H vs us Q I r h
  obtain ⟨a, b, rfl, ha, hb, q⟩ := h
  obtain ⟨t, u, rfl⟩ := Vals.int2 r
  exact PySem.W.mc_lcm ha hb fun _ => ⟨.int _, H, I.tok _, ⟨_, rfl⟩, q⟩
/-! ### len by an own __len__ -/
def rLenO (C : Addr) (sp : Sp) (E : XK) : List V → Hp → VK → Prop := fun xs H Q => ∃ a dx fs, xs = [.ref a] ∧ H a = some (.ins C dx fs) ∧ sp [.ref a] H (fun v H' => ∃ n : Nat, v = .int (n : Int) ∧ n < 2 ^ 62 ∧ Q v H') E
theorem call_lenO {X : Cx} {CX : CXT} {k : Nat} {C f : Addr} {fd : FuncData} {ps : List Str} {sp : Sp} {E : XK} (hl : PySem.W.findIn X.K (.ref C) "__len__" = some (some (.ref f))) (hf : PySem.W.isFn X.K (.ref f) = true) (F : FnOk X.prog X.w X.K X.mg X.base CX k f fd ps sp) (hr : Room (k + 1) X.A) (hb : Binds X.K fd ps []) (hx : Passes CX X E) :
    CallR X (.builtin "len") (rLenO C sp E) := by
  intro pins s σ H xs us Q I r h
  obtain ⟨a, dx, fs, rfl, ha, q⟩ := h
  obtain ⟨u, rfl, r1⟩ := vals1 r
  cases r1
  obtain ⟨mA, O, _⟩ := ins_get I.hok ha
  obtain ⟨od, J, _⟩ := O.look
  obtain ⟨m, hF⟩ := I.fr
  refine PySem.W.len_K hF I.ok.mod.kin J hl hf ?_
  have ln : ([Value.ref a] : List Value).length = ps.length := F.len _ _ _ _ q
  refine wpAny_call (codeAny_mono (F.run X.A.in1 X.stack s H ⟨[.ref a], []⟩ [.ref a] [.ref a] _ E hr.in1 I.env0.in1 (by simpa using hb s [.ref a] I.kIn (by simpa using ln)) (.cons rfl .nil) q) fun r s' hq => ?_)
  match r, hq with
  | .error e, hq => exact hx pins σ H s e s' I hq
  | .ok .next, hq => exact False.elim hq
  | .ok .brk, hq => exact False.elim hq
  | .ok .cont, hq => exact False.elim hq
  | .ok (.ret w), hq =>
    obtain ⟨z, H', I', rz, n, ez, hn, hz⟩ := I.after hq
    subst ez
    obtain ⟨t, rfl⟩ := rz
    exact ⟨⟨by omega, by omega⟩, .int n, H', I'.tok _, ⟨_, rfl⟩, hz⟩
end VX

/-! Sizes as lists of ints: plain mathematics. -/
namespace SZ
/-- without the zeros at the end -/
def trim : List Int → List Int
  | [] => []
  | x :: r => match trim r with
    | [] => if x = 0 then [] else [x]
    | y :: ys => x :: y :: ys
theorem trim_app0 : ∀ ys : List Int, trim (ys ++ [0]) = trim ys
  | [] => by simp [trim]
  | y :: ys => by
    show trim (y :: (ys ++ [0])) = trim (y :: ys)
    simp only [trim]
    rw [trim_app0 ys]
theorem trim_app : ∀ (ys : List Int) {z : Int}, z ≠ 0 → trim (ys ++ [z]) = ys ++ [z]
  | [], z, h => by simp [trim, h]
  | y :: ys, z, h => by
    show trim (y :: (ys ++ [z])) = y :: (ys ++ [z])
    simp only [trim]
    rw [trim_app ys h]
    cases e : ys ++ [z] with
    | nil => simp at e
    | cons a b => rfl
theorem trim_len : ∀ xs : List Int, (trim xs).length ≤ xs.length
  | [] => Nat.le_refl _
  | x :: r => by
    have ih := trim_len r
    simp only [trim]
    cases e : trim r with
    | nil => dsimp only; split <;> simp
    | cons y ys => rw [e] at ih; simp only [List.length_cons] at ih ⊢; omega
theorem trim_mem : ∀ {xs : List Int} {c : Int}, c ∈ trim xs → c ∈ xs
  | [], _, h => h
  | x :: r, c, h => by
    have ih := @trim_mem r c
    simp only [trim] at h
    cases e : trim r with
    | nil =>
      rw [e] at h
      dsimp only at h
      split at h
      · cases h
      · exact List.mem_cons.mpr (.inl (by simpa using h))
    | cons y ys =>
      rw [e] at h ih
      rcases List.mem_cons.mp h with h | h
      · exact List.mem_cons.mpr (.inl h)
      · exact List.mem_cons.mpr (.inr (ih h))
theorem trim_trim : ∀ xs : List Int, trim (trim xs) = trim xs
  | [] => rfl
  | x :: r => by
    have ih := trim_trim r
    simp only [trim]
    cases e : trim r with
    | nil => dsimp only; split <;> simp [trim, *]
    | cons y ys =>
      rw [e] at ih
      show trim (x :: (y :: ys)) = x :: (y :: ys)
      rw [trim, ih]
/-- the value at n -/
def ev : List Int → Int → Int
  | [], _ => 0
  | c :: r, n => ev r n * n + c
theorem ev_trim : ∀ (xs : List Int) (n : Int), ev (trim xs) n = ev xs n
  | [], _ => rfl
  | x :: r, n => by
    have ih := ev_trim r n
    simp only [trim]
    cases e : trim r with
    | nil =>
      rw [e] at ih
      have h0 : ev r n = 0 := ih.symm
      dsimp only
      split
      · rename_i hx
        simp [ev, h0, hx]
      · simp [ev, h0]
    | cons y ys =>
      rw [e] at ih
      show ev (y :: ys) n * n + x = ev r n * n + x
      rw [ih]
/-- item by item -/
def sumL : List Int → List Int → List Int
  | [], ys => ys
  | x :: xs, [] => x :: xs
  | x :: xs, y :: ys => (x + y) :: sumL xs ys
theorem sumL_nil (xs : List Int) : sumL xs [] = xs := by cases xs <;> rfl
theorem ev_sumL : ∀ (xs ys : List Int) (n : Int), ev (sumL xs ys) n = ev xs n + ev ys n
  | [], ys, n => by simp [sumL, ev]
  | x :: xs, [], n => by simp [sumL, ev]
  | x :: xs, y :: ys, n => by
    simp only [sumL, ev, ev_sumL xs ys n, Int.add_mul]
    omega
theorem len_sumL : ∀ xs ys : List Int, (sumL xs ys).length = max xs.length ys.length
  | [], ys => by simp [sumL]
  | x :: xs, [] => by simp [sumL]
  | x :: xs, y :: ys => by simp only [sumL, List.length_cons, len_sumL xs ys]; omega
theorem get_sumL : ∀ (xs ys : List Int) (i : Nat), (sumL xs ys).getD i 0 = xs.getD i 0 + ys.getD i 0
  | [], ys, i => by simp [sumL]
  | x :: xs, [], i => by simp [sumL]
  | x :: xs, y :: ys, 0 => by simp [sumL]
  | x :: xs, y :: ys, i + 1 => by simpa [sumL] using get_sumL xs ys i
def negL (xs : List Int) : List Int := xs.map fun x => -x
theorem ev_negL : ∀ (xs : List Int) (n : Int), ev (negL xs) n = - ev xs n
  | [], n => by simp [negL, ev]
  | x :: xs, n => by
    have ih := ev_negL xs n
    show ev (negL xs) n * n + -x = -(ev xs n * n + x)
    rw [ih, Int.neg_mul]
    omega
/-- c times ys, added to zs from place k on -/
def addAt (zs : List Int) (k : Nat) (d : Int) : List Int := zs.set k (zs.getD k 0 + d)
theorem len_addAt (zs : List Int) (k : Nat) (d : Int) : (addAt zs k d).length = zs.length := by simp [addAt]
def rowAt (zs : List Int) (k : Nat) (c : Int) (ys : List Int) : List Int := ys.zipIdx.foldl (fun z p => addAt z (k + p.2) (c * p.1)) zs
/-- powers of n -/
theorem ev_addAt : ∀ (zs : List Int) (k : Nat) (d n : Int), k < zs.length → ev (addAt zs k d) n = ev zs n + d * n ^ k
  | [], k, d, n, h => by simp at h
  | z :: zs, 0, d, n, h => by simp [addAt, ev]; omega
  | z :: zs, k + 1, d, n, h => by
    have ih := ev_addAt zs k d n (by simpa using h)
    have e : addAt (z :: zs) (k + 1) d = z :: addAt zs k d := by simp [addAt]
    rw [e]
    show ev (addAt zs k d) n * n + z = ev zs n * n + z + d * n ^ (k + 1)
    rw [ih, Int.add_mul, Int.pow_succ, Int.mul_assoc]
    omega
/-- the product, as the two loops make it: the first i of xs whole, the first j of ys with the next one -/
def mulL : List Int → List Int → List Int
  | [], ys => List.replicate ys.length 0
  | x :: xs, ys => sumL (ys.map (x * ·)) (0 :: mulL xs ys)
theorem ev_map_mul : ∀ (x : Int) (ys : List Int) (n : Int), ev (ys.map (x * ·)) n = x * ev ys n
  | x, [], n => by simp [ev]
  | x, y :: ys, n => by
    show ev (ys.map (x * ·)) n * n + x * y = x * (ev ys n * n + y)
    rw [ev_map_mul x ys n, Int.mul_add, Int.mul_assoc]
theorem ev_rep0 : ∀ (k : Nat) (n : Int), ev (List.replicate k 0) n = 0
  | 0, _ => rfl
  | k + 1, n => by rw [List.replicate_succ]; simp [ev, ev_rep0 k n]
theorem ev_mulL : ∀ (xs ys : List Int) (n : Int), ev (mulL xs ys) n = ev xs n * ev ys n
  | [], ys, n => by simp [mulL, ev_rep0, ev]
  | x :: xs, ys, n => by
    rw [mulL, ev_sumL, ev_map_mul]
    show x * ev ys n + (ev (mulL xs ys) n * n + 0) = (ev xs n * n + x) * ev ys n
    rw [ev_mulL xs ys n, Int.add_mul, Int.add_zero, Int.add_comm, Int.mul_assoc, Int.mul_assoc, Int.mul_comm (ev ys n) n]
theorem len_mulL : ∀ xs ys : List Int, (mulL xs ys).length = xs.length + ys.length
  | [], ys => by simp [mulL]
  | x :: xs, ys => by rw [mulL, len_sumL, List.length_map, List.length_cons, len_mulL xs ys, List.length_cons]; omega
/-- all below 2 ^ k in size -/
def Bd (k : Nat) (xs : List Int) : Prop := ∀ c ∈ xs, c.natAbs < 2 ^ k
theorem Bd.mono {j k : Nat} {xs : List Int} (h : Bd j xs) (hk : j ≤ k) : Bd k xs := fun c hc => Nat.lt_of_lt_of_le (h c hc) (Nat.pow_le_pow_right (by decide) hk)
theorem Bd.trim {k : Nat} {xs : List Int} (h : Bd k xs) : Bd k (trim xs) := fun c hc => h c (trim_mem hc)
theorem Bd.nil {k : Nat} : Bd k [] := fun _ h => nomatch h
theorem Bd.cons {k : Nat} {x : Int} {xs : List Int} (h : x.natAbs < 2 ^ k) (t : Bd k xs) : Bd k (x :: xs) := fun c hc => by
  rcases List.mem_cons.mp hc with e | e
  · rw [e]; exact h
  · exact t c e
theorem natAbs_add_lt {a b : Int} {k : Nat} (ha : a.natAbs < 2 ^ k) (hb : b.natAbs < 2 ^ k) : (a + b).natAbs < 2 ^ (k + 1) := by
  have : (2 : Nat) ^ (k + 1) = 2 ^ k + 2 ^ k := by rw [Nat.pow_succ]; omega
  omega
theorem natAbs_mul_lt {a b : Int} {j k : Nat} (ha : a.natAbs < 2 ^ j) (hb : b.natAbs < 2 ^ k) : (a * b).natAbs < 2 ^ (j + k) := by
  rw [Int.natAbs_mul, Nat.pow_add]
  exact Nat.mul_lt_mul'' ha hb
theorem two_pos (k : Nat) : 0 < 2 ^ k := Nat.pow_pos (by decide)
theorem Bd.sumL : ∀ {k : Nat} {xs ys : List Int}, Bd k xs → Bd k ys → Bd (k + 1) (sumL xs ys)
  | k, [], ys, _, h => h.mono (Nat.le_succ _)
  | k, x :: xs, [], h, _ => h.mono (Nat.le_succ _)
  | k, x :: xs, y :: ys, h, g => by
    refine Bd.cons (natAbs_add_lt (h x (List.mem_cons_self ..)) (g y (List.mem_cons_self ..))) (Bd.sumL (fun c hc => h c (List.mem_cons_of_mem _ hc)) fun c hc => g c (List.mem_cons_of_mem _ hc))
theorem Bd.negL {k : Nat} {xs : List Int} (h : Bd k xs) : Bd k (negL xs) := fun c hc => by
  obtain ⟨x, hx, e⟩ := List.mem_map.mp hc
  rw [← e, Int.natAbs_neg]
  exact h x hx
theorem Bd.mulL : ∀ {j k : Nat} {xs ys : List Int}, Bd j xs → Bd k ys → Bd (j + k + xs.length) (mulL xs ys)
  | j, k, [], ys, _, h => fun c hc => by
    have : c = 0 := (List.mem_replicate.mp hc).2
    rw [this]; exact two_pos _
  | j, k, x :: xs, ys, h, g => by
    have ih := Bd.mulL (fun c hc => h c (List.mem_cons_of_mem _ hc) : Bd j xs) g
    have e : j + k + (x :: xs).length = (j + k + xs.length) + 1 := by rw [List.length_cons]; omega
    rw [e]
    refine Bd.sumL (fun c hc => ?_) (Bd.cons (two_pos _) ih)
    obtain ⟨y, hy, e2⟩ := List.mem_map.mp hc
    rw [← e2]
    exact Nat.lt_of_lt_of_le (natAbs_mul_lt (h x (List.mem_cons_self ..)) (g y hy)) (Nat.pow_le_pow_right (by decide) (Nat.le_add_right _ _))
/-- how great a value is -/
theorem ev_lt : ∀ {b m : Nat} {xs : List Int} {n : Int}, Bd b xs → n.natAbs < 2 ^ m → (ev xs n).natAbs < 2 ^ (b + xs.length * (m + 1))
  | b, m, [], n, _, _ => two_pos _
  | b, m, x :: xs, n, h, hn => by
    have ih := ev_lt (fun c hc => h c (List.mem_cons_of_mem _ hc) : Bd b xs) hn
    have e : b + (x :: xs).length * (m + 1) = (b + xs.length * (m + 1) + m) + 1 := by rw [List.length_cons, Nat.succ_mul]; omega
    rw [e]
    show (ev xs n * n + x).natAbs < _
    refine natAbs_add_lt (natAbs_mul_lt ih hn) (Nat.lt_of_lt_of_le (h x (List.mem_cons_self ..)) (Nat.pow_le_pow_right (by decide) (by omega)))
/-- ys in place of n: as the loop makes it, from the last one on -/
def cmp : List Int → List Int → List Int
  | [], _ => []
  | c :: r, ys => trim (sumL (trim (mulL (cmp r ys) ys)) [c])
theorem ev_cmp : ∀ (xs ys : List Int) (n : Int), ev (cmp xs ys) n = ev xs (ev ys n)
  | [], _, _ => rfl
  | c :: r, ys, n => by
    rw [cmp, ev_trim, ev_sumL, ev_trim, ev_mulL, ev_cmp r ys n]
    simp [ev]
end SZ

namespace SZ
theorem ext_getD {xs ys : List Int} (hl : xs.length = ys.length) (h : ∀ k, xs.getD k 0 = ys.getD k 0) : xs = ys := by
  apply List.ext_getElem hl
  intro k h1 h2
  have := h k
  rw [List.getD_eq_getElem?_getD, List.getD_eq_getElem?_getD, List.getElem?_eq_getElem h1, List.getElem?_eq_getElem h2] at this
  simpa using this
theorem getD_set (zs : List Int) (j k : Nat) (d : Int) : (zs.set j d).getD k 0 = if k = j ∧ j < zs.length then d else zs.getD k 0 := by
  rw [List.getD_eq_getElem?_getD, List.getD_eq_getElem?_getD, List.getElem?_set]
  by_cases e : j = k
  · subst e
    by_cases hl : j < zs.length
    · simp [hl]
    · simp [hl]
  · simp [e, Ne.symm e]
theorem getD_rep (n k : Nat) : (List.replicate n (0 : Int)).getD k 0 = 0 := by
  rw [List.getD_eq_getElem?_getD, List.getElem?_replicate]
  split <;> rfl
theorem getD_of_ge {xs : List Int} {k : Nat} (h : xs.length ≤ k) : xs.getD k 0 = 0 := by
  rw [List.getD_eq_getElem?_getD, List.getElem?_eq_none h]
  rfl
/-- the k-th coefficient of the product -/
def cf : List Int → List Int → Nat → Int
  | [], _, _ => 0
  | x :: xs, ys, k => x * ys.getD k 0 + (match k with | 0 => 0 | k + 1 => cf xs ys k)
theorem get_map_mul (x : Int) (ys : List Int) (k : Nat) : (ys.map (x * ·)).getD k 0 = x * ys.getD k 0 := by
  rw [List.getD_eq_getElem?_getD, List.getD_eq_getElem?_getD, List.getElem?_map]
  cases ys[k]? <;> simp
theorem get_mulL : ∀ (xs ys : List Int) (k : Nat), (mulL xs ys).getD k 0 = cf xs ys k
  | [], ys, k => by rw [mulL, getD_rep]; rfl
  | x :: xs, ys, 0 => by rw [mulL, get_sumL, get_map_mul]; simp [cf]
  | x :: xs, ys, k + 1 => by
    rw [mulL, get_sumL, get_map_mul]
    show x * ys.getD (k + 1) 0 + (mulL xs ys).getD k 0 = _
    rw [get_mulL xs ys k]
    rfl
theorem cf_app : ∀ (xs : List Int) (x : Int) (ys : List Int) (k : Nat), cf (xs ++ [x]) ys k = cf xs ys k + if xs.length ≤ k then x * ys.getD (k - xs.length) 0 else 0
  | [], x, ys, k => by
    show cf [x] ys k = 0 + if 0 ≤ k then x * ys.getD (k - 0) 0 else 0
    cases k <;> simp [cf]
  | z :: xs, x, ys, 0 => by simp [cf]
  | z :: xs, x, ys, k + 1 => by
    show z * ys.getD (k + 1) 0 + cf (xs ++ [x]) ys k = z * ys.getD (k + 1) 0 + cf xs ys k + if xs.length + 1 ≤ k + 1 then x * ys.getD (k + 1 - (xs.length + 1)) 0 else 0
    rw [cf_app xs x ys k]
    have e : k + 1 - (xs.length + 1) = k - xs.length := by omega
    rw [e, Int.add_assoc]
    congr 2
    by_cases h : xs.length ≤ k
    · rw [if_pos h, if_pos (by omega)]
    · rw [if_neg h, if_neg (by omega)]
theorem cf_take {xs ys : List Int} {i : Nat} {x : Int} (h : xs[i]? = some x) (k : Nat) : cf (xs.take (i + 1)) ys k = cf (xs.take i) ys k + if i ≤ k then x * ys.getD (k - i) 0 else 0 := by
  have hi : i < xs.length := (List.getElem?_eq_some_iff.mp h).1
  have e : xs.take (i + 1) = xs.take i ++ [x] := by rw [List.take_add_one, h]; rfl
  rw [e, cf_app, List.length_take, Nat.min_eq_left (Nat.le_of_lt hi)]
/-- the loops' lists, by their coefficients -/
structure Is (zs : List Int) (n : Nat) (F : Nat → Int) : Prop where
  len : zs.length = n
  get : ∀ k, zs.getD k 0 = F k
theorem Is.set {zs : List Int} {n : Nat} {F : Nat → Int} (h : Is zs n F) {j : Nat} (hj : j < n) {d : Int} {G : Nat → Int} (hg : ∀ k, G k = if k = j then d else F k) : Is (zs.set j d) n G :=
  ⟨by rw [List.length_set, h.len], fun k => by
    rw [getD_set, hg, h.get, h.len]
    by_cases e : k = j
    · rw [if_pos ⟨e, hj⟩, if_pos e]
    · rw [if_neg (fun q => e q.1), if_neg e]⟩
theorem Is.eq {zs ys : List Int} {n : Nat} {F : Nat → Int} (h : Is zs n F) (hl : ys.length = n) (hy : ∀ k, ys.getD k 0 = F k) : zs = ys := ext_getD (h.len.trans hl.symm) fun k => (h.get k).trans (hy k).symm
theorem getD_some {xs : List Int} {i : Nat} {x : Int} (h : xs[i]? = some x) : xs.getD i 0 = x := by rw [List.getD_eq_getElem?_getD, h]; rfl
end SZ

namespace K12
open PySem L2 SZ VR VX StX RT
def top (i : Nat) : Stmt := PySem.Challenge.pw_farmisses_k12_caches_refused.main.body.getD i (.Pass ⟨0, 0, 0, 0⟩)
abbrev S_wall : Stmt := top 1
theorem sc_wall : FnScope ["k"] ["k"] (defScope S_wall) := ⟨rfl, rfl, rfl, by decide +kernel, rfl, by decide +kernel, by decide +kernel⟩
abbrev S_InvalidText___init__ : Stmt := inClass (top 4) 0
theorem sc_InvalidText___init__ : FnScope ["self", "value"] ["self", "value"] (defScope S_InvalidText___init__) := ⟨rfl, rfl, rfl, by decide +kernel, rfl, by decide +kernel, by decide +kernel⟩
abbrev S_InvalidSyntax___init__ : Stmt := inClass (top 5) 0
theorem sc_InvalidSyntax___init__ : FnScope ["self", "position"] ["self", "position"] (defScope S_InvalidSyntax___init__) := ⟨rfl, rfl, rfl, by decide +kernel, rfl, by decide +kernel, by decide +kernel⟩
abbrev S_TooLarge___init__ : Stmt := inClass (top 6) 0
theorem sc_TooLarge___init__ : FnScope ["self", "word"] ["self", "word"] (defScope S_TooLarge___init__) := ⟨rfl, rfl, rfl, by decide +kernel, rfl, by decide +kernel, by decide +kernel⟩
abbrev S_InvalidCache___init__ : Stmt := inClass (top 7) 0
theorem sc_InvalidCache___init__ : FnScope ["self", "value"] ["self", "value"] (defScope S_InvalidCache___init__) := ⟨rfl, rfl, rfl, by decide +kernel, rfl, by decide +kernel, by decide +kernel⟩
abbrev S_is_integer : Stmt := top 9
theorem sc_is_integer : FnScope ["value"] ["value"] (defScope S_is_integer) := ⟨rfl, rfl, rfl, by decide +kernel, rfl, by decide +kernel, by decide +kernel⟩
abbrev S_is_number : Stmt := top 15
theorem sc_is_number : FnScope ["text", "character"] ["text"] (defScope S_is_number) := ⟨rfl, rfl, rfl, by decide +kernel, rfl, by decide +kernel, by decide +kernel⟩
abbrev S_end_of_run : Stmt := top 16
theorem sc_end_of_run : FnScope ["text", "begin", "end"] ["text", "begin"] (defScope S_end_of_run) := ⟨rfl, rfl, rfl, by decide +kernel, rfl, by decide +kernel, by decide +kernel⟩
abbrev S_tokens_of : Stmt := top 17
theorem sc_tokens_of : FnScope ["text", "found", "at", "end"] ["text"] (defScope S_tokens_of) := ⟨rfl, rfl, rfl, by decide +kernel, rfl, by decide +kernel, by decide +kernel⟩
abbrev S_Reader___init__ : Stmt := inClass (top 18) 0
theorem sc_Reader___init__ : FnScope ["self", "text"] ["self", "text"] (defScope S_Reader___init__) := ⟨rfl, rfl, rfl, by decide +kernel, rfl, by decide +kernel, by decide +kernel⟩
abbrev S_Reader_token : Stmt := inClass (top 18) 1
theorem sc_Reader_token : FnScope ["self", "token", "_"] ["self"] (defScope S_Reader_token) := ⟨rfl, rfl, rfl, by decide +kernel, rfl, by decide +kernel, by decide +kernel⟩
abbrev S_Reader_place : Stmt := inClass (top 18) 2
theorem sc_Reader_place : FnScope ["self", "_", "place"] ["self"] (defScope S_Reader_place) := ⟨rfl, rfl, rfl, by decide +kernel, rfl, by decide +kernel, by decide +kernel⟩
abbrev S_Reader_pass_any : Stmt := inClass (top 18) 3
theorem sc_Reader_pass_any : FnScope ["self", "token"] ["self"] (defScope S_Reader_pass_any) := ⟨rfl, rfl, rfl, by decide +kernel, rfl, by decide +kernel, by decide +kernel⟩
abbrev S_Reader_passes : Stmt := inClass (top 18) 4
theorem sc_Reader_passes : FnScope ["self", "token"] ["self", "token"] (defScope S_Reader_passes) := ⟨rfl, rfl, rfl, by decide +kernel, rfl, by decide +kernel, by decide +kernel⟩
abbrev S_Reader_pass_only : Stmt := inClass (top 18) 5
theorem sc_Reader_pass_only : FnScope ["self", "token"] ["self", "token"] (defScope S_Reader_pass_only) := ⟨rfl, rfl, rfl, by decide +kernel, rfl, by decide +kernel, by decide +kernel⟩
abbrev S_Reader_pass_one : Stmt := inClass (top 18) 6
theorem sc_Reader_pass_one : FnScope ["self", "tokens"] ["self", "tokens"] (defScope S_Reader_pass_one) := ⟨rfl, rfl, rfl, by decide +kernel, rfl, by decide +kernel, by decide +kernel⟩
abbrev S_Reader_pass_number : Stmt := inClass (top 18) 7
theorem sc_Reader_pass_number : FnScope ["self"] ["self"] (defScope S_Reader_pass_number) := ⟨rfl, rfl, rfl, by decide +kernel, rfl, by decide +kernel, by decide +kernel⟩
abbrev S_Reader_pass_end : Stmt := inClass (top 18) 8
theorem sc_Reader_pass_end : FnScope ["self"] ["self"] (defScope S_Reader_pass_end) := ⟨rfl, rfl, rfl, by decide +kernel, rfl, by decide +kernel, by decide +kernel⟩
abbrev S_is_count : Stmt := top 27
theorem sc_is_count : FnScope ["value", "most"] ["value", "most"] (defScope S_is_count) := ⟨rfl, rfl, rfl, by decide +kernel, rfl, by decide +kernel, by decide +kernel⟩
abbrev S_is_level : Stmt := top 28
theorem sc_is_level : FnScope ["value", "sets", "ways", "rule", "writes"] ["value"] (defScope S_is_level) := ⟨rfl, rfl, rfl, by decide +kernel, rfl, by decide +kernel, by decide +kernel⟩
abbrev S_check_levels : Stmt := top 29
theorem sc_check_levels : FnScope ["levels", "level"] ["levels"] (defScope S_check_levels) := ⟨rfl, rfl, rfl, by decide +kernel, rfl, by decide +kernel, by decide +kernel⟩
abbrev S_Cache___init__ : Stmt := inClass (top 30) 0
theorem sc_Cache___init__ : FnScope ["self", "line", "levels", "together", "sets", "_"] ["self", "line", "levels"] (defScope S_Cache___init__) := ⟨rfl, rfl, rfl, by decide +kernel, rfl, by decide +kernel, by decide +kernel⟩
abbrev S_Cache_read : Stmt := inClass (top 30) 1
theorem sc_Cache_read : FnScope ["cls", "text", "reader", "line", "levels", "sets", "ways", "rule"] ["cls", "text"] (defScope S_Cache_read) := ⟨rfl, rfl, rfl, by decide +kernel, rfl, by decide +kernel, by decide +kernel⟩
abbrev S_Cache_line : Stmt := inClass (top 30) 2
theorem sc_Cache_line : FnScope ["self"] ["self"] (defScope S_Cache_line) := ⟨rfl, rfl, rfl, by decide +kernel, rfl, by decide +kernel, by decide +kernel⟩
abbrev S_Cache_levels : Stmt := inClass (top 30) 3
theorem sc_Cache_levels : FnScope ["self"] ["self"] (defScope S_Cache_levels) := ⟨rfl, rfl, rfl, by decide +kernel, rfl, by decide +kernel, by decide +kernel⟩
abbrev S_Cache_sets_together : Stmt := inClass (top 30) 4
theorem sc_Cache_sets_together : FnScope ["self"] ["self"] (defScope S_Cache_sets_together) := ⟨rfl, rfl, rfl, by decide +kernel, rfl, by decide +kernel, by decide +kernel⟩
abbrev S_Cache_period : Stmt := inClass (top 30) 5
theorem sc_Cache_period : FnScope ["self"] ["self"] (defScope S_Cache_period) := ⟨rfl, rfl, rfl, by decide +kernel, rfl, by decide +kernel, by decide +kernel⟩
abbrev S_Cache_show : Stmt := inClass (top 30) 6
theorem sc_Cache_show : FnScope ["self"] ["self"] (defScope S_Cache_show) := ⟨rfl, rfl, rfl, by decide +kernel, rfl, by decide +kernel, by decide +kernel⟩
abbrev S_Cache___len__ : Stmt := inClass (top 30) 7
theorem sc_Cache___len__ : FnScope ["self"] ["self"] (defScope S_Cache___len__) := ⟨rfl, rfl, rfl, by decide +kernel, rfl, by decide +kernel, by decide +kernel⟩
abbrev S_Cache___eq__ : Stmt := inClass (top 30) 8
theorem sc_Cache___eq__ : FnScope ["self", "other"] ["self", "other"] (defScope S_Cache___eq__) := ⟨rfl, rfl, rfl, by decide +kernel, rfl, by decide +kernel, by decide +kernel⟩
abbrev S_law_pool : Stmt := top 32
theorem sc_law_pool : FnScope ["_law_script", "_law_k", "_law_cell", "_law_heavy", "_law_blend", "_law_seed"] ["_law_script", "_law_k"] (defScope S_law_pool) := ⟨rfl, rfl, rfl, by decide +kernel, rfl, by decide +kernel, by decide +kernel⟩
abbrev S_law_take : Stmt := top 33
theorem sc_law_take : FnScope ["_law_pool_here", "_law_wide", "_law_result"] ["_law_pool_here", "_law_wide"] (defScope S_law_take) := ⟨rfl, rfl, rfl, by decide +kernel, rfl, by decide +kernel, by decide +kernel⟩
abbrev S_law_cache : Stmt := top 34
theorem sc_law_cache : FnScope ["_law_pool_here", "_law_levels", "_law_turn", "_law_sets", "_law_ways", "_law_rule"] ["_law_pool_here"] (defScope S_law_cache) := ⟨rfl, rfl, rfl, by decide +kernel, rfl, by decide +kernel, by decide +kernel⟩
abbrev S_law_heard : Stmt := top 35
theorem sc_law_heard : FnScope ["_law_line", "_law_levels", "e"] ["_law_line", "_law_levels"] (defScope S_law_heard) := ⟨rfl, rfl, rfl, by decide +kernel, rfl, by decide +kernel, by decide +kernel⟩
abbrev S_law_odd : Stmt := top 36
theorem sc_law_odd : FnScope ["_law_pool_here", "_law_found"] ["_law_pool_here"] (defScope S_law_odd) := ⟨rfl, rfl, rfl, by decide +kernel, rfl, by decide +kernel, by decide +kernel⟩
abbrev S_law_together : Stmt := top 37
theorem sc_law_together : FnScope ["_law_levels", "_law_found", "_law_sets", "_law_ways", "_law_rule", "_law_writes", "_law_many"] ["_law_levels"] (defScope S_law_together) := ⟨rfl, rfl, rfl, by decide +kernel, rfl, by decide +kernel, by decide +kernel⟩
abbrev S_law : Stmt := top 38
theorem sc_law : FnScope ["_law_script", "_law_odd_here", "_law_k", "_law_pool_here", "_law_line", "_law_levels", "_law_made", "_law_together_here", "_law_last", "_law_turn", "_law_at", "_law_bent", "_law_sets", "_law_wide", "_law_wider", "_law_due"] ["_law_script"] (defScope S_law) := ⟨rfl, rfl, rfl, by decide +kernel, rfl, by decide +kernel, by decide +kernel⟩

/-! ### values as data -/
def tyD : PyData → String
  | .none => "NoneType"
  | .bool _ => "bool"
  | .int _ => "int"
  | .str _ => "str"
  | .list _ => "list"
  | .tuple _ => "tuple"
  | .dict _ => "dict"
theorem TyX.lstT {K : PySem.W.Frag} {H : Hp} {a : Addr} {xs : List V} (h : SqL K H a xs) : TyX K H (.ref a) (.type "list") := by
  rcases h with (h | ⟨o, h⟩) | h
  · exact .base (.lst h)
  · exact .base (.frz h)
  · obtain ⟨o, its, n, h1, h2, _⟩ := h
    exact .kList h1 h2
theorem dp_ty {K : PySem.W.Frag} {H : Hp} {v : V} {d : PyData} (h : Dp K H v d) : TyX K H v (.type (tyD d)) := by
  cases h with
  | non => exact .base .non
  | bl b => exact .base (.bl b)
  | int i => exact .base (.int i)
  | str x => exact .base (.str x)
  | lst h1 h2 => exact TyX.lstT h1
  | tup h1 h2 => exact TyX.tupT h1
mutual
theorem Dp.keep {K : PySem.W.Frag} {H H' : Hp} (s : Same H H') : ∀ {v : V} {d : PyData}, Dp K H v d → Dp K H' v d
  | _, _, .non => .non
  | _, _, .bl b => .bl b
  | _, _, .int i => .int i
  | _, _, .str x => .str x
  | _, _, .lst h1 h2 => .lst (s.seq h1) (DpAll.keep s h2)
  | _, _, .tup h1 h2 => .tup (s.tup h1) (DpAll.keep s h2)
theorem DpAll.keep {K : PySem.W.Frag} {H H' : Hp} (s : Same H H') : ∀ {vs : List V} {ds : List PyData}, DpAll K H vs ds → DpAll K H' vs ds
  | _, _, .nil => .nil
  | _, _, .cons h1 h2 => .cons (Dp.keep s h1) (DpAll.keep s h2)
end
theorem DpAll.len {K : PySem.W.Frag} {H : Hp} : ∀ {vs : List V} {ds : List PyData}, DpAll K H vs ds → vs.length = ds.length
  | _, _, .nil => rfl
  | _, _, .cons _ h2 => by rw [List.length_cons, List.length_cons, DpAll.len h2]
theorem DpAll.at {K : PySem.W.Frag} {H : Hp} : ∀ {vs : List V} {ds : List PyData} {i : Nat} {v : V}, DpAll K H vs ds → vs[i]? = some v → ∃ d, ds[i]? = some d ∧ Dp K H v d
  | _, _, _, _, .nil, h => by simp at h
  | _, _, 0, _, .cons h1 _, h => by
    simp at h
    subst h
    exact ⟨_, rfl, h1⟩
  | _, _, i + 1, _, .cons _ h2, h => by
    obtain ⟨d, e, g⟩ := DpAll.at h2 (by simpa using h)
    exact ⟨d, by simpa using e, g⟩
/-! ### counts and levels -/
abbrev RUL : List Str := ["used", "brought", "second", "tree"]
abbrev WRT : List Str := ["back", "through"]
def isI : PyData → Bool
  | .int _ => true
  | _ => false
def cntD (d : PyData) (m : Int) : Bool := match d with
  | .int i => decide (1 ≤ i) && decide (i ≤ m)
  | _ => false
def lvlD : PyData → Bool
  | .tuple [a, b, .str r, .str w] => cntD a 8 && cntD b 4 && (RUL.contains r && (WRT.contains w && !(match b with | .int i => decide (i = 3) && decide (r = "tree") | _ => false)))
  | _ => false
structure ChB (mg : Str → Option Value) : Prop where
  is : mg "isinstance" = none
  int : mg "int" = none
  bool : mg "bool" = none
  tup : mg "tuple" = none
  str : mg "str" = none
  len : mg "len" = none
def spInt' (K : PySem.W.Frag) : Sp := fun vs H Q _ => ∃ (v : V) (d : PyData), vs = [v] ∧ Dp K H v d ∧ Q (.bl (isI d)) H
def spCnt (K : PySem.W.Frag) : Sp := fun vs H Q _ => ∃ (v : V) (d : PyData) (m : Int), vs = [v, .int m] ∧ Dp K H v d ∧ Q (.bl (cntD d m)) H
def spLvl (K : PySem.W.Frag) : Sp := fun vs H Q _ => ∃ (v : V) (d : PyData), vs = [v] ∧ Dp K H v d ∧ Q (.bl (lvlD d)) H
theorem strIn (z : Str) : ∀ l : List Str, inV (.str z) (l.map V.str) = l.contains z
  | [] => rfl
  | x :: l => by
    have ih := strIn z l
    unfold inV at ih ⊢
    rw [List.map_cons, List.any_cons, ih, List.contains_cons]
    congr 1
    simp only [eqV]
    first | rfl | exact Bool.beq_comm .. | (rw [Bool.eq_iff_iff]; simp [eq_comm])
theorem strFlat (l : List Str) : (l.map V.str).all flatV = true := by
  rw [List.all_map]
  exact List.all_eq_true.mpr fun _ _ => rfl
section
variable {P : Program} {w : World} {K : PySem.W.Frag} {mg : Str → Option Value} {base : Heap}
theorem ok_isint {f : Addr} {fd : FuncData} (F : Fun K "is_integer" "is_integer" S_is_integer f fd) (B : ChB mg) : FnOk P w K mg base CX0 1 f fd ["value"] (spInt' K) := by
  refine F.ok sc_is_integer (fun vs H Q E h => ?_) (fun cdv A outer s H vs Q E hr h => ?_)
  · obtain ⟨v, d, rfl, _⟩ := h; rfl
  · obtain ⟨v, d, rfl, hd, q⟩ := h
    refine ⟨_, pss_one (ps_ret (pe_and (pe_callB call_isi (by rfl) B.is (by decide +kernel) (pa_cons (pv 0) (pa_cons (pe_bltn (by rfl) B.int (u := .type "int") (v := .ty "int") (by decide +kernel) rfl) pa_nil)))
      (pe_one (pe_not (pe_callB call_isi (by rfl) B.is (by decide +kernel) (pa_cons (pv 0) (pa_cons (pe_bltn (by rfl) B.bool (u := .type "bool") (v := .ty "bool") (by decide +kernel) rfl) pa_nil))))))), ?_⟩
    have ty := dp_ty hd
    cases d with
    | none => exact ⟨_, rfl, v, .ty "int", .type "NoneType", .type "int", false, rfl, .ty _, ty, kit_ty (by decide +kernel), false, rfl, iteF q⟩
    | str x => exact ⟨_, rfl, v, .ty "int", .type "str", .type "int", false, rfl, .ty _, ty, kit_ty (by decide +kernel), false, rfl, iteF q⟩
    | list x => exact ⟨_, rfl, v, .ty "int", .type "list", .type "int", false, rfl, .ty _, ty, kit_ty (by decide +kernel), false, rfl, iteF q⟩
    | tuple x => exact ⟨_, rfl, v, .ty "int", .type "tuple", .type "int", false, rfl, .ty _, ty, kit_ty (by decide +kernel), false, rfl, iteF q⟩
    | dict x => exact ⟨_, rfl, v, .ty "int", .type "dict", .type "int", false, rfl, .ty _, ty, kit_ty (by decide +kernel), false, rfl, iteF q⟩
    | bool b => exact ⟨_, rfl, v, .ty "int", .type "bool", .type "int", true, rfl, .ty _, ty, kit_ty (by decide +kernel), true, rfl, iteT ⟨_, rfl, v, .ty "bool", .type "bool", .type "bool", true, rfl, .ty _, ty, kit_ty (by decide +kernel), true, rfl, q⟩⟩
    | int i => exact ⟨_, rfl, v, .ty "int", .type "int", .type "int", true, rfl, .ty _, ty, kit_ty (by decide +kernel), true, rfl, iteT ⟨_, rfl, v, .ty "bool", .type "int", .type "bool", false, rfl, .ty _, ty, kit_ty (by decide +kernel), false, rfl, q⟩⟩
theorem ok_count {f fI : Addr} {fd dI : FuncData} (F : Fun K "_is_count" "_is_count" S_is_count f fd) (FI : Fun K "is_integer" "is_integer" S_is_integer fI dI) (bI : Binds K dI ["value"] []) (gI : mg "is_integer" = some (.ref fI)) (B : ChB mg) : FnOk P w K mg base CX0 2 f fd ["value", "most"] (spCnt K) := by
  have GI : FnOk P w K mg base CX0 1 fI dI ["value"] (spInt' K) := ok_isint FI B
  refine F.ok sc_is_count (fun vs H Q E h => ?_) (fun cdv A outer s H vs Q E hr h => ?_)
  · obtain ⟨v, d, m, rfl, _⟩ := h; rfl
  · obtain ⟨v, d, m, rfl, hd, q⟩ := h
    refine ⟨_, pss_one (ps_ret (pe_and (pe_call GI hr (by rfl) gI FI.kp bI .nil pass0 (pa_cons (pv 0) pa_nil)) (pe_one (pe_chain op_le op_le pe_int (pv 0) (pv 1))))), ?_⟩
    refine ⟨_, rfl, v, d, rfl, hd, _, rfl, ?_⟩
    cases hd with
    | int i =>
      refine iteT ⟨_, rfl, 1, i, rfl, rfl, _, rfl, ?_⟩
      have e : cntD (.int i) m = (decide (1 ≤ i) && decide (i ≤ m)) := rfl
      rw [e] at q
      refine ite2 (fun h => ?_) (fun h => ?_)
      · rw [h, Bool.true_and] at q
        exact ⟨_, rfl, i, m, rfl, rfl, q⟩
      · rw [Bool.eq_false_iff.mpr h, Bool.false_and] at q
        exact q
    | non => exact iteF q
    | bl b => exact iteF q
    | str x => exact iteF q
    | lst h1 h2 => exact iteF q
    | tup h1 h2 => exact iteF q
end

end K12

namespace K12
open PySem L2 SZ VR VX StX RT
structure ChK (K : PySem.W.Frag) (mg : Str → Option Value) : Prop where
  rul : ∃ a, mg "_RULES" = some (.ref a) ∧ ∀ H, SqT K H a (RUL.map V.str)
  wrt : ∃ a, mg "_WRITES" = some (.ref a) ∧ ∀ H, SqT K H a (WRT.map V.str)
  cells : ∃ t, mg "_MOST_CELLS" = some (.int 8 t)
  lvls : ∃ t, mg "_MOST_LEVELS" = some (.int 3 t)
  sets : ∃ t, mg "_MOST_SETS" = some (.int 8 t)
  ways : ∃ t, mg "_MOST_WAYS" = some (.int 4 t)
  per : ∃ t, mg "_LONGEST_PERIOD" = some (.int 64 t)
theorem lvl_len {ds : List PyData} (h : ds.length ≠ 4) : lvlD (.tuple ds) = false := by
  unfold lvlD
  split
  · rename_i e
    injection e with e
    rw [e] at h
    exact absurd rfl h
  · rfl
def isS : PyData → Bool
  | .str _ => true
  | _ => false
theorem lvl_str {a b c d : PyData} (h : isS c = false ∨ isS d = false) : lvlD (.tuple [a, b, c, d]) = false := by
  cases c <;> cases d <;> first | rfl | (rcases h with h | h <;> cases h)
theorem kitS {K : PySem.W.Frag} : ∀ {d : PyData}, PySem.W.kitOne K (.type (tyD d)) (.type "str") = some (isS d)
  | .none => kit_ty (a := "NoneType") (r := false) (by decide +kernel)
  | .bool _ => kit_ty (a := "bool") (r := false) (by decide +kernel)
  | .int _ => kit_ty (a := "int") (r := false) (by decide +kernel)
  | .str _ => kit_ty (a := "str") (r := true) (by decide +kernel)
  | .list _ => kit_ty (a := "list") (r := false) (by decide +kernel)
  | .tuple _ => kit_ty (a := "tuple") (r := false) (by decide +kernel)
  | .dict _ => kit_ty (a := "dict") (r := false) (by decide +kernel)
def isT : PyData → Bool
  | .tuple _ => true
  | _ => false
theorem kitT {K : PySem.W.Frag} : ∀ {d : PyData}, PySem.W.kitOne K (.type (tyD d)) (.type "tuple") = some (isT d)
  | .none => kit_ty (a := "NoneType") (r := false) (by decide +kernel)
  | .bool _ => kit_ty (a := "bool") (r := false) (by decide +kernel)
  | .int _ => kit_ty (a := "int") (r := false) (by decide +kernel)
  | .str _ => kit_ty (a := "str") (r := false) (by decide +kernel)
  | .list _ => kit_ty (a := "list") (r := false) (by decide +kernel)
  | .tuple _ => kit_ty (a := "tuple") (r := true) (by decide +kernel)
  | .dict _ => kit_ty (a := "dict") (r := false) (by decide +kernel)
theorem four {α : Type} {l : List α} (h : l.length = 4) : ∃ a b c d, l = [a, b, c, d] := by
  match l, h with
  | [a, b, c, d], _ => exact ⟨a, b, c, d, rfl⟩
theorem dp_four {K : PySem.W.Frag} {H : Hp} {xs : List V} {a b c d : PyData} (h : DpAll K H xs [a, b, c, d]) : ∃ x y z u, xs = [x, y, z, u] ∧ Dp K H x a ∧ Dp K H y b ∧ Dp K H z c ∧ Dp K H u d := by
  cases h with
  | cons p0 r =>
    cases r with
    | cons p1 r =>
      cases r with
      | cons p2 r =>
        cases r with
        | cons p3 r =>
          cases r
          exact ⟨_, _, _, _, rfl, p0, p1, p2, p3⟩
theorem dp_isS {K : PySem.W.Frag} {H : Hp} {x : V} {d : PyData} (h : Dp K H x d) (e : isS d = true) : ∃ z, x = .str z ∧ d = .str z := by
  cases h with
  | str z => exact ⟨z, rfl, rfl⟩
  | _ => cases e
theorem dp_cnt {K : PySem.W.Frag} {H : Hp} {x : V} {d : PyData} {m : Int} (h : Dp K H x d) (e : cntD d m = true) : ∃ i, x = .int i ∧ d = .int i := by
  cases h with
  | int i => exact ⟨i, rfl, rfl⟩
  | _ => cases e
section
variable {P : Program} {w : World} {K : PySem.W.Frag} {mg : Str → Option Value} {base : Heap}
theorem ok_level {f fI fN : Addr} {fd dI dN : FuncData} (F : Fun K "_is_level" "_is_level" S_is_level f fd) (FN : Fun K "_is_count" "_is_count" S_is_count fN dN) (bN : Binds K dN ["value", "most"] []) (gN : mg "_is_count" = some (.ref fN)) (FI : Fun K "is_integer" "is_integer" S_is_integer fI dI) (bI : Binds K dI ["value"] []) (gI : mg "is_integer" = some (.ref fI)) (B : ChB mg) (D : ChK K mg) : FnOk P w K mg base CX0 3 f fd ["value"] (spLvl K) := by
  have GN : FnOk P w K mg base CX0 2 fN dN ["value", "most"] (spCnt K) := ok_count FN FI bI gI B
  obtain ⟨aR, mR, hR⟩ := D.rul
  obtain ⟨aW, mW, hW⟩ := D.wrt
  obtain ⟨tS, mS⟩ := D.sets
  obtain ⟨tY, mY⟩ := D.ways
  refine F.ok sc_is_level (fun vs H Q E h => ?_) (fun cdv A outer s H vs Q E hr h => ?_)
  · obtain ⟨v, d, rfl, _⟩ := h; rfl
  · obtain ⟨v, d, rfl, hd, q⟩ := h
    refine ⟨_, pss_cons (ps_if (PW.pt (pw_or (pt_not (pt_val (pe_callB call_isi (by rfl) B.is (by decide +kernel) (pa_cons (pv 0) (pa_cons (pe_bltn (by rfl) B.tup (u := .type "tuple") (v := .ty "tuple") (by decide +kernel) rfl) pa_nil)))))
        (pw_or1 (pt_cmpR op_ne (pe_callB call_len_seq (by rfl) B.len PySem.boot_len (pa_cons (pv 0) pa_nil)) pe_int (nomark _))))) (pss_one (ps_ret pe_bl)) pss_nil)
      (pss_cons (ps_asg (pv 0) (pg_tup rfl (pgs_cons (pg_name (i := 1) sc_is_level.nd rfl (Or.inl rfl)) (pgs_cons (pg_name (i := 2) sc_is_level.nd rfl (Or.inl rfl)) (pgs_cons (pg_name (i := 3) sc_is_level.nd rfl (Or.inl rfl)) (pgs_cons (pg_name (i := 4) sc_is_level.nd rfl (Or.inl rfl)) pgs_nil))))))
      (pss_cons (ps_if (PW.pt (pw_or (pt_not (pt_val (pe_call GN hr (by rfl) gN FN.kp bN .nil pass0 (pa_cons (pv 1) (pa_cons (pe_glob (by rfl) mS (v := .int 8) ⟨tS, rfl⟩) pa_nil)))))
        (pw_or1 (pt_not (pt_val (pe_call GN hr (by rfl) gN FN.kp bN .nil pass0 (pa_cons (pv 2) (pa_cons (pe_glob (by rfl) mY (v := .int 4) ⟨tY, rfl⟩) pa_nil)))))))) (pss_one (ps_ret pe_bl)) pss_nil)
      (pss_cons (ps_if (PW.pt (pw_or (pt_not (pt_val (pe_callB call_isi (by rfl) B.is (by decide +kernel) (pa_cons (pv 3) (pa_cons (pe_bltn (by rfl) B.str (u := .type "str") (v := .ty "str") (by decide +kernel) rfl) pa_nil)))))
        (pw_or1 (pt_not (pt_val (pe_callB call_isi (by rfl) B.is (by decide +kernel) (pa_cons (pv 4) (pa_cons (pe_bltn (by rfl) B.str (u := .type "str") (v := .ty "str") (by decide +kernel) rfl) pa_nil)))))))) (pss_one (ps_ret pe_bl)) pss_nil)
      (pss_one (ps_ret (pe_and (pe_cmpR op_in_seq (pv 3) (pe_glob (by rfl) mR (v := .ref aR) rfl) (by rfl)) (pe_and (pe_cmpR op_in_seq (pv 4) (pe_glob (by rfl) mW (v := .ref aW) rfl) (by rfl))
        (pe_one (pe_not (pe_and (pe_cmpR op_eq (pv 2) pe_int (nomark _)) (pe_one (pe_cmpR op_eq (pv 3) pe_str (nomark _))))))))))))), ?_⟩
    refine ⟨_, rfl, v, .ty "tuple", _, .type "tuple", isT d, rfl, .ty _, dp_ty hd, kitT, isT d, rfl, ?_⟩
    cases d with
    | none => exact iteT (iteT q)
    | bool x => exact iteT (iteT q)
    | int x => exact iteT (iteT q)
    | str x => exact iteT (iteT q)
    | list x => exact iteT (iteT q)
    | dict x => exact iteT (iteT q)
    | tuple ds =>
      cases hd with
      | @tup a xs _ h1 h2 =>
        refine iteF ?_
        have hl := DpAll.len h2
        refine ⟨_, rfl, a, xs, rfl, .inr h1, rfl, _, rfl, ?_⟩
        by_cases h4 : ds.length = 4
        · rw [decide_eq_true (p := V.int (xs.length : Int) = V.int 4) (by rw [hl, h4]; rfl)]
          refine iteF ?_
          obtain ⟨d0, d1, d2, d3, rfl⟩ : ∃ d0 d1 d2 d3, ds = [d0, d1, d2, d3] := four h4
          obtain ⟨x0, x1, x2, x3, rfl, p0, p1, p2, p3⟩ := dp_four h2
          · refine ⟨_, rfl, a, _, rfl, h1, rfl, _, _, rfl, _, _, rfl, _, _, rfl, _, _, rfl, rfl, ?_⟩
            refine ⟨_, rfl, x0, d0, 8, rfl, p0, _, rfl, ?_⟩
            cases c0 : cntD d0 8 with
            | false =>
              have e : lvlD (.tuple [d0, d1, d2, d3]) = false := by
                cases d2 <;> cases d3 <;> first | rfl | (show (cntD d0 8 && _ && _) = false; rw [c0]; rfl)
              rw [e] at q
              exact iteT (iteT q)
            | true =>
              refine iteF ⟨_, rfl, x1, d1, 4, rfl, p1, _, rfl, ?_⟩
              cases c1 : cntD d1 4 with
              | false =>
                have e : lvlD (.tuple [d0, d1, d2, d3]) = false := by
                  cases d2 <;> cases d3 <;> first | rfl | (show (cntD d0 8 && cntD d1 4 && _) = false; rw [c1, Bool.and_false]; rfl)
                rw [e] at q
                exact iteT q
              | true =>
                refine iteF ⟨_, rfl, x2, .ty "str", _, .type "str", _, rfl, .ty _, dp_ty p2, kitS, _, rfl, ?_⟩
                cases s2 : isS d2 with
                | false =>
                  rw [lvl_str (.inl s2)] at q
                  exact iteT (iteT q)
                | true =>
                  refine iteF ⟨_, rfl, x3, .ty "str", _, .type "str", _, rfl, .ty _, dp_ty p3, kitS, _, rfl, ?_⟩
                  cases s3 : isS d3 with
                  | false =>
                    rw [lvl_str (.inr s3)] at q
                    exact iteT q
                  | true =>
                    refine iteF ?_
                    obtain ⟨r, rfl, rfl⟩ := dp_isS p2 s2
                    obtain ⟨y, rfl, rfl⟩ := dp_isS p3 s3
                    obtain ⟨i, rfl, rfl⟩ := dp_cnt p1 c1
                    · · have e : lvlD (.tuple [d0, .int i, .str r, .str y]) = (RUL.contains r && (WRT.contains y && !(decide (i = 3) && decide (r = "tree")))) := by
                          show (cntD d0 8 && cntD (.int i) 4 && _) = _
                          rw [c0, c1]
                          rfl
                        rw [e] at q
                        refine ⟨_, rfl, aR, RUL.map V.str, rfl, .inr (hR H), rfl, strFlat _, _, rfl, ?_⟩
                        rw [strIn]
                        cases r1 : RUL.contains r with
                        | false => rw [r1] at q; exact iteF q
                        | true =>
                          rw [r1, Bool.true_and] at q
                          refine iteT ⟨_, rfl, aW, WRT.map V.str, rfl, .inr (hW H), rfl, strFlat _, _, rfl, ?_⟩
                          rw [strIn]
                          cases r2 : WRT.contains y with
                          | false => rw [r2] at q; exact iteF q
                          | true =>
                            rw [r2, Bool.true_and] at q
                            refine iteT ⟨_, rfl, rfl, _, rfl, ?_⟩
                            have ei : decide (V.int i = V.int 3) = decide (i = 3) := decide_eq_decide.mpr ⟨fun z => by injection z, fun z => by rw [z]⟩
                            have er : decide (V.str r = V.str (Str.ofString "tree")) = decide (r = "tree") := decide_eq_decide.mpr ⟨fun z => by injection z, fun z => by rw [z]⟩
                            rw [ei]
                            refine ite2 (fun h => ?_) (fun h => ?_)
                            · rw [h, Bool.true_and] at q
                              refine ⟨_, rfl, rfl, _, rfl, ?_⟩
                              rw [er]
                              exact q
                            · rw [Bool.eq_false_iff.mpr h, Bool.false_and] at q
                              exact ⟨_, rfl, q⟩
        · rw [decide_eq_false (p := V.int (xs.length : Int) = V.int 4) (fun z => h4 (by injection z with z; omega))]
          rw [lvl_len h4] at q
          exact iteT q
end

end K12

namespace K12
open PySem L2 SZ VR VX StX RT
/-! ### levels that are none; a cache -/
def badL : PyData → Option PyData
  | .tuple ds => if 1 ≤ ds.length ∧ ds.length ≤ 3 then ds.find? (fun d => !lvlD d) else some (.tuple ds)
  | d => some d
def OutV (CV : Addr) (H : Hp) (v : V) (E : XK) : Prop := ∀ (d : Addr) (H' : Hp), Same H H' → H' d = some (.xd [("value", v)]) → E (.ref CV) (some d) H'
def OutT (CT : Addr) (H : Hp) (x : Str) (E : XK) : Prop := ∀ (d : Addr) (H' : Hp), Same H H' → H' d = some (.xd [("word", .str x)]) → E (.ref CT) (some d) H'
theorem OutV.same {CV : Addr} {H H1 : Hp} {v : V} {E : XK} (h : OutV CV H v E) (s : Same H H1) : OutV CV H1 v E := fun d H' s' e => h d H' (s.trans s') e
theorem OutT.same {CV : Addr} {H H1 : Hp} {v : Str} {E : XK} (h : OutT CV H v E) (s : Same H H1) : OutT CV H1 v E := fun d H' s' e => h d H' (s.trans s') e
def spChk (K : PySem.W.Frag) (CI : Addr) : Sp := fun vs H Q E => ∃ (v : V) (d : PyData), vs = [v] ∧ Dp K H v d ∧ (badL d = none → Q .non H) ∧ ∀ b, badL d = some b → ∀ x : V, Dp K H x b → OutV CI H x E
/-- raise InvalidSyntax(position) and its like: the class and its __init__ -/
structure SxC (P : Program) (w : World) (K : PySem.W.Frag) (mg : Str → Option Value) (base : Heap) (x : Str) (C : Addr) (f : Str) : Prop where
  O : OexC K C
  m : mg x = some (.ref C)
  i : ∃ (fI : Addr) (fd : FuncData), PySem.W.findIn K (.ref C) "__init__" = some (some (.ref fI)) ∧ PySem.W.typeIn K (.ref fI) = some (.type "function") ∧ FnOk P w K mg base CX0 1 fI fd [("self" : Str), f] (spOx K C f) ∧ Binds K fd [("self" : Str), f] []
def tMono (te : TE) : TE := fun σ H Q => ∃ Q0 : VK, te σ H Q0 ∧ ∀ v H1, Q0 v H1 → Q v H1
theorem pe_tMono {X : Cx} {e : Expr} {te : TE} (he : PE X e te) : PE X e (tMono te) := ⟨fun pins s σ H Q I ⟨Q0, h, k⟩ => wpAny_mono (he.run pins s σ H Q0 I h) (fun u s' ⟨x, H1, I1, r, q⟩ => ⟨x, H1, I1, r, k _ _ q⟩) fun _ _ z => z⟩
def tRaiseX (C : Addr) (f : Str) (te : TE) (W : WX) : TS := fun _ σ H => te σ H fun v H1 => ∀ (d : Addr) (H' : Hp), H1 d = none → Same H1 H' → H' d = some (.xd [(f, v)]) → W (.ref C) (some d) σ H'
theorem ps_raiseX {X : Cx} {W : WX} {x : Str} {C : Addr} {f : Str} {e : Expr} {te : TE} {p cpos pos : Pos} (G : SxC X.prog X.w X.K X.mg X.base x C f) (hc : X.calm = true) (tk : Takes X W) (hr : Room 2 X.A) (he : PE X e te) (hg : Gl X x := by rfl) (hdb : (x == ("__debug__" : Str)) = false := by decide)
    (hs : starEach [e] X.env = (false, eval e X.env) :: starEach [] X.env := by rfl) : PS X (.Raise (some (.Call (.Name x p) [e] [] cpos)) none pos) (tRaiseX C f te W) := by
  obtain ⟨fI, fd, iC, tI, F, b⟩ := G.i
  have h := ps_raise (pos := pos) hc tk (pmk_oex (ta := tCons (tMono te) tNil) (es := []) (p := p) (pos := cpos) (dvs := []) (ds := []) G.O iC tI F hr b .nil pass0 hg G.m (pa_cons (pe_tMono he) pa_nil hs) hdb hs (by rfl))
  refine ⟨fun pins s σ H D I q => h.run pins s σ H D I ⟨_, q, fun v H1 k => ⟨by simp, fun a ha => ⟨a, v, rfl, upd_same, fun dx h1 h2 => ?_⟩⟩⟩⟩
  have hd : H1 dx = none := by rw [upd_ne h2] at h1; exact h1
  refine ⟨rfl, dx, [(f, v)], upd_same, by rw [upd_ne h2, upd_same], hd, k dx _ hd (fun b o e => ?_) upd_same⟩
  have b1 : b ≠ a := ne_of_none e ha
  have b2 : b ≠ dx := ne_of_none e hd
  rw [upd_ne b2, del_ne b1, upd_ne b1, upd_ne b2, upd_ne b1]
  exact e
theorem find_first {ds : List PyData} {i : Nat} {d : PyData} (h : ∀ x ∈ ds.take i, lvlD x = true) (hi : ds[i]? = some d) (hd : lvlD d = false) : ds.find? (fun d => !lvlD d) = some d := by
  have e : ds = ds.take i ++ d :: ds.drop (i + 1) := by
    have hl : i < ds.length := (List.getElem?_eq_some_iff.mp hi).1
    have hx : ds[i] = d := by
      rw [List.getElem?_eq_getElem hl] at hi
      exact Option.some.inj hi
    rw [← hx, ← List.drop_eq_getElem_cons hl, List.take_append_drop]
  rw [e, List.find?_append]
  have h1 : (ds.take i).find? (fun d => !lvlD d) = none := List.find?_eq_none.mpr fun x hx => by rw [h x hx]; decide
  rw [h1, List.find?_cons, hd]
  rfl
theorem find_none {ds : List PyData} (h : ∀ x ∈ ds, lvlD x = true) : ds.find? (fun d => !lvlD d) = none := List.find?_eq_none.mpr fun x hx => by rw [h x hx]; decide
def setsN : PyData → Nat
  | .tuple (.int s :: _) => s.natAbs
  | _ => 1
def togN (ds : List PyData) : Nat := ds.foldl (fun t d => Nat.lcm t (setsN d)) 1
theorem lvl_sets {d : PyData} (h : lvlD d = true) : ∃ (i j : Int) (r y : Str), d = .tuple [.int i, .int j, .str r, .str y] ∧ 1 ≤ i ∧ i ≤ 8 := by
  unfold lvlD at h
  split at h
  · rename_i a b r y
    rw [Bool.and_eq_true, Bool.and_eq_true] at h
    obtain ⟨⟨h1, h2⟩, _⟩ := h
    cases a with
    | int i =>
      cases b with
      | int j =>
        have h1 : (decide (1 ≤ i) && decide (i ≤ 8)) = true := h1
        rw [Bool.and_eq_true, decide_eq_true_iff, decide_eq_true_iff] at h1
        exact ⟨i, j, r, y, rfl, h1.1, h1.2⟩
      | _ => cases h2
    | _ => cases h1
  · cases h
theorem badL_none {d : PyData} (h : badL d = none) : ∃ ds, d = .tuple ds ∧ 1 ≤ ds.length ∧ ds.length ≤ 3 ∧ ∀ x ∈ ds, lvlD x = true := by
  cases d with
  | tuple ds =>
    have h : (if 1 ≤ ds.length ∧ ds.length ≤ 3 then ds.find? (fun d => !lvlD d) else some (.tuple ds)) = none := h
    split at h
    · rename_i hl
      refine ⟨ds, rfl, hl.1, hl.2, fun x hx => ?_⟩
      have := List.find?_eq_none.mp h x hx
      simpa using this
    · cases h
  | _ => cases h
theorem take_snoc {α : Type} {l : List α} {i : Nat} {x : α} (h : l[i]? = some x) : l.take (i + 1) = l.take i ++ [x] := by rw [List.take_add_one, h]; rfl
section
variable {P : Program} {w : World} {K : PySem.W.Frag} {mg : Str → Option Value} {base : Heap} {C CI CT : Addr}
theorem ok_check {f fL : Addr} {fd dL : FuncData} (F : Fun K "_check_levels" "_check_levels" S_check_levels f fd) (GL : FnOk P w K mg base CX0 3 fL dL ["value"] (spLvl K)) (kL : PySem.W.keepIn K (.ref fL) = true) (bL : Binds K dL ["value"] []) (gL : mg "_is_level" = some (.ref fL)) (B : ChB mg) (D : ChK K mg) (G : SxC P w K mg base "InvalidCache" CI "value") :
    FnOk P w K mg base (L2.CX P w) 4 f fd ["levels"] (spChk K CI) := by
  obtain ⟨t3, m3⟩ := D.lvls
  refine F.okX sc_check_levels (fun vs H Q E h => ?_) (fun cdv A outer s H vs Q E hr h => ?_)
  · obtain ⟨v, d, rfl, _⟩ := h; rfl
  · obtain ⟨v, d, rfl, hd, q1, q2⟩ := h
    have hr2 : Room 2 _ := hr.mono (by decide)
    refine ⟨_, pss_cons (ps_if (PW.pt (pw_or (pt_not (pt_val (pe_callB call_isi (by rfl) B.is (by decide +kernel) (pa_cons (pv 0) (pa_cons (pe_bltn (by rfl) B.tup (u := .type "tuple") (v := .ty "tuple") (by decide +kernel) rfl) pa_nil)))))
        (pw_or1 (pt_not (pt_chain op_le op_le pe_int (pe_callB call_len_seq (by rfl) B.len PySem.boot_len (pa_cons (pv 0) pa_nil)) (pe_glob (by rfl) m3 (v := .int 3) ⟨t3, rfl⟩))))))
        (pss_one (ps_raiseX G rfl (takes_of rfl rfl rfl rfl) hr2 (pv 0))) pss_nil)
      (pss_one (ps_for (passes_of rfl) rfl (pi_tup (pv 0)) (pg_name (i := 1) sc_check_levels.nd rfl (Or.inl rfl))
        (pss_one (ps_if (pt_not (pt_val (pe_call GL hr (by rfl) gL kL bL .nil pass0 (pa_cons (pv 1) pa_nil)))) (pss_one (ps_raiseX G rfl (takes_of rfl rfl rfl rfl) hr2 (pv 1))) pss_nil)))), ?_⟩
    have bad0 : badL d = some d → tRaiseX CI "value" (tVar 0) (fun cls d _ H => E cls d H) { nx := fun _ H' => Q .non H', rt := Q } [some v, none] H := fun e => ⟨_, rfl, fun dd H' hd' s1 h1 => q2 d e v hd dd H' s1 h1⟩
    refine ⟨_, rfl, v, .ty "tuple", _, .type "tuple", isT d, rfl, .ty _, dp_ty hd, kitT, isT d, rfl, ?_⟩
    cases d with
    | none => exact iteT (iteT (bad0 rfl))
    | bool x => exact iteT (iteT (bad0 rfl))
    | int x => exact iteT (iteT (bad0 rfl))
    | str x => exact iteT (iteT (bad0 rfl))
    | list x => exact iteT (iteT (bad0 rfl))
    | dict x => exact iteT (iteT (bad0 rfl))
    | tuple ds =>
      cases hd with
      | @tup a xs _ h1 h2 =>
        refine iteF ?_
        have hl := DpAll.len h2
        refine ⟨_, rfl, a, xs, rfl, .inr h1, 1, _, rfl, rfl, _, rfl, ?_⟩
        have eB : ¬ (1 ≤ ds.length ∧ ds.length ≤ 3) → badL (.tuple ds) = some (.tuple ds) := fun n => if_neg n
        have go : 1 ≤ ds.length ∧ ds.length ≤ 3 → tFor (iTup K (tVar 0)) (gName 1) (tIfS (tNot (tB (tCall (spLvl K) [] E0 (tCons (tVar 1) tNil)))) (tRaiseX CI "value" (tVar 1) (fun cls d _ H => E cls d H)) tNext) { nx := fun _ H' => Q .non H', rt := Q } [some (.ref a), none] H := fun n => by
          refine ⟨_, rfl, a, rfl, ⟨_, h1⟩, for_tup (xs := xs) (fun i σ H' => ∃ v1, σ = [some (.ref a), v1] ∧ H' = H ∧ ∀ x ∈ ds.take i, lvlD x = true) ⟨none, rfl, rfl, fun x hx => by rw [List.take_zero] at hx; cases hx⟩ (fun i σ H' _ ⟨_, _, e, _⟩ => by rw [e]; exact h1) ?_ ?_⟩
          · rintro i x σ H' hx ⟨v1, rfl, rfl, hok⟩
            obtain ⟨di, hdi, hdx⟩ := DpAll.at h2 hx
            refine ⟨_, rfl, x, di, rfl, hdx, _, rfl, ?_⟩
            cases hL : lvlD di with
            | true =>
              refine iteF ⟨_, rfl, rfl, fun y hy => ?_⟩
              rw [take_snoc hdi] at hy
              rcases List.mem_append.mp hy with hy | hy
              · exact hok y hy
              · rw [List.mem_singleton.mp hy]; exact hL
            | false =>
              refine iteT ⟨_, rfl, fun dd H2 hd' s1 h1 => ?_⟩
              refine q2 di ?_ x hdx dd H2 s1 h1
              show (if 1 ≤ ds.length ∧ ds.length ≤ 3 then ds.find? (fun d => !lvlD d) else some (.tuple ds)) = _
              rw [if_pos n]
              exact find_first hok hdi hL
          · rintro σ H' ⟨v1, rfl, rfl, hok⟩
            rw [hl, List.take_length] at hok
            refine q1 ?_
            show (if 1 ≤ ds.length ∧ ds.length ≤ 3 then ds.find? (fun d => !lvlD d) else some (.tuple ds)) = _
            rw [if_pos n]
            exact find_none hok
        refine ite2 (fun h => ?_) (fun h => ?_)
        · refine ⟨_, _, rfl, rfl, _, rfl, ?_⟩
          have g1 : 1 ≤ ds.length := by have := of_decide_eq_true h; omega
          by_cases g3 : ds.length ≤ 3
          · rw [decide_eq_true (p := (xs.length : Int) ≤ 3) (by omega)]
            exact iteF (go ⟨g1, g3⟩)
          · rw [decide_eq_false (p := (xs.length : Int) ≤ 3) (by omega)]
            exact iteT (bad0 (eB fun z => g3 z.2))
        · refine ⟨_, rfl, iteT (bad0 (eB fun z => h (decide_eq_true (by omega))))⟩
end

end K12

namespace K12
open PySem L2 SZ VR VX StX RT
/-! ### Cache -/
def ButR (R : Addr) (H H' : Hp) : Prop := ∀ b o, H b = some o → b ≠ R → H' b = some o
theorem togN_snoc {ds : List PyData} {i : Nat} {d : PyData} (h : ds[i]? = some d) : togN (ds.take (i + 1)) = Nat.lcm (togN (ds.take i)) (setsN d) := by
  unfold togN
  rw [take_snoc h, List.foldl_append]
  rfl
theorem togN_le {ds : List PyData} (h : ∀ x ∈ ds, lvlD x = true) : ∀ i, i ≤ ds.length → togN (ds.take i) ≤ 8 ^ i := by
  intro i
  induction i with
  | zero => intro _; simp [togN]
  | succ i ih =>
    intro hi
    have hx : ds[i]? = some ds[i] := List.getElem?_eq_getElem hi
    rw [togN_snoc hx]
    obtain ⟨a, b, r, y, e, h1, h2⟩ := lvl_sets (h _ (List.getElem_mem hi))
    have hs : setsN ds[i] ≤ 8 := by
      rw [e]
      show a.natAbs ≤ 8
      omega
    have := ih (by omega)
    have h3 := PySem.W.mc_lcm_le (togN (ds.take i)) (setsN ds[i])
    have h4 : togN (ds.take i) * setsN ds[i] ≤ 8 ^ i * 8 := Nat.mul_le_mul this hs
    rw [Nat.pow_succ]
    omega
/-- a cache stands at a: its line and its levels -/
def ChAt (K : PySem.W.Frag) (C : Addr) (H : Hp) (a : Addr) (ln : Int) (ds : List PyData) : Prop := ∃ (dx : Addr) (lv : V), H a = some (.ins C dx [("_line", .int ln), ("_levels", lv), ("_together", .int (togN ds : Int))]) ∧ Dp K H lv (.tuple ds)
theorem ChAt.same {K : PySem.W.Frag} {C : Addr} {H H' : Hp} {a : Addr} {ln : Int} {ds : List PyData} (h : ChAt K C H a ln ds) (s : Same H H') : ChAt K C H' a ln ds := let ⟨dx, lv, h1, h2⟩ := h; ⟨dx, lv, s _ _ h1, Dp.keep s h2⟩
def spCInit (K : PySem.W.Frag) (C CI CT : Addr) : Sp := fun vs H Q E => ∃ (p dx : Addr) (l lv : V) (dl dv : PyData), vs = [.ref p, l, lv] ∧ H p = some (.ins C dx []) ∧ Dp K H l dl ∧ Dp K H lv dv ∧
  (cntD dl 8 = false → OutV CI H l E) ∧ (cntD dl 8 = true → ∀ b, badL dv = some b → ∀ x : V, Dp K H x b → OutV CI H x E) ∧
  (∀ ln ds, dl = .int ln → dv = .tuple ds → cntD (.int ln) 8 = true → badL (.tuple ds) = none → (64 < (togN ds : Int) * ln → OutT CT H "period" E) ∧
    ((togN ds : Int) * ln ≤ 64 → ∀ H', ButR p H H' → H' p = some (.ins C dx [("_line", l), ("_levels", lv), ("_together", .int (togN ds : Int))]) → Q .non H'))
/-- what the class says -/
structure ChC (K : PySem.W.Frag) (mg : Str → Option Value) (C : Addr) : Prop where
  kit : InsKit K C
  nL : NoAttr K C "_line"
  nV : NoAttr K C "_levels"
  nT : NoAttr K C "_together"
  isC : PySem.W.isClsIn K C = true
  tyC : PySem.W.typeIn K (.ref C) = some (.type "type")
  mgC : mg "Cache" = some (.ref C)
section
variable {P : Program} {w : World} {K : PySem.W.Frag} {mg : Str → Option Value} {base : Heap} {C CI CT : Addr}
theorem ok_cinit {f fN fK : Addr} {fd dN dK : FuncData} (F : Fun K "__init__" "Cache.__init__" S_Cache___init__ f fd) (GN : FnOk P w K mg base CX0 2 fN dN ["value", "most"] (spCnt K)) (kN : PySem.W.keepIn K (.ref fN) = true) (bN : Binds K dN ["value", "most"] []) (gN : mg "_is_count" = some (.ref fN))
    (GK : FnOk P w K mg base (L2.CX P w) 4 fK dK ["levels"] (spChk K CI)) (kK : PySem.W.keepIn K (.ref fK) = true) (bK : Binds K dK ["levels"] []) (gK : mg "_check_levels" = some (.ref fK)) (mL : mg "lcm" = some (.builtin "math.lcm")) (D : ChK K mg) (Z : ChC K mg C)
    (G : SxC P w K mg base "InvalidCache" CI "value") (GT : SxC P w K mg base "TooLarge" CT "word") : FnOk P w K mg base (L2.CX P w) 5 f fd ["self", "line", "levels"] (spCInit K C CI CT) := by
  obtain ⟨t8, m8⟩ := D.cells
  obtain ⟨tP, mP⟩ := D.per
  refine F.okX sc_Cache___init__ (fun vs H Q E h => ?_) (fun cdv A outer s H vs Q E hr h => ?_)
  · obtain ⟨p, dx, l, lv, dl, dv, rfl, _⟩ := h; rfl
  · obtain ⟨p, dx, l, lv, dl, dv, rfl, hp, hl, hv, q1, q2, q3⟩ := h
    have hr2 : Room 2 _ := hr.mono (by decide)
    refine ⟨_, pss_cons (ps_if (pt_not (pt_val (pe_call GN hr2 (by rfl) gN kN bN .nil pass0 (pa_cons (pv 1) (pa_cons (pe_glob (by rfl) m8 (v := .int 8) ⟨t8, rfl⟩) pa_nil))))) (pss_one (ps_raiseX G rfl (takes_of rfl rfl rfl rfl) hr2 (pv 1))) pss_nil)
      (pss_cons (ps_expr (pe_call GK hr (by rfl) gK kK bK .nil (passes_call (takes_of rfl rfl rfl rfl) (fun _ _ _ _ h => h)) (pa_cons (pv 2) pa_nil)))
      (pss_cons (ps_set (i := 3) sc_Cache___init__.nd rfl (Or.inl rfl) pe_int)
      (pss_cons (ps_for (passes_of rfl) rfl (pi_tup (pv 2)) (pg_tup rfl (pgs_cons (pg_name (i := 4) sc_Cache___init__.nd rfl (Or.inl rfl)) (pgs_cons (pg_name (i := 5) sc_Cache___init__.nd rfl (Or.inl rfl)) (pgs_cons (pg_name (i := 5) sc_Cache___init__.nd rfl (Or.inl rfl)) (pgs_cons (pg_name (i := 5) sc_Cache___init__.nd rfl (Or.inl rfl)) pgs_nil)))))
        (pss_one (ps_set (i := 3) sc_Cache___init__.nd rfl (Or.inl rfl) (pe_callBfun cr_lcm (by rfl) mL (pa_cons (pv 3) (pa_cons (pv 4) pa_nil))))))
      (pss_cons (ps_if (pt_cmpR op_gt (pe_op op_mul (pv 3) (pv 1)) (pe_glob (by rfl) mP (v := .int 64) ⟨tP, rfl⟩) (nomark _)) (pss_one (ps_raiseX GT rfl (takes_of rfl rfl rfl rfl) hr2 pe_str)) pss_nil)
      (pss_cons (ps_fld (pv 0) (pv 1) rfl) (pss_cons (ps_fld (pv 0) (pv 2) rfl) (pss_one (ps_fld (pv 0) (pv 3) rfl)))))))), ?_⟩
    refine ⟨_, rfl, l, dl, 8, rfl, hl, _, rfl, ?_⟩
    cases c1 : cntD dl 8 with
    | false => exact iteT ⟨_, rfl, fun d H' hd s1 h1 => q1 c1 d H' s1 h1⟩
    | true =>
      refine iteF ⟨_, rfl, lv, dv, rfl, hv, fun b1 => ?_, fun b eb x hx => q2 c1 b eb x hx⟩
      obtain ⟨ln, rfl, rfl⟩ := dp_cnt hl c1
      obtain ⟨ds, rfl, n1, n3, hok⟩ := badL_none b1
      obtain ⟨q4, q5⟩ := q3 ln ds rfl rfl c1 b1
      cases hv with
      | @tup a xs _ h1 h2 =>
        have hlen := DpAll.len h2
        have c2 : 1 ≤ ln ∧ ln ≤ 8 := by
          have c1 : (decide (1 ≤ ln) && decide (ln ≤ 8)) = true := c1
          rw [Bool.and_eq_true, decide_eq_true_iff, decide_eq_true_iff] at c1
          exact c1
        have tl := togN_le hok
        have p8 : ∀ i, i ≤ 3 → (8 : Nat) ^ i ≤ 512 := fun i hi => Nat.le_trans (Nat.pow_le_pow_right (by decide) hi) (by decide)
        refine ⟨_, rfl, a, rfl, ⟨_, h1⟩, for_tup (xs := xs) (fun i σ H' => ∃ v4 v5, σ = [some (.ref p), some (.int ln), some (.ref a), some (.int (togN (ds.take i) : Int)), v4, v5] ∧ H' = H) ⟨none, none, rfl, rfl⟩ (fun i σ H' _ ⟨_, _, _, e⟩ => by rw [e]; exact h1) ?_ ?_⟩
        · rintro i x σ H' hx ⟨v4, v5, rfl, rfl⟩
          obtain ⟨di, hdi, hdx⟩ := DpAll.at h2 hx
          obtain ⟨u, j, r, y, rfl, u1, u8⟩ := lvl_sets (hok di (List.mem_of_getElem? hdi))
          have hi : i < ds.length := (List.getElem?_eq_some_iff.mp hdi).1
          cases hdx with
          | @tup t ys _ g1 g2 =>
            obtain ⟨x0, x1, x2, x3, rfl, p0, p1, p2, p3⟩ := dp_four g2
            cases p0
            have b1' := tl i (by omega)
            have b2' := p8 i (by omega)
            refine ⟨t, _, rfl, g1, rfl, _, _, rfl, _, _, rfl, _, _, rfl, _, _, rfl, rfl, ?_⟩
            refine ⟨_, rfl, _, rfl, _, u, rfl, by rw [Int.natAbs_natCast]; omega, by omega, ?_⟩
            refine ⟨some (.int u), some x3, ?_, rfl⟩
            rw [Int.natAbs_natCast, togN_snoc hdi]
            rfl
        · rintro σ H' ⟨v4, v5, rfl, rfl⟩
          rw [hlen, List.take_length]
          have b1' := tl ds.length (Nat.le_refl _)
          have b2' := p8 ds.length n3
          rw [List.take_length] at b1'
          refine ⟨_, rfl, _, rfl, _, _, rfl, rfl, .inl ⟨by omega, by omega⟩, _, _, rfl, rfl, _, rfl, ?_⟩
          by_cases h64 : 64 < (togN ds : Int) * ln
          · rw [decide_eq_true (p := (64 : Int) < (togN ds : Int) * ln) h64]
            exact iteT fun d H2 hd s1 e1 => q4 h64 d H2 s1 e1
          · rw [decide_eq_false (p := (64 : Int) < (togN ds : Int) * ln) h64]
            refine iteF ?_
            refine ⟨_, rfl, _, rfl, p, C, dx, [], rfl, hp, Z.kit.cl, Z.nL, (by show 0 < 1000; decide), ?_⟩
            refine ⟨_, rfl, _, rfl, p, C, dx, _, rfl, upd_same, Z.kit.cl, Z.nV, (by show 1 < 1000; decide), ?_⟩
            refine ⟨_, rfl, _, rfl, p, C, dx, _, rfl, upd_same, Z.kit.cl, Z.nT, (by show 2 < 1000; decide), ?_⟩
            refine q5 (by omega) _ (fun b o e n => by rw [upd_ne n, upd_ne n, upd_ne n]; exact e) ?_
            rw [upd_same]
            rfl
end

end K12

namespace K12
open PySem L2 SZ VR VX StX RT
/-! ### what a cache tells -/
def spLine (K : PySem.W.Frag) (C : Addr) : Sp := fun vs H Q _ => ∃ (a : Addr) (ln : Int) (ds : List PyData), vs = [.ref a] ∧ ChAt K C H a ln ds ∧ Q (.int ln) H
def spLevels (K : PySem.W.Frag) (C : Addr) : Sp := fun vs H Q _ => ∃ (a : Addr) (ln : Int) (ds : List PyData), vs = [.ref a] ∧ ChAt K C H a ln ds ∧ ∀ lv, Dp K H lv (.tuple ds) → Q lv H
def spTog (K : PySem.W.Frag) (C : Addr) : Sp := fun vs H Q _ => ∃ (a : Addr) (ln : Int) (ds : List PyData), vs = [.ref a] ∧ ChAt K C H a ln ds ∧ Q (.int (togN ds : Int)) H
def spPer (K : PySem.W.Frag) (C : Addr) : Sp := fun vs H Q _ => ∃ (a : Addr) (ln : Int) (ds : List PyData), vs = [.ref a] ∧ ChAt K C H a ln ds ∧ 1 ≤ ln ∧ ln ≤ 8 ∧ Q (.int ((togN ds : Int) * ln)) H
def spCLen (K : PySem.W.Frag) (C : Addr) : Sp := fun vs H Q _ => ∃ (a : Addr) (ln : Int) (ds : List PyData), vs = [.ref a] ∧ ChAt K C H a ln ds ∧ Q (.int (ds.length : Int)) H
def spCEq (K : PySem.W.Frag) (C : Addr) : Sp := fun vs H Q _ => ∃ (a : Addr) (y : V) (ln : Int) (ds : List PyData), vs = [.ref a, y] ∧ ChAt K C H a ln ds ∧ SeqAt.shaped (.tuple ds) = true ∧
  ((∃ (b : Addr) (ln' : Int) (ds' : List PyData), y = .ref b ∧ ChAt K C H b ln' ds' ∧ SeqAt.shaped (.tuple ds') = true ∧ Q (.bl (decide (ln = ln') && PyData.eqv (.tuple ds) (.tuple ds'))) H) ∨
   ∃ t, TyX K H y t ∧ (t == .ref C) = false ∧ PySem.W.subIn K t (.ref C) = some false ∧ Q (.bl false) H)
section
variable {P : Program} {w : World} {K : PySem.W.Frag} {mg : Str → Option Value} {base : Heap} {C : Addr}
theorem ok_line {f : Addr} {fd : FuncData} (F : Fun K "line" "Cache.line" S_Cache_line f fd) (Z : ChC K mg C) : FnOk P w K mg base CX0 1 f fd ["self"] (spLine K C) := by
  refine F.ok sc_Cache_line (fun vs H Q E h => ?_) (fun cdv A outer s H vs Q E hr h => ?_)
  · obtain ⟨a, ln, ds, rfl, _⟩ := h; rfl
  · obtain ⟨a, ln, ds, rfl, ⟨dx, lv, ha, hd⟩, q⟩ := h
    exact ⟨_, pss_one (ps_ret (pe_fld (pv 0) rfl)), _, rfl, a, C, dx, _, _, rfl, ha, Z.kit.cl, Z.nL, rfl, q⟩
theorem ok_levels {f : Addr} {fd : FuncData} (F : Fun K "levels" "Cache.levels" S_Cache_levels f fd) (Z : ChC K mg C) : FnOk P w K mg base CX0 1 f fd ["self"] (spLevels K C) := by
  refine F.ok sc_Cache_levels (fun vs H Q E h => ?_) (fun cdv A outer s H vs Q E hr h => ?_)
  · obtain ⟨a, ln, ds, rfl, _⟩ := h; rfl
  · obtain ⟨a, ln, ds, rfl, ⟨dx, lv, ha, hd⟩, q⟩ := h
    exact ⟨_, pss_one (ps_ret (pe_fld (pv 0) rfl)), _, rfl, a, C, dx, _, _, rfl, ha, Z.kit.cl, Z.nV, rfl, q lv hd⟩
theorem ok_together {f : Addr} {fd : FuncData} (F : Fun K "sets_together" "Cache.sets_together" S_Cache_sets_together f fd) (Z : ChC K mg C) : FnOk P w K mg base CX0 1 f fd ["self"] (spTog K C) := by
  refine F.ok sc_Cache_sets_together (fun vs H Q E h => ?_) (fun cdv A outer s H vs Q E hr h => ?_)
  · obtain ⟨a, ln, ds, rfl, _⟩ := h; rfl
  · obtain ⟨a, ln, ds, rfl, ⟨dx, lv, ha, hd⟩, q⟩ := h
    exact ⟨_, pss_one (ps_ret (pe_fld (pv 0) rfl)), _, rfl, a, C, dx, _, _, rfl, ha, Z.kit.cl, Z.nT, rfl, q⟩
theorem ok_period {f : Addr} {fd : FuncData} (F : Fun K "period" "Cache.period" S_Cache_period f fd) (Z : ChC K mg C) : FnOk P w K mg base CX0 1 f fd ["self"] (spPer K C) := by
  refine F.ok sc_Cache_period (fun vs H Q E h => ?_) (fun cdv A outer s H vs Q E hr h => ?_)
  · obtain ⟨a, ln, ds, rfl, _⟩ := h; rfl
  · obtain ⟨a, ln, ds, rfl, ⟨dx, lv, ha, hd⟩, l1, l8, q⟩ := h
    exact ⟨_, pss_one (ps_ret (pe_op op_mul (pe_fld (pv 0) rfl) (pe_fld (pv 0) rfl))), _, rfl, a, C, dx, _, _, rfl, ha, Z.kit.cl, Z.nT, rfl, _, rfl, a, C, dx, _, _, rfl, ha, Z.kit.cl, Z.nL, rfl, _, _, rfl, rfl, .inr ⟨by omega, by omega⟩, q⟩
theorem ok_clen {f : Addr} {fd : FuncData} (F : Fun K "__len__" "Cache.__len__" S_Cache___len__ f fd) (Z : ChC K mg C) (B : ChB mg) : FnOk P w K mg base CX0 1 f fd ["self"] (spCLen K C) := by
  refine F.ok sc_Cache___len__ (fun vs H Q E h => ?_) (fun cdv A outer s H vs Q E hr h => ?_)
  · obtain ⟨a, ln, ds, rfl, _⟩ := h; rfl
  · obtain ⟨a, ln, ds, rfl, ⟨dx, lv, ha, hd⟩, q⟩ := h
    cases hd with
    | @tup t xs _ h1 h2 =>
      refine ⟨_, pss_one (ps_ret (pe_callB call_len_seq (by rfl) B.len PySem.boot_len (pa_cons (pe_fld (pv 0) rfl) pa_nil))), _, rfl, a, C, dx, _, _, rfl, ha, Z.kit.cl, Z.nV, rfl, t, xs, rfl, .inr h1, ?_⟩
      rw [DpAll.len h2]
      exact q
theorem ok_ceq {f : Addr} {fd : FuncData} (F : Fun K "__eq__" "Cache.__eq__" S_Cache___eq__ f fd) (Z : ChC K mg C) (B : ChB mg) : FnOk P w K mg base CX0 1 f fd ["self", "other"] (spCEq K C) := by
  refine F.ok sc_Cache___eq__ (fun vs H Q E h => ?_) (fun cdv A outer s H vs Q E hr h => ?_)
  · obtain ⟨a, y, ln, ds, rfl, _⟩ := h; rfl
  · obtain ⟨a, y, ln, ds, rfl, ⟨dx, lv, ha, hd⟩, hs, q⟩ := h
    refine ⟨_, pss_one (ps_ret (pe_and (pe_callB call_isi (by rfl) B.is (by decide +kernel) (pa_cons (pv 1) (pa_cons (pe_glob (by rfl) Z.mgC (v := .ref C) rfl) pa_nil)))
      (pe_and (pe_cmpR op_eq (pe_fld (pv 0) rfl) (pe_fld (pv 1) rfl) (nomark _)) (pe_one (pe_cmpR (op_eqD hr.units) (pe_fld (pv 0) rfl) (pe_fld (pv 1) rfl) (nomark _)))))), ?_⟩
    rcases q with ⟨b, ln', ds', rfl, ⟨dy, lw, hb, he⟩, hs', q⟩ | ⟨t, ty, n, su, q⟩
    · refine ⟨_, rfl, .ref b, .ref C, .ref C, .ref C, true, rfl, .own C, Z.kit.ty hb, kit_self (by simp), true, rfl, iteT ?_⟩
      refine ⟨_, rfl, a, C, dx, _, _, rfl, ha, Z.kit.cl, Z.nL, rfl, _, rfl, b, C, dy, _, _, rfl, hb, Z.kit.cl, Z.nL, rfl, rfl, _, rfl, ?_⟩
      have ei : decide (V.int ln = V.int ln') = decide (ln = ln') := decide_eq_decide.mpr ⟨fun z => by injection z, fun z => by rw [z]⟩
      rw [ei]
      refine ite2 (fun h => ?_) (fun h => ?_)
      · rw [h, Bool.true_and] at q
        exact ⟨_, rfl, a, C, dx, _, _, rfl, ha, Z.kit.cl, Z.nV, rfl, _, rfl, b, C, dy, _, _, rfl, hb, Z.kit.cl, Z.nV, rfl, .tuple ds, .tuple ds', hd, he, hs, hs', q⟩
      · rw [Bool.eq_false_iff.mpr h, Bool.false_and] at q
        exact q
    · exact ⟨_, rfl, y, .ref C, t, .ref C, false, rfl, .own C, ty, kit_cls_ref Z.isC Z.tyC n su, false, rfl, iteF q⟩
end

end K12

namespace K12
open PySem L2 SZ VR VX StX RT
/-! ### the draws -/
structure Bn2 (mg : Str → Option Value) : Prop where
  len : mg "len" = none
  int : mg "int" = none
  abs : mg "abs" = none
/-- a pool stands at a -/
def PoolAt (H : Hp) (a : Addr) : Prop := ∃ p q : Int, H a = some (.lst [.int p, .int q]) ∧ 0 ≤ p
theorem b01 (b : Bool) : -(2 ^ 64) < (if b = true then (1 : Int) else 0) ∧ (if b = true then (1 : Int) else 0) < 2 ^ 64 := by cases b <;> decide
theorem nn01 (c : Int) (b : Bool) : 0 ≤ (if c < 0 then -c else c) * (if b = true then (1 : Int) else 0) := by
  refine Int.mul_nonneg ?_ ?_
  · split <;> omega
  · cases b <;> decide
def spPool (K : PySem.W.Frag) : Sp := fun vs H Q _ => ∃ (a : Addr) (ns : List Int) (k : Nat), vs = [.ref a, .int k] ∧ SqL K H a (iz ns) ∧ k ≤ 63 ∧ ns.length ≤ 63 ∧ ∀ p H', H p = none → Same H H' → PoolAt H' p → Q (.ref p) H'
def spTake : Sp := fun vs H Q _ => ∃ (a : Addr) (wd : Int), vs = [.ref a, .int wd] ∧ PoolAt H a ∧ 0 < wd ∧ wd < 1073741824 ∧ ∀ (r : Int) (H' : Hp), 0 ≤ r → r < wd → PoolAt H' a → (∀ b o, H b = some o → b ≠ a → H' b = some o) → (∀ b, H b = none → H' b = none) → Q (.int r) H'
section
variable {P : Program} {w : World} {K : PySem.W.Frag} {mg : Str → Option Value} {base : Heap}
theorem ok_pool {f : Addr} {fd : FuncData} (F : Fun K "_law_pool" "_law_pool" S_law_pool f fd) (B : Bn2 mg) : FnOk P w K mg base CX0 1 f fd ["_law_script", "_law_k"] (spPool K) := by
  refine F.ok sc_law_pool (fun vs H Q E h => ?_) (fun cdv A outer s H vs Q E hr h => ?_)
  · obtain ⟨a, ns, k, rfl, _⟩ := h; rfl
  · obtain ⟨a, ns, k, rfl, ha, hk, hl, q⟩ := h
    refine ⟨_, pss_cons (ps_set (i := 2) sc_law_pool.nd rfl (Or.inl rfl) pe_int)
      (pss_cons (ps_if (pt_cmpR op_lt (pv 1) (pe_callB call_len_seq (by rfl) B.len PySem.boot_len (pa_cons (pv 0) pa_nil)) (nomark _)) (pss_one (ps_set (i := 2) sc_law_pool.nd rfl (Or.inl rfl) (pe_ix ix_list (pv 0) (pv 1) (fun _ _ => rfl)))) pss_nil)
      (pss_cons (ps_set (i := 3) sc_law_pool.nd rfl (Or.inl rfl) (pe_callB call_abs (by rfl) B.abs (by decide +kernel) (pa_cons (pv 2) pa_nil)))
      (pss_cons (ps_set (i := 4) sc_law_pool.nd rfl (Or.inl rfl) (pe_op op_mod (pe_op op_mul (pe_callTy call_int1 (by rfl) B.int (by decide +kernel) (pa_cons (pe_op op_add (pe_op op_mod (pe_callTy call_int1 (by rfl) B.int (by decide +kernel) (pa_cons (pv 2) pa_nil)) pe_int) (pe_op op_mul pe_int (pe_op op_add (pv 1) pe_int))) pa_nil)) (pe_op op_add (pv 1) pe_int)) pe_int))
      (pss_cons (ps_set (i := 5) sc_law_pool.nd rfl (Or.inl rfl) (pe_op op_mod (pe_op op_mul (pe_op op_mod (pe_callTy call_int1 (by rfl) B.int (by decide +kernel) (pa_cons (pe_op op_mul (pv 4) (pv 4)) pa_nil)) pe_int) pe_int) pe_int))
      (pss_one (ps_ret (pe_lst (pa_cons (pe_op op_mul (pv 3) (pe_callTy call_int1 (by rfl) B.int (by decide +kernel) (pa_cons (pe_cmpR op_ge (pv 3) (pe_op op_pow pe_int pe_int) (nomark _)) pa_nil))) (pa_cons (pv 5) pa_nil))))))))), ?_⟩
    refine ⟨_, rfl, _, rfl, a, iz ns, rfl, .inl ha, _, _, rfl, rfl, _, rfl, ?_⟩
    rw [iz_len]
    have m0 : (0 : Int) < 2147483629 := by decide
    have m1 : (0 : Int) < 2147483647 := by decide
    refine ite2 (fun h => ?_) (fun h => ?_)
    · have hlt : k < ns.length := by have := of_decide_eq_true h; omega
      have hx : ns[k]? = some ns[k] := List.getElem?_eq_getElem hlt
      refine ⟨_, rfl, _, rfl, a, iz ns, _, _, rfl, rfl, ha, at_of (j := k) rfl (iz_get hx), ?_⟩
      generalize ns[k] = c
      refine ⟨_, rfl, c, rfl, ?_⟩
      refine ⟨_, rfl, .inl ⟨_, rfl, _, _, rfl, rfl, m0, _, rfl, _, _, rfl, rfl, _, _, rfl, rfl, .inl ⟨by decide, by decide⟩, _, _, rfl, rfl, .inl ⟨_, rfl, _, rfl, _, _, rfl, rfl, _, _, rfl, rfl, .inr ⟨by omega, by omega⟩, _, _, rfl, rfl, m0, ?_⟩⟩⟩
      have b0 := Int.emod_nonneg ((c % 2147483629 + 104729 * ((k : Int) + 1)) * ((k : Int) + 7)) (Int.ne_of_gt m0)
      have b1 := Int.emod_lt_of_pos ((c % 2147483629 + 104729 * ((k : Int) + 1)) * ((k : Int) + 7)) m0
      generalize (c % 2147483629 + 104729 * ((k : Int) + 1)) * ((k : Int) + 7) % 2147483629 = bl at b0 b1
      refine ⟨_, rfl, _, rfl, _, _, rfl, rfl, .inl ⟨by omega, by omega⟩, .inl ⟨_, rfl, _, _, rfl, rfl, m0, _, _, rfl, rfl, .inr ⟨by decide, by decide⟩, _, _, rfl, rfl, m1, ?_⟩⟩
      refine ⟨_, rfl, _, rfl, _, _, rfl, rfl, ⟨by decide, by decide, by decide⟩, _, _, rfl, rfl, .inr ⟨_, rfl, _, _, rfl, rfl, (.inr (b01 _)), _, rfl, by show 2 ≤ sizeLine; decide, fun p hp => q p _ hp (Same.new hp) ⟨_, _, upd_same, nn01 c _⟩⟩⟩
    · refine ⟨_, rfl, (0 : Int), rfl, ?_⟩
      refine ⟨_, rfl, .inl ⟨_, rfl, _, _, rfl, rfl, m0, _, rfl, _, _, rfl, rfl, _, _, rfl, rfl, .inl ⟨by decide, by decide⟩, _, _, rfl, rfl, .inl ⟨_, rfl, _, rfl, _, _, rfl, rfl, _, _, rfl, rfl, .inr ⟨by omega, by omega⟩, _, _, rfl, rfl, m0, ?_⟩⟩⟩
      have b0 := Int.emod_nonneg (((0 : Int) % 2147483629 + 104729 * ((k : Int) + 1)) * ((k : Int) + 7)) (Int.ne_of_gt m0)
      have b1 := Int.emod_lt_of_pos (((0 : Int) % 2147483629 + 104729 * ((k : Int) + 1)) * ((k : Int) + 7)) m0
      generalize ((0 : Int) % 2147483629 + 104729 * ((k : Int) + 1)) * ((k : Int) + 7) % 2147483629 = bl at b0 b1
      refine ⟨_, rfl, _, rfl, _, _, rfl, rfl, .inl ⟨by omega, by omega⟩, .inl ⟨_, rfl, _, _, rfl, rfl, m0, _, _, rfl, rfl, .inr ⟨by decide, by decide⟩, _, _, rfl, rfl, m1, ?_⟩⟩
      refine ⟨_, rfl, _, rfl, _, _, rfl, rfl, ⟨by decide, by decide, by decide⟩, _, _, rfl, rfl, .inr ⟨_, rfl, _, _, rfl, rfl, (.inr (b01 _)), _, rfl, by show 2 ≤ sizeLine; decide, fun p hp => q p _ hp (Same.new hp) ⟨_, _, upd_same, nn01 0 _⟩⟩⟩
end

section
variable {P : Program} {w : World} {K : PySem.W.Frag} {mg : Str → Option Value} {base : Heap}
theorem ok_take {f : Addr} {fd : FuncData} (F : Fun K "_law_take" "_law_take" S_law_take f fd) (B : Bn2 mg) : FnOk P w K mg base CX0 1 f fd ["_law_pool_here", "_law_wide"] spTake := by
  refine F.ok sc_law_take (fun vs H Q E h => ?_) (fun cdv A outer s H vs Q E hr h => ?_)
  · obtain ⟨a, wd, rfl, _⟩ := h; rfl
  · obtain ⟨a, wd, rfl, ⟨p, q, ha, hp⟩, hw, hw2, k⟩ := h
    refine ⟨_, pss_cons (ps_if (pt_cmpR op_gt (pe_ix ix_list (pv 0) pe_int (fun _ _ => rfl)) pe_int (nomark _))
        (pss_cons (ps_set (i := 2) sc_law_take.nd rfl (Or.inl rfl) (pe_op op_mod (pe_callTy call_int1 (by rfl) B.int (by decide +kernel) (pa_cons (pe_ix ix_list (pv 0) pe_int (fun _ _ => rfl)) pa_nil)) (pv 1)))
        (pss_cons (ps_asg (pe_op op_fdiv (pe_ix ix_list (pv 0) pe_int (fun _ _ => rfl)) (pv 1)) (pg_sub (pv 0) pe_int set_list))
        (pss_one (ps_ret (pv 2))))) pss_nil)
      (pss_cons (ps_asg (pe_op op_mod (pe_callTy call_int1 (by rfl) B.int (by decide +kernel) (pa_cons (pe_op op_add (pe_op op_mul (pe_ix ix_list (pv 0) pe_int (fun _ _ => rfl)) pe_int) pe_int) pa_nil)) pe_int) (pg_sub (pv 0) pe_int set_list))
      (pss_one (ps_ret (pe_op op_mod (pe_op op_fdiv (pe_op op_mod (pe_callTy call_int1 (by rfl) B.int (by decide +kernel) (pa_cons (pe_op op_mul (pe_ix ix_list (pv 0) pe_int (fun _ _ => rfl)) (pe_ix ix_list (pv 0) pe_int (fun _ _ => rfl))) pa_nil)) pe_int) pe_int) (pv 1))))), ?_⟩
    have m0 : (0 : Int) < 2147483629 := by decide
    have m1 : (0 : Int) < 2147483647 := by decide
    have L : SqL K H a [.int p, .int q] := .of ha
    refine ⟨_, rfl, a, _, _, .int p, rfl, rfl, L, at_of (j := 0) rfl rfl, _, _, rfl, rfl, _, rfl, ?_⟩
    refine ite2 (fun h => ?_) (fun h => ?_)
    · refine ⟨_, rfl, a, _, _, .int p, rfl, rfl, L, at_of (j := 0) rfl rfl, .inl ⟨_, rfl, _, rfl, _, _, rfl, rfl, hw, ?_⟩⟩
      refine ⟨_, rfl, a, _, _, .int p, rfl, rfl, L, at_of (j := 0) rfl rfl, _, rfl, _, _, rfl, rfl, ⟨hw, hw2⟩, _, rfl, a, _, _, 0, rfl, rfl, ha, rfl, ?_⟩
      refine ⟨_, rfl, k _ _ (Int.emod_nonneg _ (Int.ne_of_gt hw)) (Int.emod_lt_of_pos _ hw) ⟨p / wd, q, upd_same, Int.ediv_nonneg hp (Int.le_of_lt hw)⟩ (fun b o hb hne => by rw [upd_ne hne]; exact hb) (fun b hb => ?_)⟩
      rw [upd_ne (fun e => by rw [e, ha] at hb; cases hb)]; exact hb
    · refine ⟨_, rfl, a, _, _, .int q, rfl, rfl, L, at_of (j := 1) rfl rfl, _, _, rfl, rfl, .inr ⟨by decide, by decide⟩, _, _, rfl, rfl, .inl ⟨_, rfl, _, _, rfl, rfl, m1, ?_⟩⟩
      refine ⟨_, rfl, a, _, _, 1, rfl, rfl, ha, rfl, ?_⟩
      dsimp only [List.set]
      have b0 := Int.emod_nonneg (q * 48271 + 12345) (Int.ne_of_gt m1)
      have b1 := Int.emod_lt_of_pos (q * 48271 + 12345) m1
      generalize (q * 48271 + 12345) % 2147483647 = z at b0 b1
      have L2 : SqL K (upd H a (.lst [.int p, .int z])) a [.int p, .int z] := .of upd_same
      refine ⟨_, rfl, a, _, _, .int z, rfl, rfl, L2, at_of (j := 1) rfl rfl, _, rfl, a, _, _, .int z, rfl, rfl, L2, at_of (j := 1) rfl rfl, _, _, rfl, rfl, .inl ⟨by omega, by omega⟩, .inl ⟨_, rfl, _, _, rfl, rfl, m0, _, _, rfl, rfl, ⟨by decide, by decide⟩, _, rfl, _, _, rfl, rfl, hw, ?_⟩⟩
      refine k _ _ (Int.emod_nonneg _ (Int.ne_of_gt hw)) (Int.emod_lt_of_pos _ hw) ⟨p, z, upd_same, hp⟩ (fun b o hb hne => by rw [upd_ne hne]; exact hb) (fun b hb => ?_)
      rw [upd_ne (fun e => by rw [e, ha] at hb; cases hb)]; exact hb
end

/-! ### displays of data -/
def Lit (K : PySem.W.Frag) (te : TE) (d : PyData) : Prop := ∀ (σ : L2.St) (H : Hp) (Q : VK), (∀ (v : V) (H' : Hp), Same H H' → Dp K H' v d → Q v H') → te σ H Q
def LitA (K : PySem.W.Frag) (ta : TA) (ds : List PyData) : Prop := ∀ (σ : L2.St) (H : Hp) (Q : List V → Hp → Prop), (∀ (vs : List V) (H' : Hp), Same H H' → DpAll K H' vs ds → Q vs H') → ta σ H Q
section
variable {K : PySem.W.Frag} {te : TE} {ta : TA} {d : PyData} {ds : List PyData}
theorem lit_non : Lit K (tC .non) .none := fun _ H _ k => k _ H (Same.refl _) .non
theorem lit_bl (b : Bool) : Lit K (tC (.bl b)) (.bool b) := fun _ H _ k => k _ H (Same.refl _) (.bl b)
theorem lit_int (i : Int) : Lit K (tC (.int i)) (.int i) := fun _ H _ k => k _ H (Same.refl _) (.int i)
theorem lit_str (x : Str) : Lit K (tC (.str x)) (.str x) := fun _ H _ k => k _ H (Same.refl _) (.str x)
theorem lit_neg (i : Int) : Lit K (tUn (rU fun i => .int (-i)) (tC (.int i))) (.int (-i)) := fun _ H _ k => ⟨i, rfl, k _ H (Same.refl _) (.int (-i))⟩
theorem litA_nil : LitA K tNil [] := fun _ H _ k => k [] H (Same.refl _) .nil
theorem litA_cons (h : Lit K te d) (r : LitA K ta ds) : LitA K (tCons te ta) (d :: ds) := fun σ H Q k => h σ H _ fun v H1 s1 d1 => r σ H1 _ fun vs H2 s2 d2 => k (v :: vs) H2 (s1.trans s2) (.cons (Dp.keep s2 d1) d2)
theorem small_line {n : Nat} (h : n ≤ 100) : n ≤ sizeLine := by rw [sizeLine_eq]; omega
theorem lit_tup (h : LitA K ta ds) (n : ds.length ≤ 100) : Lit K (tTup ta) (.tuple ds) := fun σ H Q k => h σ H _ fun vs H1 s1 d1 => ⟨small_line (by rw [DpAll.len d1]; exact n), fun p hp => k _ _ (s1.trans (Same.new hp)) (.tup (.of upd_same) (DpAll.keep (Same.new hp) d1))⟩
theorem lit_lst (h : LitA K ta ds) (n : ds.length ≤ 100) : Lit K (tLst ta) (.list ds) := fun σ H Q k => h σ H _ fun vs H1 s1 d1 => ⟨small_line (by rw [DpAll.len d1]; exact n), fun p hp => k _ _ (s1.trans (Same.new hp)) (.lst (.of upd_same) (DpAll.keep (Same.new hp) d1))⟩
/-- a list that may be changed -/
theorem lit_new (h : LitA K ta ds) (n : ds.length ≤ 100) (σ : L2.St) (H : Hp) (Q : VK) (k : ∀ (p : Addr) (vs : List V) (H' : Hp), H p = none → Same H H' → H' p = some (.lst vs) → DpAll K H' vs ds → Q (.ref p) H') : tLst ta σ H Q :=
  h σ H _ fun vs H1 s1 d1 => ⟨small_line (by rw [DpAll.len d1]; exact n), fun p hp => k p vs _ (by
    cases e : H p with
    | none => rfl
    | some o => exact absurd (hp.symm.trans (s1 _ _ e)) (by simp)) (s1.trans (Same.new hp)) upd_same (DpAll.keep (Same.new hp) d1)⟩
end
theorem DpAll.app {K : PySem.W.Frag} {H : Hp} : ∀ {xs ys : List V} {ds es : List PyData}, DpAll K H xs ds → DpAll K H ys es → DpAll K H (xs ++ ys) (ds ++ es)
  | _, _, _, _, .nil, h => h
  | _, _, _, _, .cons h1 h2, h => .cons h1 (DpAll.app h2 h)

mutual
def noL : PyData → Bool
  | .list _ => false
  | .tuple ds => noLs ds
  | _ => true
def noLs : List PyData → Bool
  | [] => true
  | d :: ds => noL d && noLs ds
end
def KpT (H H' : Hp) : Prop := ∀ b o, H b = some o → ((∃ xs, o = .tup xs) ∨ ∃ u v, o = .frz u v) → H' b = some o
theorem updL.kp {l : Addr} {vs : List V} {o : HO} {H : Hp} (hl : H l = some (.lst vs)) : KpT H (upd H l o) := fun c o' e z => by
  rw [upd_ne (fun n => by
    rw [n, hl] at e
    rcases z with ⟨xs, rfl⟩ | ⟨u, v, rfl⟩ <;> cases e)]
  exact e
theorem SqT.kp {K : PySem.W.Frag} {H H' : Hp} {t : Addr} {xs : List V} (s : KpT H H') (h : SqT K H t xs) : SqT K H' t xs := by
  rcases h with (h | ⟨o, h⟩) | h
  · exact .inl (.inl (s _ _ h (.inl ⟨_, rfl⟩)))
  · exact .inl (.inr ⟨o, s _ _ h (.inr ⟨_, _, rfl⟩)⟩)
  · exact .inr h
mutual
theorem Dp.kpT {K : PySem.W.Frag} {H H' : Hp} (s : KpT H H') : ∀ {v : V} {d : PyData}, noL d = true → Dp K H v d → Dp K H' v d
  | _, _, _, .non => .non
  | _, _, _, .bl b => .bl b
  | _, _, _, .int i => .int i
  | _, _, _, .str x => .str x
  | _, _, n, .lst h1 h2 => by simp [noL] at n
  | _, _, n, .tup h1 h2 => .tup (SqT.kp s h1) (DpAll.kpT s (by simpa [noL] using n) h2)
theorem DpAll.kpT {K : PySem.W.Frag} {H H' : Hp} (s : KpT H H') : ∀ {vs : List V} {ds : List PyData}, noLs ds = true → DpAll K H vs ds → DpAll K H' vs ds
  | _, _, _, .nil => .nil
  | _, _, n, .cons h1 h2 => by
    simp only [noLs, Bool.and_eq_true] at n
    exact .cons (Dp.kpT s n.1 h1) (DpAll.kpT s n.2 h2)
end

theorem atN {α : Type} {xs : List α} {j : Nat} {x : α} (h : xs[j]? = some x) : atI xs (j : Int) = some x := by
  have hl : j < xs.length := (List.getElem?_eq_some_iff.mp h).1
  unfold atI
  rw [ixN_nat hl]
  exact h
mutual
def noL2 : PyData → Bool
  | .list ds => !decide (ds.length = 2) && noL2s ds
  | .tuple ds => noL2s ds
  | _ => true
def noL2s : List PyData → Bool
  | [] => true
  | d :: ds => noL2 d && noL2s ds
end
mutual
theorem Dp.but {K : PySem.W.Frag} {H H' : Hp} {a : Addr} {p q : Int} (ha : H a = some (.lst [.int p, .int q])) (s : ButR a H H') : ∀ {v : V} {d : PyData}, noL2 d = true → Dp K H v d → Dp K H' v d
  | _, _, _, .non => .non
  | _, _, _, .bl b => .bl b
  | _, _, _, .int i => .int i
  | _, _, _, .str x => .str x
  | _, _, n, .lst (a := l) (xs := xs) h1 h2 => by
    simp only [noL2, Bool.and_eq_true, Bool.not_eq_true', decide_eq_false_iff_not] at n
    have hn : xs.length ≠ 2 := by rw [DpAll.len h2]; exact n.1
    refine .lst ?_ (DpAll.but ha s n.2 h2)
    rcases h1 with (h | ⟨o, h⟩) | h
    · exact .inl (.inl (s _ _ h (fun z => by
        rw [z, ha] at h
        have h := Option.some.inj h
        injection h with h
        rw [← h] at hn
        exact hn rfl)))
    · exact .inl (.inr ⟨o, s _ _ h (fun z => by rw [z, ha] at h; cases h)⟩)
    · exact .inr h
  | _, _, n, .tup (a := l) (xs := xs) h1 h2 => by
    simp only [noL2] at n
    refine .tup ?_ (DpAll.but ha s n h2)
    rcases h1 with (h | ⟨o, h⟩) | h
    · exact .inl (.inl (s _ _ h (fun z => by rw [z, ha] at h; cases h)))
    · exact .inl (.inr ⟨o, s _ _ h (fun z => by rw [z, ha] at h; cases h)⟩)
    · exact .inr h
theorem DpAll.but {K : PySem.W.Frag} {H H' : Hp} {a : Addr} {p q : Int} (ha : H a = some (.lst [.int p, .int q])) (s : ButR a H H') : ∀ {vs : List V} {ds : List PyData}, noL2s ds = true → DpAll K H vs ds → DpAll K H' vs ds
  | _, _, _, .nil => .nil
  | _, _, n, .cons h1 h2 => by
    simp only [noL2s, Bool.and_eq_true] at n
    exact .cons (Dp.but ha s n.1 h1) (DpAll.but ha s n.2 h2)
end

abbrev odd0 : List PyData := [.none, .tuple [], .list [.int 2, .int 2, .str "used", .str "back"], .tuple [.int 2, .int 2, .str "used"], .tuple [.int 2, .int 2, .str "used", .str "back", .int 1], .tuple [.int 0, .int 2, .str "used", .str "back"]]
abbrev odd1 : List PyData := [.tuple [.int 9, .int 2, .str "used", .str "back"], .tuple [.bool true, .int 2, .str "used", .str "back"], .tuple [.int 2, .int 0, .str "used", .str "back"]]
abbrev odd2 : List PyData := [.tuple [.int 2, .int 5, .str "used", .str "back"], .tuple [.int 2, .none, .str "used", .str "back"], .tuple [.int 2, .int 3, .str "tree", .str "back"], .tuple [.int 2, .int 2, .str "lru", .str "back"]]
abbrev odd3 : List PyData := [.tuple [.int 2, .int 2, .none, .str "back"], .tuple [.int 2, .int 2, .str "used", .str "Back"], .tuple [.int 2, .int 2, .str "used", .none], .tuple [.int 2, .int 2, .list [.str "used"], .str "back"]]
abbrev odd4 : List PyData := [.tuple [.int 2, .int 2, .str "used", .tuple [.str "back"]], .tuple [.int (-1), .int 2, .str "used", .str "back"], .int 5, .str "level", .tuple [.int 2, .int 2, .str "used", .str "used"]]
abbrev oddA : PyData := .tuple [.str "2", .int 1, .str "used", .str "back"]
abbrev ODD : List PyData := odd0 ++ odd1 ++ [oddA] ++ odd2 ++ odd3 ++ odd4
theorem odd_nl2 : ∀ d ∈ ODD, noL2 d = true := by
  intro d hd
  have h : ODD.all noL2 = true := by decide +kernel
  exact List.all_eq_true.mp h d hd
theorem odd_len : ODD.length = 23 := rfl
def spOdd (K : PySem.W.Frag) : Sp := fun vs H Q _ => ∃ a, vs = [.ref a] ∧ PoolAt H a ∧ ∀ (v : V) (d : PyData) (H' : Hp), d ∈ ODD → Dp K H' v d → PoolAt H' a → ButR a H H' → Q v H'
theorem PoolAt.same' {H H' : Hp} {a : Addr} (h : PoolAt H a) (s : Same H H') : PoolAt H' a := let ⟨p, q, e, h0⟩ := h; ⟨p, q, s _ _ e, h0⟩
section
variable {P : Program} {w : World} {K : PySem.W.Frag} {mg : Str → Option Value} {base : Heap}
theorem ok_odd {f fk : Addr} {fd fdk : FuncData} (F : Fun K "_law_odd" "_law_odd" S_law_odd f fd) (FK : Fun K "_law_take" "_law_take" S_law_take fk fdk) (bK : Binds K fdk ["_law_pool_here", "_law_wide"] []) (gK : mg "_law_take" = some (.ref fk)) (B2 : Bn2 mg) : FnOk P w K mg base CX0 2 f fd ["_law_pool_here"] (spOdd K) := by
  have GK : FnOk P w K mg base CX0 1 fk fdk ["_law_pool_here", "_law_wide"] spTake := ok_take FK B2
  refine F.ok sc_law_odd (fun vs H Q E h => ?_) (fun cdv A outer s H vs Q E hr h => ?_)
  · obtain ⟨a, rfl, _⟩ := h; rfl
  · obtain ⟨a, rfl, ha, k⟩ := h
    refine ⟨_, pss_cons (ps_set (i := 1) sc_law_odd.nd rfl (Or.inl rfl) (pe_lst (pa_cons pe_non (pa_cons (pe_tup pa_nil) (pa_cons (pe_lst (pa_cons pe_int (pa_cons pe_int (pa_cons pe_str (pa_cons pe_str pa_nil))))) (pa_cons (pe_tup (pa_cons pe_int (pa_cons pe_int (pa_cons pe_str pa_nil)))) (pa_cons (pe_tup (pa_cons pe_int (pa_cons pe_int (pa_cons pe_str (pa_cons pe_str (pa_cons pe_int pa_nil)))))) (pa_cons (pe_tup (pa_cons pe_int (pa_cons pe_int (pa_cons pe_str (pa_cons pe_str pa_nil))))) pa_nil))))))))
      (pss_cons (ps_set (i := 1) sc_law_odd.nd rfl (Or.inl rfl) (pe_op op_cat (pv 1) (pe_lst (pa_cons (pe_tup (pa_cons pe_int (pa_cons pe_int (pa_cons pe_str (pa_cons pe_str pa_nil))))) (pa_cons (pe_tup (pa_cons pe_bl (pa_cons pe_int (pa_cons pe_str (pa_cons pe_str pa_nil))))) (pa_cons (pe_tup (pa_cons pe_int (pa_cons pe_int (pa_cons pe_str (pa_cons pe_str pa_nil))))) pa_nil))))))
      (pss_cons (ps_expr (pe_bm PySem.F.plainAttrs_list PySem.F.slot_list_append PySem.F.type_list_append mt_append (pv 1) (pa_cons (pe_tup (pa_cons pe_str (pa_cons pe_int (pa_cons pe_str (pa_cons pe_str pa_nil))))) pa_nil)))
      (pss_cons (ps_set (i := 1) sc_law_odd.nd rfl (Or.inl rfl) (pe_op op_cat (pv 1) (pe_lst (pa_cons (pe_tup (pa_cons pe_int (pa_cons pe_int (pa_cons pe_str (pa_cons pe_str pa_nil))))) (pa_cons (pe_tup (pa_cons pe_int (pa_cons pe_non (pa_cons pe_str (pa_cons pe_str pa_nil))))) (pa_cons (pe_tup (pa_cons pe_int (pa_cons pe_int (pa_cons pe_str (pa_cons pe_str pa_nil))))) (pa_cons (pe_tup (pa_cons pe_int (pa_cons pe_int (pa_cons pe_str (pa_cons pe_str pa_nil))))) pa_nil)))))))
      (pss_cons (ps_set (i := 1) sc_law_odd.nd rfl (Or.inl rfl) (pe_op op_cat (pv 1) (pe_lst (pa_cons (pe_tup (pa_cons pe_int (pa_cons pe_int (pa_cons pe_non (pa_cons pe_str pa_nil))))) (pa_cons (pe_tup (pa_cons pe_int (pa_cons pe_int (pa_cons pe_str (pa_cons pe_str pa_nil))))) (pa_cons (pe_tup (pa_cons pe_int (pa_cons pe_int (pa_cons pe_str (pa_cons pe_non pa_nil))))) (pa_cons (pe_tup (pa_cons pe_int (pa_cons pe_int (pa_cons (pe_lst (pa_cons pe_str pa_nil)) (pa_cons pe_str pa_nil))))) pa_nil)))))))
      (pss_cons (ps_set (i := 1) sc_law_odd.nd rfl (Or.inl rfl) (pe_op op_cat (pv 1) (pe_lst (pa_cons (pe_tup (pa_cons pe_int (pa_cons pe_int (pa_cons pe_str (pa_cons (pe_tup (pa_cons pe_str pa_nil)) pa_nil))))) (pa_cons (pe_tup (pa_cons (pe_un un_neg pe_int) (pa_cons pe_int (pa_cons pe_str (pa_cons pe_str pa_nil))))) (pa_cons pe_int (pa_cons pe_str (pa_cons (pe_tup (pa_cons pe_int (pa_cons pe_int (pa_cons pe_str (pa_cons pe_str pa_nil))))) pa_nil))))))))
      (pss_one (ps_ret (pe_ix ix_list (pv 1) (pe_call GK hr (by rfl) gK FK.kp bK .nil pass0 (pa_cons (pv 0) (pa_cons (pe_callB call_len_seq (by rfl) B2.len PySem.boot_len (pa_cons (pv 1) pa_nil)) pa_nil))) (fun _ _ => rfl))))))))), ?_⟩
    unfold tSeq tAsg
    refine lit_new (K := K) (ds := odd0) (litA_cons lit_non (litA_cons (lit_tup litA_nil (by simp)) (litA_cons (lit_lst (litA_cons (lit_int _) (litA_cons (lit_int _) (litA_cons (lit_str _) (litA_cons (lit_str _) litA_nil)))) (by simp)) (litA_cons (lit_tup (litA_cons (lit_int _) (litA_cons (lit_int _) (litA_cons (lit_str _) litA_nil))) (by simp)) (litA_cons (lit_tup (litA_cons (lit_int _) (litA_cons (lit_int _) (litA_cons (lit_str _) (litA_cons (lit_str _) (litA_cons (lit_int _) litA_nil))))) (by simp)) (litA_cons (lit_tup (litA_cons (lit_int _) (litA_cons (lit_int _) (litA_cons (lit_str _) (litA_cons (lit_str _) litA_nil)))) (by simp)) litA_nil)))))) (by simp) _ _ _ fun p0 v0 H1 np0 s1 l1 d1 => ?_
    refine ⟨_, rfl, ?_⟩
    refine lit_new (K := K) (ds := odd1) (litA_cons (lit_tup (litA_cons (lit_int _) (litA_cons (lit_int _) (litA_cons (lit_str _) (litA_cons (lit_str _) litA_nil)))) (by simp)) (litA_cons (lit_tup (litA_cons (lit_bl _) (litA_cons (lit_int _) (litA_cons (lit_str _) (litA_cons (lit_str _) litA_nil)))) (by simp)) (litA_cons (lit_tup (litA_cons (lit_int _) (litA_cons (lit_int _) (litA_cons (lit_str _) (litA_cons (lit_str _) litA_nil)))) (by simp)) litA_nil))) (by simp) _ _ _ fun p1 v1 H2 np1 s2 l2 d2 => ?_
    have e0 : v0.length = 6 := DpAll.len d1
    have e1 : v1.length = 3 := DpAll.len d2
    refine ⟨p0, p1, v0, v1, rfl, rfl, s2 _ _ l1, l2, small_line (by omega), fun p2 np2 => ?_⟩
    have s3 := Same.new (o := .lst (v0 ++ v1)) np2
    have d3 : DpAll K _ (v0 ++ v1) (odd0 ++ odd1) := DpAll.app (DpAll.keep (s2.trans s3) d1) (DpAll.keep s3 d2)
    have S3 := (s1.trans s2).trans s3
    have l3 := upd_same (H := H2) (a := p2) (o := .lst (v0 ++ v1))
    have n2 : H p2 = none := by
      cases e : H p2 with
      | none => rfl
      | some o => exact absurd (np2.symm.trans (s2 _ _ (s1 _ _ e))) (by simp)
    have T3 : Same H2 (upd H2 p2 (.lst (v0 ++ v1))) := s3
    generalize upd H2 p2 (.lst (v0 ++ v1)) = H3 at d3 S3 l3 T3
    refine ⟨_, rfl, .inl ⟨rfl, _, .of l3⟩, ?_⟩
    refine (show Lit K _ oddA from (lit_tup (litA_cons (lit_str _) (litA_cons (lit_int _) (litA_cons (lit_str _) (litA_cons (lit_str _) litA_nil)))) (by simp))) _ _ _ fun va H4 s4 d4 => ?_
    refine ⟨p2, v0 ++ v1, va, rfl, rfl, s4 _ _ l3, Nat.lt_of_le_of_lt (show (v0 ++ v1).length ≤ 100 by rw [List.length_append]; omega) (by rw [sizeLine_eq]; omega), ?_⟩
    have S5 : Same H (upd H4 p2 (.lst (v0 ++ v1 ++ [va]))) := (S3.trans s4).upd0 n2
    have T5 : Same H2 (upd H4 p2 (.lst (v0 ++ v1 ++ [va]))) := (T3.trans s4).upd0 np2
    have d5 : DpAll K (upd H4 p2 (.lst (v0 ++ v1 ++ [va]))) (v0 ++ v1 ++ [va]) (odd0 ++ odd1 ++ [oddA]) :=
      DpAll.app (DpAll.app (DpAll.keep (s2.trans T5) d1) (DpAll.keep T5 d2)) (.cons (Dp.kpT (updL.kp (s4 _ _ l3)) rfl d4) .nil)
    have l5 : (upd H4 p2 (.lst (v0 ++ v1 ++ [va]))) p2 = some (.lst (v0 ++ v1 ++ [va])) := upd_same
    have e5 : (v0 ++ v1 ++ [va]).length = 10 := DpAll.len d5
    generalize upd H4 p2 (.lst (v0 ++ v1 ++ [va])) = H5 at S5 d5 l5
    generalize v0 ++ v1 ++ [va] = w0 at d5 l5 e5
    refine ⟨_, rfl, ?_⟩
    refine lit_new (K := K) (ds := odd2) (litA_cons (lit_tup (litA_cons (lit_int _) (litA_cons (lit_int _) (litA_cons (lit_str _) (litA_cons (lit_str _) litA_nil)))) (by simp)) (litA_cons (lit_tup (litA_cons (lit_int _) (litA_cons lit_non (litA_cons (lit_str _) (litA_cons (lit_str _) litA_nil)))) (by simp)) (litA_cons (lit_tup (litA_cons (lit_int _) (litA_cons (lit_int _) (litA_cons (lit_str _) (litA_cons (lit_str _) litA_nil)))) (by simp)) (litA_cons (lit_tup (litA_cons (lit_int _) (litA_cons (lit_int _) (litA_cons (lit_str _) (litA_cons (lit_str _) litA_nil)))) (by simp)) litA_nil)))) (by simp) _ _ _ fun a0 b0 I0 na0 t0 m0 c0 => ?_
    have g0 : b0.length = 4 := DpAll.len c0
    refine ⟨p2, a0, w0, b0, rfl, rfl, t0 _ _ l5, m0, small_line (by omega), fun q0 nq0 => ?_⟩
    have u0 := Same.new (o := .lst (w0 ++ b0)) nq0
    have D0 : DpAll K _ (w0 ++ b0) (odd0 ++ odd1 ++ [oddA] ++ odd2) := DpAll.app (DpAll.keep (t0.trans u0) d5) (DpAll.keep u0 c0)
    have U0 := (S5.trans t0).trans u0
    have L0 := upd_same (H := I0) (a := q0) (o := .lst (w0 ++ b0))
    have E0 : (w0 ++ b0).length = 14 := by rw [List.length_append]; omega
    generalize upd I0 q0 (.lst (w0 ++ b0)) = J0 at D0 U0 L0
    generalize w0 ++ b0 = y0 at D0 L0 E0
    refine ⟨_, rfl, ?_⟩
    refine lit_new (K := K) (ds := odd3) (litA_cons (lit_tup (litA_cons (lit_int _) (litA_cons (lit_int _) (litA_cons lit_non (litA_cons (lit_str _) litA_nil)))) (by simp)) (litA_cons (lit_tup (litA_cons (lit_int _) (litA_cons (lit_int _) (litA_cons (lit_str _) (litA_cons (lit_str _) litA_nil)))) (by simp)) (litA_cons (lit_tup (litA_cons (lit_int _) (litA_cons (lit_int _) (litA_cons (lit_str _) (litA_cons lit_non litA_nil)))) (by simp)) (litA_cons (lit_tup (litA_cons (lit_int _) (litA_cons (lit_int _) (litA_cons (lit_lst (litA_cons (lit_str _) litA_nil) (by simp)) (litA_cons (lit_str _) litA_nil)))) (by simp)) litA_nil)))) (by simp) _ _ _ fun a1 b1 I1 na1 t1 m1 c1 => ?_
    have g1 : b1.length = 4 := DpAll.len c1
    refine ⟨q0, a1, y0, b1, rfl, rfl, t1 _ _ L0, m1, small_line (by omega), fun q1 nq1 => ?_⟩
    have u1 := Same.new (o := .lst (y0 ++ b1)) nq1
    have D1 : DpAll K _ (y0 ++ b1) (odd0 ++ odd1 ++ [oddA] ++ odd2 ++ odd3) := DpAll.app (DpAll.keep (t1.trans u1) D0) (DpAll.keep u1 c1)
    have U1 := (U0.trans t1).trans u1
    have L1 := upd_same (H := I1) (a := q1) (o := .lst (y0 ++ b1))
    have E1 : (y0 ++ b1).length = 18 := by rw [List.length_append]; omega
    generalize upd I1 q1 (.lst (y0 ++ b1)) = J1 at D1 U1 L1
    generalize y0 ++ b1 = y1 at D1 L1 E1
    refine ⟨_, rfl, ?_⟩
    refine lit_new (K := K) (ds := odd4) (litA_cons (lit_tup (litA_cons (lit_int _) (litA_cons (lit_int _) (litA_cons (lit_str _) (litA_cons (lit_tup (litA_cons (lit_str _) litA_nil) (by simp)) litA_nil)))) (by simp)) (litA_cons (lit_tup (litA_cons (lit_neg _) (litA_cons (lit_int _) (litA_cons (lit_str _) (litA_cons (lit_str _) litA_nil)))) (by simp)) (litA_cons (lit_int _) (litA_cons (lit_str _) (litA_cons (lit_tup (litA_cons (lit_int _) (litA_cons (lit_int _) (litA_cons (lit_str _) (litA_cons (lit_str _) litA_nil)))) (by simp)) litA_nil))))) (by simp) _ _ _ fun a2 b2 I2 na2 t2 m2 c2 => ?_
    have g2 : b2.length = 5 := DpAll.len c2
    refine ⟨q1, a2, y1, b2, rfl, rfl, t2 _ _ L1, m2, small_line (by omega), fun q2 nq2 => ?_⟩
    have u2 := Same.new (o := .lst (y1 ++ b2)) nq2
    have D2 : DpAll K _ (y1 ++ b2) (odd0 ++ odd1 ++ [oddA] ++ odd2 ++ odd3 ++ odd4) := DpAll.app (DpAll.keep (t2.trans u2) D1) (DpAll.keep u2 c2)
    have U2 := (U1.trans t2).trans u2
    have L2 := upd_same (H := I2) (a := q2) (o := .lst (y1 ++ b2))
    have E2 : (y1 ++ b2).length = 23 := by rw [List.length_append]; omega
    generalize upd I2 q2 (.lst (y1 ++ b2)) = J2 at D2 U2 L2
    generalize y1 ++ b2 = y2 at D2 L2 E2
    have hPa := ha.same' U2
    obtain ⟨pp, pq, hpl, _⟩ := id hPa
    refine ⟨_, rfl, _, rfl, _, rfl, q2, y2, rfl, .inl (.of L2), a, (y2.length : Int), rfl, hPa, by omega, by omega, fun r H9 r0 r1 hP9 b9 f9 => ?_⟩
    have nqa : q2 ≠ a := fun e => by
      rw [e] at nq2
      have h1 := (U1.trans t2) _ _ (show H a = some _ from (id ha).choose_spec.choose_spec.1)
      exact absurd (nq2.symm.trans h1) (by simp)
    have L9 := b9 _ _ L2 nqa
    have hr9 : r.toNat < y2.length := by omega
    have hv : y2[r.toNat]? = some y2[r.toNat] := List.getElem?_eq_getElem hr9
    obtain ⟨d, hd, hdp⟩ := DpAll.at D2 hv
    have er : (r.toNat : Int) = r := Int.toNat_of_nonneg r0
    refine ⟨q2, y2, r, y2[r.toNat], rfl, rfl, .of L9, ?_, ?_⟩
    · have h := atN hv
      rwa [er] at h
    · refine k _ d H9 (List.mem_of_getElem? hd) ?_ hP9 (fun b o e n => b9 _ _ (U2 _ _ e) n)
      exact Dp.but hpl b9 (odd_nl2 d (List.mem_of_getElem? hd)) hdp
end

end K12

namespace K12
open PySem L2 SZ VR VX StX RT
/-! ### drawn caches -/
structure LwB (mg : Str → Option Value) : Prop where
  len : mg "len" = none
  int : mg "int" = none
  abs : mg "abs" = none
  rng : mg "range" = none
  rep : mg "repr" = none
  max : mg "max" = none
  min : mg "min" = none
  tup : mg "tuple" = none
  lst : mg "list" = none
theorem LwB.two {mg : Str → Option Value} (B : LwB mg) : Bn2 mg := ⟨B.len, B.int, B.abs⟩
def MkL (d : PyData) : Prop := ∃ (s y : Int) (r w : Str), d = .tuple [.int s, .int y, .str r, .str w] ∧ 1 ≤ s ∧ s ≤ 4 ∧ 1 ≤ y ∧ y ≤ 4 ∧ r ∈ RUL ∧ w ∈ WRT ∧ ¬ (y = 3 ∧ r = "tree")
theorem MkL.lvl {d : PyData} (h : MkL d) : lvlD d = true := by
  obtain ⟨s, y, r, w, rfl, s1, s4, y1, y4, hr, hw, n⟩ := h
  show ((decide (1 ≤ s) && decide (s ≤ 8)) && (decide (1 ≤ y) && decide (y ≤ 4)) && (RUL.contains r && (WRT.contains w && !(decide (y = 3) && decide (r = "tree"))))) = true
  rw [decide_eq_true s1, decide_eq_true (show s ≤ 8 by omega), decide_eq_true y1, decide_eq_true y4, List.contains_iff_mem.mpr hr, List.contains_iff_mem.mpr hw]
  have : (decide (y = 3) && decide (r = "tree")) = false := by
    rw [Bool.eq_false_iff]
    intro z
    rw [Bool.and_eq_true, decide_eq_true_iff, decide_eq_true_iff] at z
    exact n z
  rw [this]
  rfl
theorem MkL.nl {d : PyData} (h : MkL d) : noL d = true := by
  obtain ⟨s, y, r, w, rfl, _⟩ := h
  rfl
theorem noLs_of : ∀ {ds : List PyData}, (∀ d ∈ ds, noL d = true) → noLs ds = true
  | [], _ => rfl
  | d :: ds, h => by
    rw [noLs, h d List.mem_cons_self, noLs_of fun x hx => h x (List.mem_cons_of_mem _ hx)]
    rfl
theorem KpT.trans {H H1 H2 : Hp} (s : KpT H H1) (t : KpT H1 H2) : KpT H H2 := fun b o e z => t b o (s b o e z) z
theorem Same.kp {H H' : Hp} (s : Same H H') : KpT H H' := fun c o e _ => s c o e
theorem ButR.kpL {a : Addr} {H H' : Hp} (h : PoolAt H a) (b : ButR a H H') : KpT H H' := fun c o e z => b c o e (fun n => by
  obtain ⟨p, q, hp, _⟩ := h
  rw [n, hp] at e
  rcases z with ⟨xs, rfl⟩ | ⟨u, v, rfl⟩ <;> cases e)
theorem ButR.of {R : Addr} {H H' : Hp} (s : Same H H') : ButR R H H' := fun b o e _ => s b o e
theorem ButR.trans {R : Addr} {H H1 H2 : Hp} (a : ButR R H H1) (b : ButR R H1 H2) : ButR R H H2 := fun c o e n => b c o (a c o e n) n
theorem PoolAt.ne {H : Hp} {a b : Addr} (h : PoolAt H a) (e : H b = none) : b ≠ a := fun n => by
  obtain ⟨p, q, hp, _⟩ := h
  rw [n, hp] at e
  cases e
def spLCache (K : PySem.W.Frag) : Sp := fun vs H Q _ => ∃ a, vs = [.ref a] ∧ PoolAt H a ∧ ∀ (r t : Addr) (ln : Int) (ds : List PyData) (H' : Hp), (ln = 1 ∨ ln = 2 ∨ ln = 4) → 1 ≤ ds.length → ds.length ≤ 3 → (∀ d ∈ ds, MkL d) → H' r = some (.tup [.int ln, .ref t]) → Dp K H' (.ref t) (.tuple ds) → PoolAt H' a → ButR a H H' → Q (.ref r) H'
/-- what a menu gives -/
theorem menuAt {xs : List V} {r : Int} {n : Nat} (h0 : 0 ≤ r) (h1 : r < n) (hn : xs.length = n) : ∃ v, atI xs r = some v ∧ v ∈ xs := by
  have hl : r.toNat < xs.length := by omega
  have h := atN (List.getElem?_eq_getElem hl)
  rw [Int.toNat_of_nonneg h0] at h
  exact ⟨_, h, List.getElem_mem hl⟩
section
variable {P : Program} {w : World} {K : PySem.W.Frag} {mg : Str → Option Value} {base : Heap}
theorem ok_lcache {f fk : Addr} {fd fdk : FuncData} (F : Fun K "_law_cache" "_law_cache" S_law_cache f fd) (FK : Fun K "_law_take" "_law_take" S_law_take fk fdk) (bK : Binds K fdk ["_law_pool_here", "_law_wide"] []) (gK : mg "_law_take" = some (.ref fk)) (B : LwB mg) : FnOk P w K mg base CX0 2 f fd ["_law_pool_here"] (spLCache K) := by
  have GK : FnOk P w K mg base CX0 1 fk fdk ["_law_pool_here", "_law_wide"] spTake := ok_take FK B.two
  refine F.ok sc_law_cache (fun vs H Q E h => ?_) (fun cdv A outer s H vs Q E hr h => ?_)
  · obtain ⟨a, rfl, _⟩ := h; rfl
  · obtain ⟨a, rfl, ha, k⟩ := h
    refine ⟨_, pss_cons (ps_set (i := 1) sc_law_cache.nd rfl (Or.inl rfl) (pe_lst pa_nil))
      (pss_cons (ps_for PassesOwn.never rfl (pi_range1 (by rfl) B.rng (pa_cons (pe_op op_add pe_int (pe_call GK hr (by rfl) gK FK.kp bK .nil pass0 (pa_cons (pv 0) (pa_cons pe_int pa_nil)))) pa_nil)) (pg_name (i := 2) sc_law_cache.nd rfl (Or.inl rfl))
        (pss_cons (ps_par (i := 3) (j := 4) (by rfl) sc_law_cache.nd rfl rfl (by decide) rfl rfl (pa_cons (pe_ix ix_list (pe_lst (pa_cons pe_int (pa_cons pe_int (pa_cons pe_int (pa_cons pe_int (pa_cons pe_int pa_nil)))))) (pe_call GK hr (by rfl) gK FK.kp bK .nil pass0 (pa_cons (pv 0) (pa_cons pe_int pa_nil))) (fun _ _ => rfl))
            (pa_cons (pe_ix ix_list (pe_lst (pa_cons pe_int (pa_cons pe_int (pa_cons pe_int (pa_cons pe_int (pa_cons pe_int pa_nil)))))) (pe_call GK hr (by rfl) gK FK.kp bK .nil pass0 (pa_cons (pv 0) (pa_cons pe_int pa_nil))) (fun _ _ => rfl)) pa_nil)) (by rfl))
        (pss_cons (ps_set (i := 5) sc_law_cache.nd rfl (Or.inl rfl) (pe_ix ix_list (pe_lst (pa_cons pe_str (pa_cons pe_str (pa_cons pe_str (pa_cons pe_str pa_nil))))) (pe_call GK hr (by rfl) gK FK.kp bK .nil pass0 (pa_cons (pv 0) (pa_cons pe_int pa_nil))) (fun _ _ => rfl)))
        (pss_cons (ps_set (i := 4) sc_law_cache.nd rfl (Or.inl rfl) (pe_ifExp (PW.pt (pw_and (pt_cmpR op_eq (pv 5) pe_str (nomark _)) (pw_and1 (pt_cmpR op_eq (pv 4) pe_int (nomark _))))) pe_int (pv 4)))
        (pss_one (ps_expr (pe_bm PySem.F.plainAttrs_list PySem.F.slot_list_append PySem.F.type_list_append mt_append (pv 1) (pa_cons (pe_tup (pa_cons (pv 3) (pa_cons (pv 4) (pa_cons (pv 5) (pa_cons (pe_ix ix_list (pe_lst (pa_cons pe_str (pa_cons pe_str (pa_cons pe_str pa_nil)))) (pe_call GK hr (by rfl) gK FK.kp bK .nil pass0 (pa_cons (pv 0) (pa_cons pe_int pa_nil))) (fun _ _ => rfl)) pa_nil))))) pa_nil))))))))
      (pss_one (ps_ret (pe_tup (pa_cons (pe_ix ix_list (pe_lst (pa_cons pe_int (pa_cons pe_int (pa_cons pe_int (pa_cons pe_int pa_nil))))) (pe_call GK hr (by rfl) gK FK.kp bK .nil pass0 (pa_cons (pv 0) (pa_cons pe_int pa_nil))) (fun _ _ => rfl)) (pa_cons (pe_callTy call_tuple_of (by rfl) B.tup (by decide +kernel) (pa_cons (pv 1) pa_nil)) pa_nil)))))), ?_⟩
    refine ⟨Nat.zero_le _, fun L hL => ?_⟩
    have naL : L ≠ a := ha.ne hL
    refine ⟨_, rfl, a, 3, rfl, ha.same' (Same.new hL), by decide, by decide, fun r0 H1 r00 r01 hP1 b1 f1 => ?_⟩
    have hL1 := b1 _ _ upd_same naL
    refine ⟨_, _, rfl, rfl, 1 + r0, rfl, by omega, by omega, ?_⟩
    refine for_range (lo := 0) (n := (1 + r0).toNat) (fun i σ H' => ∃ (v2 v3 v4 v5 : Option V) (vs : List V) (ds : List PyData), σ = [some (.ref a), some (.ref L), v2, v3, v4, v5] ∧ H' L = some (.lst vs) ∧ DpAll K H' vs ds ∧ ds.length = i ∧ (∀ d ∈ ds, MkL d) ∧ PoolAt H' a ∧ ButR a H H')
      ⟨none, none, none, none, [], [], rfl, hL1, .nil, rfl, (fun d hd => nomatch hd), hP1, ButR.trans (ButR.of (Same.new hL)) b1⟩ ?_ ?_
    · rintro i σ H2 hi ⟨v2, v3, v4, v5, vs, ds, rfl, hL2, dA, dl, dm, hP2, b2⟩
      refine ⟨small_line (by simp), fun M1 nM1 => ⟨_, rfl, a, 5, rfl, hP2.same' (Same.new nM1), by decide, by decide, fun r1 H3 r10 r11 hP3 b3 f3 => ?_⟩⟩
      obtain ⟨x1, e1, m1⟩ := menuAt (xs := [.int 1, .int 2, .int 2, .int 3, .int 4]) (n := 5) r10 r11 rfl
      refine ⟨M1, _, r1, x1, rfl, rfl, .of (b3 _ _ upd_same (hP2.ne nM1)), e1, ?_⟩
      refine ⟨small_line (by simp), fun M2 nM2 => ⟨_, rfl, a, 5, rfl, hP3.same' (Same.new nM2), by decide, by decide, fun r2 H4 r20 r21 hP4 b4 f4 => ?_⟩⟩
      obtain ⟨x2, e2, m2⟩ := menuAt (xs := [.int 1, .int 2, .int 2, .int 3, .int 4]) (n := 5) r20 r21 rfl
      refine ⟨M2, _, r2, x2, rfl, rfl, .of (b4 _ _ upd_same (hP3.ne nM2)), e2, ?_⟩
      refine ⟨_, _, rfl, ?_⟩
      refine ⟨small_line (by simp), fun M3 nM3 => ⟨_, rfl, a, 4, rfl, hP4.same' (Same.new nM3), by decide, by decide, fun r3 H5 r30 r31 hP5 b5 f5 => ?_⟩⟩
      obtain ⟨x3, e3, m3⟩ := menuAt (xs := RUL.map V.str) (n := 4) r30 r31 rfl
      refine ⟨M3, _, r3, x3, rfl, rfl, .of (b5 _ _ upd_same (hP4.ne nM3)), e3, ?_⟩
      have g1 : ∃ s : Int, x1 = .int s ∧ 1 ≤ s ∧ s ≤ 4 := by
        simp only [List.mem_cons, List.not_mem_nil, or_false] at m1
        rcases m1 with rfl | rfl | rfl | rfl | rfl <;> exact ⟨_, rfl, by decide, by decide⟩
      have g2 : ∃ s : Int, x2 = .int s ∧ 1 ≤ s ∧ s ≤ 4 := by
        simp only [List.mem_cons, List.not_mem_nil, or_false] at m2
        rcases m2 with rfl | rfl | rfl | rfl | rfl <;> exact ⟨_, rfl, by decide, by decide⟩
      obtain ⟨sN, rfl, s1, s4⟩ := g1
      obtain ⟨yN, rfl, y1, y4⟩ := g2
      obtain ⟨ru, hru, rfl⟩ := List.mem_map.mp m3
      have er : decide (V.str ru = V.str (Str.ofString "tree")) = decide (ru = "tree") := decide_eq_decide.mpr ⟨fun z => by injection z, fun z => by rw [z]⟩
      have ei : decide (V.int yN = V.int 3) = decide (yN = 3) := decide_eq_decide.mpr ⟨fun z => by injection z, fun z => by rw [z]⟩
      have S3 : ButR a H2 H3 := ButR.trans (ButR.of (Same.new nM1)) b3
      have S4 : ButR a H3 H4 := ButR.trans (ButR.of (Same.new nM2)) b4
      have S5 : ButR a H4 H5 := ButR.trans (ButR.of (Same.new nM3)) b5
      have S25 : ButR a H2 H5 := ButR.trans S3 (ButR.trans S4 S5)
      refine' (fun fin => ?_ : (∀ y' : Int, 1 ≤ y' → y' ≤ 4 → ¬ (y' = 3 ∧ ru = "tree") → (_ : L2.St → Hp → Prop) [some (.ref a), some (.ref L), some (.int (0 + (i : Int))), some (.int sN), some (.int y'), some (.str ru)] H5) → _) ?_
      rotate_left
      · refine ⟨_, rfl, rfl, _, rfl, ?_⟩
        rw [er]
        by_cases ht : ru = "tree"
        · rw [decide_eq_true ht]
          refine iteT ⟨_, rfl, rfl, _, rfl, ?_⟩
          rw [ei]
          by_cases h3 : yN = 3
          · rw [decide_eq_true h3]
            refine iteT ?_
            exact fin 2 (by decide) (by decide) (fun z => by have := z.1; omega)
          · rw [decide_eq_false h3]
            refine iteF ⟨_, rfl, ?_⟩
            exact fin yN y1 y4 (fun z => h3 z.1)
        · rw [decide_eq_false ht]
          refine iteF (iteF ⟨_, rfl, ?_⟩)
          exact fin yN y1 y4 (fun z => ht z.2)
      · intro y' h1 h4 hn
        have hL5 := S25 _ _ hL2 naL
        refine ⟨_, rfl, .inl ⟨rfl, _, .of hL5⟩, _, rfl, _, rfl, _, rfl, ?_⟩
        refine ⟨small_line (by simp), fun M4 nM4 => ⟨_, rfl, a, 3, rfl, hP5.same' (Same.new nM4), by decide, by decide, fun r4 H6 r40 r41 hP6 b6 f6 => ?_⟩⟩
        obtain ⟨x4, e4, m4⟩ := menuAt (xs := (["back", "back", "through"] : List Str).map V.str) (n := 3) r40 r41 rfl
        refine ⟨M4, _, r4, x4, rfl, rfl, .of (b6 _ _ upd_same (hP5.ne nM4)), e4, ?_⟩
        obtain ⟨wr, hwr, rfl⟩ := List.mem_map.mp m4
        have hwr : wr ∈ WRT := by
          simp only [List.mem_cons, List.not_mem_nil, or_false] at hwr ⊢
          rcases hwr with h | h | h
          · exact .inl h
          · exact .inl h
          · exact .inr h
        have S6 : ButR a H5 H6 := ButR.trans (ButR.of (Same.new nM4)) b6
        have S26 : ButR a H2 H6 := ButR.trans S25 S6
        have hL6 := S26 _ _ hL2 naL
        refine ⟨small_line (by simp), fun t nt => ?_⟩
        have nL : t ≠ L := (ne_of_none hL6 nt).symm
        have vl := DpAll.len dA
        have sT := Same.new (o := .tup [.int sN, .int y', .str ru, .str wr]) nt
        have hL7 := sT _ _ hL6
        refine ⟨L, vs, .ref t, rfl, rfl, hL7, Nat.lt_of_le_of_lt (show vs.length ≤ 100 by omega) (by rw [sizeLine_eq]; omega), ?_⟩
        have kU := updL.kp (o := .lst (vs ++ [.ref t])) hL7
        have K27 : KpT H2 _ := (ButR.kpL hP2 S26).trans ((Same.kp sT).trans kU)
        have hP7 := hP6.same' sT
        refine ⟨_, _, _, _, vs ++ [.ref t], ds ++ [.tuple [.int sN, .int y', .str ru, .str wr]], rfl, upd_same, ?_, by rw [List.length_append, dl]; rfl, fun d hd => ?_, ?_, ?_⟩
        · exact DpAll.app (DpAll.kpT K27 (noLs_of fun d hd => (dm d hd).nl) dA) (.cons (.tup (.of (by rw [upd_ne nL, upd_same])) (.cons (.int _) (.cons (.int _) (.cons (.str _) (.cons (.str _) .nil))))) .nil)
        · rcases List.mem_append.mp hd with hd | hd
          · exact dm d hd
          · rw [List.mem_singleton.mp hd]
            exact ⟨sN, y', ru, wr, rfl, s1, s4, h1, h4, hru, hwr, hn⟩
        · obtain ⟨p7, q7, h7, h70⟩ := hP7
          exact ⟨p7, q7, by rw [upd_ne naL.symm]; exact h7, h70⟩
        · intro b o e n
          rw [upd_ne (ne_of_none e hL)]
          exact sT _ _ (S26 _ _ (b2 _ _ e n) n)
    · rintro σ H2 ⟨v2, v3, v4, v5, vs, ds, rfl, hL2, dA, dl, dm, hP2, b2⟩
      refine ⟨small_line (by simp), fun M1 nM1 => ⟨_, rfl, a, 4, rfl, hP2.same' (Same.new nM1), by decide, by decide, fun r1 H3 r10 r11 hP3 b3 f3 => ?_⟩⟩
      obtain ⟨x1, e1, m1⟩ := menuAt (xs := [.int 1, .int 2, .int 2, .int 4]) (n := 4) r10 r11 rfl
      refine ⟨M1, _, r1, x1, rfl, rfl, .of (b3 _ _ upd_same (hP2.ne nM1)), e1, ?_⟩
      have g1 : ∃ s : Int, x1 = .int s ∧ (s = 1 ∨ s = 2 ∨ s = 4) := by
        simp only [List.mem_cons, List.not_mem_nil, or_false] at m1
        rcases m1 with rfl | rfl | rfl | rfl
        · exact ⟨_, rfl, .inl rfl⟩
        · exact ⟨_, rfl, .inr (.inl rfl)⟩
        · exact ⟨_, rfl, .inr (.inl rfl)⟩
        · exact ⟨_, rfl, .inr (.inr rfl)⟩
      obtain ⟨ln, rfl, hln⟩ := g1
      have S3 : ButR a H2 H3 := ButR.trans (ButR.of (Same.new nM1)) b3
      have hL3 := S3 _ _ hL2 naL
      refine ⟨_, rfl, L, vs, rfl, .inl ⟨.of hL3, fun t nt => ⟨small_line (by simp), fun p np => ?_⟩⟩⟩
      have sT := (Same.new (o := .tup vs) nt)
      have sP := (Same.new (o := .tup [.int ln, .ref t]) np)
      have K3 : KpT H2 _ := (ButR.kpL hP2 S3).trans (Same.kp (sT.trans sP))
      refine k p t ln ds _ hln (by omega) (by omega) dm upd_same (.tup (sP.tup (.of upd_same)) (DpAll.kpT K3 (noLs_of fun d hd => (dm d hd).nl) dA)) (hP3.same' (sT.trans sP)) ?_
      exact ButR.trans b2 (ButR.trans S3 (ButR.of (sT.trans sP)))
end

end K12

namespace K12
open PySem L2 SZ VR VX StX RT
def lcmL (n : Nat) (f s : Nat) : List Int := ((List.range n).map fun j : Nat => (1 : Int) + (j : Int)).filter fun m => decide (m % (f : Int) = 0) && decide (m % (s : Int) = 0)
theorem lcmL_succ (n f s : Nat) : lcmL (n + 1) f s = if (decide (((1 : Int) + (n : Int)) % (f : Int) = 0) && decide (((1 : Int) + (n : Int)) % (s : Int) = 0)) = true then lcmL n f s ++ [(1 : Int) + (n : Int)] else lcmL n f s := by
  unfold lcmL
  rw [List.range_succ, List.map_append, List.filter_append, List.map_cons, List.map_nil, List.filter_cons]
  split
  · rfl
  · rw [List.filter_nil, List.append_nil]
theorem mod_dvd (m f : Nat) : (((m : Int) % (f : Int)) = 0) ↔ f ∣ m := by
  rw [← Int.natCast_emod]
  constructor
  · intro h
    exact Nat.dvd_of_mod_eq_zero (by omega)
  · intro h
    have := Nat.mod_eq_zero_of_dvd h
    omega
theorem lcmL_first {n f s : Nat} (hf : 0 < f) (hs : 0 < s) (h : Nat.lcm f s ≤ n) : (lcmL n f s)[0]? = some ((Nat.lcm f s : Nat) : Int) := by
  have hp : 0 < Nat.lcm f s := Nat.lcm_pos hf hs
  have key : ∀ k, k < Nat.lcm f s → lcmL k f s = [] := by
    intro k
    induction k with
    | zero => intro _; rfl
    | succ k ih =>
      intro hk
      rw [lcmL_succ, ih (by omega), if_neg]
      intro hh
      rw [Bool.and_eq_true, decide_eq_true_iff, decide_eq_true_iff] at hh
      have e : (1 : Int) + (k : Int) = ((k + 1 : Nat) : Int) := by omega
      rw [e, mod_dvd, mod_dvd] at hh
      have := Nat.le_of_dvd (by omega) (Nat.lcm_dvd hh.1 hh.2)
      omega
  have at0 : lcmL (Nat.lcm f s) f s = [((Nat.lcm f s : Nat) : Int)] := by
    obtain ⟨k, hk⟩ : ∃ k, Nat.lcm f s = k + 1 := ⟨Nat.lcm f s - 1, by omega⟩
    have e : (1 : Int) + (k : Int) = ((k + 1 : Nat) : Int) := by omega
    have d1 := Nat.dvd_lcm_left f s
    have d2 := Nat.dvd_lcm_right f s
    have k0 := key k (by omega)
    rw [hk] at d1 d2 ⊢
    rw [lcmL_succ, k0, e, if_pos]
    · rfl
    · rw [Bool.and_eq_true, decide_eq_true_iff, decide_eq_true_iff, mod_dvd, mod_dvd]
      exact ⟨d1, d2⟩
  have grow : ∀ m, (lcmL (Nat.lcm f s + m) f s)[0]? = some ((Nat.lcm f s : Nat) : Int) := by
    intro m
    induction m with
    | zero => rw [Nat.add_zero, at0]; rfl
    | succ m ih =>
      rw [← Nat.add_assoc, lcmL_succ]
      split
      · rw [List.getElem?_append_left]
        · exact ih
        · exact (List.getElem?_eq_some_iff.mp ih).1
      · exact ih
  have e : n = Nat.lcm f s + (n - Nat.lcm f s) := by omega
  rw [e]
  exact grow _
theorem lcmL_len (n f s : Nat) : (lcmL n f s).length ≤ n := by
  unfold lcmL
  refine Nat.le_trans (List.length_filter_le _ _) ?_
  rw [List.length_map, List.length_range]
  exact Nat.le_refl _
def spTg (K : PySem.W.Frag) : Sp := fun vs H Q _ => ∃ (lv : V) (ds : List PyData), vs = [lv] ∧ Dp K H lv (.tuple ds) ∧ (∀ d ∈ ds, lvlD d = true) ∧ (∀ i, i ≤ ds.length → togN (ds.take i) ≤ 840) ∧ ∀ H', Same H H' → Q (.int (togN ds : Int)) H'
theorem togN_pos {ds : List PyData} (h : ∀ x ∈ ds, lvlD x = true) : ∀ i, i ≤ ds.length → 0 < togN (ds.take i) := by
  intro i
  induction i with
  | zero => intro _; simp [togN]
  | succ i ih =>
    intro hi
    have hx : ds[i]? = some ds[i] := List.getElem?_eq_getElem hi
    rw [togN_snoc hx]
    obtain ⟨a, b, r, y, e, h1, h2⟩ := lvl_sets (h _ (List.getElem_mem hi))
    have hs : 0 < setsN ds[i] := by
      rw [e]
      show 0 < a.natAbs
      omega
    exact Nat.lcm_pos (ih (by omega)) hs
section
variable {P : Program} {w : World} {K : PySem.W.Frag} {mg : Str → Option Value} {base : Heap}
theorem ok_tog {f : Addr} {fd : FuncData} (F : Fun K "_law_together" "_law_together" S_law_together f fd) (B : LwB mg) : FnOk P w K mg base CX0 1 f fd ["_law_levels"] (spTg K) := by
  refine F.ok sc_law_together (fun vs H Q E h => ?_) (fun cdv A outer s H vs Q E hr h => ?_)
  · obtain ⟨lv, ds, rfl, _⟩ := h; rfl
  · obtain ⟨lv, ds, rfl, hd, hok, hb, q⟩ := h
    refine ⟨_, pss_cons (ps_set (i := 1) sc_law_together.nd rfl (Or.inr rfl) pe_int)
      (pss_cons (ps_for PassesOwn.never rfl (pi_tup (pv 0)) (pg_tup rfl (pgs_cons (pg_name (i := 2) sc_law_together.nd rfl (Or.inr rfl)) (pgs_cons (pg_name (i := 3) sc_law_together.nd rfl (Or.inl rfl)) (pgs_cons (pg_name (i := 4) sc_law_together.nd rfl (Or.inl rfl)) (pgs_cons (pg_name (i := 5) sc_law_together.nd rfl (Or.inl rfl)) pgs_nil)))))
        (pss_one (ps_set (i := 1) sc_law_together.nd rfl (Or.inr rfl) (pe_ix ix_list (pe_lc (own := [("_law_many", 6)]) (g := gName 6) (by rfl) sc_law_together.nd (pi_range2 (by rfl) B.rng (pa_cons pe_int (pa_cons pe_int pa_nil)))
          (blkOk_by (own := [("_law_many", 6)]) (N := ["_law_levels", "_law_found", "_law_sets", "_law_ways", "_law_rule", "_law_writes", "_law_many"]) (sc := defScope S_law_together) (by decide +kernel)) (fun _ _ _ _ _ => pg_name (i := 6) sc_law_together.nd rfl (Or.inl rfl))
          (fun _ _ _ _ _ => pts_one (PW.pt (pw_and (pt_cmpR op_eq (pe_op op_mod (pv 6) (pv 1)) pe_int (nomark _)) (pw_and1 (pt_cmpR op_eq (pe_op op_mod (pv 6) (pv 2)) pe_int (nomark _)))))) (fun _ _ _ _ _ => pv 6)) pe_int (fun _ _ => rfl)))))
      (pss_one (ps_ret (pv 1)))), ?_⟩
    cases hd with
    | @tup a xs _ h1 h2 =>
      have hlen := DpAll.len h2
      refine ⟨_, rfl, a, rfl, ⟨_, h1⟩, for_tup (xs := xs) (fun i σ H' => ∃ v2 v3 v4 v5, σ = [some (.ref a), some (.int (togN (ds.take i) : Int)), v2, v3, v4, v5, none] ∧ Same H H') ⟨none, none, none, none, rfl, Same.refl _⟩ (fun i σ H' _ ⟨_, _, _, _, _, s1⟩ => s1.tup h1) ?_ ?_⟩
      · rintro i x σ H1 hx ⟨v2, v3, v4, v5, rfl, s1⟩
        obtain ⟨di, hdi, hdx⟩ := DpAll.at h2 hx
        obtain ⟨u, j, r, y, rfl, u1, u8⟩ := lvl_sets (hok di (List.mem_of_getElem? hdi))
        have hi : i < ds.length := (List.getElem?_eq_some_iff.mp hdi).1
        cases Dp.keep s1 hdx with
        | @tup t ys _ g1 g2 =>
          obtain ⟨x0, x1, x2, x3, rfl, p0, p1, p2, p3⟩ := dp_four g2
          cases p0
          have bp := togN_pos hok i (by omega)
          have bn := hb (i + 1) (by omega)
          rw [togN_snoc hdi] at bn
          refine ⟨t, _, rfl, g1, rfl, _, _, rfl, _, _, rfl, _, _, rfl, _, _, rfl, rfl, ?_⟩
          generalize hf : togN (ds.take i) = ft at bp bn
          have hs : setsN (.tuple [.int u, .int j, .str r, .str y]) = u.natAbs := rfl
          rw [hs] at bn
          have eu : ((u.natAbs : Nat) : Int) = u := Int.natAbs_of_nonneg (by omega)
          have ei : ∀ z : Int, decide (V.int z = V.int 0) = decide (z = 0) := fun z => decide_eq_decide.mpr ⟨fun e => by injection e, fun e => by rw [e]⟩
          refine ⟨1, 841, rfl, ⟨by decide, by decide, by decide, by decide⟩, fun D hD => lc_it (walk_range (lo := 1) (n := 840)) (fun k H' => H' D = some (.lst ((lcmL k ft u.natAbs).map V.int)) ∧ Same H H') ⟨upd_same, s1.trans (Same.new hD)⟩ (fun _ _ _ _ => trivial) ?_ ?_⟩
          · rintro k v H2 H2' hk ⟨hd, s2⟩ ⟨rfl, rfl⟩
            have nD : H D = none := by
              cases e : H D with
              | none => rfl
              | some o => exact absurd (hD.symm.trans (s1 _ _ e)) (by simp)
            refine ⟨rfl, ?_⟩
            refine ⟨_, rfl, _, rfl, _, _, rfl, rfl, (by omega : (0 : Int) < (ft : Int)), rfl, _, rfl, ?_⟩
            rw [ei]
            have no : (decide (((1 : Int) + (k : Int)) % (ft : Int) = 0) && decide (((1 : Int) + (k : Int)) % ((u.natAbs : Nat) : Int) = 0)) ≠ true → H2' D = some (.lst ((lcmL (k + 1) ft u.natAbs).map V.int)) ∧ Same H H2' := fun n => ⟨by rw [lcmL_succ, if_neg n]; exact hd, s2⟩
            refine ite2 (fun c1 => ?_) (fun c1 => ?_)
            · refine ⟨_, rfl, _, rfl, _, _, rfl, rfl, (by omega : (0 : Int) < u), rfl, _, rfl, ?_⟩
              rw [ei]
              refine ite2 (fun c2 => ?_) (fun c2 => ?_)
              · refine ⟨_, rfl, _, hd, Nat.lt_of_le_of_lt (show _ ≤ 1000 by rw [List.length_map]; have := lcmL_len k ft u.natAbs; omega) (by rw [sizeLine_eq]; omega), ?_, s2.upd0 nD⟩
                rw [upd_same, lcmL_succ, if_pos (by rw [eu, c1, c2]; rfl), List.map_append]
                rfl
              · exact no (fun z => c2 (by rw [Bool.and_eq_true, eu] at z; exact z.2))
            · exact no (fun z => c1 (by rw [Bool.and_eq_true] at z; exact z.1))
          · rintro H2 ⟨hd, s2⟩
            have hl := lcmL_first bp (show 0 < u.natAbs by omega) bn
            refine ⟨D, _, 0, .int ((Nat.lcm ft u.natAbs : Nat) : Int), rfl, rfl, .of hd, atN (j := 0) (by rw [List.getElem?_map, hl]; rfl), ?_⟩
            refine ⟨some (.int u), some x1, some x2, some x3, ?_, s2⟩
            rw [togN_snoc hdi, hf, hs]
            rfl
      · rintro σ H1 ⟨v2, v3, v4, v5, rfl, s1⟩
        rw [hlen, List.take_length]
        exact ⟨_, rfl, q H1 s1⟩
end

end K12

namespace K12
open PySem L2 SZ VR VX StX RT
/-! ### what is heard of a cache -/
theorem passes_len {X : Cx} {W : WX} {n : Nat} (hn : X.N.length = n) (tk : Takes X W) : Passes (L2.CX X.prog X.w) X (fun cls d H => ∀ σ : L2.St, σ.length = n → W cls d σ H) := fun _ σ _ _ e s' I c => tk e s' (XE.of_call I (fun cls d H' h => h σ (I.len.trans hn)) c)
def ShowOk (d : PyData) : Prop := d.showable = true ∧ d.hasDict = false ∧ d.depth ≤ 8 ∧ d.shown.length ≤ sizeLine
def heardD (dl dv : PyData) : List PyData := if cntD dl 8 = true then (match badL dv with
    | some b => [.str "cache", .str b.shown]
    | none => match dl, dv with
      | .int ln, .tuple ds => if 64 < (togN ds : Int) * ln then [.str "large", .str "period"] else [.str "fine"]
      | _, _ => []) else [.str "cache", .str dl.shown]
def spHeard (K : PySem.W.Frag) : Sp := fun vs H Q _ => ∃ (l lv : V) (dl dv : PyData), vs = [l, lv] ∧ Dp K H l dl ∧ Dp K H lv dv ∧ ShowOk dl ∧ (∀ b, badL dv = some b → ShowOk b) ∧ ∀ v H', Same H H' → Dp K H' v (.list (heardD dl dv)) → Q v H'
abbrev tsI (K : PySem.W.Frag) (CI : Addr) : Addr → Value → Option Addr → TS := fun a cls d => tRet (tLst (tCons (tC (.str (Str.ofString "cache"))) (tCons (tCB (rReprD K) (tCons (tXf a cls d CI "value" (tVar 2)) tNil)) tNil)))
abbrev tsT (CT : Addr) : Addr → Value → Option Addr → TS := fun a cls d => tRet (tLst (tCons (tC (.str (Str.ofString "large"))) (tCons (tXf a cls d CT "word" (tVar 2)) tNil)))
theorem oxc_xf {K : PySem.W.Frag} {C : Addr} (T : OxC K C) : XfC K C := ⟨T.ga, T.gg, T.ex, T.hd⟩
section
variable {P : Program} {w : World} {K : PySem.W.Frag} {mg : Str → Option Value} {base : Heap} {C CI CT : Addr}
theorem heard_len (vs : List V) (H : Hp) (Q : VK) (E : XK) (h : spHeard K vs H Q E) : vs.length = 2 := by
  obtain ⟨l, lv, dl, dv, rfl, _⟩ := h
  rfl
theorem run_heard {f fC : Addr} {fd dC : FuncData} (F : Fun K "_law_heard" "_law_heard" S_law_heard f fd) (MC : Mk K C fC) (GC : FnOk P w K mg base (L2.CX P w) 5 fC dC ["self", "line", "levels"] (spCInit K C CI CT)) (bC : Binds K dC ["self", "line", "levels"] []) (Z : ChC K mg C) (B : LwB mg)
    (mI : mg "InvalidCache" = some (.ref CI)) (mT : mg "TooLarge" = some (.ref CT)) (TI : OxC K CI) (TT : OxC K CT) (nI : PySem.W.findIn K (.ref CI) "value" = some none) (nT : PySem.W.findIn K (.ref CT) "word" = some none)
    (e11 : PySem.W.exmOne K (.ref CI) (.ref CI) = some true) (e21 : PySem.W.exmOne K (.ref CT) (.ref CI) = some false) (e22 : PySem.W.exmOne K (.ref CT) (.ref CT) = some true) : RunG P w K mg base CX0 7 f fd ["_law_line", "_law_levels"] (spHeard K) := by
  refine okG F sc_law_heard heard_len (fun cdv A outer s H vs Q E hg hr h => ?_)
  obtain ⟨l, lv, dl, dv, rfl, hl, hv, sl, sv, k⟩ := h
  refine ⟨_, PSs.nox (pss_one (ps_try_asMany (Wo := fun _ _ _ _ => False) (l := [(.ref CI, 2, tsI K CI), (.ref CT, 2, tsT CT)]) rfl rfl sc_law_heard.nd takes0
    (fun W pn xe tk _ => pss_cons (ps_expr (pe_make MC GC hr (by rfl) Z.mgC bC .nil (passes_len (n := 3) rfl tk) (pa_cons (pv 0) (pa_cons (pv 1) pa_nil)))) (pss_one (ps_ret (pe_lst (pa_cons pe_str pa_nil)))))
    (.cons (n := "e") rfl rfl ⟨rfl, by decide, .inl mI⟩ (fun a oe cls d pn hz hf => pss_one (ps_ret (pe_lst (pa_cons pe_str (pa_cons (pe_callB (call_reprD (by exact hg) (by exact hr.units)) (by rfl) B.rep (by decide +kernel) (pa_cons (pe_xf (oxc_xf TI) nI hz hf (pv 2)) pa_nil)) pa_nil)))))
      (.cons (n := "e") rfl rfl ⟨rfl, by decide, .inl mT⟩ (fun a oe cls d pn hz hf => pss_one (ps_ret (pe_lst (pa_cons pe_str (pa_cons (pe_xf (oxc_xf TT) nT hz hf (pv 2)) pa_nil))))) .nil)))), ?_⟩
  have outI : ∀ (x : V) (b : PyData), ShowOk b → heardD dl dv = [.str "cache", .str b.shown] → ∀ (d : Addr) (H' : Hp), Same H H' → H' d = some (.xd [("value", x)]) → Dp K H' x b → ∀ σ : L2.St, σ.length = 3 →
      wAsMany K (fun _ _ _ _ => False) { nx := fun _ H' => Q .non H', rt := Q } [(.ref CI, 2, tsI K CI), (.ref CT, 2, tsT CT)] (.ref CI) (some d) σ H' := fun x b hs he d H' s1 e1 hx σ hσ => by
    refine ⟨true, e11, fun _ a ha => ?_, fun z => nomatch z⟩
    refine ⟨.ref a, by rw [List.getElem?_set_self (by omega)], rfl, rfl, d, _, x, rfl, e1, rfl, x, b, rfl, hx, hs.1, hs.2.1, hs.2.2.1, hs.2.2.2, small_line (by simp), fun p hp => ?_⟩
    refine k (.ref p) _ (s1.trans (Same.new hp)) ?_
    rw [he]
    exact .lst (.of upd_same) (.cons (.str _) (.cons (.str _) .nil))
  refine ⟨_, rfl, _, rfl, fun x dx nx nd ne => ?_⟩
  have SM : Same H (upd (upd H dx (.own x)) x (.ins C dx [])) := (Same.new nd).upN (by rw [upd_ne ne.symm]; exact nx)
  refine ⟨x, dx, l, lv, dl, dv, rfl, upd_same, Dp.keep SM hl, Dp.keep SM hv, fun c1 d H' s1 e1 => ?_, fun c1 b eb y hy d H' s1 e1 => ?_, fun ln ds el ev c1 b1 => ⟨fun h64 d H' s1 e1 σ hσ => ?_, fun h64 H' b1' hx' => ⟨rfl, ?_⟩⟩⟩
  · exact outI l dl sl (by unfold heardD; rw [if_neg (by rw [c1]; decide)]) d H' (SM.trans s1) e1 (Dp.keep (SM.trans s1) hl)
  · exact outI y b (sv b eb) (by unfold heardD; rw [if_pos c1, eb]) d H' (SM.trans s1) e1 (Dp.keep s1 hy)
  · subst el ev
    refine ⟨false, e21, (fun z => nomatch z), fun _ => ⟨true, e22, fun _ a ha => ?_, fun z => nomatch z⟩⟩
    refine ⟨.ref a, by rw [List.getElem?_set_self (by omega)], rfl, rfl, d, _, _, rfl, e1, rfl, small_line (by simp), fun p hp => ?_⟩
    refine k (.ref p) _ ((SM.trans s1).trans (Same.new hp)) ?_
    have eh : heardD (.int ln) (.tuple ds) = [.str "large", .str "period"] := by
      unfold heardD
      rw [if_pos c1, b1]
      exact if_pos h64
    rw [eh]
    exact .lst (.of upd_same) (.cons (.str _) (.cons (.str _) .nil))
  · subst el ev
    refine ⟨small_line (by simp), fun p hp => ?_⟩
    have SH : Same H H' := fun b o e => b1' b o (SM b o e) (ne_of_none e nx)
    refine k (.ref p) _ (SH.trans (Same.new hp)) ?_
    have eh : heardD (.int ln) (.tuple ds) = [.str "fine"] := by
      unfold heardD
      rw [if_pos c1, b1]
      exact if_neg (by omega)
    rw [eh]
    exact .lst (.of upd_same) (.cons (.str _) .nil)
end

end K12

namespace K12
open PySem L2 SZ VR VX StX RT
/-! ### the law's values -/
def Sm (n : Nat) (x : Str) : Prop := x.length ≤ n ∧ PyData.strOk x = true
theorem Sm.app {a b : Nat} {x y : Str} (h : Sm a x) (k : Sm b y) : Sm (a + b) (x ++ y) := by
  refine ⟨?_, ?_⟩
  · rw [Str.length_append]
    have := h.1
    have := k.1
    omega
  · have h2 := h.2
    have k2 := k.2
    unfold PyData.strOk at *
    rw [Str.cps_append, Array.all_append, h2, k2]
    rfl
theorem Sm.mono {a b : Nat} {x : Str} (h : Sm a x) (n : a ≤ b) : Sm b x := ⟨Nat.le_trans h.1 n, h.2⟩
def ShS (n : Nat) (d : PyData) : Bool := d.showable && (!d.hasDict && (decide (d.depth ≤ 4) && (decide (d.shown.length ≤ n) && (PyData.strOk d.shown && d.canLay0))))
theorem ShS.ok {n : Nat} {d : PyData} (h : ShS n d = true) : d.showable = true ∧ d.hasDict = false ∧ d.depth ≤ 4 ∧ Sm n d.shown ∧ d.canLay0 = true := by
  unfold ShS at h
  simp only [Bool.and_eq_true, decide_eq_true_iff, Bool.not_eq_true'] at h
  exact ⟨h.1, h.2.1, h.2.2.1, ⟨h.2.2.2.1, h.2.2.2.2.1⟩, h.2.2.2.2.2⟩
theorem ShS.show {n : Nat} {d : PyData} (h : ShS n d = true) (hn : n ≤ 1000) : ShowOk d := by
  obtain ⟨h1, h2, h3, h4, _⟩ := ShS.ok h
  exact ⟨h1, h2, by omega, Nat.le_of_lt (Nat.lt_of_le_of_lt (show _ ≤ 1000 from Nat.le_trans h4.1 hn) (by rw [sizeLine_eq]; omega))⟩
theorem odd_all : ∀ d ∈ ODD, (ShS 200 d && !lvlD d) = true := by decide +kernel
theorem odd_sh {d : PyData} (h : d ∈ ODD) : ShS 200 d = true := (Bool.and_eq_true_iff.mp (odd_all d h)).1
theorem odd_bad {d : PyData} (h : d ∈ ODD) : lvlD d = false := by
  have := (Bool.and_eq_true_iff.mp (odd_all d h)).2
  rwa [Bool.not_eq_true'] at this
theorem mk_all : ∀ s ∈ ([1, 2, 3, 4] : List Int), ∀ y ∈ ([1, 2, 3, 4] : List Int), ∀ r ∈ RUL, ∀ w ∈ WRT, (ShS 40 (.tuple [.int s, .int y, .str r, .str w]) && decide ((PyData.tuple [.int s, .int y, .str r, .str w]).depth = 1)) = true := by decide +kernel
theorem MkL.sh {d : PyData} (h : MkL d) : ShS 40 d = true ∧ d.depth = 1 := by
  obtain ⟨s, y, r, w, rfl, s1, s4, y1, y4, hr, hw, _⟩ := h
  have hs : s ∈ ([1, 2, 3, 4] : List Int) := by
    simp only [List.mem_cons, List.not_mem_nil, or_false]
    omega
  have hy : y ∈ ([1, 2, 3, 4] : List Int) := by
    simp only [List.mem_cons, List.not_mem_nil, or_false]
    omega
  have := mk_all s hs y hy r hr w hw
  rw [Bool.and_eq_true, decide_eq_true_iff] at this
  exact this
theorem list_three {α : Type} {l : List α} (h1 : 1 ≤ l.length) (h3 : l.length ≤ 3) : (∃ a, l = [a]) ∨ (∃ a b, l = [a, b]) ∨ ∃ a b c, l = [a, b, c] := by
  match l, h1, h3 with
  | [a], _, _ => exact .inl ⟨a, rfl⟩
  | [a, b], _, _ => exact .inr (.inl ⟨a, b, rfl⟩)
  | [a, b, c], _, _ => exact .inr (.inr ⟨a, b, c, rfl⟩)
theorem sm_list {ts : List Str} (h1 : 1 ≤ ts.length) (h3 : ts.length ≤ 3) (h : ∀ t ∈ ts, Sm 40 t) : Sm 200 (listText ts) := by
  have o : Sm 1 ("[" : Str) := ⟨by decide +kernel, by decide +kernel⟩
  have c : Sm 1 ("]" : Str) := ⟨by decide +kernel, by decide +kernel⟩
  have e : Sm 0 ("" : Str) := ⟨by decide +kernel, by decide +kernel⟩
  have m : Sm 2 (", " : Str) := ⟨by decide +kernel, by decide +kernel⟩
  rcases list_three h1 h3 with ⟨a, rfl⟩ | ⟨a, b, rfl⟩ | ⟨a, b, d, rfl⟩
  · have ha := h a (by simp)
    show Sm 200 ((("[" : Str) ++ "" ++ a) ++ "]")
    exact (((o.app e).app ha).app c).mono (by omega)
  · have ha := h a (by simp)
    have hb := h b (by simp)
    show Sm 200 (((("[" : Str) ++ "" ++ a) ++ ", " ++ b) ++ "]")
    exact (((((o.app e).app ha).app m).app hb).app c).mono (by omega)
  · have ha := h a (by simp)
    have hb := h b (by simp)
    have hd := h d (by simp)
    show Sm 200 ((((("[" : Str) ++ "" ++ a) ++ ", " ++ b) ++ ", " ++ d) ++ "]")
    exact (((((((o.app e).app ha).app m).app hb).app m).app hd).app c).mono (by omega)
theorem sm_tup4 {a : Str} (ha : Sm 40 a) : Sm 200 (tupleText [a, a, a, a]) := by
  have o : Sm 1 ("(" : Str) := ⟨by decide +kernel, by decide +kernel⟩
  have c : Sm 1 (")" : Str) := ⟨by decide +kernel, by decide +kernel⟩
  have m : Sm 2 (", " : Str) := ⟨by decide +kernel, by decide +kernel⟩
  have t : tupleText [a, a, a, a] = ("(" : Str) ++ (a ++ ", " ++ (a ++ ", " ++ (a ++ ", " ++ a))) ++ (")" : Str) := rfl
  rw [t]
  exact ((o.app ((ha.app m).app ((ha.app m).app ((ha.app m).app ha)))).app c).mono (by omega)
theorem lst_sh {ds : List PyData} (h1 : 1 ≤ ds.length) (h3 : ds.length ≤ 3) (h : ∀ d ∈ ds, MkL d) : ShS 200 (.list ds) = true ∧ (PyData.tuple ds).canLay0 = true ∧ (PyData.tuple ds).depth ≤ 4 := by
  have all : ∀ d ∈ ds, d.showable = true ∧ d.hasDict = false ∧ d.depth = 1 ∧ Sm 40 d.shown ∧ d.canLay0 = true := fun d hd => by
    obtain ⟨g, g1⟩ := (h d hd).sh
    obtain ⟨k1, k2, k3, k4, k5⟩ := ShS.ok g
    exact ⟨k1, k2, g1, k4, k5⟩
  have sm : Sm 200 (PyData.list ds).shown := by
    rw [PyData.shown]
    refine sm_list ?_ ?_ ?_
    · rcases list_three h1 h3 with ⟨a, rfl⟩ | ⟨a, b, rfl⟩ | ⟨a, b, c, rfl⟩ <;> simp [PyData.shownAll]
    · rcases list_three h1 h3 with ⟨a, rfl⟩ | ⟨a, b, rfl⟩ | ⟨a, b, c, rfl⟩ <;> simp [PyData.shownAll]
    · intro t ht
      rcases list_three h1 h3 with ⟨a, rfl⟩ | ⟨a, b, rfl⟩ | ⟨a, b, c, rfl⟩ <;> simp [PyData.shownAll] at ht
      · subst ht; exact (all _ (by simp)).2.2.2.1
      · rcases ht with rfl | rfl
        · exact (all _ (by simp)).2.2.2.1
        · exact (all _ (by simp)).2.2.2.1
      · rcases ht with rfl | rfl | rfl
        · exact (all _ (by simp)).2.2.2.1
        · exact (all _ (by simp)).2.2.2.1
        · exact (all _ (by simp)).2.2.2.1
  have sO := sm.2
  have sL := sm.1
  clear sm
  unfold ShS
  rw [decide_eq_true sL, sO]
  rcases list_three h1 h3 with ⟨a, rfl⟩ | ⟨a, b, rfl⟩ | ⟨a, b, c, rfl⟩
  · obtain ⟨a1, a2, a3, _, a5⟩ := all a (by simp)
    simp [PyData.showable, PyData.showableAll, PyData.hasDict, PyData.hasDictAll, PyData.depth, PyData.depthAll, PyData.canLay0, PyData.canLayAll0, a1, a2, a3, a5]
  · obtain ⟨a1, a2, a3, _, a5⟩ := all a (by simp)
    obtain ⟨b1, b2, b3, _, b5⟩ := all b (by simp)
    simp [PyData.showable, PyData.showableAll, PyData.hasDict, PyData.hasDictAll, PyData.depth, PyData.depthAll, PyData.canLay0, PyData.canLayAll0, a1, a2, a3, a5, b1, b2, b3, b5]
  · obtain ⟨a1, a2, a3, _, a5⟩ := all a (by simp)
    obtain ⟨b1, b2, b3, _, b5⟩ := all b (by simp)
    obtain ⟨c1, c2, c3, _, c5⟩ := all c (by simp)
    simp [PyData.showable, PyData.showableAll, PyData.hasDict, PyData.hasDictAll, PyData.depth, PyData.depthAll, PyData.canLay0, PyData.canLayAll0, a1, a2, a3, a5, b1, b2, b3, b5, c1, c2, c3, c5]
theorem four_sh {a : PyData} (h : MkL a) : ShS 200 (.tuple [a, a, a, a]) = true := by
  obtain ⟨g, g1⟩ := h.sh
  obtain ⟨k1, k2, k3, k4, k5⟩ := ShS.ok g
  have sm : Sm 200 (PyData.tuple [a, a, a, a]).shown := by
    rw [PyData.shown]
    exact sm_tup4 k4
  unfold ShS
  rw [decide_eq_true sm.1, sm.2]
  simp [PyData.showable, PyData.showableAll, PyData.hasDict, PyData.hasDictAll, PyData.depth, PyData.depthAll, PyData.canLay0, PyData.canLayAll0, k1, k2, g1, k5]
theorem tup_shaped {ds : List PyData} (h1 : 1 ≤ ds.length) (h3 : ds.length ≤ 3) (h : ∀ d ∈ ds, MkL d) : SeqAt.shaped (.tuple ds) = true := by
  obtain ⟨_, c, d⟩ := lst_sh h1 h3 h
  unfold SeqAt.shaped
  rw [c, decide_eq_true (show (PyData.tuple ds).depth ≤ 64 by omega)]
  rfl
theorem cac_shaped {x : Str} (h : PyData.strOk x = true) : SeqAt.shaped (.list [.str "cache", .str x]) = true := by
  have e : PyData.strOk ("cache" : Str) = true := by decide +kernel
  simp [SeqAt.shaped, PyData.canLay0, PyData.canLayAll0, PyData.depth, PyData.depthAll, h, e]
theorem cac_refl (x : Str) : PyData.eqv (.list [.str "cache", .str x]) (.list [.str "cache", .str x]) = true := by
  simp [PyData.eqv, PyData.eqvAll]
theorem eqv_last {a b : PyData} (h : PyData.eqv a b = false) : ∀ ini : List PyData, PyData.eqvAll (ini ++ [a]) (ini ++ [b]) = false
  | [] => by simp [PyData.eqvAll, h]
  | x :: r => by simp [PyData.eqvAll, eqv_last h r]
theorem tog12 {ds : List PyData} (h : ∀ d ∈ ds, MkL d) : ∀ i, i ≤ ds.length → togN (ds.take i) ∣ 12 := by
  intro i
  induction i with
  | zero => intro _; exact ⟨12, rfl⟩
  | succ i ih =>
    intro hi
    have hx : ds[i]? = some ds[i] := List.getElem?_eq_getElem hi
    rw [togN_snoc hx]
    obtain ⟨s, y, r, w, e, s1, s4, _⟩ := h _ (List.getElem_mem hi)
    refine Nat.lcm_dvd (ih (by omega)) ?_
    rw [e]
    show s.natAbs ∣ 12
    have : s = 1 ∨ s = 2 ∨ s = 3 ∨ s = 4 := by omega
    rcases this with rfl | rfl | rfl | rfl <;> decide
theorem tog_le12 {ds : List PyData} (h : ∀ d ∈ ds, MkL d) : ∀ i, i ≤ ds.length → togN (ds.take i) ≤ 12 := fun i hi => Nat.le_of_dvd (by decide) (tog12 h i hi)
theorem tog12' {ds : List PyData} (h : ∀ d ∈ ds, MkL d) : togN ds ≤ 12 := by
  have := tog_le12 h ds.length (Nat.le_refl _)
  rwa [List.take_length] at this
theorem bad_mk {ds : List PyData} (h1 : 1 ≤ ds.length) (h3 : ds.length ≤ 3) (h : ∀ d ∈ ds, MkL d) : badL (.tuple ds) = none := by
  show (if 1 ≤ ds.length ∧ ds.length ≤ 3 then ds.find? (fun d => !lvlD d) else some (.tuple ds)) = none
  rw [if_pos ⟨h1, h3⟩]
  exact find_none fun x hx => (h x hx).lvl
theorem bad_bent {ds : List PyData} {d : PyData} {i : Nat} (h3 : ds.length ≤ 3) (hi : i < ds.length) (h : ∀ d ∈ ds, MkL d) (hd : lvlD d = false) : badL (.tuple (ds.take i ++ d :: ds.drop (i + 1))) = some d := by
  have hl : (ds.take i ++ d :: ds.drop (i + 1)).length = ds.length := by
    rw [List.length_append, List.length_cons, List.length_take, List.length_drop]
    omega
  have ht : (ds.take i).length = i := by rw [List.length_take]; omega
  show (if 1 ≤ (ds.take i ++ d :: ds.drop (i + 1)).length ∧ (ds.take i ++ d :: ds.drop (i + 1)).length ≤ 3 then (ds.take i ++ d :: ds.drop (i + 1)).find? (fun d => !lvlD d) else _) = some d
  rw [if_pos (by rw [hl]; omega)]
  refine find_first (i := i) (fun x hx => ?_) ?_ hd
  · rw [List.take_append_of_le_length (by omega), List.take_of_length_le (by omega)] at hx
    exact (h x (List.mem_of_mem_take hx)).lvl
  · rw [List.getElem?_append_right (by omega), ht, Nat.sub_self]
    rfl
theorem heard_bad {ln : Int} {dv b : PyData} (h : cntD (.int ln) 8 = true) (e : badL dv = some b) : heardD (.int ln) dv = [.str "cache", .str b.shown] := by
  unfold heardD
  rw [if_pos h, e]
theorem heard_line {dl dv : PyData} (h : cntD dl 8 = false) : heardD dl dv = [.str "cache", .str dl.shown] := by
  unfold heardD
  rw [if_neg (by rw [h]; decide)]
/-- the comparison of what is heard with what is due -/
theorem cmp_go {K : PySem.W.Frag} {i : Nat} {σ : L2.St} {H : Hp} {x v : V} {b : PyData} {n : Nat} {Q : VK} (hσ : σ[i]? = some (some x)) (hx : Dp K H x b) (sh : ShS n b = true) (hn : n ≤ 1000) (hv : Dp K H v (.list [.str "cache", .str b.shown])) (q : ∀ H', Same H H' → Q (.bl false) H') :
    tLst (tCons (tC (.str (Str.ofString "cache"))) (tCons (tCB (rReprD K) (tCons (tVar i) tNil)) tNil)) σ H (fun y H' => rNeD K v y H' Q) := by
  obtain ⟨h1, h2, h3, h4, h5⟩ := ShS.ok sh
  have h6 := ShS.show sh hn
  refine ⟨x, hσ, x, b, rfl, hx, h6.1, h6.2.1, h6.2.2.1, h6.2.2.2, small_line (by simp), fun p hp => ?_⟩
  refine ⟨_, _, Dp.keep (Same.new hp) hv, .lst (.of upd_same) (.cons (.str _) (.cons (.str _) .nil)), cac_shaped h4.2, cac_shaped h4.2, ?_⟩
  have e : (!PyData.eqv (.list [.str "cache", .str b.shown]) (.list [.str "cache", .str b.shown])) = false := by rw [cac_refl]; rfl
  rw [show (Str.ofString "cache") = ("cache" : Str) from rfl, e]
  exact q _ (Same.new hp)
abbrev L0 : List PyData := [.none, .int 0, .int 9, .int (-1), .bool true, .str "2", .int 1000, .list [.int 2]]
theorem l0_all : ∀ d ∈ L0, (ShS 200 d && !cntD d 8) = true := by decide +kernel

end K12

/-! t * k for a tuple t and k = 0 or 1 (HandS.TupMul has k from 2 on). -/
namespace VX
open PySem PySem.Spec PyProof.Rows L2 VR
theorem mul0 (l : Addr) (items : Array Value) (n : Nat) (dd : Option Addr) (sl : Array (Option Value)) (u : Tok) (c1 : (items.isEmpty || (0 : Int) == 1) = false) :
    Meets (Builtin.«tuple.__mul__» ⟨[.ref l, .int 0 u], []⟩) (fun _ R s => s.heap.get? l = some { cls := .type "tuple", dict := dd, data := .seq items n, slots := sl } ∧
      R (.ok (.ret (Value.ref s.heap.objs.size))) { s with heap := s.heap.push { cls := Value.type "tuple", data := Data.seq #[] }, toks := s.toks }) :=
  .of_wp fun prog w A R s h => by
    obtain ⟨hp, g, d, tk, os⟩ := s
    obtain ⟨hl, h⟩ := h
    have f1 := AutoSeq1.idx_int
    wp_walk using wpAny_loadPart' hl
    repeat (first
      | (refine wpAny_ite_false (decide_eq_false (by decide)) ?_; wp_walk using wpAny_loadPart' hl)
      | (refine wpAny_ite_false (decide_eq_false (by rw [c1]; exact Bool.false_ne_true)) ?_; wp_walk using wpAny_loadPart' hl)
      | (refine wpAny_ite_true (decide_eq_true (by decide)) ?_; wp_walk using wpAny_loadPart' hl))
    exact ⟨_, rfl, h⟩
theorem mul1 (l : Addr) (items : Array Value) (n : Nat) (dd : Option Addr) (sl : Array (Option Value)) (u : Tok) :
    Meets (Builtin.«tuple.__mul__» ⟨[.ref l, .int 1 u], []⟩) (fun _ R s => s.heap.get? l = some { cls := .type "tuple", dict := dd, data := .seq items n, slots := sl } ∧ R (.ok (.ret (Value.ref l))) s) :=
  .of_wp fun prog w A R s h => by
    obtain ⟨hp, g, d, tk, os⟩ := s
    obtain ⟨hl, h⟩ := h
    have f1 := AutoSeq1.idx_int
    have c1 : (items.isEmpty || (1 : Int) == 1) = true := by simp
    wp_walk using wpAny_loadPart' hl
    repeat (first
      | (refine wpAny_ite_false (decide_eq_false (by decide)) ?_; wp_walk using wpAny_loadPart' hl)
      | (refine wpAny_ite_true (decide_eq_true (by rw [c1])) ?_; wp_walk using wpAny_loadPart' hl))
    exact ⟨_, rfl, h⟩
/-- t * k, t not empty, 0 ≤ k -/
def rRepA (K : PySem.W.Frag) : R2 := fun x y H Q => ∃ (l : Addr) (k : Nat) (xs : List V), x = .ref l ∧ y = .int (k : Int) ∧ SqT K H l xs ∧ xs ≠ [] ∧ k ≤ 1000 ∧ xs.length ≤ 1000 ∧
  ((k = 1 ∧ Q (.ref l) H) ∨ (k ≠ 1 ∧ ∀ p, H p = none → Q (.ref p) (upd H p (.tup (List.replicate k xs).flatten))))
theorem op_repA {X : Cx} : OpR X (binaryOp .Mult) (rRepA X.K) := by
  intro pins s σ H x y v u Q I rx ry h
  obtain ⟨l, k, xs, rfl, rfl, hT, hne, hk, hz, q⟩ := h
  by_cases h2 : 2 ≤ k
  · rcases q with ⟨e, _⟩ | ⟨_, q⟩
    · omega
    · exact op_repT pins s σ H _ _ v u Q I rx ry ⟨l, (k : Int), xs, rfl, rfl, hT, hne, by omega, by omega, hz, fun p hp => q p hp⟩
  cases rx
  obtain ⟨t, rfl⟩ := ry
  obtain ⟨its, r, ⟨⟨cls, dd, data, sl⟩, ho, hc, n, hd⟩, hs⟩ := I.tuple hT
  simp only at hc hd
  subst hc hd
  have hn : its ≠ [] := fun e => hne (by
    rw [e] at r
    cases r
    rfl)
  have hi : its.toArray.isEmpty = false := by
    cases its with
    | nil => exact absurd rfl hn
    | cons a b => rfl
  rcases q with ⟨rfl, q⟩ | ⟨n1, q⟩
  · exact wpAny_binaryOp_repeat_ref (T := "tuple") (U := "int") (by decide) ⟨_, ho, rfl⟩ (fun s' => typeIs_int s' _ t) noFill_tuple_mul F.fills_int_mul F.slot_int_rmul repeat_tuple F.slot_int_index.lookup
      (call_meets F.slot_int_rmul (typeIs_int s _ t) F.entry_int_rmul (F.args_int_rmul_2 _ _) (int_rmul_tuple _ t l its.toArray n dd sl)
        ⟨ho, rfl, ⟨_, ho, rfl⟩, call_meets F.slot_tuple_mul ⟨_, ho, rfl⟩ F.entry_tuple_mul (F.args_tuple_mul_2 _ _) (mul1 l its.toArray n dd sl t) ⟨ho, ⟨.ref l, H, I, rfl, q⟩⟩⟩)
  · have k0 : k = 0 := by omega
    subst k0
    have c1 : (its.toArray.isEmpty || (0 : Int) == 1) = false := by rw [hi]; rfl
    refine wpAny_binaryOp_repeat_ref (T := "tuple") (U := "int") (by decide) ⟨_, ho, rfl⟩ (fun s' => typeIs_int s' _ t) noFill_tuple_mul F.fills_int_mul F.slot_int_rmul repeat_tuple F.slot_int_index.lookup
      (call_meets F.slot_int_rmul (typeIs_int s _ t) F.entry_int_rmul (F.args_int_rmul_2 _ _) (int_rmul_tuple _ t l its.toArray n dd sl)
        ⟨ho, rfl, ⟨_, ho, rfl⟩, call_meets F.slot_tuple_mul ⟨_, ho, rfl⟩ F.entry_tuple_mul (F.args_tuple_mul_2 _ _) (mul0 l its.toArray n dd sl t c1) ⟨ho, ?_⟩⟩)
    refine ⟨.ref s.heap.objs.size, _, I.laid (t' := s.toks) (o := .tup []) (fun b ob q => Heap.get?_push_of_some _ q) (Nat.le_refl _) ?_, rfl, q _ (I.hok.fresh (Nat.le_refl _))⟩
    exact ⟨Nat.zero_le _, [], .nil, IsTup.new _ _⟩
/-- t * k, one answer for all k -/
def rRepW (K : PySem.W.Frag) : R2 := fun x y H Q => ∃ (l : Addr) (k : Nat) (xs : List V), x = .ref l ∧ y = .int (k : Int) ∧ SqT K H l xs ∧ xs ≠ [] ∧ k ≤ 1000 ∧ xs.length ≤ 1000 ∧
  ∀ (tz : Addr) (Hz : Hp), Same H Hz → SqT K Hz tz (List.replicate k xs).flatten → Q (.ref tz) Hz
theorem op_repW {X : Cx} : OpR X (binaryOp .Mult) (rRepW X.K) := by
  intro pins s σ H x y v u Q I rx ry h
  obtain ⟨l, k, xs, e1, e2, hT, hne, hk, hz, q⟩ := h
  refine op_repA pins s σ H x y v u Q I rx ry ⟨l, k, xs, e1, e2, hT, hne, hk, hz, ?_⟩
  by_cases h : k = 1
  · refine .inl ⟨h, q l H (Same.refl _) ?_⟩
    rw [h]
    simpa using hT
  · exact .inr ⟨h, fun p hp => q p _ (Same.new hp) (.of upd_same)⟩
/-- t + u of tuples, one answer for all -/
def rCatW (K : PySem.W.Frag) : R2 := fun x y H Q => ∃ (a b : Addr) (xs ys : List V), x = .ref a ∧ y = .ref b ∧ SqT K H a xs ∧ SqT K H b ys ∧ xs.length + ys.length ≤ sizeLine ∧
  ∀ (tz : Addr) (Hz : Hp), Same H Hz → SqT K Hz tz (xs ++ ys) → Q (.ref tz) Hz
theorem op_catW {X : Cx} : OpR X (binaryOp .Add) (rCatW X.K) := by
  intro pins s σ H x y v u Q I rx ry h
  obtain ⟨a, b, xs, ys, e1, e2, ha, hb, hz, q⟩ := h
  refine op_catA pins s σ H x y v u Q I rx ry ⟨a, b, xs, ys, e1, e2, ha, hb, hz, fun e => q b H (Same.refl _) (by rw [e]; exact hb), fun _ e => q a H (Same.refl _) (by rw [e, List.append_nil]; exact ha), fun _ _ p hp => q p _ (Same.new hp) (.of upd_same)⟩
end VX

namespace K12
open PySem L2 SZ VR VX StX RT
/-! ### law -/
def rSlW (K : PySem.W.Frag) : V → Option Int → Option Int → Hp → VK → Prop := fun x lo hi H Q => ∃ a xs, x = .ref a ∧ SqT K H a xs ∧ ∀ (t : Addr) (H' : Hp), Same H H' → SqT K H' t (cutV xs lo hi) → Q (.ref t) H'
theorem sl_tupW {X : Cx} : SlR X (rSlW X.K) := by
  intro pins s σ H x v vl vu lo hi sl Q I rx hs pl pu h
  obtain ⟨a, xs, e, hx, q⟩ := h
  refine sl_tupA pins s σ H x v vl vu lo hi sl Q I rx hs pl pu ⟨a, xs, e, hx, fun w => q a H (Same.refl _) ?_, fun _ p hp => q p _ (Same.new hp) (.of upd_same)⟩
  unfold cutV
  rw [w.1, w.2, List.drop_zero, Nat.sub_zero, List.take_length]
  exact hx
def spLaw (K : PySem.W.Frag) : Sp := fun vs H Q _ => ∃ (a : Addr) (ns : List Int), vs = [.ref a] ∧ SqL K H a (iz ns) ∧ ns.length ≤ 63 ∧ ∀ H', Q (.bl true) H'
theorem law_len {K : PySem.W.Frag} (vs : List V) (H : Hp) (Q : VK) (E : XK) (h : spLaw K vs H Q E) : vs.length = 1 := by
  obtain ⟨a, ns, rfl, _⟩ := h
  rfl
/-- what the law calls -/
structure LwD (P : Program) (w : World) (K : PySem.W.Frag) (mg : Str → Option Value) (base : Heap) (C CI CT : Addr) : Prop where
  B : LwB mg
  Z : ChC K mg C
  pool : ∃ f fd, mg "_law_pool" = some (.ref f) ∧ PySem.W.keepIn K (.ref f) = true ∧ Binds K fd ["_law_script", "_law_k"] [] ∧ FnOk P w K mg base CX0 1 f fd ["_law_script", "_law_k"] (spPool K)
  take : ∃ f fd, mg "_law_take" = some (.ref f) ∧ PySem.W.keepIn K (.ref f) = true ∧ Binds K fd ["_law_pool_here", "_law_wide"] [] ∧ FnOk P w K mg base CX0 1 f fd ["_law_pool_here", "_law_wide"] spTake
  cache : ∃ f fd, mg "_law_cache" = some (.ref f) ∧ PySem.W.keepIn K (.ref f) = true ∧ Binds K fd ["_law_pool_here"] [] ∧ FnOk P w K mg base CX0 2 f fd ["_law_pool_here"] (spLCache K)
  odd : ∃ f fd, mg "_law_odd" = some (.ref f) ∧ PySem.W.keepIn K (.ref f) = true ∧ Binds K fd ["_law_pool_here"] [] ∧ FnOk P w K mg base CX0 2 f fd ["_law_pool_here"] (spOdd K)
  tog : ∃ f fd, mg "_law_together" = some (.ref f) ∧ PySem.W.keepIn K (.ref f) = true ∧ Binds K fd ["_law_levels"] [] ∧ FnOk P w K mg base CX0 1 f fd ["_law_levels"] (spTg K)
  heard : ∃ f fd, mg "_law_heard" = some (.ref f) ∧ PySem.W.keepIn K (.ref f) = true ∧ Binds K fd ["_law_line", "_law_levels"] [] ∧ RunG P w K mg base CX0 7 f fd ["_law_line", "_law_levels"] (spHeard K)
  make : ∃ f fd, Mk K C f ∧ Binds K fd ["self", "line", "levels"] [] ∧ FnOk P w K mg base (L2.CX P w) 5 f fd ["self", "line", "levels"] (spCInit K C CI CT)
  pL : ∃ p g fd, PropOf K C "line" p g ∧ Binds K fd ["self"] [] ∧ FnOk P w K mg base CX0 1 g fd ["self"] (spLine K C)
  pV : ∃ p g fd, PropOf K C "levels" p g ∧ Binds K fd ["self"] [] ∧ FnOk P w K mg base CX0 1 g fd ["self"] (spLevels K C)
  pT : ∃ p g fd, PropOf K C "sets_together" p g ∧ Binds K fd ["self"] [] ∧ FnOk P w K mg base CX0 1 g fd ["self"] (spTog K C)
  pP : ∃ p g fd, PropOf K C "period" p g ∧ Binds K fd ["self"] [] ∧ FnOk P w K mg base CX0 1 g fd ["self"] (spPer K C)
  len : ∃ f fd, PySem.W.findIn K (.ref C) "__len__" = some (some (.ref f)) ∧ PySem.W.isFn K (.ref f) = true ∧ Binds K fd ["self"] [] ∧ FnOk P w K mg base CX0 1 f fd ["self"] (spCLen K C)
  eq : ∃ f fd, PySem.W.findIn K (.ref C) "__eq__" = some (some (.ref f)) ∧ PySem.W.isFn K (.ref f) = true ∧ Binds K fd ["self", "other"] [] ∧ FnOk P w K mg base CX0 1 f fd ["self", "other"] (spCEq K C)
  ne : PySem.W.findIn K (.ref C) "__ne__" = some (some (.builtin "object.__ne__"))
  subT : PySem.W.subIn K (.type "tuple") (.ref C) = some false
  subN : PySem.W.subIn K (.type "NoneType") (.ref C) = some false
theorem passF {X : Cx} : Passes (L2.CX X.prog X.w) X (fun _ _ _ => False) := passes_call takes0 (fun _ _ _ _ h => h.elim)
theorem good_ln {ln : Int} (h : ln = 1 ∨ ln = 2 ∨ ln = 4) : cntD (.int ln) 8 = true := by rcases h with rfl | rfl | rfl <;> rfl
theorem good_ln2 {ln : Int} (h : ln = 1 ∨ ln = 2 ∨ ln = 4) : cntD (.int (ln % 4 + 1)) 8 = true := by rcases h with rfl | rfl | rfl <;> rfl
theorem cinit_ok {K : PySem.W.Frag} {C CI CT x dx : Addr} {ln : Int} {lv : V} {ds : List PyData} {H Hx : Hp} {Q : VK} {E : XK} (hp : Hx x = some (.ins C dx [])) (sx : Same H Hx) (nx : H x = none) (hv : Dp K H lv (.tuple ds)) (g1 : cntD (.int ln) 8 = true) (g2 : badL (.tuple ds) = none) (g3 : (togN ds : Int) * ln ≤ 64)
    (q : ∀ H', Same H H' → ChAt K C H' x ln ds → Q .non H') : spCInit K C CI CT [.ref x, .int ln, lv] Hx Q E := by
  refine ⟨x, dx, .int ln, lv, .int ln, .tuple ds, rfl, hp, .int ln, Dp.keep sx hv, fun c => ?_, fun _ b eb => ?_, fun l2 ds2 e1 e2 _ _ => ⟨fun h => ?_, fun _ H' b1 hx => ?_⟩⟩
  · rw [g1] at c; cases c
  · rw [g2] at eb; cases eb
  · cases e1
    cases e2
    omega
  · cases e1
    cases e2
    have SH : Same H H' := fun b o e => b1 b o (sx b o e) (ne_of_none e nx)
    exact q H' SH ⟨dx, lv, hx, Dp.keep SH hv⟩
theorem for_lit {K : PySem.W.Frag} {ta : TA} {g : TG} {tb u : TS} {D : Ends} {σ : L2.St} {H : Hp} {ds : List PyData} (h : LitA K ta ds) (n : ds.length ≤ 100)
    (k : ∀ (M : Addr) (vs : List V) (H' : Hp), H M = none → Same H H' → H' M = some (.lst vs) → DpAll K H' vs ds → ∃ Pv : Nat → L2.St → Hp → Prop, Pv 0 σ H' ∧ (∀ i σ H, i ≤ vs.length → Pv i σ H → SqL K H M vs) ∧
      (∀ i x σ H, vs[i]? = some x → Pv i σ H → g x σ H fun σ2 H2 => tb { nx := Pv (i + 1), rt := D.rt, bk := u D, ct := Pv (i + 1) } σ2 H2) ∧ (∀ σ H, Pv vs.length σ H → u D σ H)) : tSeq (tFor (iList K (tLst ta)) g tb) u D σ H := by
  unfold tSeq tFor
  refine lit_new (K := K) h n _ _ _ fun M vs H' nM s1 fm dm => ?_
  obtain ⟨Pv, p0, pl, ps, pd⟩ := k M vs H' nM s1 fm dm
  exact ⟨M, rfl, ⟨_, .of fm⟩, for_list Pv p0 pl ps pd⟩
theorem same_butR {p : Addr} {H0 H1 H2 : Hp} (hp : H0 p = none) (s : Same H0 H1) (b : ButR p H1 H2) : Same H0 H2 := fun c o e => b c o (s c o e) (ne_of_none e hp)
theorem DpAll.take' {K : PySem.W.Frag} {H : Hp} : ∀ {xs : List V} {ds : List PyData} (n : Nat), DpAll K H xs ds → DpAll K H (xs.take n) (ds.take n)
  | _, _, 0, _ => by rw [List.take_zero, List.take_zero]; exact .nil
  | _, _, n + 1, .nil => by rw [List.take_nil, List.take_nil]; exact .nil
  | _, _, n + 1, .cons h r => by rw [List.take_succ_cons, List.take_succ_cons]; exact .cons h (DpAll.take' n r)
theorem DpAll.drop' {K : PySem.W.Frag} {H : Hp} : ∀ {xs : List V} {ds : List PyData} (n : Nat), DpAll K H xs ds → DpAll K H (xs.drop n) (ds.drop n)
  | _, _, 0, h => by rw [List.drop_zero, List.drop_zero]; exact h
  | _, _, n + 1, .nil => by rw [List.drop_nil, List.drop_nil]; exact .nil
  | _, _, n + 1, .cons h r => by rw [List.drop_succ_cons, List.drop_succ_cons]; exact DpAll.drop' n r
theorem cut_to (xs : List V) (i : Nat) : cutV xs none (some (i : Int)) = xs.take i := by
  unfold cutV
  rw [HT.sIx_nat, HT.sIx_none, List.drop_zero, Nat.sub_zero, List.take_eq_take_iff]
  omega
theorem cut_from (xs : List V) (i : Nat) : cutV xs (some (i : Int)) none = xs.drop i := by
  unfold cutV
  rw [HT.sIx_nat, HT.sIx_none]
  by_cases h : i ≤ xs.length
  · rw [Nat.min_eq_left h, List.take_of_length_le (by rw [List.length_drop]; omega)]
  · rw [Nat.min_eq_right (by omega), List.drop_length, List.take_nil, List.drop_eq_nil_of_le (by omega)]
theorem last_at {K : PySem.W.Frag} {H : Hp} {xs : List V} {ds : List PyData} (h : DpAll K H xs ds) (h1 : 1 ≤ ds.length) (h3 : ds.length ≤ 3) : ∃ v l ini, ds = ini ++ [l] ∧ atI xs (-1) = some v ∧ Dp K H v l ∧ DpAll K H (cutV xs none (some (-1))) ini := by
  rcases list_three h1 h3 with ⟨a, rfl⟩ | ⟨a, b, rfl⟩ | ⟨a, b, c, rfl⟩
  · cases h with
    | cons p r =>
      cases r with
      | nil => exact ⟨_, a, [], rfl, rfl, p, .nil⟩
  · cases h with
    | cons p r =>
      cases r with
      | cons q r =>
        cases r with
        | nil => exact ⟨_, b, [a], rfl, rfl, q, .cons p .nil⟩
  · cases h with
    | cons p r =>
      cases r with
      | cons q r =>
        cases r with
        | cons q2 r =>
          cases r with
          | nil => exact ⟨_, c, [a, b], rfl, rfl, q2, .cons p (.cons q .nil)⟩
theorem first_at {K : PySem.W.Frag} {H : Hp} {xs : List V} {ds : List PyData} (h : DpAll K H xs ds) (h1 : 1 ≤ ds.length) : ∃ v l, l ∈ ds ∧ cutV xs none (some 1) = [v] ∧ Dp K H v l := by
  cases h with
  | nil => simp at h1
  | cons p r => exact ⟨_, _, List.mem_cons_self, cut_to _ 1, p⟩
def othW (w : Str) : Str := if w = "back" then "through" else "back"
theorem oth_at (w : Str) : atI [V.str (Str.ofString "back"), V.str (Str.ofString "through")] (if decide (V.str w = V.str (Str.ofString "back")) = true then 1 else 0) = some (.str (othW w)) := by
  unfold othW
  by_cases h : w = "back"
  · subst h
    rw [if_pos (by simp), if_pos rfl]
    rfl
  · rw [if_neg (by simpa using h), if_neg h]
    rfl
theorem oth_mem {w : Str} : othW w ∈ WRT := by
  unfold othW
  split
  · exact List.mem_cons_of_mem _ List.mem_cons_self
  · exact List.mem_cons_self
theorem oth_ne {w : Str} (h : w ∈ WRT) : w ≠ othW w := by
  unfold othW
  split
  · rename_i e
    rw [e]
    decide
  · assumption
theorem lst4_shaped {ds : List PyData} {a b c : Int} (h1 : 1 ≤ ds.length) (h3 : ds.length ≤ 3) (h : ∀ d ∈ ds, MkL d) : SeqAt.shaped (.list [.int a, .tuple ds, .int b, .int c]) = true := by
  obtain ⟨_, hc, hd⟩ := lst_sh h1 h3 h
  have e : PyData.depth (.list [.int a, .tuple ds, .int b, .int c]) = (PyData.tuple ds).depth + 1 := by
    simp [PyData.depth, PyData.depthAll]
  unfold SeqAt.shaped
  rw [e, decide_eq_true (show (PyData.tuple ds).depth + 1 ≤ 64 by omega)]
  simp only [PyData.canLay0, PyData.canLayAll0] at hc ⊢
  rw [hc]
  rfl
theorem lst4_eq {ds : List PyData} {a b c c' : Int} (h1 : 1 ≤ ds.length) (h3 : ds.length ≤ 3) (h : ∀ d ∈ ds, MkL d) (e : c = c') : PyData.eqv (.list [.int a, .tuple ds, .int b, .int c]) (.list [.int a, .tuple ds, .int b, .int c']) = true := by
  subst e
  have := PySem.SeqAt.eqv_refl _ (lst_sh h1 h3 h).2.1
  simp [PyData.eqv, PyData.eqvAll] at this ⊢
  exact this
theorem mk_go {K : PySem.W.Frag} {C CI CT x dx : Addr} {ln : Int} {lv : V} {ds : List PyData} {H : Hp} {R : Hp → Prop} {E : XK} (nx : H x = none) (nd : H dx = none) (ne : dx ≠ x) (hv : Dp K H lv (.tuple ds)) (g1 : cntD (.int ln) 8 = true) (g2 : badL (.tuple ds) = none) (g3 : (togN ds : Int) * ln ≤ 64)
    (q : ∀ H', Same H H' → ChAt K C H' x ln ds → R H') : spCInit K C CI CT [.ref x, .int ln, lv] (upd (upd H dx (.own x)) x (.ins C dx [])) (fun v H2 => v = .non ∧ R H2) E :=
  cinit_ok upd_same ((Same.new nd).upN (by rw [upd_ne ne.symm]; exact nx)) nx hv g1 g2 g3 fun H' s c => ⟨rfl, q H' s c⟩
theorem own_go {K : PySem.W.Frag} {mg : Str → Option Value} {C x y : Addr} {ln ln' : Int} {ds ds' : List PyData} {H : Hp} {Q : VK} {E : XK} {neg c : Bool} (Z : ChC K mg C) (hx : ChAt K C H x ln ds) (hs : SeqAt.shaped (.tuple ds) = true) (hy : ChAt K C H y ln' ds') (hs' : SeqAt.shaped (.tuple ds') = true)
    (e : (decide (ln = ln') && PyData.eqv (.tuple ds) (.tuple ds')) = c) (q : Q (.bl (if neg = true then !c else c)) H) : rOwnE K C (spCEq K C) E neg (.ref x) (.ref y) H Q := by
  obtain ⟨dx, lv, h1, h2⟩ := id hx
  obtain ⟨dy, lw, k1, k2⟩ := id hy
  refine ⟨x, dx, _, .ref C, rfl, h1, Z.kit.ty k1, ?_, x, .ref y, ln, ds, rfl, hx, hs, .inl ⟨y, ln', ds', rfl, hy, hs', _, rfl, ?_⟩⟩
  · unfold PySem.W.notFirst
    simp
  · rw [e]
    exact q
theorem not_first {K : PySem.W.Frag} {C : Addr} {t : Value} (su : PySem.W.subIn K t (.ref C) = some false) : PySem.W.notFirst K C t = true := by
  unfold PySem.W.notFirst
  rw [su]
  simp
theorem own_no {K : PySem.W.Frag} {C x : Addr} {y : V} {t : Value} {ln : Int} {ds : List PyData} {H : Hp} {Q : VK} {E : XK} (hx : ChAt K C H x ln ds) (hs : SeqAt.shaped (.tuple ds) = true) (ty : TyX K H y t) (n : (t == .ref C) = false) (su : PySem.W.subIn K t (.ref C) = some false) (q : Q (.bl false) H) :
    rOwnE K C (spCEq K C) E false (.ref x) y H Q := by
  obtain ⟨dx, lv, h1, h2⟩ := id hx
  refine ⟨x, dx, _, t, rfl, h1, ty, ?_, x, y, ln, ds, rfl, hx, hs, .inr ⟨t, ty, n, su, _, rfl, q⟩⟩
  unfold PySem.W.notFirst
  rw [su]
  simp
theorem show_int (i : Int) (h0 : 0 ≤ i) (h9 : i ≤ 9) : ShowOk (.int i) := by
  have h : i = 0 ∨ i = 1 ∨ i = 2 ∨ i = 3 ∨ i = 4 ∨ i = 5 ∨ i = 6 ∨ i = 7 ∨ i = 8 ∨ i = 9 := by omega
  rcases h with rfl | rfl | rfl | rfl | rfl | rfl | rfl | rfl | rfl | rfl <;> exact ⟨by decide +kernel, by decide +kernel, by decide +kernel, by decide +kernel⟩
theorem lvl_wide {s : Int} (h5 : 5 ≤ s) (h8 : s ≤ 8) : ∀ d ∈ ([.tuple [.int s, .int 1, .str "used", .str "back"], .tuple [.int 4, .int 4, .str "brought", .str "through"]] : List PyData), lvlD d = true := fun d hd => by
  have h : s = 5 ∨ s = 6 ∨ s = 7 ∨ s = 8 := by omega
  simp only [List.mem_cons, List.not_mem_nil, or_false] at hd
  rcases hd with rfl | rfl
  · rcases h with rfl | rfl | rfl | rfl <;> decide +kernel
  · decide +kernel
theorem bad_none {ds : List PyData} (h1 : 1 ≤ ds.length) (h3 : ds.length ≤ 3) (h : ∀ x ∈ ds, lvlD x = true) : badL (.tuple ds) = none := by
  show (if 1 ≤ ds.length ∧ ds.length ≤ 3 then ds.find? (fun d => !lvlD d) else some (.tuple ds)) = none
  rw [if_pos ⟨h1, h3⟩]
  exact find_none h
section
variable {P : Program} {w : World} {K : PySem.W.Frag} {mg : Str → Option Value} {base : Heap} {C CI CT : Addr}
theorem run_law {f : Addr} {fd : FuncData} (F : Fun K "law" "law" S_law f fd) (D : LwD P w K mg base C CI CT) : RunG P w K mg base CX0 8 f fd ["_law_script"] (spLaw K) := by
  obtain ⟨fP, dP, gP, kP, bP, GP⟩ := D.pool
  obtain ⟨fT, dT, gT, kT, bT, GT⟩ := D.take
  obtain ⟨fK, dK, gK, kK, bK, GK⟩ := D.cache
  obtain ⟨fO, dO, gO, kO, bO, GO⟩ := D.odd
  obtain ⟨fG, dG, gG, kG, bG, GG⟩ := D.tog
  obtain ⟨fH, dH, gH, kH, bH, GH⟩ := D.heard
  obtain ⟨fM, dM, MM, bM, GM⟩ := D.make
  obtain ⟨pL, cL, dL, PL, bL, GL⟩ := D.pL
  obtain ⟨pV, cV, dV, PV, bV, GV⟩ := D.pV
  obtain ⟨pT, cT, dTt, PT, bTt, GTt⟩ := D.pT
  obtain ⟨pP, cP, dPp, PP, bPp, GPp⟩ := D.pP
  obtain ⟨fl, dl, hl, il, bl, Gl'⟩ := D.len
  obtain ⟨fe, de, he, ie, be, Ge⟩ := D.eq
  have B := D.B
  have Z := D.Z
  refine okG F sc_law law_len (fun cdv A outer s H vs Q E hg hr h => ?_)
  obtain ⟨a, ns, rfl, ha, hlen, k⟩ := h
  have hr1 : Room 1 _ := hr.mono (by decide)
  have hr2 : Room 2 _ := hr.mono (by decide)
  have hr6 : Room 6 _ := hr.mono (by decide)
  refine ⟨_, pss_cons (ps_for PassesOwn.never rfl (pi_list (pe_lst (pa_cons pe_non (pa_cons pe_int (pa_cons pe_int (pa_cons (pe_un un_neg pe_int) (pa_cons pe_bl (pa_cons pe_str (pa_cons pe_int (pa_cons (pe_lst (pa_cons pe_int pa_nil)) pa_nil)))))))))) (pg_name (i := 1) sc_law.nd rfl (Or.inl rfl))
      (pss_one (ps_if (pt_cmpR (op_neD hr.units) (pe_callSh GH (by exact hg) hr heard_len (by rfl) gH kH bH pass0 (pa_cons (pv 1) (pa_cons pe_non pa_nil))) (pe_lst (pa_cons pe_str (pa_cons (pe_callB (call_reprD (by exact hg) (by exact hr.units)) (by rfl) B.rep (by decide +kernel) (pa_cons (pv 1) pa_nil)) pa_nil))) (nomark _)) (pss_one (ps_ret pe_bl)) pss_nil)))
    (pss_cons (ps_for PassesOwn.never rfl (pi_range1 (by rfl) B.rng (pa_cons (pe_callB (call_max2 rfl) (by rfl) B.max (by decide +kernel) (pa_cons pe_int (pa_cons (pe_callB (call_min2 rfl) (by rfl) B.min (by decide +kernel)
        (pa_cons (pe_callB call_len_seq (by rfl) B.len PySem.boot_len (pa_cons (pv 0) pa_nil)) (pa_cons pe_int pa_nil))) pa_nil))) pa_nil)) (pg_name (i := 2) sc_law.nd rfl (Or.inl rfl))
      (pss_cons (ps_set (i := 3) sc_law.nd rfl (Or.inl rfl) (pe_call GP hr1 (by rfl) gP kP bP .nil pass0 (pa_cons (pv 0) (pa_cons (pv 2) pa_nil))))
      (pss_cons (ps_asg (pe_call GK hr2 (by rfl) gK kK bK .nil pass0 (pa_cons (pv 3) pa_nil)) (pg_tup rfl (pgs_cons (pg_name (i := 4) sc_law.nd rfl (Or.inl rfl)) (pgs_cons (pg_name (i := 5) sc_law.nd rfl (Or.inl rfl)) pgs_nil))))
      (pss_cons (ps_set (i := 6) sc_law.nd rfl (Or.inl rfl) (pe_make MM GM hr6 (by rfl) Z.mgC bM .nil passF (pa_cons (pv 4) (pa_cons (pv 5) pa_nil))))
      (pss_cons (ps_set (i := 7) sc_law.nd rfl (Or.inl rfl) (pe_call GG hr1 (by rfl) gG kG bG .nil pass0 (pa_cons (pv 5) pa_nil)))
      (pss_cons (ps_if (pt_cmpR (op_neD hr.units) (pe_lst (pa_cons (pe_prop (pv 6) Z.kit.cl PL GL hr2 bL .nil pass0 rfl) (pa_cons (pe_prop (pv 6) Z.kit.cl PV GV hr2 bV .nil pass0 rfl) (pa_cons (pe_prop (pv 6) Z.kit.cl PT GTt hr2 bTt .nil pass0 rfl) (pa_cons (pe_prop (pv 6) Z.kit.cl PP GPp hr2 bPp .nil pass0 rfl) pa_nil)))))
          (pe_lst (pa_cons (pv 4) (pa_cons (pv 5) (pa_cons (pv 7) (pa_cons (pe_op op_mul (pv 4) (pv 7)) pa_nil))))) (nomark _)) (pss_one (ps_ret pe_bl)) pss_nil)
      (pss_cons (ps_if (PW.pt (pw_or (pt_cmpR op_ne (pe_callB (call_lenO (C := C) hl il Gl' hr2 bl pass0) (by rfl) B.len PySem.boot_len (pa_cons (pv 6) pa_nil)) (pe_callB call_len_seq (by rfl) B.len PySem.boot_len (pa_cons (pv 5) pa_nil)) (nomark _))
          (pw_or (pt_cmpR (op_ownNe (C := C) D.ne Z.kit.hm he ie Ge hr2 be pass0) (pv 6) (pe_make MM GM hr6 (by rfl) Z.mgC bM .nil passF (pa_cons (pv 4) (pa_cons (pv 5) pa_nil))) (nomark _))
          (pw_or (pt_cmpR (op_ownEq (C := C) he ie Ge hr1 be pass0) (pv 6) (pe_tup (pa_cons (pv 4) (pa_cons (pv 5) pa_nil))) (nomark _))
          (pw_or1 (pt_cmpR (op_ownEq (C := C) he ie Ge hr1 be pass0) (pv 6) pe_non (nomark _))))))) (pss_one (ps_ret pe_bl)) pss_nil)
      (pss_cons (ps_set (i := 8) sc_law.nd rfl (Or.inl rfl) (pe_op op_catW (pe_slice sl_tupW (pe_ix ix_tup (pv 5) (pe_un un_neg pe_int) (fun _ _ => rfl)) po_none (po_some pe_int)) (pe_tup (pa_cons (pe_ix ix_list (pe_lst (pa_cons pe_str (pa_cons pe_str pa_nil)))
          (pe_callTy call_int1 (by rfl) B.int (by decide +kernel) (pa_cons (pe_cmpR op_eq (pe_ix ix_tup (pe_ix ix_tup (pv 5) (pe_un un_neg pe_int) (fun _ _ => rfl)) pe_int (fun _ _ => rfl)) pe_str (nomark _)) pa_nil)) (fun _ _ => rfl)) pa_nil))))
      (pss_cons (ps_if (PW.pt (pw_or (pt_cmpR (op_ownEq (C := C) he ie Ge hr1 be pass0) (pv 6) (pe_make MM GM hr6 (by rfl) Z.mgC bM .nil passF (pa_cons (pe_op op_add (pe_op op_mod (pv 4) pe_int) pe_int) (pa_cons (pv 5) pa_nil))) (nomark _))
          (pw_or1 (pt_cmpR (op_ownEq (C := C) he ie Ge hr1 be pass0) (pv 6) (pe_make MM GM hr6 (by rfl) Z.mgC bM .nil passF (pa_cons (pv 4) (pa_cons (pe_op op_catW (pe_slice sl_tupW (pv 5) po_none (po_some (pe_un un_neg pe_int))) (pe_tup (pa_cons (pv 8) pa_nil))) pa_nil))) (nomark _))))) (pss_one (ps_ret pe_bl)) pss_nil)
      (pss_cons (ps_for PassesOwn.never rfl (pi_range1 (by rfl) B.rng (pa_cons pe_int pa_nil)) (pg_name (i := 9) sc_law.nd rfl (Or.inl rfl))
        (pss_cons (ps_par (i := 10) (j := 1) rfl sc_law.nd rfl rfl (by decide) rfl rfl (pa_cons (pe_call GT hr1 (by rfl) gT kT bT .nil pass0 (pa_cons (pv 3) (pa_cons (pe_callB call_len_seq (by rfl) B.len PySem.boot_len (pa_cons (pv 5) pa_nil)) pa_nil))) (pa_cons (pe_call GO hr2 (by rfl) gO kO bO .nil pass0 (pa_cons (pv 3) pa_nil)) pa_nil)) rfl)
        (pss_cons (ps_set (i := 11) sc_law.nd rfl (Or.inl rfl) (pe_op op_catW (pe_op op_catW (pe_slice sl_tupW (pv 5) po_none (po_some (pv 10))) (pe_tup (pa_cons (pv 1) pa_nil))) (pe_slice sl_tupW (pv 5) (po_some (pe_op op_add (pv 10) pe_int)) po_none)))
        (pss_one (ps_if (pt_cmpR (op_neD hr.units) (pe_callSh GH (by exact hg) hr heard_len (by rfl) gH kH bH pass0 (pa_cons (pv 4) (pa_cons (pv 11) pa_nil))) (pe_lst (pa_cons pe_str (pa_cons (pe_callB (call_reprD (by exact hg) (by exact hr.units)) (by rfl) B.rep (by decide +kernel) (pa_cons (pv 1) pa_nil)) pa_nil))) (nomark _)) (pss_one (ps_ret pe_bl)) pss_nil)))))
      (pss_cons (ps_for PassesOwn.never rfl (pi_list (pe_lst (pa_cons pe_non (pa_cons (pe_tup pa_nil) (pa_cons (pe_callTy call_list_of (by rfl) B.lst (by decide +kernel) (pa_cons (pv 5) pa_nil)) (pa_cons (pe_op op_repW (pe_slice sl_tupW (pv 5) po_none (po_some pe_int)) pe_int) (pa_cons pe_int (pa_cons pe_str pa_nil)))))))) (pg_name (i := 1) sc_law.nd rfl (Or.inl rfl))
        (pss_one (ps_if (pt_cmpR (op_neD hr.units) (pe_callSh GH (by exact hg) hr heard_len (by rfl) gH kH bH pass0 (pa_cons (pv 4) (pa_cons (pv 1) pa_nil))) (pe_lst (pa_cons pe_str (pa_cons (pe_callB (call_reprD (by exact hg) (by exact hr.units)) (by rfl) B.rep (by decide +kernel) (pa_cons (pv 1) pa_nil)) pa_nil))) (nomark _)) (pss_one (ps_ret pe_bl)) pss_nil)))
      (pss_cons (ps_set (i := 12) sc_law.nd rfl (Or.inl rfl) (pe_ix ix_list (pe_lst (pa_cons pe_int (pa_cons pe_int (pa_cons pe_int (pa_cons pe_int pa_nil))))) (pe_call GT hr1 (by rfl) gT kT bT .nil pass0 (pa_cons (pv 3) (pa_cons pe_int pa_nil))) (fun _ _ => rfl)))
      (pss_one (ps_for PassesOwn.never rfl (pi_range2 (by rfl) B.rng (pa_cons pe_int (pa_cons pe_int pa_nil))) (pg_name (i := 13) sc_law.nd rfl (Or.inl rfl))
        (pss_cons (ps_set (i := 14) sc_law.nd rfl (Or.inl rfl) (pe_tup (pa_cons (pe_tup (pa_cons (pv 12) (pa_cons pe_int (pa_cons pe_str (pa_cons pe_str pa_nil))))) (pa_cons (pe_tup (pa_cons pe_int (pa_cons pe_int (pa_cons pe_str (pa_cons pe_str pa_nil))))) pa_nil))))
        (pss_cons (ps_set (i := 15) sc_law.nd rfl (Or.inl rfl) (pe_ifExp (pt_cmpR op_gt (pe_op op_mul (pv 13) (pe_call GG hr1 (by rfl) gG kG bG .nil pass0 (pa_cons (pv 14) pa_nil))) pe_int (nomark _)) (pe_lst (pa_cons pe_str (pa_cons pe_str pa_nil))) (pe_lst (pa_cons pe_str pa_nil))))
        (pss_one (ps_if (pt_cmpR (op_neD hr.units) (pe_callSh GH (by exact hg) hr heard_len (by rfl) gH kH bH pass0 (pa_cons (pv 13) (pa_cons (pv 14) pa_nil))) (pv 15) (nomark _)) (pss_one (ps_ret pe_bl)) pss_nil))))))))))))))))))
    (pss_one (ps_ret pe_bl))), ?_⟩
  refine for_lit (K := K) (ds := L0) (litA_cons lit_non (litA_cons (lit_int _) (litA_cons (lit_int _) (litA_cons (lit_neg _) (litA_cons (lit_bl _) (litA_cons (lit_str _) (litA_cons (lit_int _) (litA_cons (lit_lst (litA_cons (lit_int _) litA_nil) (by simp)) litA_nil)))))))) (by simp) fun M vs Hm nM S0 fm dm => ?_
  refine ⟨fun i σ H' => ∃ v1, σ = [some (.ref a), v1, none, none, none, none, none, none, none, none, none, none, none, none, none, none] ∧ Same Hm H', ⟨none, rfl, Same.refl _⟩, (fun i σ H' _ ⟨_, _, s1⟩ => .of (s1 _ _ fm)), ?_, ?_⟩
  · rintro i x σ H' hx ⟨v1, rfl, s1⟩
    obtain ⟨d, hd, hdx⟩ := DpAll.at dm hx
    have h0 := l0_all d (List.mem_of_getElem? hd)
    rw [Bool.and_eq_true, Bool.not_eq_true'] at h0
    refine ⟨_, rfl, x, .non, d, .none, rfl, Dp.keep s1 hdx, .non, ShS.show h0.1 (by decide), fun b hb => ?_, fun v H1 s2 hv => ?_⟩
    · cases hb
      exact ⟨rfl, rfl, by decide, by decide +kernel⟩
    · rw [heard_line h0.2] at hv
      refine cmp_go (i := 1) rfl (Dp.keep (s1.trans s2) hdx) h0.1 (by decide) hv fun H3 s3 => ?_
      exact ⟨_, rfl, iteF ⟨_, rfl, (s1.trans s2).trans s3⟩⟩
  · rintro σ Hn ⟨v1, rfl, sn⟩
    have SN := S0.trans sn
    refine ⟨_, rfl, a, iz ns, rfl, .inl (SN.seq ha), _, _, rfl, _, _, rfl, _, rfl, ?_⟩
    rw [iz_len]
    have hM : ∀ m : Nat, (0 : Int) ≤ (if (if (6 : Int) < (m : Int) then 6 else (m : Int)) > 1 then (if (6 : Int) < (m : Int) then 6 else (m : Int)) else 1) ∧ (if (if (6 : Int) < (m : Int) then 6 else (m : Int)) > 1 then (if (6 : Int) < (m : Int) then 6 else (m : Int)) else 1) ≤ 6 := fun m => by
      split
      · split <;> omega
      · omega
    obtain ⟨M0, M6⟩ := hM ns.length
    refine ⟨by omega, by omega, ?_⟩
    generalize (if (if (6 : Int) < (ns.length : Int) then 6 else (ns.length : Int)) > 1 then (if (6 : Int) < (ns.length : Int) then 6 else (ns.length : Int)) else 1) = N at M0 M6
    refine for_range (lo := 0) (n := N.toNat) (fun i σ H' => ∃ v1 v2 v3 v4 v5 v6 v7 v8 v9 v10 v11 v12 v13 v14 v15, σ = [some (.ref a), v1, v2, v3, v4, v5, v6, v7, v8, v9, v10, v11, v12, v13, v14, v15] ∧ Same H H') ⟨v1, none, none, none, none, none, none, none, none, none, none, none, none, none, none, rfl, SN⟩ ?_ ?_
    rotate_left
    · rintro σ H' ⟨v1, v2, v3, v4, v5, v6, v7, v8, v9, v10, v11, v12, v13, v14, v15, rfl, s0⟩
      exact k H'
    · rintro i σ H0 hi ⟨v1, v2, v3, v4, v5, v6, v7, v8, v9, v10, v11, v12, v13, v14, v15, rfl, s0⟩
      refine ⟨_, rfl, _, rfl, a, ns, i, by rw [Int.zero_add]; rfl, s0.seq ha, by omega, hlen, fun p H1 hp0 s1 hP1 => ?_⟩
      refine ⟨_, rfl, p, rfl, hP1, fun r t ln ds H2 gl d1 d3 dm2 hr2' ht hP2 b2 => ⟨r, _, rfl, .of hr2', rfl, _, _, rfl, _, _, rfl, rfl, ?_⟩⟩
      cases hln : ht with
      | @tup _ xs _ hT2 hA2 =>
      have hn := DpAll.len hA2
      have hsh := tup_shaped d1 d3 dm2
      have g1 := good_ln gl
      have g2 := bad_mk d1 d3 dm2
      have hT := tog12' dm2
      have lnb : 1 ≤ ln ∧ ln ≤ 4 := by rcases gl with rfl | rfl | rfl <;> decide
      have g3 : (togN ds : Int) * ln ≤ 64 := by
        have : (togN ds : Int) * ln ≤ 12 * 4 := Int.mul_le_mul (by omega) (by omega) (by omega) (by omega)
        omega
      have g3' : (togN ds : Int) * (ln % 4 + 1) ≤ 64 := by
        have h4 : ln % 4 + 1 ≤ 4 := by omega
        have : (togN ds : Int) * (ln % 4 + 1) ≤ 12 * 4 := Int.mul_le_mul (by omega) (by omega) (by omega) (by omega)
        omega
      refine ⟨_, rfl, _, rfl, fun x dx nx nd ne => mk_go nx nd ne ht g1 g2 g3 fun H3 s3 hc3 => ?_⟩
      refine ⟨_, rfl, .ref t, ds, rfl, Dp.keep s3 ht, fun d hd => (dm2 d hd).lvl, fun i hi => Nat.le_trans (tog_le12 dm2 i hi) (by decide), fun H4 s4 => ?_⟩
      have hc4 := hc3.same s4
      have ht4 := Dp.keep (s3.trans s4) ht
      have T4 := (s3.trans s4).tup hT2
      have A4 := DpAll.keep (s3.trans s4) hA2
      have S24 := s3.trans s4
      clear s3 hc3 s4
      obtain ⟨dxc, lvc, hx4, _⟩ := id hc4
      refine ⟨_, rfl, x, dxc, _, rfl, hx4, ⟨x, ln, ds, rfl, hc4, _, rfl, x, dxc, _, rfl, hx4, ⟨x, ln, ds, rfl, hc4, fun lw hw => ⟨_, rfl, x, dxc, _, rfl, hx4, ⟨x, ln, ds, rfl, hc4, _, rfl, x, dxc, _, rfl, hx4, ⟨x, ln, ds, rfl, hc4, by omega, by omega, small_line (by simp), fun q1 nq1 => ?_⟩⟩⟩⟩⟩⟩
      refine ⟨_, rfl, _, rfl, _, rfl, _, rfl, _, rfl, ln, (togN ds : Int), rfl, rfl, .inr ⟨by omega, by omega⟩, small_line (by simp), fun q2 nq2 => ?_⟩
      have sq := (Same.new (o := .lst [.int ln, lw, .int (togN ds : Int), .int ((togN ds : Int) * ln)]) nq1)
      have sq2 := (Same.new (o := .lst [.int ln, .ref t, .int (togN ds : Int), .int (ln * (togN ds : Int))]) nq2)
      refine ⟨.list [.int ln, .tuple ds, .int (togN ds : Int), .int ((togN ds : Int) * ln)], .list [.int ln, .tuple ds, .int (togN ds : Int), .int (ln * (togN ds : Int))],
        .lst (.of (sq2 _ _ upd_same)) (.cons (.int _) (.cons (Dp.keep (sq.trans sq2) hw) (.cons (.int _) (.cons (.int _) .nil)))), .lst (.of upd_same) (.cons (.int _) (.cons (Dp.keep (sq.trans sq2) ht4) (.cons (.int _) (.cons (.int _) .nil)))),
        lst4_shaped d1 d3 dm2, lst4_shaped d1 d3 dm2, ?_⟩
      rw [lst4_eq d1 d3 dm2 (Int.mul_comm _ _)]
      refine ⟨_, rfl, iteF ?_⟩
      have S25 := S24.trans (sq.trans sq2)
      have hc5 := hc4.same (sq.trans sq2)
      have ht5 := Dp.keep (sq.trans sq2) ht4
      have T5 := (sq.trans sq2).tup T4
      have A5 := DpAll.keep (sq.trans sq2) A4
      clear hx4 hc4 ht4 T4 A4 S24 hw
      generalize upd (upd H4 q1 _) q2 _ = H5 at S25 hc5 ht5 T5 A5
      clear sq sq2 nq1 nq2
      obtain ⟨dxc, lvc, hx5, _⟩ := id hc5
      refine ⟨_, rfl, x, dxc, _, rfl, hx5, ⟨x, ln, ds, rfl, hc5, ds.length, rfl, by omega, _, rfl, t, xs, rfl, .inr T5, rfl, _, rfl, ?_⟩⟩
      rw [hn, show (!decide (V.int (ds.length : Int) = V.int (ds.length : Int))) = false by simp]
      refine iteF ⟨_, rfl, _, rfl, _, rfl, fun x2 dx2 nx2 nd2 ne2 => mk_go nx2 nd2 ne2 ht5 g1 g2 g3 fun H6 s6 hc6 => own_go (c := true) Z (hc5.same s6) hsh hc6 hsh ?_ ⟨_, rfl, iteF ?_⟩⟩
      · rw [decide_eq_true rfl, PySem.SeqAt.eqv_refl _ (lst_sh d1 d3 dm2).2.1]
        rfl
      refine ⟨_, rfl, _, rfl, _, rfl, small_line (by simp), fun q3 nq3 => own_no ((hc5.same s6).same (Same.new nq3)) hsh (TyX.tupT (.of upd_same)) rfl D.subT ⟨_, rfl, iteF ?_⟩⟩
      have s7 := s6.trans (Same.new (o := .tup [.int ln, .ref t]) nq3)
      obtain ⟨dx7, lv7, hx7, _⟩ := id (hc5.same s7)
      refine ⟨_, rfl, x, dx7, _, .type "NoneType", rfl, hx7, .base .non, not_first D.subN, x, .non, ln, ds, rfl, hc5.same s7, hsh, .inr ⟨.type "NoneType", .base .non, rfl, D.subN, false, rfl, _, rfl, iteF ?_⟩⟩
      clear hx7
      have S27 := S25.trans s7
      have hc7 := hc5.same s7
      have ht7 := Dp.keep s7 ht5
      have T7 := s7.tup T5
      have A7 := DpAll.keep s7 A5
      clear hx5 hc5 ht5 T5 A5 S25 hc6
      generalize upd H6 q3 _ = H7 at S27 hc7 ht7 T7 A7
      clear s7 s6 nq3
      obtain ⟨lv, l, ini, eds, hat, hlv, hini⟩ := last_at A7 d1 d3
      obtain ⟨sN, yN, ru, wr, el, b1, b4, y1, y4, hru, hwr, hno⟩ := dm2 l (by rw [eds]; simp)
      subst el
      cases hlv with
      | @tup q ys _ hq hqa =>
      obtain ⟨z0, z1, z2, z3, rfl, p0, p1, p2, p3⟩ := dp_four hqa
      cases p0; cases p1; cases p2; cases p3
      refine ⟨_, rfl, 1, rfl, t, xs, -1, _, rfl, rfl, T7, hat, 3, rfl, q, _, rfl, hq, fun t1 H8 s8 h8 => ?_⟩
      refine ⟨small_line (by simp), fun M8 nM8 => ⟨_, rfl, 1, rfl, t, xs, -1, _, rfl, rfl, (s8.trans (Same.new nM8)).tup T7, hat, q, _, 3, .str wr, rfl, rfl, (s8.trans (Same.new nM8)).tup hq, rfl, rfl, .inr ⟨_, rfl, M8, _, _, .str (othW wr), rfl, rfl, .of upd_same, oth_at wr, small_line (by simp), fun t2 nt2 => ?_⟩⟩⟩
      refine ⟨t1, t2, _, _, rfl, rfl, ((Same.new nM8).trans (Same.new nt2)).tup h8, .of upd_same, small_line (by show 3 + 1 ≤ 100; decide), fun t3 H9 s9 h9 => ?_⟩
      have S79 := (s8.trans ((Same.new nM8).trans (Same.new nt2))).trans s9
      have L9 : Dp K H9 (.ref t3) (.tuple [.int sN, .int yN, .str ru, .str (othW wr)]) := .tup h9 (.cons (.int _) (.cons (.int _) (.cons (.str _) (.cons (.str _) .nil))))
      have hc9 := hc7.same S79
      have ht9 := Dp.keep S79 ht7
      have T9 := S79.tup T7
      have hini9 := DpAll.keep S79 hini
      have S29 := S27.trans S79
      clear hc7 ht7 T7 A7 hini S27 S79 s9 h9 nt2 nM8 h8 s8
      refine ⟨_, rfl, _, rfl, _, _, rfl, rfl, (by decide : (0 : Int) < 4), _, _, rfl, rfl, _, rfl, fun x3 dx3 nx3 nd3 ne3 => mk_go nx3 nd3 ne3 ht9 (good_ln2 gl) g2 g3' fun H10 s10 hc10 => own_go (c := false) Z (hc9.same s10) hsh hc10 hsh ?_ ⟨_, rfl, iteF ?_⟩⟩
      · rcases gl with rfl | rfl | rfl <;> rfl
      have m3 : ∀ d ∈ ini ++ [.tuple [.int sN, .int yN, .str ru, .str (othW wr)]], MkL d := fun d hd => by
        rcases List.mem_append.mp hd with hd | hd
        · exact dm2 d (by rw [eds]; exact List.mem_append_left _ hd)
        · rw [List.mem_singleton.mp hd]
          exact ⟨sN, yN, ru, othW wr, rfl, b1, b4, y1, y4, hru, oth_mem, hno⟩
      have l3 : (ini ++ [PyData.tuple [.int sN, .int yN, .str ru, .str (othW wr)]]).length = ds.length := by rw [eds]; simp
      have g3n : (togN (ini ++ [PyData.tuple [.int sN, .int yN, .str ru, .str (othW wr)]]) : Int) * ln ≤ 64 := by
        have h12 := tog12' m3
        have : (togN (ini ++ [PyData.tuple [.int sN, .int yN, .str ru, .str (othW wr)]]) : Int) * ln ≤ 12 * 4 := Int.mul_le_mul (by omega) (by omega) (by omega) (by omega)
        omega
      refine ⟨_, rfl, _, rfl, _, rfl, 1, rfl, -1, rfl, t, xs, rfl, s10.tup T9, fun t4 H11 s11 h11 => ⟨_, rfl, small_line (by simp), fun t5 nt5 => ⟨t4, t5, _, _, rfl, rfl, (Same.new nt5).tup h11, .of upd_same, ?_, fun t6 H12 s12 h12 => ?_⟩⟩⟩
      · have := cutV_length xs none (some (-1))
        exact small_line (by show _ + 1 ≤ 100; omega)
      have S9c := (s10.trans s11).trans ((Same.new nt5).trans s12)
      have hd12 : Dp K H12 (.ref t6) (.tuple (ini ++ [.tuple [.int sN, .int yN, .str ru, .str (othW wr)]])) := .tup h12 (DpAll.app (DpAll.keep S9c hini9) (.cons (Dp.keep S9c L9) .nil))
      refine fun x5 dx5 nx5 nd5 ne5 => mk_go nx5 nd5 ne5 hd12 g1 (bad_mk (by omega) (by omega) m3) g3n fun H13 s13 hc13 => own_go (c := false) Z (hc9.same (S9c.trans s13)) hsh hc13 (tup_shaped (by omega) (by omega) m3) ?_ ⟨_, rfl, iteF ?_⟩
      · rw [eds]
        have : PyData.eqv (.tuple [.int sN, .int yN, .str ru, .str wr]) (.tuple [.int sN, .int yN, .str ru, .str (othW wr)]) = false := by
          simp [PyData.eqv, PyData.eqvAll, oth_ne hwr]
        rw [show PyData.eqv (.tuple (ini ++ [.tuple [.int sN, .int yN, .str ru, .str wr]])) (.tuple (ini ++ [.tuple [.int sN, .int yN, .str ru, .str (othW wr)]])) = false from (by rw [PyData.eqv]; exact eqv_last this ini), Bool.and_false]
      have S2d := S29.trans (S9c.trans s13)
      have ht13 := Dp.keep S2d ht
      have hP13 := hP2.same' S2d
      have s0d : Same H H13 := s0.trans (same_butR hp0 s1 (ButR.trans b2 (ButR.of S2d)))
      have SS2d := S2d
      clear hc13 s13 hd12 h12 s12 S9c h11 s11 nt5 hc10 s10 hini9 T9 ht9 hc9 L9 S29 S2d
      have nlD : noL (.tuple ds) = true := noLs_of fun d hd => (dm2 d hd).nl
      have bad_ok : ∀ {d b : PyData} {n : Nat}, badL d = some b → ShS n b = true → n ≤ 1000 → ∀ b', badL d = some b' → ShowOk b' := fun e h n b' e' => by
        rw [e] at e'
        cases e'
        exact ShS.show h n
      have shln : ShowOk (.int ln) := show_int ln (by omega) (by omega)
      refine ⟨6, rfl, by decide, by decide, ?_⟩
      refine for_range (lo := 0) (n := 6) (fun j σ H' => ∃ v1 v9 v10 v11, σ = [some (.ref a), v1, some (.int (0 + (i : Int))), some (.ref p), some (.int ln), some (.ref t), some (.ref x), some (.int (togN ds : Int)), some (.ref t3), v9, v10, v11, v12, v13, v14, v15] ∧ PoolAt H' p ∧ ButR p H13 H') ⟨v1, v9, v10, v11, rfl, hP13, ButR.of (Same.refl _)⟩ ?_ ?_
      · rintro j σ H14 hj ⟨w1, w9, w10, w11, rfl, hP14, b14⟩
        have ht14 := Dp.kpT (ButR.kpL hP13 b14) nlD ht13
        cases hl14 : ht14 with
        | @tup _ xs14 _ hT14 hA14 =>
        have hn14 := DpAll.len hA14
        refine ⟨_, rfl, _, rfl, t, xs14, rfl, .inr hT14, p, _, rfl, hP14, by omega, by omega, fun r H15 r0 r1 hP15 b15 _ => ⟨_, rfl, p, rfl, hP15, fun v d H16 hd hv hP16 b16 => ⟨.int r, v, rfl, ?_⟩⟩⟩
        obtain ⟨m, rfl⟩ : ∃ m : Nat, r = (m : Int) := ⟨r.toNat, by omega⟩
        have hm : m < ds.length := by omega
        have b1316 : ButR p H13 H16 := ButR.trans b14 (ButR.trans b15 b16)
        have ht16 := Dp.kpT (ButR.kpL hP13 b1316) nlD ht13
        cases hl16 : ht16 with
        | @tup _ ys _ hT16 hA16 =>
        have hn16 := DpAll.len hA16
        refine ⟨_, rfl, _, rfl, (m : Int), rfl, t, ys, rfl, hT16, fun t1 H17 s17 h17 => ⟨_, rfl, small_line (by simp), fun t2 nt2 => ⟨t1, t2, _, _, rfl, rfl, (Same.new nt2).tup h17, .of upd_same, ?_, fun t3' H18 s18 h18 => ?_⟩⟩⟩
        · have := cutV_length ys none (some (m : Int))
          exact small_line (by show _ + 1 ≤ 100; omega)
        have S168 := s17.trans ((Same.new nt2).trans s18)
        rw [cut_to] at h18
        refine ⟨_, rfl, _, rfl, _, _, rfl, rfl, (m : Int) + 1, rfl, t, ys, rfl, S168.tup hT16, fun t4 H19 s19 h19 => ⟨t3', t4, _, _, rfl, rfl, s19.tup h18, h19, ?_, fun t5 H20 s20 h20 => ?_⟩⟩
        · have := cutV_length ys (some ((m : Int) + 1)) none
          rw [List.length_append, List.length_take]
          exact small_line (by show _ + 1 + _ ≤ 100; omega)
        have e1 : (m : Int) + 1 = ((m + 1 : Nat) : Int) := by omega
        rw [e1, cut_from] at h20
        have S1620 := S168.trans (s19.trans s20)
        have hb : Dp K H20 (.ref t5) (.tuple (ds.take m ++ [d] ++ ds.drop (m + 1))) := .tup h20 (DpAll.app (DpAll.app (DpAll.keep S1620 (DpAll.take' m hA16)) (.cons (Dp.keep S1620 hv) .nil)) (DpAll.keep S1620 (DpAll.drop' (m + 1) hA16)))
        have ed : ds.take m ++ [d] ++ ds.drop (m + 1) = ds.take m ++ d :: ds.drop (m + 1) := by rw [List.append_assoc]; rfl
        rw [ed] at hb
        have eb := bad_bent d3 hm dm2 (odd_bad hd)
        refine ⟨_, rfl, _, rfl, .int ln, .ref t5, .int ln, _, rfl, .int ln, hb, shln, bad_ok eb (odd_sh hd) (by decide), fun vv H21 s21 hvv => ?_⟩
        rw [heard_bad g1 eb] at hvv
        refine cmp_go (i := 1) rfl (Dp.keep (S1620.trans s21) hv) (odd_sh hd) (by decide) hvv fun H22 s22 => ⟨_, rfl, iteF ?_⟩
        exact ⟨_, _, _, _, rfl, hP16.same' ((S1620.trans s21).trans s22), ButR.trans b1316 (ButR.of ((S1620.trans s21).trans s22))⟩
      · rintro σ H14 ⟨w1, w9, w10, w11, rfl, hP14, b14⟩
        have ht14 := Dp.kpT (ButR.kpL hP13 b14) nlD ht13
        cases hl14 : ht14 with
        | @tup _ xs14 _ hT14 hA14 =>
        have hn14 := DpAll.len hA14
        refine ⟨small_line (by simp), fun e0 ne0 => ⟨_, rfl, t, xs14, rfl, .inr ((Same.new ne0).tup hT14), fun l0 nl0 => ?_⟩⟩
        have sl := (Same.new (o := .tup []) ne0).trans (Same.new (o := .lst xs14) nl0)
        obtain ⟨va, la, hla, hca, hda⟩ := first_at hA14 d1
        refine ⟨_, rfl, 1, rfl, t, xs14, rfl, sl.tup hT14, fun t1 H15 s15 h15 => ⟨t1, 4, _, rfl, rfl, h15, ?_, by decide, ?_, fun tz H16 s16 h16 => ⟨small_line (by simp), fun M nM => ⟨M, rfl, ⟨_, .of upd_same⟩, ?_⟩⟩⟩⟩
        · rw [hca]; simp
        · rw [hca]; simp
        rw [hca] at h16
        have SM := (s15.trans s16).trans (Same.new (o := .lst [.non, .ref e0, .ref l0, .ref tz, .int 5, .str (Str.ofString "line")]) nM)
        have s14M := sl.trans SM
        have fM := upd_same (H := H16) (a := M) (o := .lst [.non, .ref e0, .ref l0, .ref tz, .int 5, .str (Str.ofString "line")])
        have dM : DpAll K (upd H16 M (.lst [.non, .ref e0, .ref l0, .ref tz, .int 5, .str (Str.ofString "line")])) [.non, .ref e0, .ref l0, .ref tz, .int 5, .str (Str.ofString "line")] [.none, .tuple [], .list ds, .tuple [la, la, la, la], .int 5, .str "line"] := by
          have da := Dp.keep s14M hda
          refine .cons .non (.cons (.tup ((Same.new nl0).trans SM |>.tup (.of upd_same)) .nil) (.cons (.lst (SM.seq (.of upd_same)) (DpAll.keep s14M hA14)) (.cons (.tup ((Same.new nM).tup h16) (.cons da (.cons da (.cons da (.cons da .nil))))) (.cons (.int _) (.cons (.str _) .nil)))))
        have lM : ∀ d ∈ ([.none, .tuple [], .list ds, .tuple [la, la, la, la], .int 5, .str "line"] : List PyData), badL d = some d ∧ ShS 200 d = true := fun d hd => by
          simp only [List.mem_cons, List.not_mem_nil, or_false] at hd
          rcases hd with rfl | rfl | rfl | rfl | rfl | rfl
          · exact ⟨rfl, by decide +kernel⟩
          · exact ⟨rfl, by decide +kernel⟩
          · exact ⟨rfl, (lst_sh d1 d3 dm2).1⟩
          · exact ⟨rfl, four_sh (dm2 la hla)⟩
          · exact ⟨rfl, by decide +kernel⟩
          · exact ⟨rfl, by decide +kernel⟩
        have hPM := hP14.same' s14M
        have bM := ButR.trans b14 (ButR.of s14M)
        clear fM hl14 sl s15 h15 s16 h16
        have fM := upd_same (H := H16) (a := M) (o := .lst [.non, .ref e0, .ref l0, .ref tz, .int 5, .str (Str.ofString "line")])
        generalize upd H16 M (.lst [.non, .ref e0, .ref l0, .ref tz, .int 5, .str (Str.ofString "line")]) = HM at SM s14M fM dM hPM bM
        refine for_list (xs := [.non, .ref e0, .ref l0, .ref tz, .int 5, .str (Str.ofString "line")]) (fun j σ H' => ∃ v1, σ = [some (.ref a), v1, some (.int (0 + (i : Int))), some (.ref p), some (.int ln), some (.ref t), some (.ref x), some (.int (togN ds : Int)), some (.ref t3), w9, w10, w11, v12, v13, v14, v15] ∧ Same HM H') ⟨w1, rfl, Same.refl _⟩ (fun j σ H' _ ⟨_, _, s1⟩ => .of (s1 _ _ fM)) ?_ ?_
        · rintro j y σ H17 hy ⟨u1, rfl, s17⟩
          obtain ⟨d, hd, hdy⟩ := DpAll.at dM hy
          obtain ⟨eb, sb⟩ := lM d (List.mem_of_getElem? hd)
          refine ⟨_, rfl, _, rfl, .int ln, y, .int ln, d, rfl, .int ln, Dp.keep s17 hdy, shln, bad_ok eb sb (by decide), fun vv H21 s21 hvv => ?_⟩
          rw [heard_bad g1 eb] at hvv
          refine cmp_go (i := 1) rfl (Dp.keep (s17.trans s21) hdy) sb (by decide) hvv fun H22 s22 => ⟨_, rfl, iteF ?_⟩
          exact ⟨_, rfl, (s17.trans s21).trans s22⟩
        · rintro σ H17 ⟨u1, rfl, s17⟩
          have hP17 := hPM.same' s17
          refine ⟨small_line (by simp), fun M2 nM2 => ⟨_, rfl, p, 4, rfl, hP17.same' (Same.new nM2), by decide, by decide, fun r H18 r0 r1 hP18 b18 _ => ?_⟩⟩
          obtain ⟨xs, ex, mx⟩ := menuAt (xs := [V.int 5, .int 6, .int 7, .int 8]) (n := 4) r0 r1 rfl
          refine ⟨M2, _, r, xs, rfl, rfl, .of (b18 _ _ upd_same (hP17.ne nM2)), ex, ?_⟩
          obtain ⟨sW, rfl, w5, w8⟩ : ∃ sW : Int, xs = .int sW ∧ 5 ≤ sW ∧ sW ≤ 8 := by
            simp only [List.mem_cons, List.not_mem_nil, or_false] at mx
            rcases mx with rfl | rfl | rfl | rfl
            · exact ⟨_, rfl, by decide, by decide⟩
            · exact ⟨_, rfl, by decide, by decide⟩
            · exact ⟨_, rfl, by decide, by decide⟩
            · exact ⟨_, rfl, by decide, by decide⟩
          have bEnd : ButR p H13 H18 := ButR.trans bM (ButR.trans (ButR.of (s17.trans (Same.new nM2))) b18)
          have sEnd : Same H H18 := s0.trans (same_butR hp0 s1 (ButR.trans b2 (ButR.trans (ButR.of (SS2d)) bEnd)))
          refine ⟨1, 9, rfl, ⟨by decide, by decide, by decide, by decide⟩, ?_⟩
          refine for_range (lo := 1) (n := 8) (fun j σ H' => ∃ v13 v14 v15, σ = [some (.ref a), u1, some (.int (0 + (i : Int))), some (.ref p), some (.int ln), some (.ref t), some (.ref x), some (.int (togN ds : Int)), some (.ref t3), w9, w10, w11, some (.int sW), v13, v14, v15] ∧ Same H18 H') ⟨v13, v14, v15, rfl, Same.refl _⟩ ?_ ?_
          · rintro j σ H19 hj ⟨u13, u14, u15, rfl, s19⟩
            refine ⟨_, rfl, small_line (by simp), fun k1 nk1 => ⟨small_line (by simp), fun k2 nk2 => ⟨small_line (by simp), fun k3 nk3 => ?_⟩⟩⟩
            have S1 := Same.new (o := .tup [.int sW, .int 1, .str (Str.ofString "used"), .str (Str.ofString "back")]) nk1
            have S2 := Same.new (o := .tup [.int 4, .int 4, .str (Str.ofString "brought"), .str (Str.ofString "through")]) nk2
            have S3 := Same.new (o := .tup [.ref k1, .ref k2]) nk3
            have dW : Dp K _ (.ref k3) (.tuple [.tuple [.int sW, .int 1, .str "used", .str "back"], .tuple [.int 4, .int 4, .str "brought", .str "through"]]) :=
              .tup (.of (upd_same (H := upd (upd H19 k1 (.tup [.int sW, .int 1, .str (Str.ofString "used"), .str (Str.ofString "back")])) k2 (.tup [.int 4, .int 4, .str (Str.ofString "brought"), .str (Str.ofString "through")])) (a := k3) (o := .tup [.ref k1, .ref k2])))
                (.cons (.tup ((S2.trans S3).tup (.of upd_same)) (.cons (.int _) (.cons (.int _) (.cons (.str _) (.cons (.str _) .nil))))) (.cons (.tup (S3.tup (.of upd_same)) (.cons (.int _) (.cons (.int _) (.cons (.str _) (.cons (.str _) .nil))))) .nil))
            have S193 := (S1.trans S2).trans S3
            clear S1 S2 S3
            generalize upd (upd (upd H19 k1 _) k2 _) k3 _ = H20 at dW S193
            have lvW := lvl_wide w5 w8
            have tgW : ∀ q, q ≤ 2 → togN (([.tuple [.int sW, .int 1, .str "used", .str "back"], .tuple [.int 4, .int 4, .str "brought", .str "through"]] : List PyData).take q) ≤ 840 := fun q hq => Nat.le_trans (togN_le lvW q hq) (by
              have : q = 0 ∨ q = 1 ∨ q = 2 := by omega
              rcases this with rfl | rfl | rfl <;> decide)
            refine ⟨_, rfl, _, rfl, .ref k3, _, rfl, dW, lvW, tgW, fun H21 s21 => ?_⟩
            have t840 := tgW 2 (by decide)
            have bdW : badL (.tuple [.tuple [.int sW, .int 1, .str "used", .str "back"], .tuple [.int 4, .int 4, .str "brought", .str "through"]]) = none := bad_none (by simp) (by simp) lvW
            have cW : cntD (.int (1 + (j : Int))) 8 = true := by
              show (decide (1 ≤ 1 + (j : Int)) && decide (1 + (j : Int) ≤ 8)) = true
              rw [decide_eq_true (by omega), decide_eq_true (by omega)]
              rfl
            have hW : heardD (.int (1 + (j : Int))) (.tuple [.tuple [.int sW, .int 1, .str "used", .str "back"], .tuple [.int 4, .int 4, .str "brought", .str "through"]]) = if 64 < (togN [.tuple [.int sW, .int 1, .str "used", .str "back"], .tuple [.int 4, .int 4, .str "brought", .str "through"]] : Int) * (1 + (j : Int)) then [.str "large", .str "period"] else [.str "fine"] := by
              unfold heardD
              rw [if_pos cW, bdW]
            have noB : ∀ b, badL (.tuple [.tuple [.int sW, .int 1, .str "used", .str "back"], .tuple [.int 4, .int 4, .str "brought", .str "through"]]) = some b → ShowOk b := fun b hb => by
              rw [bdW] at hb
              cases hb
            have shW := show_int (1 + (j : Int)) (by omega) (by omega)
            rw [show ([.tuple [.int sW, .int 1, .str "used", .str "back"], .tuple [.int 4, .int 4, .str "brought", .str "through"]] : List PyData).take 2 = [.tuple [.int sW, .int 1, .str "used", .str "back"], .tuple [.int 4, .int 4, .str "brought", .str "through"]] from rfl] at t840
            generalize [PyData.tuple [.int sW, .int 1, .str "used", .str "back"], .tuple [.int 4, .int 4, .str "brought", .str "through"]] = wds at dW lvW tgW t840 bdW hW noB
            refine ⟨1 + (j : Int), (togN wds : Int), rfl, rfl, .inr ⟨by omega, by omega⟩, _, _, rfl, rfl, _, rfl, ?_⟩
            have S1921 := s19.trans (S193.trans s21)
            have dW21 := Dp.keep s21 dW
            refine ite2 (fun c => ?_) (fun c => ?_)
            · have c' : 64 < (togN wds : Int) * (1 + (j : Int)) := by
                rw [Int.mul_comm]
                exact of_decide_eq_true c
              rw [if_pos c'] at hW
              refine ⟨small_line (by simp), fun L nL => ?_⟩
              refine ⟨_, rfl, _, rfl, .int (1 + (j : Int)), .ref k3, _, _, rfl, .int _, Dp.keep (Same.new nL) dW21, shW, noB, fun v H23 s23 hv => ⟨_, rfl, _, _, hv, .lst (s23.seq (.of upd_same)) (.cons (.str _) (.cons (.str _) .nil)), ?_, by decide +kernel, ?_⟩⟩
              · rw [hW]; decide +kernel
              · rw [hW]
                refine ⟨_, rfl, ?_⟩
                rw [show (!PyData.eqv (.list [.str "large", .str "period"]) (.list [.str (Str.ofString "large"), .str (Str.ofString "period")])) = false by decide +kernel]
                exact iteF ⟨_, _, _, rfl, S1921.trans ((Same.new nL).trans s23)⟩
            · have c' : ¬ 64 < (togN wds : Int) * (1 + (j : Int)) := by
                rw [Int.mul_comm]
                exact fun z => c (decide_eq_true z)
              rw [if_neg c'] at hW
              refine ⟨small_line (by simp), fun L nL => ?_⟩
              refine ⟨_, rfl, _, rfl, .int (1 + (j : Int)), .ref k3, _, _, rfl, .int _, Dp.keep (Same.new nL) dW21, shW, noB, fun v H23 s23 hv => ⟨_, rfl, _, _, hv, .lst (s23.seq (.of upd_same)) (.cons (.str _) .nil), ?_, by decide +kernel, ?_⟩⟩
              · rw [hW]; decide +kernel
              · rw [hW]
                refine ⟨_, rfl, ?_⟩
                rw [show (!PyData.eqv (.list [.str "fine"]) (.list [.str (Str.ofString "fine")])) = false by decide +kernel]
                exact iteF ⟨_, _, _, rfl, S1921.trans ((Same.new nL).trans s23)⟩
          · rintro σ H19 ⟨u13, u14, u15, rfl, s19⟩
            exact ⟨_, _, _, _, _, _, _, _, _, _, _, _, _, _, _, rfl, sEnd.trans s19⟩
end

end K12

namespace K12
open PySem L2 SZ VR VX StX RT
/-! ### own errors in the written part -/
abbrev veM (far : Addr) : List Value := [.ref far, .type "ValueError", .type "Exception", .type "BaseException", .type "object"]
/-- what the top says of an error class at C -/
structure ErX (K : PySem.W.Frag) (mg : Str → Option Value) (x : Str) (C far : Addr) (f : Str) : Prop where
  l : ∃ nm q N bs sn sub ab col dd k0 k1 k2 k3 k5, K.lookup C = some (excClassObj nm q C N bs (veM far) true sn sub ab col dd k0 k1 k2 k3 k5 "ValueError.__new__")
  sa : PySem.W.findIn K (.ref C) "__setattr__" = some (some (.builtin "object.__setattr__"))
  kC : PySem.W.keepIn K (.ref C) = true
  ga : PySem.W.findIn K (.ref C) "__getattribute__" = some (some (.builtin "BaseException.__getattribute__"))
  gg : PySem.W.findIn K (.ref C) "__getattr__" = some none
  ex : PySem.W.subIn K (.ref C) (.type "BaseException") = some true
  ac : PySem.W.findIn K (.ref C) "__class__" = some (some (.builtin "object.__class__"))
  an : PySem.W.specialIn K (.builtin "object.__class__") "__get__" = some (some (.builtin "getset_descriptor.__get__"))
  tk : PySem.W.takesIn K (.builtin "object.__class__") = some true
  mo : PySem.W.mroIn K C (.type "object") = some true
  no : PySem.W.findIn K (.ref C) f = some none
  m : mg x = some (.ref C)
theorem ErX.clsIn {K : PySem.W.Frag} {mg : Str → Option Value} {x : Str} {C far : Addr} {f : Str} (h : ErX K mg x C far f) : ∃ cd, PySem.W.clsIn K C = some cd ∧ cd.mro = .ref C :: veM far := by
  obtain ⟨nm, q, N, bs, sn, sub, ab, col, dd, k0, k1, k2, k3, k5, l⟩ := h.l
  have e : PySem.W.clsIn K C = some { name := nm, bases := bs, mro := .ref C :: veM far, ns := N, qualname := q, hasDict := true, slotNames := sn, subclasses := sub, abstract := ab, collection := col, hasDel := false } := by unfold PySem.W.clsIn; rw [l] <;> rfl
  exact ⟨_, e, rfl⟩
theorem ErX.sub {K : PySem.W.Frag} {mg : Str → Option Value} {x : Str} {C far : Addr} {f : Str} (h : ErX K mg x C far f) (b : Value) : PySem.W.subIn K (.ref C) b = some ((Value.ref C :: veM far).contains b) := by
  obtain ⟨cd, e, em⟩ := h.clsIn
  show ((PySem.W.clsIn K C).bind fun cd => if cd.mro.isEmpty = true then none else some (cd.mro.contains b)) = _
  rw [e]
  show (if cd.mro.isEmpty = true then none else some (cd.mro.contains b)) = _
  rw [em]
  rfl
theorem ErX.isC {K : PySem.W.Frag} {mg : Str → Option Value} {x : Str} {C far : Addr} {f : Str} (h : ErX K mg x C far f) : (PySem.W.clsIn K C).isSome = true := by
  obtain ⟨cd, e, _⟩ := h.clsIn
  rw [e]
  rfl
theorem ErX.ty {K : PySem.W.Frag} {mg : Str → Option Value} {x : Str} {C far : Addr} {f : Str} (h : ErX K mg x C far f) : PySem.W.typeIn K (.ref C) = some (.type "type") := by
  obtain ⟨nm, q, N, bs, sn, sub, ab, col, dd, k0, k1, k2, k3, k5, l⟩ := h.l
  show (K.lookup C).map (fun x => x.cls) = _
  rw [l]
  rfl
theorem ErX.oxc {K : PySem.W.Frag} {mg : Str → Option Value} {x : Str} {C far : Addr} {f : Str} (h : ErX K mg x C far f) : OxC K C := by
  obtain ⟨nm, q, N, bs, sn, sub, ab, col, dd, k0, k1, k2, k3, k5, l⟩ := h.l
  exact ⟨⟨nm, q, N, bs, veM far, sn, sub, ab, col, dd, k0, k1, k2, k3, k5, "ValueError", "ValueError.__new__", "ValueError.__init__", _, PySem.F.excBase_ValueError, l, fun Y => PySem.HandSPX.refsVE_contains Y (veM far) rfl, fun self => PySem.HandSPX.refsVE_pass self _ rfl, (PySem.HandSPX.refsVE_contains "object" (veM far) rfl).trans (by decide +kernel)⟩, h.sa, h.kC, h.ga, h.gg, h.ex, h.ac, h.an, h.tk, h.mo⟩
theorem ErX.oexc {K : PySem.W.Frag} {mg : Str → Option Value} {x : Str} {C far : Addr} {f : Str} (h : ErX K mg x C far f) : OexC K C := by
  obtain ⟨nm, q, N, bs, sn, sub, ab, col, dd, k0, k1, k2, k3, k5, l⟩ := h.l
  exact ⟨⟨nm, q, N, bs, veM far, sn, sub, ab, col, dd, k0, k1, k2, k3, k5, l, rfl⟩, h.sa, h.ex, h.ty, h.kC⟩
/-- raised by one class, named by the other -/
theorem ErX.exm {K : PySem.W.Frag} {mg : Str → Option Value} {x y : Str} {C D far : Addr} {f g : Str} (h : ErX K mg x C far f) (h2 : ErX K mg y D far g) (n : D ≠ far) : PySem.W.exmOne K (.ref C) (.ref D) = some (decide (C = D)) := by
  have e1 : (PySem.W.subIn K (.ref D) (.type "BaseException") == some true) = true := by rw [h2.ex] <;> rfl
  have e2 : ((PySem.W.clsIn K D).isSome && PySem.W.typeIn K (.ref D) == some (.type "type")) = true := by rw [h2.isC, h2.ty] <;> rfl
  show (if (PySem.W.subIn K (.ref D) (.type "BaseException") == some true) = true then (if ((PySem.W.clsIn K D).isSome && PySem.W.typeIn K (.ref D) == some (.type "type")) = true then PySem.W.subIn K (.ref C) (.ref D) else none) else none) = _
  rw [if_pos e1, if_pos e2, h.sub]
  congr 1
  rw [List.contains_cons]
  have n2 : (Value.ref D == Value.ref far) = false := beq_eq_false_iff_ne.mpr fun z => n (Value.ref.inj z)
  have e3 : (veM far).contains (.ref D) = false := by
    rw [List.contains_cons, n2]
    rfl
  rw [e3, Bool.or_false]
  by_cases e : C = D
  · subst e
    rw [decide_eq_true rfl]
    exact beq_self_eq_true _
  · rw [decide_eq_false e]
    exact beq_eq_false_iff_ne.mpr fun z => e (Value.ref.inj z).symm

section
variable {P : Program} {w : World} {K : PySem.W.Frag} {mg : Str → Option Value} {base : Heap}
theorem sx_TooLarge {C fI : Addr} {fd : FuncData} (T : OxC K C) (no : PySem.W.findIn K (.ref C) "word" = some none) (F : Fun K "__init__" "TooLarge.__init__" S_TooLarge___init__ fI fd) : FnOk P w K mg base CX0 1 fI fd [("self" : Str), "word"] (spOx K C "word") := by
  refine F.ok sc_TooLarge___init__ (fun vs H Q E h => ?_) (fun cdv A outer s H vs Q E hr h => ?_)
  · obtain ⟨a, v, rfl, _⟩ := h; rfl
  · obtain ⟨a, v, rfl, ha, q⟩ := h
    exact ⟨_, pss_one (ps_ox (pv 0) (pv 1)), ⟨_, rfl, _, rfl, a, C, rfl, T, no, ha, fun dx h1 h2 => q dx h1 h2⟩⟩
theorem sx_InvalidCache {C fI : Addr} {fd : FuncData} (T : OxC K C) (no : PySem.W.findIn K (.ref C) "value" = some none) (F : Fun K "__init__" "InvalidCache.__init__" S_InvalidCache___init__ fI fd) : FnOk P w K mg base CX0 1 fI fd [("self" : Str), "value"] (spOx K C "value") := by
  refine F.ok sc_InvalidCache___init__ (fun vs H Q E h => ?_) (fun cdv A outer s H vs Q E hr h => ?_)
  · obtain ⟨a, v, rfl, _⟩ := h; rfl
  · obtain ⟨a, v, rfl, ha, q⟩ := h
    exact ⟨_, pss_one (ps_ox (pv 0) (pv 1)), ⟨_, rfl, _, rfl, a, C, rfl, T, no, ha, fun dx h1 h2 => q dx h1 h2⟩⟩
end
theorem all_mk {l : PySem.W.OpenLaw} {w : World} {K : PySem.W.Frag} {h : Heap} {mg : Str → Option Value} {fa : Addr}
    {C_FarError : Addr}
    {C_TooLarge : Addr}
    {N_TooLarge : Addr} {nm_TooLarge q_TooLarge : Str} {bs_TooLarge sb_TooLarge : List Value} {sn_TooLarge : List Str} {ab_TooLarge : Bool} {co_TooLarge : Option Bool} {dd_TooLarge : Option Addr} {x_TooLarge y_TooLarge zz_TooLarge u_TooLarge v_TooLarge : Option Value}
    {f_TooLarge___init__ : Addr} {oc_TooLarge___init__ kV_TooLarge___init__ dc_TooLarge___init__ pm_TooLarge___init__ cd_TooLarge___init__ ct_TooLarge___init__ : Value} {od_TooLarge___init__ an_TooLarge___init__ : Option Addr} {sl_TooLarge___init__ : Array (Option Value)}
    {C_InvalidCache : Addr}
    {N_InvalidCache : Addr} {nm_InvalidCache q_InvalidCache : Str} {bs_InvalidCache sb_InvalidCache : List Value} {sn_InvalidCache : List Str} {ab_InvalidCache : Bool} {co_InvalidCache : Option Bool} {dd_InvalidCache : Option Addr} {x_InvalidCache y_InvalidCache zz_InvalidCache u_InvalidCache v_InvalidCache : Option Value}
    {f_InvalidCache___init__ : Addr} {oc_InvalidCache___init__ kV_InvalidCache___init__ dc_InvalidCache___init__ pm_InvalidCache___init__ cd_InvalidCache___init__ ct_InvalidCache___init__ : Value} {od_InvalidCache___init__ an_InvalidCache___init__ : Option Addr} {sl_InvalidCache___init__ : Array (Option Value)}
    {f_is_integer : Addr} {oc_is_integer kV_is_integer dc_is_integer pm_is_integer cd_is_integer ct_is_integer : Value} {od_is_integer an_is_integer : Option Addr} {sl_is_integer : Array (Option Value)}
    {t_RULES : Addr} {t_RULES0 t_RULES1 t_RULES2 t_RULES3 : Tok} {dd_RULES : Option Addr} {n_RULES : Nat} {ds_RULES : Array (Option Value)}
    {t_WRITES : Addr} {t_WRITES0 t_WRITES1 : Tok} {dd_WRITES : Option Addr} {n_WRITES : Nat} {ds_WRITES : Array (Option Value)}
    {t_MOST_CELLS : Tok}
    {t_MOST_LEVELS : Tok}
    {t_MOST_SETS : Tok}
    {t_MOST_WAYS : Tok}
    {t_LONGEST_PERIOD : Tok}
    {f_is_count : Addr} {oc_is_count kV_is_count dc_is_count pm_is_count cd_is_count ct_is_count : Value} {od_is_count an_is_count : Option Addr} {sl_is_count : Array (Option Value)}
    {f_is_level : Addr} {oc_is_level kV_is_level dc_is_level pm_is_level cd_is_level ct_is_level : Value} {od_is_level an_is_level : Option Addr} {sl_is_level : Array (Option Value)}
    {f_check_levels : Addr} {oc_check_levels kV_check_levels dc_check_levels pm_check_levels cd_check_levels ct_check_levels : Value} {od_check_levels an_check_levels : Option Addr} {sl_check_levels : Array (Option Value)}
    {C_Cache : Addr}
    {f_Cache___init__ : Addr} {oc_Cache___init__ kV_Cache___init__ dc_Cache___init__ pm_Cache___init__ cd_Cache___init__ ct_Cache___init__ : Value} {od_Cache___init__ an_Cache___init__ : Option Addr} {sl_Cache___init__ : Array (Option Value)}
    {p_Cache_line : Addr} {rest_Cache_line : List Value}
    {f_Cache_line : Addr} {oc_Cache_line kV_Cache_line dc_Cache_line pm_Cache_line cd_Cache_line ct_Cache_line : Value} {od_Cache_line an_Cache_line : Option Addr} {sl_Cache_line : Array (Option Value)}
    {p_Cache_levels : Addr} {rest_Cache_levels : List Value}
    {f_Cache_levels : Addr} {oc_Cache_levels kV_Cache_levels dc_Cache_levels pm_Cache_levels cd_Cache_levels ct_Cache_levels : Value} {od_Cache_levels an_Cache_levels : Option Addr} {sl_Cache_levels : Array (Option Value)}
    {p_Cache_sets_together : Addr} {rest_Cache_sets_together : List Value}
    {f_Cache_sets_together : Addr} {oc_Cache_sets_together kV_Cache_sets_together dc_Cache_sets_together pm_Cache_sets_together cd_Cache_sets_together ct_Cache_sets_together : Value} {od_Cache_sets_together an_Cache_sets_together : Option Addr} {sl_Cache_sets_together : Array (Option Value)}
    {p_Cache_period : Addr} {rest_Cache_period : List Value}
    {f_Cache_period : Addr} {oc_Cache_period kV_Cache_period dc_Cache_period pm_Cache_period cd_Cache_period ct_Cache_period : Value} {od_Cache_period an_Cache_period : Option Addr} {sl_Cache_period : Array (Option Value)}
    {f_Cache_show : Addr} {oc_Cache_show kV_Cache_show dc_Cache_show pm_Cache_show cd_Cache_show ct_Cache_show : Value} {od_Cache_show an_Cache_show : Option Addr} {sl_Cache_show : Array (Option Value)}
    {f_Cache___len__ : Addr} {oc_Cache___len__ kV_Cache___len__ dc_Cache___len__ pm_Cache___len__ cd_Cache___len__ ct_Cache___len__ : Value} {od_Cache___len__ an_Cache___len__ : Option Addr} {sl_Cache___len__ : Array (Option Value)}
    {f_Cache___eq__ : Addr} {oc_Cache___eq__ kV_Cache___eq__ dc_Cache___eq__ pm_Cache___eq__ cd_Cache___eq__ ct_Cache___eq__ : Value} {od_Cache___eq__ an_Cache___eq__ : Option Addr} {sl_Cache___eq__ : Array (Option Value)}
    {f_law_pool : Addr} {oc_law_pool kV_law_pool dc_law_pool pm_law_pool cd_law_pool ct_law_pool : Value} {od_law_pool an_law_pool : Option Addr} {sl_law_pool : Array (Option Value)}
    {f_law_take : Addr} {oc_law_take kV_law_take dc_law_take pm_law_take cd_law_take ct_law_take : Value} {od_law_take an_law_take : Option Addr} {sl_law_take : Array (Option Value)}
    {f_law_cache : Addr} {oc_law_cache kV_law_cache dc_law_cache pm_law_cache cd_law_cache ct_law_cache : Value} {od_law_cache an_law_cache : Option Addr} {sl_law_cache : Array (Option Value)}
    {f_law_heard : Addr} {oc_law_heard kV_law_heard dc_law_heard pm_law_heard cd_law_heard ct_law_heard : Value} {od_law_heard an_law_heard : Option Addr} {sl_law_heard : Array (Option Value)}
    {f_law_odd : Addr} {oc_law_odd kV_law_odd dc_law_odd pm_law_odd cd_law_odd ct_law_odd : Value} {od_law_odd an_law_odd : Option Addr} {sl_law_odd : Array (Option Value)}
    {f_law_together : Addr} {oc_law_together kV_law_together dc_law_together pm_law_together cd_law_together ct_law_together : Value} {od_law_together an_law_together : Option Addr} {sl_law_together : Array (Option Value)}
    {f_law : Addr} {oc_law kV_law dc_law pm_law cd_law ct_law : Value} {od_law an_law : Option Addr} {sl_law : Array (Option Value)}
    (X : K.In h) (G : h.Ns mainGlobals mg) (hfa : mg "law" = some (.ref fa))
    (aC_FarError : PySem.W.nsIn K mainGlobals "FarError" = some (some (.ref C_FarError)))
    (aC_TooLarge : PySem.W.nsIn K mainGlobals "TooLarge" = some (some (.ref C_TooLarge)))
    (l_TooLarge : K.lookup C_TooLarge = some (excClassObj nm_TooLarge q_TooLarge C_TooLarge N_TooLarge bs_TooLarge (veM C_FarError) true sn_TooLarge sb_TooLarge ab_TooLarge co_TooLarge dd_TooLarge x_TooLarge y_TooLarge zz_TooLarge u_TooLarge v_TooLarge "ValueError.__new__"))
    (sa_TooLarge : PySem.W.findIn K (.ref C_TooLarge) "__setattr__" = some (some (.builtin "object.__setattr__")))
    (kC_TooLarge : PySem.W.keepIn K (.ref C_TooLarge) = true)
    (ga_TooLarge : PySem.W.findIn K (.ref C_TooLarge) "__getattribute__" = some (some (.builtin "BaseException.__getattribute__")))
    (gg_TooLarge : PySem.W.findIn K (.ref C_TooLarge) "__getattr__" = some none)
    (ex_TooLarge : PySem.W.subIn K (.ref C_TooLarge) (.type "BaseException") = some true)
    (ac_TooLarge : PySem.W.findIn K (.ref C_TooLarge) "__class__" = some (some (.builtin "object.__class__")))
    (mo_TooLarge : PySem.W.mroIn K C_TooLarge (.type "object") = some true)
    (no_TooLarge : PySem.W.findIn K (.ref C_TooLarge) "word" = some none)
    (i_TooLarge : PySem.W.findIn K (.ref C_TooLarge) "__init__" = some (some (.ref f_TooLarge___init__)))
    (t_TooLarge : PySem.W.isFn K (.ref f_TooLarge___init__) = true)
    (l_TooLarge___init__ : K.lookup f_TooLarge___init__ = some ⟨oc_TooLarge___init__, od_TooLarge___init__, .func (PySem.W.fnOf "__init__" "TooLarge.__init__" (defArgs S_TooLarge___init__) (defBody S_TooLarge___init__) (defScope S_TooLarge___init__) .none kV_TooLarge___init__ dc_TooLarge___init__ pm_TooLarge___init__ an_TooLarge___init__ cd_TooLarge___init__ ct_TooLarge___init__), sl_TooLarge___init__⟩)
    (c_TooLarge___init__ : PySem.W.codeIn K cd_TooLarge___init__ "TooLarge.__init__" = true)
    (k_TooLarge___init__ : PySem.W.keepIn K (.ref f_TooLarge___init__) = true)
    (aC_InvalidCache : PySem.W.nsIn K mainGlobals "InvalidCache" = some (some (.ref C_InvalidCache)))
    (l_InvalidCache : K.lookup C_InvalidCache = some (excClassObj nm_InvalidCache q_InvalidCache C_InvalidCache N_InvalidCache bs_InvalidCache (veM C_FarError) true sn_InvalidCache sb_InvalidCache ab_InvalidCache co_InvalidCache dd_InvalidCache x_InvalidCache y_InvalidCache zz_InvalidCache u_InvalidCache v_InvalidCache "ValueError.__new__"))
    (sa_InvalidCache : PySem.W.findIn K (.ref C_InvalidCache) "__setattr__" = some (some (.builtin "object.__setattr__")))
    (kC_InvalidCache : PySem.W.keepIn K (.ref C_InvalidCache) = true)
    (ga_InvalidCache : PySem.W.findIn K (.ref C_InvalidCache) "__getattribute__" = some (some (.builtin "BaseException.__getattribute__")))
    (gg_InvalidCache : PySem.W.findIn K (.ref C_InvalidCache) "__getattr__" = some none)
    (ex_InvalidCache : PySem.W.subIn K (.ref C_InvalidCache) (.type "BaseException") = some true)
    (ac_InvalidCache : PySem.W.findIn K (.ref C_InvalidCache) "__class__" = some (some (.builtin "object.__class__")))
    (mo_InvalidCache : PySem.W.mroIn K C_InvalidCache (.type "object") = some true)
    (no_InvalidCache : PySem.W.findIn K (.ref C_InvalidCache) "value" = some none)
    (i_InvalidCache : PySem.W.findIn K (.ref C_InvalidCache) "__init__" = some (some (.ref f_InvalidCache___init__)))
    (t_InvalidCache : PySem.W.isFn K (.ref f_InvalidCache___init__) = true)
    (l_InvalidCache___init__ : K.lookup f_InvalidCache___init__ = some ⟨oc_InvalidCache___init__, od_InvalidCache___init__, .func (PySem.W.fnOf "__init__" "InvalidCache.__init__" (defArgs S_InvalidCache___init__) (defBody S_InvalidCache___init__) (defScope S_InvalidCache___init__) .none kV_InvalidCache___init__ dc_InvalidCache___init__ pm_InvalidCache___init__ an_InvalidCache___init__ cd_InvalidCache___init__ ct_InvalidCache___init__), sl_InvalidCache___init__⟩)
    (c_InvalidCache___init__ : PySem.W.codeIn K cd_InvalidCache___init__ "InvalidCache.__init__" = true)
    (k_InvalidCache___init__ : PySem.W.keepIn K (.ref f_InvalidCache___init__) = true)
    (a_is_integer : PySem.W.nsIn K mainGlobals "is_integer" = some (some (.ref f_is_integer)))
    (l_is_integer : K.lookup f_is_integer = some ⟨oc_is_integer, od_is_integer, .func (PySem.W.fnOf "is_integer" "is_integer" (defArgs S_is_integer) (defBody S_is_integer) (defScope S_is_integer) .none kV_is_integer dc_is_integer pm_is_integer an_is_integer cd_is_integer ct_is_integer), sl_is_integer⟩)
    (c_is_integer : PySem.W.codeIn K cd_is_integer "is_integer" = true)
    (k_is_integer : PySem.W.keepIn K (.ref f_is_integer) = true)
    (a_RULES : PySem.W.nsIn K mainGlobals "_RULES" = some (some (.ref t_RULES)))
    (l_RULES : K.lookup t_RULES = some ⟨.type "tuple", dd_RULES, .seq #[.str (Str.ofString "used") t_RULES0, .str (Str.ofString "brought") t_RULES1, .str (Str.ofString "second") t_RULES2, .str (Str.ofString "tree") t_RULES3] n_RULES, ds_RULES⟩)
    (a_WRITES : PySem.W.nsIn K mainGlobals "_WRITES" = some (some (.ref t_WRITES)))
    (l_WRITES : K.lookup t_WRITES = some ⟨.type "tuple", dd_WRITES, .seq #[.str (Str.ofString "back") t_WRITES0, .str (Str.ofString "through") t_WRITES1] n_WRITES, ds_WRITES⟩)
    (a_MOST_CELLS : PySem.W.nsIn K mainGlobals "_MOST_CELLS" = some (some (.int 8 t_MOST_CELLS)))
    (a_MOST_LEVELS : PySem.W.nsIn K mainGlobals "_MOST_LEVELS" = some (some (.int 3 t_MOST_LEVELS)))
    (a_MOST_SETS : PySem.W.nsIn K mainGlobals "_MOST_SETS" = some (some (.int 8 t_MOST_SETS)))
    (a_MOST_WAYS : PySem.W.nsIn K mainGlobals "_MOST_WAYS" = some (some (.int 4 t_MOST_WAYS)))
    (a_LONGEST_PERIOD : PySem.W.nsIn K mainGlobals "_LONGEST_PERIOD" = some (some (.int 64 t_LONGEST_PERIOD)))
    (a_is_count : PySem.W.nsIn K mainGlobals "_is_count" = some (some (.ref f_is_count)))
    (l_is_count : K.lookup f_is_count = some ⟨oc_is_count, od_is_count, .func (PySem.W.fnOf "_is_count" "_is_count" (defArgs S_is_count) (defBody S_is_count) (defScope S_is_count) .none kV_is_count dc_is_count pm_is_count an_is_count cd_is_count ct_is_count), sl_is_count⟩)
    (c_is_count : PySem.W.codeIn K cd_is_count "_is_count" = true)
    (k_is_count : PySem.W.keepIn K (.ref f_is_count) = true)
    (a_is_level : PySem.W.nsIn K mainGlobals "_is_level" = some (some (.ref f_is_level)))
    (l_is_level : K.lookup f_is_level = some ⟨oc_is_level, od_is_level, .func (PySem.W.fnOf "_is_level" "_is_level" (defArgs S_is_level) (defBody S_is_level) (defScope S_is_level) .none kV_is_level dc_is_level pm_is_level an_is_level cd_is_level ct_is_level), sl_is_level⟩)
    (c_is_level : PySem.W.codeIn K cd_is_level "_is_level" = true)
    (k_is_level : PySem.W.keepIn K (.ref f_is_level) = true)
    (a_check_levels : PySem.W.nsIn K mainGlobals "_check_levels" = some (some (.ref f_check_levels)))
    (l_check_levels : K.lookup f_check_levels = some ⟨oc_check_levels, od_check_levels, .func (PySem.W.fnOf "_check_levels" "_check_levels" (defArgs S_check_levels) (defBody S_check_levels) (defScope S_check_levels) .none kV_check_levels dc_check_levels pm_check_levels an_check_levels cd_check_levels ct_check_levels), sl_check_levels⟩)
    (c_check_levels : PySem.W.codeIn K cd_check_levels "_check_levels" = true)
    (k_check_levels : PySem.W.keepIn K (.ref f_check_levels) = true)
    (aC_Cache : PySem.W.nsIn K mainGlobals "Cache" = some (some (.ref C_Cache)))
    (pg_Cache : PySem.W.plainGet K C_Cache Str.empty = true)
    (hd_Cache : PySem.W.hasDictIn K C_Cache = true)
    (po_Cache : PySem.W.plainOver K C_Cache = true)
    (sa_Cache : PySem.W.findIn K (.ref C_Cache) "__setattr__" = some (some (.builtin "object.__setattr__")))
    (mk_Cache : PySem.W.makesIn K C_Cache = true)
    (kc_Cache : PySem.W.keepIn K (.ref C_Cache) = true)
    (cc_Cache : PySem.W.findIn K (.ref C_Cache) "__class__" = some (some (.builtin "object.__class__")))
    (cm_Cache : PySem.W.mroIn K C_Cache (.type "object") = some true)
    (ic_Cache : PySem.W.isClsIn K C_Cache = true)
    (tc_Cache : PySem.W.typeIn K (.ref C_Cache) = some (.type "type"))
    (cgO : PySem.W.specialIn K (.builtin "object.__class__") "__get__" = some (some (.builtin "getset_descriptor.__get__")))
    (ctO : PySem.W.takesIn K (.builtin "object.__class__") = some true)
    (np_Cache_line : PySem.W.findIn K (.ref C_Cache) "_line" = some none)
    (np_Cache_levels : PySem.W.findIn K (.ref C_Cache) "_levels" = some none)
    (np_Cache_together : PySem.W.findIn K (.ref C_Cache) "_together" = some none)
    (a_Cache___init__ : PySem.W.findIn K (.ref C_Cache) "__init__" = some (some (.ref f_Cache___init__)))
    (i_Cache___init__ : PySem.W.isFn K (.ref f_Cache___init__) = true)
    (l_Cache___init__ : K.lookup f_Cache___init__ = some ⟨oc_Cache___init__, od_Cache___init__, .func (PySem.W.fnOf "__init__" "Cache.__init__" (defArgs S_Cache___init__) (defBody S_Cache___init__) (defScope S_Cache___init__) .none kV_Cache___init__ dc_Cache___init__ pm_Cache___init__ an_Cache___init__ cd_Cache___init__ ct_Cache___init__), sl_Cache___init__⟩)
    (c_Cache___init__ : PySem.W.codeIn K cd_Cache___init__ "Cache.__init__" = true)
    (k_Cache___init__ : PySem.W.keepIn K (.ref f_Cache___init__) = true)
    (pa_Cache_line : PySem.W.findIn K (.ref C_Cache) "line" = some (some (.ref p_Cache_line)))
    (pg_Cache_line : PySem.W.specialIn K (.ref p_Cache_line) "__get__" = some (some (.builtin "property.__get__")))
    (pt_Cache_line : PySem.W.takesIn K (.ref p_Cache_line) = some true)
    (pr_Cache_line : PySem.W.recIn K p_Cache_line "property" = some (.ref f_Cache_line :: rest_Cache_line))
    (l_Cache_line : K.lookup f_Cache_line = some ⟨oc_Cache_line, od_Cache_line, .func (PySem.W.fnOf "line" "Cache.line" (defArgs S_Cache_line) (defBody S_Cache_line) (defScope S_Cache_line) .none kV_Cache_line dc_Cache_line pm_Cache_line an_Cache_line cd_Cache_line ct_Cache_line), sl_Cache_line⟩)
    (c_Cache_line : PySem.W.codeIn K cd_Cache_line "Cache.line" = true)
    (k_Cache_line : PySem.W.keepIn K (.ref f_Cache_line) = true)
    (pa_Cache_levels : PySem.W.findIn K (.ref C_Cache) "levels" = some (some (.ref p_Cache_levels)))
    (pg_Cache_levels : PySem.W.specialIn K (.ref p_Cache_levels) "__get__" = some (some (.builtin "property.__get__")))
    (pt_Cache_levels : PySem.W.takesIn K (.ref p_Cache_levels) = some true)
    (pr_Cache_levels : PySem.W.recIn K p_Cache_levels "property" = some (.ref f_Cache_levels :: rest_Cache_levels))
    (l_Cache_levels : K.lookup f_Cache_levels = some ⟨oc_Cache_levels, od_Cache_levels, .func (PySem.W.fnOf "levels" "Cache.levels" (defArgs S_Cache_levels) (defBody S_Cache_levels) (defScope S_Cache_levels) .none kV_Cache_levels dc_Cache_levels pm_Cache_levels an_Cache_levels cd_Cache_levels ct_Cache_levels), sl_Cache_levels⟩)
    (c_Cache_levels : PySem.W.codeIn K cd_Cache_levels "Cache.levels" = true)
    (k_Cache_levels : PySem.W.keepIn K (.ref f_Cache_levels) = true)
    (pa_Cache_sets_together : PySem.W.findIn K (.ref C_Cache) "sets_together" = some (some (.ref p_Cache_sets_together)))
    (pg_Cache_sets_together : PySem.W.specialIn K (.ref p_Cache_sets_together) "__get__" = some (some (.builtin "property.__get__")))
    (pt_Cache_sets_together : PySem.W.takesIn K (.ref p_Cache_sets_together) = some true)
    (pr_Cache_sets_together : PySem.W.recIn K p_Cache_sets_together "property" = some (.ref f_Cache_sets_together :: rest_Cache_sets_together))
    (l_Cache_sets_together : K.lookup f_Cache_sets_together = some ⟨oc_Cache_sets_together, od_Cache_sets_together, .func (PySem.W.fnOf "sets_together" "Cache.sets_together" (defArgs S_Cache_sets_together) (defBody S_Cache_sets_together) (defScope S_Cache_sets_together) .none kV_Cache_sets_together dc_Cache_sets_together pm_Cache_sets_together an_Cache_sets_together cd_Cache_sets_together ct_Cache_sets_together), sl_Cache_sets_together⟩)
    (c_Cache_sets_together : PySem.W.codeIn K cd_Cache_sets_together "Cache.sets_together" = true)
    (k_Cache_sets_together : PySem.W.keepIn K (.ref f_Cache_sets_together) = true)
    (pa_Cache_period : PySem.W.findIn K (.ref C_Cache) "period" = some (some (.ref p_Cache_period)))
    (pg_Cache_period : PySem.W.specialIn K (.ref p_Cache_period) "__get__" = some (some (.builtin "property.__get__")))
    (pt_Cache_period : PySem.W.takesIn K (.ref p_Cache_period) = some true)
    (pr_Cache_period : PySem.W.recIn K p_Cache_period "property" = some (.ref f_Cache_period :: rest_Cache_period))
    (l_Cache_period : K.lookup f_Cache_period = some ⟨oc_Cache_period, od_Cache_period, .func (PySem.W.fnOf "period" "Cache.period" (defArgs S_Cache_period) (defBody S_Cache_period) (defScope S_Cache_period) .none kV_Cache_period dc_Cache_period pm_Cache_period an_Cache_period cd_Cache_period ct_Cache_period), sl_Cache_period⟩)
    (c_Cache_period : PySem.W.codeIn K cd_Cache_period "Cache.period" = true)
    (k_Cache_period : PySem.W.keepIn K (.ref f_Cache_period) = true)
    (a_Cache_show : PySem.W.findIn K (.ref C_Cache) "show" = some (some (.ref f_Cache_show)))
    (i_Cache_show : PySem.W.isFn K (.ref f_Cache_show) = true)
    (l_Cache_show : K.lookup f_Cache_show = some ⟨oc_Cache_show, od_Cache_show, .func (PySem.W.fnOf "show" "Cache.show" (defArgs S_Cache_show) (defBody S_Cache_show) (defScope S_Cache_show) .none kV_Cache_show dc_Cache_show pm_Cache_show an_Cache_show cd_Cache_show ct_Cache_show), sl_Cache_show⟩)
    (c_Cache_show : PySem.W.codeIn K cd_Cache_show "Cache.show" = true)
    (k_Cache_show : PySem.W.keepIn K (.ref f_Cache_show) = true)
    (a_Cache___len__ : PySem.W.findIn K (.ref C_Cache) "__len__" = some (some (.ref f_Cache___len__)))
    (i_Cache___len__ : PySem.W.isFn K (.ref f_Cache___len__) = true)
    (l_Cache___len__ : K.lookup f_Cache___len__ = some ⟨oc_Cache___len__, od_Cache___len__, .func (PySem.W.fnOf "__len__" "Cache.__len__" (defArgs S_Cache___len__) (defBody S_Cache___len__) (defScope S_Cache___len__) .none kV_Cache___len__ dc_Cache___len__ pm_Cache___len__ an_Cache___len__ cd_Cache___len__ ct_Cache___len__), sl_Cache___len__⟩)
    (c_Cache___len__ : PySem.W.codeIn K cd_Cache___len__ "Cache.__len__" = true)
    (k_Cache___len__ : PySem.W.keepIn K (.ref f_Cache___len__) = true)
    (a_Cache___eq__ : PySem.W.findIn K (.ref C_Cache) "__eq__" = some (some (.ref f_Cache___eq__)))
    (i_Cache___eq__ : PySem.W.isFn K (.ref f_Cache___eq__) = true)
    (l_Cache___eq__ : K.lookup f_Cache___eq__ = some ⟨oc_Cache___eq__, od_Cache___eq__, .func (PySem.W.fnOf "__eq__" "Cache.__eq__" (defArgs S_Cache___eq__) (defBody S_Cache___eq__) (defScope S_Cache___eq__) .none kV_Cache___eq__ dc_Cache___eq__ pm_Cache___eq__ an_Cache___eq__ cd_Cache___eq__ ct_Cache___eq__), sl_Cache___eq__⟩)
    (c_Cache___eq__ : PySem.W.codeIn K cd_Cache___eq__ "Cache.__eq__" = true)
    (k_Cache___eq__ : PySem.W.keepIn K (.ref f_Cache___eq__) = true)
    (a_law_pool : PySem.W.nsIn K mainGlobals "_law_pool" = some (some (.ref f_law_pool)))
    (l_law_pool : K.lookup f_law_pool = some ⟨oc_law_pool, od_law_pool, .func (PySem.W.fnOf "_law_pool" "_law_pool" (defArgs S_law_pool) (defBody S_law_pool) (defScope S_law_pool) .none kV_law_pool dc_law_pool pm_law_pool an_law_pool cd_law_pool ct_law_pool), sl_law_pool⟩)
    (c_law_pool : PySem.W.codeIn K cd_law_pool "_law_pool" = true)
    (k_law_pool : PySem.W.keepIn K (.ref f_law_pool) = true)
    (a_law_take : PySem.W.nsIn K mainGlobals "_law_take" = some (some (.ref f_law_take)))
    (l_law_take : K.lookup f_law_take = some ⟨oc_law_take, od_law_take, .func (PySem.W.fnOf "_law_take" "_law_take" (defArgs S_law_take) (defBody S_law_take) (defScope S_law_take) .none kV_law_take dc_law_take pm_law_take an_law_take cd_law_take ct_law_take), sl_law_take⟩)
    (c_law_take : PySem.W.codeIn K cd_law_take "_law_take" = true)
    (k_law_take : PySem.W.keepIn K (.ref f_law_take) = true)
    (a_law_cache : PySem.W.nsIn K mainGlobals "_law_cache" = some (some (.ref f_law_cache)))
    (l_law_cache : K.lookup f_law_cache = some ⟨oc_law_cache, od_law_cache, .func (PySem.W.fnOf "_law_cache" "_law_cache" (defArgs S_law_cache) (defBody S_law_cache) (defScope S_law_cache) .none kV_law_cache dc_law_cache pm_law_cache an_law_cache cd_law_cache ct_law_cache), sl_law_cache⟩)
    (c_law_cache : PySem.W.codeIn K cd_law_cache "_law_cache" = true)
    (k_law_cache : PySem.W.keepIn K (.ref f_law_cache) = true)
    (a_law_heard : PySem.W.nsIn K mainGlobals "_law_heard" = some (some (.ref f_law_heard)))
    (l_law_heard : K.lookup f_law_heard = some ⟨oc_law_heard, od_law_heard, .func (PySem.W.fnOf "_law_heard" "_law_heard" (defArgs S_law_heard) (defBody S_law_heard) (defScope S_law_heard) .none kV_law_heard dc_law_heard pm_law_heard an_law_heard cd_law_heard ct_law_heard), sl_law_heard⟩)
    (c_law_heard : PySem.W.codeIn K cd_law_heard "_law_heard" = true)
    (k_law_heard : PySem.W.keepIn K (.ref f_law_heard) = true)
    (a_law_odd : PySem.W.nsIn K mainGlobals "_law_odd" = some (some (.ref f_law_odd)))
    (l_law_odd : K.lookup f_law_odd = some ⟨oc_law_odd, od_law_odd, .func (PySem.W.fnOf "_law_odd" "_law_odd" (defArgs S_law_odd) (defBody S_law_odd) (defScope S_law_odd) .none kV_law_odd dc_law_odd pm_law_odd an_law_odd cd_law_odd ct_law_odd), sl_law_odd⟩)
    (c_law_odd : PySem.W.codeIn K cd_law_odd "_law_odd" = true)
    (k_law_odd : PySem.W.keepIn K (.ref f_law_odd) = true)
    (a_law_together : PySem.W.nsIn K mainGlobals "_law_together" = some (some (.ref f_law_together)))
    (l_law_together : K.lookup f_law_together = some ⟨oc_law_together, od_law_together, .func (PySem.W.fnOf "_law_together" "_law_together" (defArgs S_law_together) (defBody S_law_together) (defScope S_law_together) .none kV_law_together dc_law_together pm_law_together an_law_together cd_law_together ct_law_together), sl_law_together⟩)
    (c_law_together : PySem.W.codeIn K cd_law_together "_law_together" = true)
    (k_law_together : PySem.W.keepIn K (.ref f_law_together) = true)
    (a_law : PySem.W.nsIn K mainGlobals "law" = some (some (.ref f_law)))
    (l_law : K.lookup f_law = some ⟨oc_law, od_law, .func (PySem.W.fnOf "law" "law" (defArgs S_law) (defBody S_law) (defScope S_law) .none kV_law dc_law pm_law an_law cd_law ct_law), sl_law⟩)
    (c_law : PySem.W.codeIn K cd_law "law" = true)
    (k_law : PySem.W.keepIn K (.ref f_law) = true)
    (z_len : PySem.W.nsIn K mainGlobals "len" = some none)
    (z_tuple : PySem.W.nsIn K mainGlobals "tuple" = some none)
    (z_max : PySem.W.nsIn K mainGlobals "max" = some none)
    (z_isinstance : PySem.W.nsIn K mainGlobals "isinstance" = some none)
    (z_int : PySem.W.nsIn K mainGlobals "int" = some none)
    (z_bool : PySem.W.nsIn K mainGlobals "bool" = some none)
    (z_abs : PySem.W.nsIn K mainGlobals "abs" = some none)
    (z_range : PySem.W.nsIn K mainGlobals "range" = some none)
    (z_list : PySem.W.nsIn K mainGlobals "list" = some none)
    (z_min : PySem.W.nsIn K mainGlobals "min" = some none)
    (z_str : PySem.W.nsIn K mainGlobals "str" = some none)
    (z_repr : PySem.W.nsIn K mainGlobals "repr" = some none)
    (anO : PySem.W.specialIn K (.builtin "object.__class__") "__get__" = some (some (.builtin "getset_descriptor.__get__")))
    (tkO : PySem.W.takesIn K (.builtin "object.__class__") = some true)
    (aLcm : PySem.W.nsIn K mainGlobals "lcm" = some (some (.builtin "math.lcm")))
    (neC : PySem.W.findIn K (.ref C_Cache) "__ne__" = some (some (.builtin "object.__ne__")))
    (suT : PySem.W.subIn K (.type "tuple") (.ref C_Cache) = some false)
    (suN : PySem.W.subIn K (.type "NoneType") (.ref C_Cache) = some false)
    (nf1 : C_InvalidCache ≠ C_FarError)
    (nf2 : C_TooLarge ≠ C_FarError)
    (nf3 : C_TooLarge ≠ C_InvalidCache) :
    ∃ fd : FuncData, (∀ (s : Shared) (v : Value), BindsTo s fd ⟨[v], []⟩ [("_law_script", v)]) ∧ ∀ base : Heap, K.In base → base.Ns mainGlobals mg → RunG l.prog w K mg base CX0 8 fa fd ["_law_script"] (spLaw K) := by
  have e := hfa.symm.trans (PySem.W.mg_of X G a_law)
  cases e
  have F_TooLarge___init__ := fun_mk (x := "__init__") (qual := "TooLarge.__init__") (st := S_TooLarge___init__) l_TooLarge___init__ c_TooLarge___init__ k_TooLarge___init__
  have b_TooLarge___init__ := F_TooLarge___init__.binds (ps := ["self", "word"]) fun _ _ _ _ _ _ us hl => match us, hl with | [_, _], _ => rfl
  have F_InvalidCache___init__ := fun_mk (x := "__init__") (qual := "InvalidCache.__init__") (st := S_InvalidCache___init__) l_InvalidCache___init__ c_InvalidCache___init__ k_InvalidCache___init__
  have b_InvalidCache___init__ := F_InvalidCache___init__.binds (ps := ["self", "value"]) fun _ _ _ _ _ _ us hl => match us, hl with | [_, _], _ => rfl
  have F_is_integer := fun_mk (x := "is_integer") (qual := "is_integer") (st := S_is_integer) l_is_integer c_is_integer k_is_integer
  have b_is_integer := F_is_integer.binds (ps := ["value"]) fun _ _ _ _ _ _ us hl => match us, hl with | [_], _ => rfl
  have g_is_integer := PySem.W.mg_of X G a_is_integer
  have g_RULES := PySem.W.mg_of X G a_RULES
  have q_RULES : ∀ H, SqT K H t_RULES ((["used", "brought", "second", "tree"] : List Str).map V.str) := fun H => .inr ⟨_, _, _, l_RULES, rfl, rfl, (by show 4 ≤ sizeLine; decide), (.cons ⟨_, rfl⟩ (.cons ⟨_, rfl⟩ (.cons ⟨_, rfl⟩ (.cons ⟨_, rfl⟩ .nil))))⟩
  have g_WRITES := PySem.W.mg_of X G a_WRITES
  have q_WRITES : ∀ H, SqT K H t_WRITES ((["back", "through"] : List Str).map V.str) := fun H => .inr ⟨_, _, _, l_WRITES, rfl, rfl, (by show 2 ≤ sizeLine; decide), (.cons ⟨_, rfl⟩ (.cons ⟨_, rfl⟩ .nil))⟩
  have g_MOST_CELLS := PySem.W.mg_of X G a_MOST_CELLS
  have g_MOST_LEVELS := PySem.W.mg_of X G a_MOST_LEVELS
  have g_MOST_SETS := PySem.W.mg_of X G a_MOST_SETS
  have g_MOST_WAYS := PySem.W.mg_of X G a_MOST_WAYS
  have g_LONGEST_PERIOD := PySem.W.mg_of X G a_LONGEST_PERIOD
  have F_is_count := fun_mk (x := "_is_count") (qual := "_is_count") (st := S_is_count) l_is_count c_is_count k_is_count
  have b_is_count := F_is_count.binds (ps := ["value", "most"]) fun _ _ _ _ _ _ us hl => match us, hl with | [_, _], _ => rfl
  have g_is_count := PySem.W.mg_of X G a_is_count
  have F_is_level := fun_mk (x := "_is_level") (qual := "_is_level") (st := S_is_level) l_is_level c_is_level k_is_level
  have b_is_level := F_is_level.binds (ps := ["value"]) fun _ _ _ _ _ _ us hl => match us, hl with | [_], _ => rfl
  have g_is_level := PySem.W.mg_of X G a_is_level
  have F_check_levels := fun_mk (x := "_check_levels") (qual := "_check_levels") (st := S_check_levels) l_check_levels c_check_levels k_check_levels
  have b_check_levels := F_check_levels.binds (ps := ["levels"]) fun _ _ _ _ _ _ us hl => match us, hl with | [_], _ => rfl
  have g_check_levels := PySem.W.mg_of X G a_check_levels
  have kit_Cache : InsKit K C_Cache := ⟨⟨pg_Cache, hd_Cache, po_Cache, sa_Cache⟩, cc_Cache, cgO, ctO, cm_Cache⟩
  have mC_Cache := PySem.W.mg_of X G aC_Cache
  have F_Cache___init__ := fun_mk (x := "__init__") (qual := "Cache.__init__") (st := S_Cache___init__) l_Cache___init__ c_Cache___init__ k_Cache___init__
  have b_Cache___init__ := F_Cache___init__.binds (ps := ["self", "line", "levels"]) fun _ _ _ _ _ _ us hl => match us, hl with | [_, _, _], _ => rfl
  have M_Cache___init__ : Meth K C_Cache "__init__" f_Cache___init__ := ⟨a_Cache___init__, i_Cache___init__, k_Cache___init__⟩
  have MK_Cache : Mk K C_Cache f_Cache___init__ := ⟨mk_Cache, a_Cache___init__, i_Cache___init__, kc_Cache⟩
  have F_Cache_line := fun_mk (x := "line") (qual := "Cache.line") (st := S_Cache_line) l_Cache_line c_Cache_line k_Cache_line
  have b_Cache_line := F_Cache_line.binds (ps := ["self"]) fun _ _ _ _ _ _ us hl => match us, hl with | [_], _ => rfl
  have P_Cache_line : PropOf K C_Cache "line" p_Cache_line f_Cache_line := ⟨pa_Cache_line, pg_Cache_line, pt_Cache_line, ⟨_, pr_Cache_line⟩⟩
  have F_Cache_levels := fun_mk (x := "levels") (qual := "Cache.levels") (st := S_Cache_levels) l_Cache_levels c_Cache_levels k_Cache_levels
  have b_Cache_levels := F_Cache_levels.binds (ps := ["self"]) fun _ _ _ _ _ _ us hl => match us, hl with | [_], _ => rfl
  have P_Cache_levels : PropOf K C_Cache "levels" p_Cache_levels f_Cache_levels := ⟨pa_Cache_levels, pg_Cache_levels, pt_Cache_levels, ⟨_, pr_Cache_levels⟩⟩
  have F_Cache_sets_together := fun_mk (x := "sets_together") (qual := "Cache.sets_together") (st := S_Cache_sets_together) l_Cache_sets_together c_Cache_sets_together k_Cache_sets_together
  have b_Cache_sets_together := F_Cache_sets_together.binds (ps := ["self"]) fun _ _ _ _ _ _ us hl => match us, hl with | [_], _ => rfl
  have P_Cache_sets_together : PropOf K C_Cache "sets_together" p_Cache_sets_together f_Cache_sets_together := ⟨pa_Cache_sets_together, pg_Cache_sets_together, pt_Cache_sets_together, ⟨_, pr_Cache_sets_together⟩⟩
  have F_Cache_period := fun_mk (x := "period") (qual := "Cache.period") (st := S_Cache_period) l_Cache_period c_Cache_period k_Cache_period
  have b_Cache_period := F_Cache_period.binds (ps := ["self"]) fun _ _ _ _ _ _ us hl => match us, hl with | [_], _ => rfl
  have P_Cache_period : PropOf K C_Cache "period" p_Cache_period f_Cache_period := ⟨pa_Cache_period, pg_Cache_period, pt_Cache_period, ⟨_, pr_Cache_period⟩⟩
  have F_Cache_show := fun_mk (x := "show") (qual := "Cache.show") (st := S_Cache_show) l_Cache_show c_Cache_show k_Cache_show
  have b_Cache_show := F_Cache_show.binds (ps := ["self"]) fun _ _ _ _ _ _ us hl => match us, hl with | [_], _ => rfl
  have M_Cache_show : Meth K C_Cache "show" f_Cache_show := ⟨a_Cache_show, i_Cache_show, k_Cache_show⟩
  have F_Cache___len__ := fun_mk (x := "__len__") (qual := "Cache.__len__") (st := S_Cache___len__) l_Cache___len__ c_Cache___len__ k_Cache___len__
  have b_Cache___len__ := F_Cache___len__.binds (ps := ["self"]) fun _ _ _ _ _ _ us hl => match us, hl with | [_], _ => rfl
  have M_Cache___len__ : Meth K C_Cache "__len__" f_Cache___len__ := ⟨a_Cache___len__, i_Cache___len__, k_Cache___len__⟩
  have F_Cache___eq__ := fun_mk (x := "__eq__") (qual := "Cache.__eq__") (st := S_Cache___eq__) l_Cache___eq__ c_Cache___eq__ k_Cache___eq__
  have b_Cache___eq__ := F_Cache___eq__.binds (ps := ["self", "other"]) fun _ _ _ _ _ _ us hl => match us, hl with | [_, _], _ => rfl
  have M_Cache___eq__ : Meth K C_Cache "__eq__" f_Cache___eq__ := ⟨a_Cache___eq__, i_Cache___eq__, k_Cache___eq__⟩
  have F_law_pool := fun_mk (x := "_law_pool") (qual := "_law_pool") (st := S_law_pool) l_law_pool c_law_pool k_law_pool
  have b_law_pool := F_law_pool.binds (ps := ["_law_script", "_law_k"]) fun _ _ _ _ _ _ us hl => match us, hl with | [_, _], _ => rfl
  have g_law_pool := PySem.W.mg_of X G a_law_pool
  have F_law_take := fun_mk (x := "_law_take") (qual := "_law_take") (st := S_law_take) l_law_take c_law_take k_law_take
  have b_law_take := F_law_take.binds (ps := ["_law_pool_here", "_law_wide"]) fun _ _ _ _ _ _ us hl => match us, hl with | [_, _], _ => rfl
  have g_law_take := PySem.W.mg_of X G a_law_take
  have F_law_cache := fun_mk (x := "_law_cache") (qual := "_law_cache") (st := S_law_cache) l_law_cache c_law_cache k_law_cache
  have b_law_cache := F_law_cache.binds (ps := ["_law_pool_here"]) fun _ _ _ _ _ _ us hl => match us, hl with | [_], _ => rfl
  have g_law_cache := PySem.W.mg_of X G a_law_cache
  have F_law_heard := fun_mk (x := "_law_heard") (qual := "_law_heard") (st := S_law_heard) l_law_heard c_law_heard k_law_heard
  have b_law_heard := F_law_heard.binds (ps := ["_law_line", "_law_levels"]) fun _ _ _ _ _ _ us hl => match us, hl with | [_, _], _ => rfl
  have g_law_heard := PySem.W.mg_of X G a_law_heard
  have F_law_odd := fun_mk (x := "_law_odd") (qual := "_law_odd") (st := S_law_odd) l_law_odd c_law_odd k_law_odd
  have b_law_odd := F_law_odd.binds (ps := ["_law_pool_here"]) fun _ _ _ _ _ _ us hl => match us, hl with | [_], _ => rfl
  have g_law_odd := PySem.W.mg_of X G a_law_odd
  have F_law_together := fun_mk (x := "_law_together") (qual := "_law_together") (st := S_law_together) l_law_together c_law_together k_law_together
  have b_law_together := F_law_together.binds (ps := ["_law_levels"]) fun _ _ _ _ _ _ us hl => match us, hl with | [_], _ => rfl
  have g_law_together := PySem.W.mg_of X G a_law_together
  have F_law := fun_mk (x := "law") (qual := "law") (st := S_law) l_law c_law k_law
  have b_law := F_law.binds (ps := ["_law_script"]) fun _ _ _ _ _ _ us hl => match us, hl with | [_], _ => rfl
  have g_law := PySem.W.mg_of X G a_law
  have X_TooLarge : ErX K mg "TooLarge" C_TooLarge C_FarError "word" := ⟨⟨_, _, _, _, _, _, _, _, _, _, _, _, _, _, l_TooLarge⟩, sa_TooLarge, kC_TooLarge, ga_TooLarge, gg_TooLarge, ex_TooLarge, ac_TooLarge, anO, tkO, mo_TooLarge, no_TooLarge, PySem.W.mg_of X G aC_TooLarge⟩
  have SX_TooLarge : ∀ base : Heap, SxC l.prog w K mg base "TooLarge" C_TooLarge "word" := fun base => ⟨X_TooLarge.oexc, X_TooLarge.m, _, _, i_TooLarge, beq_iff_eq.mp t_TooLarge, sx_TooLarge X_TooLarge.oxc X_TooLarge.no F_TooLarge___init__, b_TooLarge___init__⟩
  have X_InvalidCache : ErX K mg "InvalidCache" C_InvalidCache C_FarError "value" := ⟨⟨_, _, _, _, _, _, _, _, _, _, _, _, _, _, l_InvalidCache⟩, sa_InvalidCache, kC_InvalidCache, ga_InvalidCache, gg_InvalidCache, ex_InvalidCache, ac_InvalidCache, anO, tkO, mo_InvalidCache, no_InvalidCache, PySem.W.mg_of X G aC_InvalidCache⟩
  have SX_InvalidCache : ∀ base : Heap, SxC l.prog w K mg base "InvalidCache" C_InvalidCache "value" := fun base => ⟨X_InvalidCache.oexc, X_InvalidCache.m, _, _, i_InvalidCache, beq_iff_eq.mp t_InvalidCache, sx_InvalidCache X_InvalidCache.oxc X_InvalidCache.no F_InvalidCache___init__, b_InvalidCache___init__⟩
  have B : LwB mg := ⟨PySem.W.mg_none_of X G z_len, PySem.W.mg_none_of X G z_int, PySem.W.mg_none_of X G z_abs, PySem.W.mg_none_of X G z_range, PySem.W.mg_none_of X G z_repr, PySem.W.mg_none_of X G z_max, PySem.W.mg_none_of X G z_min, PySem.W.mg_none_of X G z_tuple, PySem.W.mg_none_of X G z_list⟩
  have CB : ChB mg := ⟨PySem.W.mg_none_of X G z_isinstance, PySem.W.mg_none_of X G z_int, PySem.W.mg_none_of X G z_bool, PySem.W.mg_none_of X G z_tuple, PySem.W.mg_none_of X G z_str, PySem.W.mg_none_of X G z_len⟩
  have CK : ChK K mg := ⟨⟨_, g_RULES, q_RULES⟩, ⟨_, g_WRITES, q_WRITES⟩, ⟨_, g_MOST_CELLS⟩, ⟨_, g_MOST_LEVELS⟩, ⟨_, g_MOST_SETS⟩, ⟨_, g_MOST_WAYS⟩, ⟨_, g_LONGEST_PERIOD⟩⟩
  have Z : ChC K mg C_Cache := ⟨kit_Cache, np_Cache_line, np_Cache_levels, np_Cache_together, ic_Cache, tc_Cache, mC_Cache⟩
  have gL := PySem.W.mg_of X G aLcm
  have e11 : PySem.W.exmOne K (.ref C_InvalidCache) (.ref C_InvalidCache) = some true := by rw [X_InvalidCache.exm X_InvalidCache nf1, decide_eq_true rfl]
  have e22 : PySem.W.exmOne K (.ref C_TooLarge) (.ref C_TooLarge) = some true := by rw [X_TooLarge.exm X_TooLarge nf2, decide_eq_true rfl]
  have e21 : PySem.W.exmOne K (.ref C_TooLarge) (.ref C_InvalidCache) = some false := by rw [X_TooLarge.exm X_InvalidCache nf1, decide_eq_false nf3]
  refine ⟨PySem.W.fnOf "law" "law" (defArgs S_law) (defBody S_law) (defScope S_law) .none kV_law dc_law pm_law an_law cd_law ct_law, fun s v => .of_eq rfl, fun base _ _ => ?_⟩
  have GI := SX_InvalidCache base
  have GT := SX_TooLarge base
  have GN := ok_count (P := l.prog) (w := w) (base := base) F_is_count F_is_integer b_is_integer g_is_integer CB
  have GLv := ok_level (P := l.prog) (w := w) (base := base) F_is_level F_is_count b_is_count g_is_count F_is_integer b_is_integer g_is_integer CB CK
  have GK := ok_check F_check_levels GLv F_is_level.kp b_is_level g_is_level CB CK GI
  have GC := ok_cinit F_Cache___init__ GN F_is_count.kp b_is_count g_is_count GK F_check_levels.kp b_check_levels g_check_levels gL CK Z GI GT
  exact run_law F_law { B := B, Z := Z, pool := ⟨_, _, g_law_pool, F_law_pool.kp, b_law_pool, ok_pool F_law_pool B.two⟩, take := ⟨_, _, g_law_take, F_law_take.kp, b_law_take, ok_take F_law_take B.two⟩, cache := ⟨_, _, g_law_cache, F_law_cache.kp, b_law_cache, ok_lcache F_law_cache F_law_take b_law_take g_law_take B⟩, odd := ⟨_, _, g_law_odd, F_law_odd.kp, b_law_odd, ok_odd F_law_odd F_law_take b_law_take g_law_take B.two⟩, tog := ⟨_, _, g_law_together, F_law_together.kp, b_law_together, ok_tog F_law_together B⟩, heard := ⟨_, _, g_law_heard, F_law_heard.kp, b_law_heard, run_heard F_law_heard MK_Cache GC b_Cache___init__ Z B X_InvalidCache.m X_TooLarge.m X_InvalidCache.oxc X_TooLarge.oxc no_InvalidCache no_TooLarge e11 e21 e22⟩, make := ⟨_, _, MK_Cache, b_Cache___init__, GC⟩, pL := ⟨_, _, _, P_Cache_line, b_Cache_line, ok_line F_Cache_line Z⟩, pV := ⟨_, _, _, P_Cache_levels, b_Cache_levels, ok_levels F_Cache_levels Z⟩, pT := ⟨_, _, _, P_Cache_sets_together, b_Cache_sets_together, ok_together F_Cache_sets_together Z⟩, pP := ⟨_, _, _, P_Cache_period, b_Cache_period, ok_period F_Cache_period Z⟩, len := ⟨_, _, a_Cache___len__, i_Cache___len__, b_Cache___len__, ok_clen F_Cache___len__ Z CB⟩, eq := ⟨_, _, a_Cache___eq__, i_Cache___eq__, b_Cache___eq__, ok_ceq F_Cache___eq__ Z CB⟩, ne := neC, subT := suT, subN := suN }


end K12

namespace K12
end K12
open PySem PySem.W PyProof.Rows
set_option maxRecDepth 100000 in
set_option maxHeartbeats 0 in
theorem PySem.Challenge.cw_farmisses_k12_caches_refused_holds : PySem.Challenge.rw_farmisses_k12_caches_refused.Holds := by
  w_on; o_law; k_head; (case hw => w_witness2)
  k_fill
  refine VX.walk_G (l := PySem.Challenge.rw_farmisses_k12_caches_refused) (n := 63) (k := 8) (x := "_law_script") (CX := L2.CX0) (sp := K12.spLaw) rfl (by decide) rfl ⟨rfl, by decide, by decide⟩ (fun w h Y => PySem.W.kIn_of Y) ?F (fun _ _ a ns hl _ hS => ⟨a, ns, rfl, hS, hl, fun _ => rfl⟩) (fun _ _ _ _ z => z)
  case F =>
    intro w mg fa h KX G hmg
    refine' K12.all_mk KX G hmg ?aC_FarError ?aC_TooLarge ?l_TooLarge ?sa_TooLarge ?kC_TooLarge ?ga_TooLarge ?gg_TooLarge ?ex_TooLarge ?ac_TooLarge ?mo_TooLarge ?no_TooLarge ?i_TooLarge ?t_TooLarge ?l_TooLarge___init__ ?c_TooLarge___init__ ?k_TooLarge___init__ ?aC_InvalidCache ?l_InvalidCache ?sa_InvalidCache ?kC_InvalidCache ?ga_InvalidCache ?gg_InvalidCache ?ex_InvalidCache ?ac_InvalidCache ?mo_InvalidCache ?no_InvalidCache ?i_InvalidCache ?t_InvalidCache ?l_InvalidCache___init__ ?c_InvalidCache___init__ ?k_InvalidCache___init__ ?a_is_integer ?l_is_integer ?c_is_integer ?k_is_integer ?a_RULES ?l_RULES ?a_WRITES ?l_WRITES ?a_MOST_CELLS ?a_MOST_LEVELS ?a_MOST_SETS ?a_MOST_WAYS ?a_LONGEST_PERIOD ?a_is_count ?l_is_count ?c_is_count ?k_is_count ?a_is_level ?l_is_level ?c_is_level ?k_is_level ?a_check_levels ?l_check_levels ?c_check_levels ?k_check_levels ?aC_Cache ?pg_Cache ?hd_Cache ?po_Cache ?sa_Cache ?mk_Cache ?kc_Cache ?cc_Cache ?cm_Cache ?ic_Cache ?tc_Cache ?cgO ?ctO ?np_Cache_line ?np_Cache_levels ?np_Cache_together ?a_Cache___init__ ?i_Cache___init__ ?l_Cache___init__ ?c_Cache___init__ ?k_Cache___init__ ?pa_Cache_line ?pg_Cache_line ?pt_Cache_line ?pr_Cache_line ?l_Cache_line ?c_Cache_line ?k_Cache_line ?pa_Cache_levels ?pg_Cache_levels ?pt_Cache_levels ?pr_Cache_levels ?l_Cache_levels ?c_Cache_levels ?k_Cache_levels ?pa_Cache_sets_together ?pg_Cache_sets_together ?pt_Cache_sets_together ?pr_Cache_sets_together ?l_Cache_sets_together ?c_Cache_sets_together ?k_Cache_sets_together ?pa_Cache_period ?pg_Cache_period ?pt_Cache_period ?pr_Cache_period ?l_Cache_period ?c_Cache_period ?k_Cache_period ?a_Cache_show ?i_Cache_show ?l_Cache_show ?c_Cache_show ?k_Cache_show ?a_Cache___len__ ?i_Cache___len__ ?l_Cache___len__ ?c_Cache___len__ ?k_Cache___len__ ?a_Cache___eq__ ?i_Cache___eq__ ?l_Cache___eq__ ?c_Cache___eq__ ?k_Cache___eq__ ?a_law_pool ?l_law_pool ?c_law_pool ?k_law_pool ?a_law_take ?l_law_take ?c_law_take ?k_law_take ?a_law_cache ?l_law_cache ?c_law_cache ?k_law_cache ?a_law_heard ?l_law_heard ?c_law_heard ?k_law_heard ?a_law_odd ?l_law_odd ?c_law_odd ?k_law_odd ?a_law_together ?l_law_together ?c_law_together ?k_law_together ?a_law ?l_law ?c_law ?k_law ?z_len ?z_tuple ?z_max ?z_isinstance ?z_int ?z_bool ?z_abs ?z_range ?z_list ?z_min ?z_str ?z_repr ?anO ?tkO ?aLcm ?neC ?suT ?suN ?nf1 ?nf2 ?nf3
    (case aC_FarError => k_is)
    (case aC_TooLarge => k_is)
    (case l_TooLarge => k_is)
    (case sa_TooLarge => k_is)
    (case kC_TooLarge => k_is)
    (case ga_TooLarge => k_is)
    (case gg_TooLarge => k_is)
    (case ex_TooLarge => k_is)
    (case ac_TooLarge => k_is)
    (case mo_TooLarge => k_is)
    (case no_TooLarge => k_is)
    (case i_TooLarge => k_is)
    (case t_TooLarge => k_is)
    (case l_TooLarge___init__ => k_is)
    (case c_TooLarge___init__ => k_is)
    (case k_TooLarge___init__ => k_is)
    (case aC_InvalidCache => k_is)
    (case l_InvalidCache => k_is)
    (case sa_InvalidCache => k_is)
    (case kC_InvalidCache => k_is)
    (case ga_InvalidCache => k_is)
    (case gg_InvalidCache => k_is)
    (case ex_InvalidCache => k_is)
    (case ac_InvalidCache => k_is)
    (case mo_InvalidCache => k_is)
    (case no_InvalidCache => k_is)
    (case i_InvalidCache => k_is)
    (case t_InvalidCache => k_is)
    (case l_InvalidCache___init__ => k_is)
    (case c_InvalidCache___init__ => k_is)
    (case k_InvalidCache___init__ => k_is)
    (case a_is_integer => k_is)
    (case l_is_integer => k_is)
    (case c_is_integer => k_is)
    (case k_is_integer => k_is)
    (case a_RULES => k_is)
    (case l_RULES => k_is)
    (case a_WRITES => k_is)
    (case l_WRITES => k_is)
    (case a_MOST_CELLS => k_is)
    (case a_MOST_LEVELS => k_is)
    (case a_MOST_SETS => k_is)
    (case a_MOST_WAYS => k_is)
    (case a_LONGEST_PERIOD => k_is)
    (case a_is_count => k_is)
    (case l_is_count => k_is)
    (case c_is_count => k_is)
    (case k_is_count => k_is)
    (case a_is_level => k_is)
    (case l_is_level => k_is)
    (case c_is_level => k_is)
    (case k_is_level => k_is)
    (case a_check_levels => k_is)
    (case l_check_levels => k_is)
    (case c_check_levels => k_is)
    (case k_check_levels => k_is)
    (case aC_Cache => k_is)
    (case pg_Cache => k_is)
    (case hd_Cache => k_is)
    (case po_Cache => k_is)
    (case sa_Cache => k_is)
    (case mk_Cache => k_is)
    (case kc_Cache => k_is)
    (case cc_Cache => k_is)
    (case cm_Cache => k_is)
    (case ic_Cache => k_is)
    (case tc_Cache => k_is)
    (case cgO => k_is)
    (case ctO => k_is)
    (case np_Cache_line => k_is)
    (case np_Cache_levels => k_is)
    (case np_Cache_together => k_is)
    (case a_Cache___init__ => k_is)
    (case i_Cache___init__ => k_is)
    (case l_Cache___init__ => k_is)
    (case c_Cache___init__ => k_is)
    (case k_Cache___init__ => k_is)
    (case pa_Cache_line => k_is)
    (case pg_Cache_line => k_is)
    (case pt_Cache_line => k_is)
    (case pr_Cache_line => k_is)
    (case l_Cache_line => k_is)
    (case c_Cache_line => k_is)
    (case k_Cache_line => k_is)
    (case pa_Cache_levels => k_is)
    (case pg_Cache_levels => k_is)
    (case pt_Cache_levels => k_is)
    (case pr_Cache_levels => k_is)
    (case l_Cache_levels => k_is)
    (case c_Cache_levels => k_is)
    (case k_Cache_levels => k_is)
    (case pa_Cache_sets_together => k_is)
    (case pg_Cache_sets_together => k_is)
    (case pt_Cache_sets_together => k_is)
    (case pr_Cache_sets_together => k_is)
    (case l_Cache_sets_together => k_is)
    (case c_Cache_sets_together => k_is)
    (case k_Cache_sets_together => k_is)
    (case pa_Cache_period => k_is)
    (case pg_Cache_period => k_is)
    (case pt_Cache_period => k_is)
    (case pr_Cache_period => k_is)
    (case l_Cache_period => k_is)
    (case c_Cache_period => k_is)
    (case k_Cache_period => k_is)
    (case a_Cache_show => k_is)
    (case i_Cache_show => k_is)
    (case l_Cache_show => k_is)
    (case c_Cache_show => k_is)
    (case k_Cache_show => k_is)
    (case a_Cache___len__ => k_is)
    (case i_Cache___len__ => k_is)
    (case l_Cache___len__ => k_is)
    (case c_Cache___len__ => k_is)
    (case k_Cache___len__ => k_is)
    (case a_Cache___eq__ => k_is)
    (case i_Cache___eq__ => k_is)
    (case l_Cache___eq__ => k_is)
    (case c_Cache___eq__ => k_is)
    (case k_Cache___eq__ => k_is)
    (case a_law_pool => k_is)
    (case l_law_pool => k_is)
    (case c_law_pool => k_is)
    (case k_law_pool => k_is)
    (case a_law_take => k_is)
    (case l_law_take => k_is)
    (case c_law_take => k_is)
    (case k_law_take => k_is)
    (case a_law_cache => k_is)
    (case l_law_cache => k_is)
    (case c_law_cache => k_is)
    (case k_law_cache => k_is)
    (case a_law_heard => k_is)
    (case l_law_heard => k_is)
    (case c_law_heard => k_is)
    (case k_law_heard => k_is)
    (case a_law_odd => k_is)
    (case l_law_odd => k_is)
    (case c_law_odd => k_is)
    (case k_law_odd => k_is)
    (case a_law_together => k_is)
    (case l_law_together => k_is)
    (case c_law_together => k_is)
    (case k_law_together => k_is)
    (case a_law => k_is)
    (case l_law => k_is)
    (case c_law => k_is)
    (case k_law => k_is)
    (case z_len => k_is)
    (case z_tuple => k_is)
    (case z_max => k_is)
    (case z_isinstance => k_is)
    (case z_int => k_is)
    (case z_bool => k_is)
    (case z_abs => k_is)
    (case z_range => k_is)
    (case z_list => k_is)
    (case z_min => k_is)
    (case z_str => k_is)
    (case z_repr => k_is)
    (case anO => k_is)
    (case tkO => k_is)
    (case aLcm => k_is)
    (case neC => k_is)
    (case suT => k_is)
    (case suN => k_is)
    (case nf1 => decide +kernel)
    (case nf2 => decide +kernel)
    (case nf3 => decide +kernel)

