import PyProof.Rows.All
import Wide.All
import OpenK.AllK
import Wide.FinOn
import PyProof.EqAt
import PyProof.EqKinds
import PyProof.TupleCall
import PyProof.InstNe
import KE.KOpsOwn
import HandS.Base
import HandS.Call
import HandS.List
import HandS.More
import PyProof.TwoTypesSub
import PyProof.AutoIntOps
import PyProof.StrReplace2
import HandS.Words
import HandS.Star
import HandS.IsInst
import HandS.Defaults
import HandS.Property
import HandS.OwnEq
import HandS.Lambda
import HandS.Ends
import PyProof.ReprRoads
import HandS.ExcInit
import HandS.ExcField
import HandS.CallSlots
import HandS.ForExc
import HandS.ExcIs
import KE.KExcIs
import HandS.EndTab
import HandS.MakeKwOnly
import HandS.FStr
import KE.KCallOwn
import HandS.RaiseMore
import HandS.ExcInitHot
import HandS.ExcValue
import HandS.ForMost
import HandS.Wide
import HandS.Walk
import PySem.Challenge.RW_heldfloods_k01_errors_and_their_fields
set_option Elab.async false
set_option linter.all false
set_option maxRecDepth 100000
section
set_option maxHeartbeats 4000000
/-! Operators that an own class defines, over instances that are tracked. -/
namespace Ow
open PySem PySem.Spec PyProof.Rows L2

/-- an instance of the class at C stands at a -/
def InsAt (H : Hp) (a C : Addr) : Prop := ∃ dx fs, H a = some (.ins C dx fs)

section
variable {X : Cx} {CX : CXT} {n : Nat} {C g : Addr} {sp : Sp} {E : XK}

theorem inst_of {pins : List (Addr × Obj)} {σ : L2.St} {H : Hp} {s : Shared} {a : Addr} (I : Inv X pins σ H s) (h : InsAt H a C) : ∃ ox od, PySem.W.InstAt s.heap a ox C od := by
  obtain ⟨dx, fs, ea⟩ := h
  obtain ⟨mA, O, _⟩ := ins_get I.hok ea
  obtain ⟨od, J, _⟩ := O.look
  exact ⟨_, _, J⟩

theorem cmpbackR {Q : Value → Shared → Prop} {v : V} {u : Value} {s : Shared} (r : RelV v u) (q : Q u s) : PySem.W.CmpBack Q u s := by
  cases v <;> first
    | (cases r; exact q)
    | (obtain ⟨t, rfl⟩ := r; exact q)

/-- x op y, both instances of C -/
def rBin (C : Addr) (sp : Sp) (E : XK) : R2 := fun x y H Q => ∃ a b, x = .ref a ∧ y = .ref b ∧ InsAt H a C ∧ InsAt H b C ∧ sp [x, y] H Q E
theorem op_bin {op : Operator} (hc : PySem.W.selfFirst X.K C = true) (hs : PySem.W.findIn X.K (.ref C) (PySem.dunder op.info.2) = some (some (.ref g))) (hf : PySem.W.isFn X.K (.ref g) = true)
    (F : FnR X.prog X.w X.K X.mg X.base CX n g sp) (hr : Room n X.A) (hx : Passes CX X E) : OpR X (binaryOp op) (rBin C sp E) := by
  intro pins s σ H x y v u Q I rx ry h
  obtain ⟨a, b, rfl, rfl, ha, hb, q⟩ := h
  cases (show v = Value.ref a from rx)
  cases (show u = Value.ref b from ry)
  obtain ⟨ox, od, J⟩ := inst_of I ha
  obtain ⟨oy, od', J'⟩ := inst_of I hb
  obtain ⟨m, hF⟩ := I.fr
  refine PySem.W.binop_K (op := op) hF I.ok.mod.kin J J'.type hc hs hf ?_
  refine wpAny_mono (wpAny_call (run_fnR (us := [.ref a, .ref b]) (vs := [.ref a, .ref b]) F hr hx I (.cons rfl (.cons rfl .nil)) q)) (fun w s' z => ?_) fun _ _ x => x
  obtain ⟨z', H', I', rz, qz⟩ := z
  exact cmpbackR rz ⟨z', H', I', rz, qz⟩

/-- x op n, an instance of C and an int -/
def rBinI (C : Addr) (sp : Sp) (E : XK) : R2 := fun x y H Q => ∃ a i, x = .ref a ∧ y = .int i ∧ InsAt H a C ∧ sp [x, y] H Q E
theorem op_binI {op : Operator} {fo ro rc : Option Value} (hc : PySem.W.selfFirst X.K C = true) (hs : PySem.W.findIn X.K (.ref C) (PySem.dunder op.info.2) = some (some (.ref g))) (hf : PySem.W.isFn X.K (.ref g) = true)
    (hrr : PySem.W.findIn X.K (.ref C) (dunderR op.info.2) = some rc) (hp : rc = none ∨ ∃ g : Addr, rc = some (.ref g))
    (h1 : PySem.W.findIn X.K (.type "int") (PySem.dunder op.info.2) = some fo) (h2 : PySem.W.findIn X.K (.type "int") (dunderR op.info.2) = some ro) (hsub : PySem.W.subIn X.K (.type "int") (.ref C) = some false)
    (F : FnR X.prog X.w X.K X.mg X.base CX n g sp) (hr : Room n X.A) (hx : Passes CX X E) : OpR X (binaryOp op) (rBinI C sp E) := by
  intro pins s σ H x y v u Q I rx ry h
  obtain ⟨a, i, rfl, rfl, ha, q⟩ := h
  cases (show v = Value.ref a from rx)
  obtain ⟨t, rfl⟩ := ry
  obtain ⟨ox, od, J⟩ := inst_of I ha
  obtain ⟨m, hF⟩ := I.fr
  refine PySem.W.ksp_binT (op := op) (T := "int") hF I.ok.mod.kin J rfl hc hs hf hrr hp h1 h2 hsub ?_
  refine wpAny_mono (wpAny_call (run_fnR (us := [.ref a, .int i t]) (vs := [.ref a, .int i]) F hr hx I (.cons rfl (.cons ⟨t, rfl⟩ .nil)) q)) (fun w s' z => ?_) fun _ _ x => x
  obtain ⟨z', H', I', rz, qz⟩ := z
  exact cmpbackR rz ⟨z', H', I', rz, qz⟩

/-- ~x -/
def rUn (C : Addr) (sp : Sp) (E : XK) : V → Hp → VK → Prop := fun x H Q => ∃ a, x = .ref a ∧ InsAt H a C ∧ sp [x] H Q E
theorem un_inv_own (hs : PySem.W.findIn X.K (.ref C) "__invert__" = some (some (.ref g))) (hf : PySem.W.isFn X.K (.ref g) = true)
    (F : FnR X.prog X.w X.K X.mg X.base CX n g sp) (hr : Room n X.A) (hx : Passes CX X E) : UnR X (unaryOp .Invert) (rUn C sp E) := by
  intro pins s σ H x v Q I rx h
  obtain ⟨a, rfl, ha, q⟩ := h
  cases (show v = Value.ref a from rx)
  obtain ⟨ox, od, J⟩ := inst_of I ha
  obtain ⟨m, hF⟩ := I.fr
  refine PySem.W.ksp_inv hF I.ok.mod.kin J hs hf ?_
  exact wpAny_call (run_fnR (us := [.ref a]) (vs := [.ref a]) F hr hx I (.cons rfl .nil) q)

/-- x op y, a comparison whose def stands at g; y an instance of C too -/
theorem op_cmp {op : CmpOp} (hop : ∀ a b, compareOp op a b = richCompare op a b) (hs : PySem.W.findIn X.K (.ref C) (cmpInfo op).2.1 = some (some (.ref g))) (hf : PySem.W.isFn X.K (.ref g) = true) (hn : PySem.W.notFirst X.K C (.ref C) = true)
    (F : FnR X.prog X.w X.K X.mg X.base CX n g sp) (hr : Room n X.A) (hx : Passes CX X E) : OpR X (compareOp op) (rBin C sp E) := by
  intro pins s σ H x y v u Q I rx ry h
  obtain ⟨a, b, rfl, rfl, ha, hb, q⟩ := h
  cases (show v = Value.ref a from rx)
  cases (show u = Value.ref b from ry)
  obtain ⟨ox, od, J⟩ := inst_of I ha
  obtain ⟨oy, od', J'⟩ := inst_of I hb
  obtain ⟨m, hF⟩ := I.fr
  rw [hop]
  refine PySem.W.cmp_K (op := op) (tb := .ref C) hr.units0 hF I.ok.mod.kin J J'.type hn hs hf ?_
  refine wpAny_mono (wpAny_call (run_fnR (us := [.ref a, .ref b]) (vs := [.ref a, .ref b]) F hr hx I (.cons rfl (.cons rfl .nil)) q)) (fun w s' z => ?_) fun _ _ x => x
  obtain ⟨z', H', I', rz, qz⟩ := z
  exact cmpbackR rz ⟨z', H', I', rz, qz⟩
end
end Ow
end
section
set_option maxHeartbeats 4000000
namespace Ow
open PySem PySem.Spec PyProof.Rows L2 PySem.W

section
variable {prog : Program} {w : World} {M : Model} {A : Around} {E : Value → Shared → Prop} {s : Shared} {K : Frag} {x C L f : Addr} {h₀ : Heap} {m : Str → Option Value} {ox : Obj} {od : Option Obj} {nm : String}

theorem add_ref_at {i : Int} {t : Tok} {x C dx : Addr} : GivesAt (fun s => s.heap.get? x = some (instObj C dx)) (Builtin.«int.__add__» ⟨[.int i t, .ref x], []⟩) (.val Value.notImplemented) := by
  intro prog w A R s hx h
  obtain ⟨hp, g, d, tk, os⟩ := s
  have hl : ∀ {M : Model} {A : Around} {E : Value → Shared → Prop} {Q : Option Int → Shared → Prop}, Q none ⟨hp, g, d, tk, os⟩ → wpAny M A (asInt? (.ref x)) Q E ⟨hp, g, d, tk, os⟩ := by
    intro M A E Q q
    unfold asInt?
    exact wpAny_bind (wpAny_load hx (wpAny_pure q))
  unfold Builtin.«int.__add__»
  wp_walk using hl
  exact h
theorem int_add_ref {i : Int} {t : Tok} {x C dx : Addr} {s : Shared} {Q : Value → Shared → Prop} (hx : s.heap.get? x = some (instObj C dx)) (h : Q .notImplemented s) :
    wpAny (model prog w) A (call (.builtin "int.__add__") [.int i t, .ref x]) Q E s :=
  call_givesAt F.slot_int_add (typeIs_int s i t) F.entry_int_add (F.args_int_add_2 _ _) add_ref_at hx h
theorem int_add_own {i : Int} {t : Tok} {x C dx f fa : Addr} {cd : ClassData} {rest : List Value} {Q : Value → Shared → Prop} (X : K.In s.heap) (hx : s.heap.get? x = some (instObj C dx)) (I : InstAt s.heap x ox C od) (hcd : clsIn K C = some cd) (hm : cd.mro = .ref C :: rest)
    (ha : findIn K (.ref C) (PySem.dunder "add") = some (some (.ref fa))) (hs : findIn K (.ref C) (dunderR "add") = some (some (.ref f))) (hf : isFn K (.ref f) = true) (hsub : subIn K (.ref C) (.type "int") = some false)
    (h : wpAny (model prog w) A (call (.ref f) [.ref x, .int i t]) (PySem.W.CmpBack Q) E s) : wpAny (model prog w) A (binaryOp .Add (.int i t) (.ref x)) Q E s := by
  have one := ksp_try X I hs hf h
  have two : ∀ {Q' : Option Value → Shared → Prop}, Q' none s → wpAny (model prog w) A (tryMethod (.int i t) (PySem.dunder "add") (.ref x)) Q' E s := by
    intro Q' q
    unfold tryMethod
    exact wpAny_bind (wpAny_callSpecial?_slot (typeIs_int s i t) F.slot_int_add (int_add_ref hx (wpAny_pure q)))
  obtain ⟨hh, g, d, tt, os⟩ := s
  have L1 : Looks (model prog w) hh (typeOf (.int i t)) (.type "int") := Looks.of_pure rfl
  have L2 : Looks (model prog w) hh (typeOf (.ref x)) (.ref C) := I.type
  have L3 : Looks (model prog w) hh (fillsNumberSlot (.type "int") "add") true := Looks.of_pure F.fills_int_add
  have L4 : Looks (model prog w) hh (fillsNumberSlot (.ref C) "add") true := fills_K X hcd hm ha
  have L5 : Looks (model prog w) hh (isSubtype (.ref C) (.type "int")) false := looks_subIn X hsub
  have L7 : Looks (model prog w) hh (numberSlotInPython (.type "int") "add") false := Looks.of_pure rfl
  have hne : (Value.type "int" == Value.ref C) = false := Bool.eq_false_iff.mpr fun q => by cases beq_iff_eq.mp q
  show wpAny (model prog w) A (binaryOp .Add (.int i t) (.ref x)) Q E _
  have hi : Operator.info .Add = ("+", "add") := rfl
  simp only [binaryOp, hi]
  refine wpAny_holding (wpAny_bind ?_)
  unfold binaryOp1
  refine wpAny_bind (L1.at (wpAny_bind (L2.at (wpAny_bind (L3.at ?_)))))
  simp only [hne, Bool.false_eq_true, if_false]
  ksp_lk
  refine two ?_
  ksp_lk
  refine wpAny_mono one (fun r s' hr' => ?_) fun _ _ e => e
  obtain ⟨v, rfl, hq⟩ := hr'
  ksp_lk
  exact hq
end
end Ow
end
section
set_option maxHeartbeats 4000000
namespace Ow
open PySem PySem.Spec PyProof.Rows L2 PySem.W

section
variable {prog : Program} {w : World} {M : Model} {A : Around} {E : Value → Shared → Prop} {s : Shared} {K : Frag} {x C L f : Addr} {h₀ : Heap} {m : Str → Option Value} {ox : Obj} {od : Option Obj} {nm T : String}
/-- no += of one's own: C over object alone -/
theorem noI_own {h : Heap} {cd : ClassData} {add : Bool} (X : K.In h) (hc : clsIn K C = some cd) (hm : cd.mro = [.ref C, .type "object"]) (hs : findIn K (.ref C) (dunderI nm) = some none)
    (ho : typeLookup (.type "object") (dunderI nm) = pure none) : Looks M h (fillsInplaceSlot (.ref C) nm add) false := by
  intro A Q E s k q
  have Lm : Looks M h (mroOf (.ref C)) cd.mro := (looks_clsIn X hc).andThen (f := fun cd => pure cd.mro) .now
  have Lm' := Lm.keeps k
  obtain ⟨hh, g, d, tt, os⟩ := s
  have X' : K.In hh := X.keeps k
  have L1 : Looks M hh (typeLookup (.ref C) (dunderI nm)) none := looks_findIn X' hs
  have L2 : Looks M hh (typeLookup (.type "object") (dunderI nm)) none := Looks.of_pure ho
  unfold fillsInplaceSlot
  refine wpAny_bind (Lm'.at ?_)
  rw [hm, List.anyM_cons]
  refine wpAny_bind (wpAny_bind (L1.at ?_))
  refine wpAny_pure ?_
  simp only [Bool.false_eq_true, if_false]
  rw [List.anyM_cons]
  refine wpAny_bind (wpAny_bind (L2.at ?_))
  refine wpAny_pure ?_
  simp only [Bool.false_eq_true, if_false]
  exact wpAny_pure q

theorem iadd_own {op : Operator} {b : Value} {cd : ClassData} {fo ro rc : Option Value} {Q : Value → Shared → Prop} (X : K.In s.heap) (I : InstAt s.heap x ox C od) (hb : typeOf b = pure (.type T)) (hcd : clsIn K C = some cd) (hm : cd.mro = [.ref C, .type "object"])
    (hni : findIn K (.ref C) (dunderI op.info.2) = some none) (hno : typeLookup (.type "object") (dunderI op.info.2) = pure none)
    (hs : findIn K (.ref C) (PySem.dunder op.info.2) = some (some (.ref f))) (hf : isFn K (.ref f) = true) (hr : findIn K (.ref C) (dunderR op.info.2) = some rc) (hp : rc = none ∨ ∃ g : Addr, rc = some (.ref g))
    (h1 : findIn K (.type T) (PySem.dunder op.info.2) = some fo) (h2 : findIn K (.type T) (dunderR op.info.2) = some ro) (hsub : subIn K (.type T) (.ref C) = some false)
    (h : wpAny (model prog w) A (call (.ref f) [.ref x, b]) (PySem.W.CmpBack Q) E s) : wpAny (model prog w) A (inplaceOp op (.ref x) b) Q E s := by
  rcases hi : op.info with ⟨sym, nm'⟩
  rw [hi] at hs hr h1 h2 hni hno
  dsimp only at hs hr h1 h2 hni hno
  have one := ksp_try X I hs hf h
  obtain ⟨hh, g, d, tt, os⟩ := s
  have L0 : Looks (model prog w) hh (fillsInplaceSlot (.ref C) nm' (op == .Add)) false := noI_own X hcd hm hni hno
  have L1 : Looks (model prog w) hh (typeOf (.ref x)) (.ref C) := I.type
  have L2 : Looks (model prog w) hh (typeOf b) (.type T) := Looks.of_pure hb
  have L3 : Looks (model prog w) hh (fillsNumberSlot (.ref C) nm') true := fills_K X hcd hm hs
  have L4 : Looks (model prog w) hh (fillsNumberSlot (.type T) nm') ((fo.isSome && !isSeqSlot fo) || (ro.isSome && !isSeqSlot ro)) := ksp_fillsT X h1 h2
  have L5 : Looks (model prog w) hh (isSubtype (.type T) (.ref C)) false := looks_subIn X hsub
  have L6 : Looks (model prog w) hh (numberSlotInPython (.ref C) nm') true := ksp_inPy X hs hr hp
  have L7 : Looks (model prog w) hh (numberSlotInPython (.type T) nm') false := Looks.of_pure rfl
  have L8 : Looks (model prog w) hh (typeLookup (.type T) (dunderR nm')) ro := looks_findIn X h2
  generalize ((fo.isSome && !isSeqSlot fo) || (ro.isSome && !isSeqSlot ro)) = right at L4
  have hne : (Value.ref C == Value.type T) = false := Bool.eq_false_iff.mpr fun q => by cases beq_iff_eq.mp q
  unfold inplaceOp
  simp only [hi]
  refine wpAny_holding (wpAny_bind (L1.at (wpAny_bind (L0.at ?_))))
  simp only [Bool.false_eq_true, if_false]
  refine wpAny_bind ?_
  unfold binaryOp1
  refine wpAny_bind (L1.at (wpAny_bind (L2.at (wpAny_bind (L3.at ?_)))))
  simp only [hne, Bool.false_eq_true, if_false]
  cases right with
  | false =>
    ksp_lk
    refine wpAny_mono one (fun r s' hr' => ?_) fun _ _ e => e
    obtain ⟨v, rfl, hq⟩ := hr'
    ksp_lk
    exact hq
  | true =>
    ksp_lk
    refine wpAny_mono one (fun r s' hr' => ?_) fun _ _ e => e
    obtain ⟨v, rfl, hq⟩ := hr'
    ksp_lk
    exact hq
end
end Ow
end
section
set_option maxHeartbeats 4000000
namespace Ow
open PySem PySem.Spec PyProof.Rows L2 PySem.W

section
variable {prog : Program} {w : World} {M : Model} {A : Around} {E : Value → Shared → Prop} {s : Shared} {K : Frag} {x y C L f : Addr} {ox oy : Obj} {od od' : Option Obj}

theorem objNe_K {Q : PySem.Fin → Shared → Prop} (X : K.In s.heap) (I : InstAt s.heap x ox C od) (hs : findIn K (.ref C) "__eq__" = some (some (.ref f))) (hf : isFn K (.ref f) = true) (hu : A.units < cLine)
    (hcall : wpAny (model prog w) A (call (.ref f) [.ref x, .ref y]) (fun v s' => ∃ b, v = .bool b ∧ Q (.done (.ret (.bool (!b)))) s') E s) :
    wpAny (model prog w) A (Builtin.«object.__ne__» ⟨[.ref x, .ref y], []⟩) Q E s := by
  unfold Builtin.«object.__ne__»
  repeat (first
    | with_reducible refine wpAny_cRoomFor hu ?_
    | (refine wpAny_bind (m := callSpecialIfBound? (.ref x) (Str.ofString "__eq__") [.ref y])
        (ifBound_K X I hs hf (wpAny_mono hcall (fun r s' hr => by
          obtain ⟨b, rfl, hq⟩ := hr
          repeat (first | exact hq | exact wpAny_pure hq | exact wpAny_truthy_bool hq | (refine wpAny_bind (m := truthy (.bool _)) (wpAny_truthy_bool ?_)) | wp_step)) fun _ _ e => e)))
    | wp_step)

theorem check_K {id owner n : String} {rest : List Value} {Q : Unit → Shared → Prop} (X : K.In s.heap) (I : InstAt s.heap x ox C od) (hk : builtinKind id = some .slot) (hs : splitId id = some (owner, n))
    (ha : argsOk id ⟨.ref x :: rest, []⟩) (hob : subIn K (.ref C) (.type owner) = some true) (hq : Q () s) :
    wpAny M A (checkBuiltinCall id ⟨.ref x :: rest, []⟩) Q E s := by
  obtain ⟨h, g, d, t, os⟩ := s
  have Ls : Looks M h (isSubtype (.ref C) (.type owner)) true := looks_subIn X hob
  have hx := I.at_
  have hc := I.cls
  have X0 := X
  simp only [checkBuiltinCall, hk, hs]
  refine wpAny_bind ?_
  unfold isInstance
  repeat (first | (with_reducible refine wpAny_loadPart_at hx ?_; rw [hc]) | (with_reducible refine Ls.here ?_) | wp_step)
  cases hsig : Manifest.signature? id with
  | none => exact wpAny_pure hq
  | some sig =>
    simp only [argsOk, hsig] at ha
    have h2 : Bind.checkArgs id sig ⟨.ref x :: rest, []⟩ = pure () := ha
    show wpAny M A (Bind.checkArgs id sig ⟨.ref x :: rest, []⟩) Q E _
    rw [h2]; exact wpAny_pure hq

theorem ne_own {Q : Value → Shared → Prop} (hu : A.units + 1 < cLine) (X : K.In s.heap) (I : InstAt s.heap x ox C od) (J : InstAt s.heap y oy C od') (hne : findIn K (.ref C) "__ne__" = some (some (.builtin "object.__ne__")))
    (hs : findIn K (.ref C) "__eq__" = some (some (.ref f))) (hf : isFn K (.ref f) = true) (hob : subIn K (.ref C) (.type "object") = some true)
    (hcall : wpAny (model prog w) A.in1 (call (.ref f) [.ref x, .ref y]) (fun v s' => ∃ b, v = .bool b ∧ Q (.bool (!b)) s') E s) :
    wpAny (model prog w) A (compareOp .NotEq (.ref x) (.ref y)) Q E s := by
  have S := F.cmp_object.ne
  have one : wpAny (model prog w) A (tryCompare (.ref x) "__ne__" (.ref y)) (fun r s' => ∃ v, r = some v ∧ Q v s') E s := by
    unfold tryCompare
    refine wpAny_bind ?_
    simp only [callSpecialIfBound?, bindSpecialIfBound?]
    refine wpAny_holding (wpAny_bind (wpAny_bind (wpAny_bind (I.type.here ((looks_findIn X hne).here ?_)))))
    simp only [S.bind]
    have fin : ∀ {R : Option Value → Shared → Prop}, (∀ b s', Q (.bool (!b)) s' → R (some (.bool (!b))) s') → wpAny (model prog w) A (call (.builtin "object.__ne__") ([.ref x] ++ [.ref y]) >>= fun v => pure (some v)) R E s := by
      intro R hR
      refine wpAny_bind (wpAny_call (codeAny_call_builtin S.plain F.cmpEntry_ne (check_K X I F.cmpKind_ne F.cmpSplit_ne (F.cmpArgs_ne _ _) hob (objNe_K (A := A.in1) X I hs hf hu (wpAny_mono hcall (fun v s' hv => ?_) fun _ _ e => e)))))
      obtain ⟨b, rfl, hq⟩ := hv
      exact ⟨b, rfl, wpAny_pure (hR b _ hq)⟩
    refine wpAny_bind (wpAny_askSetting (wpAny_ite ?_))
    split
    · exact wpAny_bind (wpAny_pure (wpAny_pure (fin fun b s' hq => wpAny_pure ⟨_, rfl, hq⟩)))
    · exact wpAny_tryCatch (wpAny_bind (wpAny_pure (wpAny_pure (fin fun b s' hq => wpAny_pure ⟨_, rfl, hq⟩))))
  show wpAny (model prog w) A (richCompare .NotEq (.ref x) (.ref y)) Q E s
  unfold richCompare
  simp only [oneThing_ref]
  refine wpAny_holding (wpAny_bind (wpAny_cRoomFor (Nat.lt_of_succ_lt hu) ?_))
  refine wpAny_bind (I.type.here (wpAny_bind (J.type.here ?_)))
  rw [show (Value.ref C != Value.ref C) = false from by simp]
  simp only [Bool.false_eq_true, if_false]
  refine wpAny_bind (wpAny_pure ?_)
  simp only [Bool.false_eq_true, if_false]
  refine wpAny_bind (wpAny_mono one (fun r s' z => ?_) fun _ _ e => e)
  obtain ⟨v, rfl, hq⟩ := z
  exact wpAny_pure hq
end

section
variable {X : Cx} {CX : CXT} {n : Nat} {C g : Addr} {sp : Sp} {E : XK}
/-- x != y, both instances of C, which has == alone -/
def rNeOwn (C : Addr) (sp : Sp) (E : XK) : R2 := fun x y H Q => ∃ a b, x = .ref a ∧ y = .ref b ∧ InsAt H a C ∧ InsAt H b C ∧ sp [x, y] H (fun v H' => ∃ k, v = .bl k ∧ Q (.bl (!k)) H') E
theorem op_ne_own (hne : PySem.W.findIn X.K (.ref C) "__ne__" = some (some (.builtin "object.__ne__"))) (hs : PySem.W.findIn X.K (.ref C) "__eq__" = some (some (.ref g))) (hf : PySem.W.isFn X.K (.ref g) = true) (hob : PySem.W.subIn X.K (.ref C) (.type "object") = some true)
    (F : FnR X.prog X.w X.K X.mg X.base CX n g sp) (hr : Room (n + 1) X.A) (hx : Passes CX X E) : OpR X (compareOp .NotEq) (rNeOwn C sp E) := by
  intro pins s σ H x y v u Q I rx ry h
  obtain ⟨a, b, rfl, rfl, ha, hb, q⟩ := h
  cases (show v = Value.ref a from rx)
  cases (show u = Value.ref b from ry)
  obtain ⟨ox, od, J⟩ := inst_of I ha
  obtain ⟨oy, od', J'⟩ := inst_of I hb
  have hu : X.A.units + 1 < cLine := hu_of hr
  refine ne_own hu I.kIn J J' hne hs hf hob ?_
  refine wpAny_call ?_
  refine codeAny_mono (F X.A.in1 X.stack s H [.ref a, .ref b] [.ref a, .ref b] _ E hr.in1 I.env0.in1 (.cons rfl (.cons rfl .nil)) q) fun r s' hq => ?_
  cases r with
  | error e => exact hx pins σ H s e s' I hq
  | ok fl =>
    cases fl with
    | ret u =>
      obtain ⟨v, H', I2, rv, k, ev, qq⟩ := I.after hq
      subst ev
      cases (show u = Value.bool k from rv)
      exact ⟨k, rfl, .bl (!k), H', I2, rfl, qq⟩
    | next => exact False.elim hq
    | brk => exact False.elim hq
    | cont => exact False.elim hq
end
end Ow
end
section
set_option maxHeartbeats 4000000
namespace Ow
open PySem PySem.Spec PyProof.Rows L2 StX

section
variable {X : Cx} {CX : CXT} {n : Nat} {C g fa : Addr} {sp : Sp} {E : XK}

theorem inst_of2 {pins : List (Addr × Obj)} {σ : L2.St} {H : Hp} {s : Shared} {a : Addr} (I : Inv X pins σ H s) (h : InsAt H a C) : ∃ dx od, s.heap.get? a = some (PySem.W.instObj C dx) ∧ PySem.W.InstAt s.heap a (PySem.W.instObj C dx) C od := by
  obtain ⟨dx, fs, ea⟩ := h
  obtain ⟨mA, O, _⟩ := ins_get I.hok ea
  obtain ⟨od, J, _⟩ := O.look
  exact ⟨dx, _, J.at_, J⟩

/-- n + x: the instance's __radd__ -/
def rBinR (C : Addr) (sp : Sp) (E : XK) : R2 := fun x y H Q => ∃ a i, x = .int i ∧ y = .ref a ∧ InsAt H a C ∧ sp [y, x] H Q E
theorem op_radd (hc : PySem.W.selfFirst X.K C = true) (ha : PySem.W.findIn X.K (.ref C) (PySem.dunder "add") = some (some (.ref fa))) (hs : PySem.W.findIn X.K (.ref C) (dunderR "add") = some (some (.ref g))) (hf : PySem.W.isFn X.K (.ref g) = true)
    (hsub : PySem.W.subIn X.K (.ref C) (.type "int") = some false)
    (F : FnR X.prog X.w X.K X.mg X.base CX n g sp) (hr : Room n X.A) (hx : Passes CX X E) : OpR X (binaryOp .Add) (rBinR C sp E) := by
  intro pins s σ H x y v u Q I rx ry h
  obtain ⟨a, i, rfl, rfl, hia, q⟩ := h
  obtain ⟨t, rfl⟩ := rx
  cases (show u = Value.ref a from ry)
  obtain ⟨dx, od, hx', J⟩ := inst_of2 I hia
  obtain ⟨cd, rest, hcd, hm⟩ := PySem.W.ksp_first hc
  refine int_add_own I.kIn hx' J hcd hm ha hs hf hsub ?_
  refine wpAny_mono (wpAny_call (run_fnR (us := [.ref a, .int i t]) (vs := [.ref a, .int i]) F hr hx I (.cons rfl (.cons ⟨t, rfl⟩ .nil)) q)) (fun w s' z => ?_) fun _ _ x => x
  obtain ⟨z', H', I', rz, qz⟩ := z
  exact cmpbackR rz ⟨z', H', I', rz, qz⟩

def mro2 (K : PySem.W.Frag) (C : Addr) : Bool := (PySem.W.clsIn K C).any fun cd => cd.mro == [.ref C, .type "object"]
theorem mro2_of {K : PySem.W.Frag} {C : Addr} (h : mro2 K C = true) : ∃ cd, PySem.W.clsIn K C = some cd ∧ cd.mro = [.ref C, .type "object"] := by
  obtain ⟨cd, hcd, hm⟩ := PySem.W.any_some h
  exact ⟨cd, hcd, beq_iff_eq.mp hm⟩
theorem noI_obj_add : typeLookup (.type "object") (dunderI "add") = pure none := by rw [typeLookup_type, builtinLookup_eq_fast]; kernel_rfl
/-- x += n, the class has no __iadd__ -/
theorem iop_addI {fo ro rc : Option Value} (hc : mro2 X.K C = true) (hni : PySem.W.findIn X.K (.ref C) (dunderI "add") = some none) (hs : PySem.W.findIn X.K (.ref C) (PySem.dunder "add") = some (some (.ref g))) (hf : PySem.W.isFn X.K (.ref g) = true)
    (hrr : PySem.W.findIn X.K (.ref C) (dunderR "add") = some rc) (hp : rc = none ∨ ∃ g : Addr, rc = some (.ref g))
    (h1 : PySem.W.findIn X.K (.type "int") (PySem.dunder "add") = some fo) (h2 : PySem.W.findIn X.K (.type "int") (dunderR "add") = some ro) (hsub : PySem.W.subIn X.K (.type "int") (.ref C) = some false)
    (F : FnR X.prog X.w X.K X.mg X.base CX n g sp) (hr : Room n X.A) (hx : Passes CX X E) : OpR X (inplaceOp .Add) (rBinI C sp E) := by
  intro pins s σ H x y v u Q I rx ry h
  obtain ⟨a, i, rfl, rfl, hia, q⟩ := h
  cases (show v = Value.ref a from rx)
  obtain ⟨t, rfl⟩ := ry
  obtain ⟨ox, od, J⟩ := inst_of I hia
  obtain ⟨cd, hcd, hm⟩ := mro2_of hc
  refine iadd_own (op := .Add) (T := "int") I.kIn J rfl hcd hm hni noI_obj_add hs hf hrr hp h1 h2 hsub ?_
  refine wpAny_mono (wpAny_call (run_fnR (us := [.ref a, .int i t]) (vs := [.ref a, .int i]) F hr hx I (.cons rfl (.cons ⟨t, rfl⟩ .nil)) q)) (fun w s' z => ?_) fun _ _ x => x
  obtain ⟨z', H', I', rz, qz⟩ := z
  exact cmpbackR rz ⟨z', H', I', rz, qz⟩

/-- f(e, ..), a def of the module, by its positional promise -/
def tCallR (sp : Sp) (E : XK) (t : TA) : TE := fun σ H Q => t σ H fun vs H1 => sp vs H1 Q E
theorem pe_callR {x : Str} {f : Addr} {e : Expr} {es : List Expr} {t : TA} {p pos : Pos} (F : FnR X.prog X.w X.K X.mg X.base CX n f sp) (hr : Room n X.A) (hm : X.mg x = some (.ref f)) (hk : PySem.W.keepIn X.K (.ref f) = true) (hx : Passes CX X E)
    (ha : PA X (e :: es) t) (hg : Gl X x := by rfl) (hdb : (x == ("__debug__" : Str)) = false := by decide) (he : starEach (e :: es) X.env = (false, eval e X.env) :: starEach es X.env := by rfl) (hpl : (backTo pos (starEach es X.env)).any (·.1) = false := by rfl) :
    PE X (.Call (.Name x p) (e :: es) [] pos) (tCallR sp E t) := by
  refine ⟨fun pins s σ H Q I h => ?_⟩
  refine wpAny_Call_Name_kw (ld_glob I hg hm ?_ hdb)
  refine PySem.W.callWith_K (h₀ := X.base) I.ok.mod.kin hk (thn (ha.run pos pins s σ H _ I h) fun us s1 ⟨vs, H1, I1, r, q⟩ => ⟨I1.kIn, ?_⟩) he hpl
  exact wpAny_call (run_fnR F hr hx I1 r q)

/-- C(e, ..): a new instance, by the positional promise of __init__ -/
theorem pe_makeRR {x : Str} {e : Expr} {es : List Expr} {t : TA} {p pos : Pos} (M : Mk X.K C g) (F : FnR X.prog X.w X.K X.mg X.base CX n g sp) (hr : Room (n + 1) X.A) (hm : X.mg x = some (.ref C)) (hx : Passes CX X E) (ha : PA X (e :: es) t) (hg : Gl X x := by rfl) (hdb : (x == ("__debug__" : Str)) = false := by decide)
    (he : starEach (e :: es) X.env = (false, eval e X.env) :: starEach es X.env := by rfl) (hpl : (backTo pos (starEach es X.env)).any (·.1) = false := by rfl) : PE X (.Call (.Name x p) (e :: es) [] pos) (tMakeR C sp E t) :=
  pe_makeR M F hr hg hm hx ha hdb he hpl
end
end Ow
end
section
set_option maxHeartbeats 4000000
namespace Ow
open PySem PySem.Spec PyProof.Rows L2 StX

/-- what the walk asks of an own class -/
structure ClsF (K : PySem.W.Frag) (C : Addr) : Prop where
  cl : Cls K C
  ca : PySem.W.findIn K (.ref C) "__class__" = some (some (.builtin "object.__class__"))
  cn : PySem.W.specialIn K (.builtin "object.__class__") "__get__" = some (some (.builtin "getset_descriptor.__get__"))
  ct : PySem.W.takesIn K (.builtin "object.__class__") = some true
  cm : PySem.W.mroIn K C (.type "object") = some true
  ic : PySem.W.isClsIn K C = true
  ty : PySem.W.typeIn K (.ref C) = some (.type "type")
theorem ClsF.tyOf {K : PySem.W.Frag} {C p dx : Addr} {H : Hp} {fs : List (Str × V)} (c : ClsF K C) (h : H p = some (.ins C dx fs)) : TyX K H (.ref p) (.ref C) := .base (.ins h c.cl c.ca c.cn c.ct c.cm)
theorem kit_self {K : PySem.W.Frag} {t : Value} : PySem.W.kitOne K t t = some true := by
  unfold PySem.W.kitOne
  rw [if_pos (beq_self_eq_true t)]
/-- t is not below the own class at C -/
theorem kit_own {K : PySem.W.Frag} {C : Addr} {t : Value} {b : Bool} (c : ClsF K C) (h : PySem.W.subIn K t (.ref C) = some b) (hb : (t == Value.ref C) = false) : PySem.W.kitOne K t (.ref C) = some b := by
  unfold PySem.W.kitOne
  rw [if_neg (by rw [hb]; exact Bool.false_ne_true)]
  show (if ((PySem.W.clsIn K C).isSome && PySem.W.typeIn K (.ref C) == some (.type "type")) = true then PySem.W.subIn K t (.ref C) else none) = some b
  have h1 : (PySem.W.clsIn K C).isSome = true := c.ic
  rw [h1, c.ty]
  rw [if_pos (by rfl)]
  exact h
/-- an instance of C against a built-in type -/
theorem kit_bty {K : PySem.W.Frag} {C : Addr} {T : String} {b : Bool} (hm : PySem.W.kitMeta T = true) (h : PySem.W.subIn K (.ref C) (.type T) = some b) : PySem.W.kitOne K (.ref C) (.type T) = some b := by
  unfold PySem.W.kitOne
  rw [if_neg (by intro z; cases beq_iff_eq.mp z)]
  show (if PySem.W.kitMeta T = true then PySem.W.subIn K (.ref C) (.type T) else none) = some b
  rw [if_pos hm]
  exact h
theorem kit_int_int {K : PySem.W.Frag} : PySem.W.kitOne K (.type "int") (.type "int") = some true := kit_self
theorem kit_int_bool {K : PySem.W.Frag} : PySem.W.kitOne K (.type "int") (.type "bool") = some false := kit_ty (by decide +kernel)

section
variable {X : Cx} {CX : CXT} {k : Nat} {C p g a dx : Addr} {fs : List (Str × V)} {f : Str} {sp : Sp} {E : XK} {e : Expr} {pos : Pos} {ta : TE}
structure PropR (K : PySem.W.Frag) (C : Addr) (f : Str) (p g : Addr) : Prop where
  at_ : PySem.W.findIn K (.ref C) f = some (some (.ref p))
  get : PySem.W.specialIn K (.ref p) "__get__" = some (some (.builtin "property.__get__"))
  tak : PySem.W.takesIn K (.ref p) = some true
  rec_ : ∃ rest, PySem.W.recIn K p "property" = some (.ref g :: rest)
theorem getprop_R {pins : List (Addr × Obj)} {σ : L2.St} {H : Hp} {s : Shared} {Q : VK} {b : Bool} (I : Inv X pins σ H s) (ea : H a = some (.ins C dx fs)) (c : Cls X.K C) (hp : PropR X.K C f p g)
    (F : FnR X.prog X.w X.K X.mg X.base CX k g sp) (hr : Room (k + 1) X.A) (hx : Passes CX X.nox E) (h : sp [.ref a] H Q E) :
    wpAny (model X.prog X.w) X.A (getAttr (.ref a) f b) (EP X pins σ Q) X.xe s := by
  obtain ⟨mA, O, _, _, _, _⟩ := ins_get I.hok ea
  obtain ⟨od, J, _⟩ := O.look
  obtain ⟨rest, hrec⟩ := hp.rec_
  have I1 := I.tok (s.toks + 1)
  have hc : (PySem.W.clsIn X.K C).isSome = true := by
    obtain ⟨cd, hc, _⟩ := PySem.W.any_some c.hd
    rw [hc]
    rfl
  refine PySem.W.get_bind I.kIn J (PySem.W.plainGet_of (c.get f)).1 (PySem.W.findObj_data hc hp.at_ hp.get hp.tak) (PySem.W.plainGet_of (c.get f)).2 (wpAny_call (PySem.W.prop_get (s := { s with toks := s.toks + 1 }) I.kIn hrec ?_))
  refine codeAny_mono (F X.A.in1 X.stack { s with toks := s.toks + 1 } H [.ref a] [.ref a] Q E hr.in1 I1.env0.in1 (.cons rfl .nil) h) fun r s' hq => ?_
  cases r with
  | error er => exact False.elim (hx pins σ H { s with toks := s.toks + 1 } er s' (I1.wish _) hq)
  | ok fl =>
    cases fl with
    | ret u =>
      obtain ⟨v, H', I3, rv, q3⟩ := I1.after hq
      show wpAny _ _ (handedOut u) _ _ _
      rw [PySem.W.handedOut_of (handed_of rv)]
      exact wpAny_pure ⟨v, H', I3, rv, q3⟩
    | next => exact False.elim hq
    | brk => exact False.elim hq
    | cont => exact False.elim hq
def tPropR (C : Addr) (sp : Sp) (E : XK) (ta : TE) : TE := fun σ H Q => ta σ H fun x H1 => ∃ a dx fs, x = .ref a ∧ H1 a = some (.ins C dx fs) ∧ sp [.ref a] H1 Q E
/-- e.f, f a property -/
theorem pe_propR (he : PE X e ta) (c : Cls X.K C) (hp : PropR X.K C f p g) (F : FnR X.prog X.w X.K X.mg X.base CX k g sp) (hr : Room (k + 1) X.A) (hx : Passes CX X.nox E)
    (hab : attributeBase e f X.env (eval e X.env) = eval e X.env := by rfl) : PE X (.Attribute e f pos) (tPropR C sp E ta) := by
  refine ⟨fun pins s σ H Q I h => ?_⟩
  refine attr_of hab (thn (he.run pins s σ H _ I h) fun u s1 ⟨x, H1, I1, rx, a, dx, fs, ex, ea, q⟩ => ?_)
  subst ex
  obtain rfl : u = Value.ref a := rx
  exact getprop_R I1 ea c hp F hr hx q
end

/-- a def of the text, as the top left it: dvs its defaults -/
def FnT (K : PySem.W.Frag) (x qual : Str) (st : Stmt) (dvs : List V) (f : Addr) : Prop := ∃ fd, FunD K x qual (defArgs st) (defBody st) (defScope st) dvs [] f fd
section
variable {P : Program} {w : World} {K : PySem.W.Frag} {mg : Str → Option Value} {base : Heap} {x qual : Str} {st : Stmt} {dvs : List V} {f : Addr}
theorem FnT.kp (F : FnT K x qual st dvs f) : PySem.W.keepIn K (.ref f) = true := F.elim fun _ z => z.kp
/-- a def without defaults that lets nothing out -/
theorem FnT.ok {N ps : List Str} {k : Nat} {sp : Sp} (F : FnT K x qual st [] f) (S : FnScope N ps (defScope st))
    (hb : ∀ (kV doc pm : Value) (an : Option Addr) (cdv ct : Value) (us : List Value), us.length = ps.length → bindArgs (PySem.W.fnOf x qual (defArgs st) (defBody st) (defScope st) .none kV doc pm an cdv ct) ⟨us, []⟩ = pure (ps.zip us))
    (len : ∀ vs H Q E, sp vs H Q E → vs.length = ps.length)
    (hbody : ∀ (cdv : Value) (A : Around) (outer : List Env) (s : Shared) (H : Hp) (vs : List V) (Q : VK) (E : XK), Room k (A.deeper (envOfC qual (defScope st) s.heap.objs.size f cdv)) → sp vs H Q E →
      ∃ t, PSs (cxOf CX0 P w K mg base N qual (defScope st) f cdv A outer s H E).nox (defBody st) t ∧ t { nx := fun _ H' => Q .non H', rt := Q } (start N vs) H) : FnR P w K mg base CX0 (k + 1) f sp := by
  obtain ⟨fd, F⟩ := F
  have ok : FnOk P w K mg base CX0 (k + 1) f fd ps sp := F.ok S len fun cdv A outer s H vs Q E hr hsp => by
    obtain ⟨t, h, q⟩ := hbody cdv A outer s H vs Q E hr hsp
    exact ⟨t, h.nox, q⟩
  have b : Binds K fd ps [] := F.bindsN hb
  have r := ok.raw b .nil
  exact r.imp fun vs H Q E h => by rw [List.append_nil]; exact h
/-- .. with defaults, all of its arguments told; or the last ones filled up: j of the defaults are not used -/
theorem FnT.okD {N ps : List Str} {k n j : Nat} {sp : Sp} (F : FnT K x qual st dvs f) (S : FnScope N ps (defScope st)) (hd : dvs ≠ []) (hn : n + (dvs.length - j) = ps.length)
    (hb : ∀ (T : Addr) (kV doc pm : Value) (an : Option Addr) (cdv ct : Value) (us its : List Value), us.length = n → its.length = dvs.length →
      ∃ k, bindArgs (PySem.W.fnOf x qual (defArgs st) (defBody st) (defScope st) (.ref T) kV doc pm an cdv ct) ⟨us, []⟩ = seqItems? (.ref T) >>= k ∧ k (some its.toArray) = pure (ps.zip (us ++ its.drop j)))
    (len : ∀ vs H Q E, sp vs H Q E → vs.length = ps.length)
    (hbody : ∀ (cdv : Value) (A : Around) (outer : List Env) (s : Shared) (H : Hp) (vs : List V) (Q : VK) (E : XK), Room k (A.deeper (envOfC qual (defScope st) s.heap.objs.size f cdv)) → sp vs H Q E →
      ∃ t, PSs (cxOf CX0 P w K mg base N qual (defScope st) f cdv A outer s H E).nox (defBody st) t ∧ t { nx := fun _ H' => Q .non H', rt := Q } (start N vs) H) : FnR P w K mg base CX0 (k + 1) f (fun vs H Q E => sp (vs ++ dvs.drop j) H Q E) := by
  obtain ⟨fd, F⟩ := F
  have ok : FnOk P w K mg base CX0 (k + 1) f fd ps sp := F.ok S len fun cdv A outer s H vs Q E hr hsp => by
    obtain ⟨t, h, q⟩ := hbody cdv A outer s H vs Q E hr hsp
    exact ⟨t, h.nox, q⟩
  obtain ⟨ds, hds, b⟩ := F.binds1 n j hd hn hb
  exact ok.raw b hds
end
end Ow
end
section
set_option maxHeartbeats 4000000
namespace Ow
open PySem PySem.SeqAt
open AutoSeq1 (wpAny_loadPart')
open MeetsSeq MeetsSeq2 MeetsSeq3 SeqRoads2

section
variable {prog : Program} {w : World} {A : Around} {R : Result → Shared → Prop}
theorem ne_loopG (l b : Addr) (N : Nat) (I : Nat → Shared → Prop) (hl : GQ.ListI prog w A (fun e s' => R (.error e) s') l b N I)
    (fin : ∀ s, I N s → R (.ok (.ret (.bool false))) s) (k : Nat) :
    ∀ i : Nat, N - i = k → i ≤ N → ∀ s, I i s →
      wpAny (model prog w) A.in1 (Builtin.«list.__eq__.loop» ⟨[.ref l, .ref b, rawInt i, rawInt 3], []⟩) (GQ.FinOf prog w A R) (fun e s' => R (.error e) s') s := by
  induction k with
  | zero =>
    intro i hk hi s h
    obtain ⟨items, items2, n, n2, hl1, hb1, hs1, hs2, _⟩ := hl _ _ h
    have hi' : i = N := by omega
    have hR : R (.ok (.ret (.bool false))) s := fin s (hi' ▸ h)
    obtain ⟨hp, g, d, tk, os⟩ := s
    wp_walk using wpAny_loadPart' hl1, wpAny_loadPart' hb1
    have hi1 : items[((i : Nat) : Int).toNat]? = none := by simp; omega
    have hi2 : items2[((i : Nat) : Int).toNat]? = none := by simp; omega
    rw [hi1, hi2]
    wp_walk using wpAny_loadPart' hl1, wpAny_loadPart' hb1
    show R (.ok (.ret (.bool (items.size != items2.size)))) _
    rw [hs1, hs2]
    simpa using hR
  | succ k ih =>
    intro i hk hi s h
    obtain ⟨items, items2, n, n2, hl1, hb1, hs1, hs2, turn⟩ := hl _ _ h
    have hlt : i < items.size := by omega
    have hlt2 : i < items2.size := by omega
    have ht := turn hlt hlt2
    obtain ⟨hp, g, d, tk, os⟩ := s
    wp_walk using wpAny_loadPart' hl1, wpAny_loadPart' hb1
    have hi1 : items[((i : Nat) : Int).toNat]? = some items[i] := by simp [hlt]
    have hi2 : items2[((i : Nat) : Int).toNat]? = some items2[i] := by simp [hlt2]
    have hc : ((i : Int) + 1) = ((i + 1 : Nat) : Int) := by omega
    rw [hi1, hi2]
    refine wpAny_bind (wpAny_mono ht (fun r s2 h2 => ?_) fun _ _ x => x)
    obtain ⟨hr, h2⟩ := h2
    subst hr
    have hrec := ih (i + 1) (by omega) (by omega) s2 h2
    obtain ⟨hp2, g2, d2, tk2, os2⟩ := s2
    wp_walk
    rw [hc]
    exact ⟨plainId_quiet plain_eq_loop _, codeAny_builtin entry_eq_loop (by
      rw [Around.under_plainId plain_eq_loop _]
      exact hrec)⟩

theorem list_neG (l b : Addr) (N : Nat) (I : Nat → Shared → Prop) (hl : GQ.ListI prog w A (fun e s' => R (.error e) s') l b N I)
    (fin : ∀ s, I N s → R (.ok (.ret (.bool false))) s) {s : Shared} (h : I 0 s) :
    wpAny (model prog w) A.in1 (Builtin.«list.__ne__» ⟨[.ref l, .ref b], []⟩) (GQ.FinOf prog w A R) (fun e s' => R (.error e) s') s := by
  obtain ⟨items, items2, n, n2, hl1, hb1, hs1, hs2, _⟩ := hl _ _ h
  have hrec := ne_loopG (A := A) (R := R) l b N I hl fin _ 0 rfl (Nat.zero_le _) s h
  obtain ⟨hp, g, d, tk, os⟩ := s
  have f3 := AutoSeq1.sub_list_list
  have hne : ¬ (items.size != items2.size) = true := by simp [hs1, hs2]
  wp_walk using wpAny_loadPart' hl1, wpAny_loadPart' hb1
  exact ⟨plainId_quiet plain_eq_loop _, codeAny_builtin entry_eq_loop (by
    rw [Around.under_plainId plain_eq_loop _]
    exact hrec)⟩
theorem rn_listG {E : Value → Shared → Prop} {s : Shared} {l b : Addr} {N : Nat} {Q : Value → Shared → Prop} (hu : A.units < cLine) (I : Nat → Shared → Prop) (hl : GQ.ListI prog w A E l b N I)
    (fin : ∀ s, I N s → Q (.bool false) s) (h : I 0 s) : wpAny (model prog w) A (richCompare .NotEq (.ref l) (.ref b)) Q E s := by
  obtain ⟨items, items2, n, n2, hl1, hb1, _, _, _⟩ := hl _ _ h
  refine wpAny_richCompare_same_room (op := .NotEq) ⟨_, hl1, rfl⟩ ⟨_, hb1, rfl⟩ F.slot_list_ne (GQ.call_here F.slot_list_ne ⟨_, hl1, rfl⟩ F.entry_list_ne (F.args_list_ne_2 _ _) ?_) hu
  exact list_neG (R := wants (fun v s' => v ≠ .notImplemented ∧ Q v s') E) l b N I hl (fun s' q => ⟨(fun x => nomatch x), fin s' q⟩) h
end
end Ow
namespace Ow
open PySem PySem.Spec PyProof.Rows L2 StX
section
variable {X : Cx} {n m : Nat} {D D' : Eqv}
/-- two lists, equal item by item: != gives False -/
def rNeL (D : Eqv) : R2 := fun x y H Q => DList D x y H ∧ ∀ H', Ext H H' → Q (.bl false) H'
theorem op_neL (hD : Mon D) (h : EqG X n D) (hr : Room (n + 1) X.A) : OpR X (compareOp .NotEq) (rNeL D) := by
  intro pins s σ H x y v u Q I rx ry hq
  obtain ⟨⟨a, b, xs, ys, rfl, rfl, ha, hb, p⟩, q⟩ := hq
  cases rx
  cases ry
  show wpAny (model X.prog X.w) X.A (richCompare .NotEq (.ref a) (.ref b)) (EP X pins σ Q) X.xe s
  have sb : Sub X (n + 1) X.A := ⟨hr, rfl⟩
  refine rn_listG (N := xs.length) hr.units0 (fun _ s' => LoopI X pins σ H s') (fun i s' q => ?_) (fun s' q' => ?_) ⟨H, I, Ext.rfl'⟩
  · obtain ⟨H1, I1, e1⟩ := id q
    obtain ⟨z, its, k, r, e⟩ := I1.hok a _ (e1 _ _ ha)
    obtain ⟨z2, its2, k2, r2, e2⟩ := I1.hok b _ (e1 _ _ hb)
    refine ⟨its.toArray, its2.toArray, k, k2, e, e2, by rw [List.size_toArray, ← r.length], by rw [List.size_toArray, ← r2.length, ← p.1], fun h1 h2 => ?_⟩
    exact turnG hD h sb p r r2 i h1 h2 s' q
  · obtain ⟨H1, I1, e1⟩ := q'
    exact ⟨.bl false, H1, I1, rfl, q H1 e1⟩
/-- instances of C by their own ==, a positional promise -/
theorem eqG_insR {CX : CXT} {C f : Addr} {R : Addr → Addr → Hp → Prop} {E : XK} (F : FnR X.prog X.w X.K X.mg X.base CX n f (spEq R))
    (hs : PySem.W.findIn X.K (.ref C) "__eq__" = some (some (.ref f))) (hf : PySem.W.isFn X.K (.ref f) = true) (hx : Passes CX X E) : EqG X n (DIns C R) := by
  have rc : RcG X n (DIns C R) := by
    intro A pins s σ H x y u v sb I rx ry d
    obtain ⟨a, b, dx, dy, fs, gs, rfl, rfl, ha, hb', hr⟩ := d
    cases rx
    cases ry
    obtain ⟨mA, J, _⟩ := ins_get I.hok ha
    obtain ⟨mB, J', _⟩ := ins_get I.hok hb'
    obtain ⟨od, J, _⟩ := J.look
    obtain ⟨od', J', _⟩ := J'.look
    obtain ⟨m, hF⟩ := I.fr
    refine PySem.W.cmp_K (op := .Eq) (tb := .ref C) sb.room.units0 hF I.ok.mod.kin J J'.type (by simp [PySem.W.notFirst]) hs hf ?_
    have hsp : spEq R [.ref a, .ref b] H (fun v H' => v = .bl true ∧ Ext H H') E := ⟨a, b, rfl, hr, fun H' e => ⟨rfl, e⟩⟩
    have e0 : Env0 X.prog X.w X.K X.mg X.base A X.stack s H := by
      have e := I.env0
      exact ⟨by rw [sb.fr]; exact e.frames, e.mod, e.bs, e.bsz, e.funs, e.frf, e.hok, e.bare⟩
    have r2 : Vals [V.ref a, V.ref b] [Value.ref a, Value.ref b] := .cons rfl (.cons rfl .nil)
    refine wpAny_call (codeAny_mono (F A X.stack s H [.ref a, .ref b] [.ref a, .ref b] _ E sb.room e0 r2 hsp) fun r s' hq => ?_)
    cases r with
    | error e => exact hx pins σ H s e s' I hq
    | ok fl =>
      cases fl with
      | ret w =>
        obtain ⟨z, H', I', rz, ez, ex⟩ := I.after hq
        subst ez
        cases rz
        exact ⟨rfl, H', I', ex⟩
      | next => exact False.elim hq
      | brk => exact False.elim hq
      | cont => exact False.elim hq
  exact rc.eqG fun _ _ _ d => let ⟨a, b, _, _, _, _, hx, hy, _⟩ := d; ⟨a, b, hx, hy⟩
end
end Ow
end
section
set_option maxHeartbeats 4000000
/-! Defs that are called while nothing is being shown (repr of containers asks it), and the end of a law whose def asks it. -/
namespace Ow
open PySem PySem.Spec PyProof.Rows L2 StX

/-- a promise by positional values, of calls while no repr runs -/
def FnG (P : Program) (w : World) (K : PySem.W.Frag) (mg : Str → Option Value) (base : Heap) (CX : CXT) (k : Nat) (f : Addr) (sp : Sp) : Prop :=
  ∀ (A : Around) (outer : List Env) (s : Shared) (H : Hp) (us : List Value) (vs : List V) (Q : VK) (E : XK), Room k A → A.guards = some [] → Env0 P w K mg base A outer s H → Vals vs us → sp vs H Q E →
    codeAny (model P w) A (.call (.ref f) ⟨us, []⟩) (CR CX outer P w H s Q E) s
section
variable {P : Program} {w : World} {K : PySem.W.Frag} {mg : Str → Option Value} {base : Heap} {CX : CXT} {j k : Nat} {f : Addr} {sp sp' : Sp} {x qual : Str} {st : Stmt}
theorem FnG.mono (F : FnG P w K mg base CX j f sp) (h : j ≤ k) : FnG P w K mg base CX k f sp := fun A outer s H us vs Q E hr => F A outer s H us vs Q E (hr.mono h)
theorem FnG.imp (F : FnG P w K mg base CX k f sp) (h : ∀ vs H Q E, sp' vs H Q E → sp vs H Q E) : FnG P w K mg base CX k f sp' := fun A outer s H us vs Q E hr g e0 r hs => F A outer s H us vs Q E hr g e0 r (h _ _ _ _ hs)
theorem FnT.okG {N ps : List Str} (F : FnT K x qual st [] f) (S : FnScope N ps (defScope st))
    (hb : ∀ (kV doc pm : Value) (an : Option Addr) (cdv ct : Value) (us : List Value), us.length = ps.length → bindArgs (PySem.W.fnOf x qual (defArgs st) (defBody st) (defScope st) .none kV doc pm an cdv ct) ⟨us, []⟩ = pure (ps.zip us))
    (len : ∀ vs H Q E, sp vs H Q E → vs.length = ps.length)
    (hbody : ∀ (cdv : Value) (A : Around) (outer : List Env) (s : Shared) (H : Hp) (vs : List V) (Q : VK) (E : XK), Room k (A.deeper (envOfC qual (defScope st) s.heap.objs.size f cdv)) → A.guards = some [] → sp vs H Q E →
      ∃ t, PSs (cxOf CX0 P w K mg base N qual (defScope st) f cdv A outer s H E).nox (defBody st) t ∧ t { nx := fun _ H' => Q .non H', rt := Q } (start N vs) H) : FnG P w K mg base CX0 (k + 1) f sp := by
  obtain ⟨fd, F⟩ := F
  intro A outer s H us vs Q E hr hg e0 r hs
  have b := F.bindsN hb
  obtain ⟨oc, od, dV, kV, doc, pm, an, cdv, ct, osl, rfl, lk, hcd, _, _⟩ := F.ex
  have hv := len _ _ _ _ hs
  have hu : us.length = ps.length := r.length.symm.trans hv
  have b1 : BindsTo s (PySem.W.fnOf x qual (defArgs st) (defBody st) (defScope st) dV kV doc pm an cdv ct) ⟨us, []⟩ (ps.zip us) := by
    have := b s us (e0.mod.kin.keeps fun b o e => (e0.bs b o e).1) (by rw [List.append_nil]; exact hu)
    rw [List.append_nil] at this
    exact this
  refine LamX.run_ofS lk hcd S hr e0 b1 r hv fun hr2 => ?_
  obtain ⟨t, h, q⟩ := hbody cdv A outer s H vs Q E hr2 hg hs
  exact ⟨t, h.nox, q⟩
end
section
variable {X : Cx} {CX : CXT} {n : Nat} {sp : Sp} {E : XK}
theorem pe_callG {x : Str} {f : Addr} {e : Expr} {es : List Expr} {t : TA} {p pos : Pos} (F : FnG X.prog X.w X.K X.mg X.base CX n f sp) (hr : Room n X.A) (gd : X.A.guards = some []) (hm : X.mg x = some (.ref f)) (hk : PySem.W.keepIn X.K (.ref f) = true) (hx : Passes CX X E)
    (ha : PA X (e :: es) t) (hg : Gl X x := by rfl) (hdb : (x == ("__debug__" : Str)) = false := by decide) (he : starEach (e :: es) X.env = (false, eval e X.env) :: starEach es X.env := by rfl) (hpl : (backTo pos (starEach es X.env)).any (·.1) = false := by rfl) :
    PE X (.Call (.Name x p) (e :: es) [] pos) (tCallR sp E t) := by
  refine ⟨fun pins s σ H Q I h => ?_⟩
  refine wpAny_Call_Name_kw (ld_glob I hg hm ?_ hdb)
  refine PySem.W.callWith_K (h₀ := X.base) I.ok.mod.kin hk (thn (ha.run pos pins s σ H _ I h) fun us s1 ⟨vs, H1, I1, r, q⟩ => ⟨I1.kIn, ?_⟩) he hpl
  refine wpAny_call (codeAny_mono (F X.A X.stack s1 H1 us vs Q E hr gd I1.env0 r q) fun r s' hq => ?_)
  cases r with
  | error e => exact hx pins σ H1 s1 e s' I1 hq
  | ok fl =>
    cases fl with
    | ret u => exact I1.after hq
    | next => exact False.elim hq
    | brk => exact False.elim hq
    | cont => exact False.elim hq

/-- repr of data: its text -/
def rReprD (K : PySem.W.Frag) : List V → Hp → VK → Prop := fun xs H Q => ∃ (x : V) (d : PyData), xs = [x] ∧ Dp K H x d ∧ d.showable = true ∧ d.hasDict = false ∧ d.depth ≤ 8 ∧ d.shown.length ≤ sizeLine ∧ Q (.str d.shown) H
theorem call_reprD (gd : X.A.guards = some []) (hu : X.A.units + 64 < cLine) : CallR X (.builtin "repr") (rReprD X.K) := by
  intro pins s σ H xs us Q I r h
  obtain ⟨x, d, rfl, hd, hs, hnd, hdp, hsz, q⟩ := h
  obtain ⟨u, rfl, ru⟩ := vals1 r
  have fin : ∀ (h' : Heap) (tk : Nat) (u : Tok), (∀ b o, s.heap.get? b = some o → h'.get? b = some o) → EP X pins σ Q (.str d.shown u) { s with heap := h', toks := tk } := fun h' tk u k => ⟨.str d.shown, H, I.kept (t' := tk) k, ⟨u, rfl⟩, q⟩
  cases hd with
  | non => cases ru; exact PySem.P.repr_of_none (fin s.heap _ _ fun _ _ e => e)
  | bl b => cases ru; exact PySem.P.repr_of_bool (by cases b <;> exact fin s.heap _ _ fun _ _ e => e)
  | int i =>
    obtain ⟨t, rfl⟩ := ru
    have hi : i.natAbs.log2 < 1920 := of_decide_eq_true hs
    exact PySem.P.repr_of_int hi (fin s.heap _ _ fun _ _ e => e)
  | str z => obtain ⟨t, rfl⟩ := ru; exact PySem.P.repr_of_str (fin s.heap _ _ fun _ _ e => e) hsz
  | @lst a zs ds hq ha =>
    cases ru
    obtain ⟨as, rd⟩ := Dp.reads I _ _ _ (.lst hq ha) rfl
    exact repr_of_reads' rd hs (PyData.noDict_hsm hnd) gd (by omega) (fun _ _ e => e) (fun h' u tk k => fin h' tk u k) hsz
  | @tup a zs ds hq ha =>
    cases ru
    obtain ⟨as, rd⟩ := Dp.reads I _ _ _ (.tup hq ha) rfl
    exact repr_of_reads' rd hs (PyData.noDict_hsm hnd) gd (by omega) (fun _ _ e => e) (fun h' u tk k => fin h' tk u k) hsz
end

/-! ### the end of a law whose def wants to know that nothing is being shown -/
section
variable {P : Program} {w : World} {K : PySem.W.Frag} {mg mb : Str → Option Value} {k : Nat} {fa a : Addr} {sp : Sp} {s1 : Shared} {vs : List Value} {ns : List Int}
/-- the call, from one abstract heap that tracks the script alone, or nothing -/
theorem end_from (KX : K.In s1.heap) (hns : s1.heap.Ns mainGlobals mg) (hb : s1.heap.Ns builtinsNs mb) (hbb : ∀ x : Str, x ≠ "__name__" → mb x = bootBuiltins x) (hlim : s1.heap.NoLimit) (hg : s1.gens = #[]) (hr : Room k callerA)
    (F : ∀ base : Heap, K.In base → base.Ns mainGlobals mg → FnG P w K mg base CX0 k fa sp) {H : Hp} (hO : Only H) (hok : HOk P w H s1.heap) (dom : ∀ b u, H b = some u → K.lookup b = none ∧ ∃ o items n, s1.heap.get? b = some o ∧ o.data = .seq items n)
    (hsp : sp [.ref a] H (fun v _ => v = .bl true) fun _ _ _ => False) :
    codeAny (model P w) callerA (.call (.ref fa) ⟨[.ref a], []⟩) (fun r s' => r = .ok (.ret (.bool true)) ∧ OldK s1.heap s'.heap ∧ s'.os = s1.os ∧ AllBare s'.gens) s1 := by
  let base := hidT s1.heap H
  have dicts : ∀ {b : Addr} {o : Obj} {es : Array DictEntry} {ep : Nat}, s1.heap.get? b = some o → o.data = .dict es ep → base.get? b = some o := fun {b o es ep} e d => by
    refine hidT_get e ?_
    cases q : H b with
    | none => rfl
    | some u =>
      obtain ⟨_, o2, items, n, e2, d2⟩ := dom b u q
      rw [e2] at e
      cases e
      rw [d2] at d
      cases d
  have names : ∀ {b : Addr} {m : Str → Option Value}, s1.heap.Ns b m → base.Ns b m := fun z => by
    obtain ⟨o, es, ep, e, d, r⟩ := z
    exact ⟨o, es, ep, dicts e d, d, r⟩
  have hK : K.In base := fun b o e => by
    refine hidT_get (KX b o e) ?_
    cases q : H b with
    | none => rfl
    | some u =>
      have z := (dom b u q).1
      rw [e] at z
      cases z
  have lim : base.NoLimit := by
    obtain ⟨m, h1, h2⟩ := hlim
    exact ⟨m, names h1, h2⟩
  have e0 : Env0 P w K mg base callerA [] s1 H :=
    { frames := rfl, mod := ⟨hK, names hns, ⟨mb, names hb, hbb⟩, lim⟩, bs := fun b o e => of_hidT e, bsz := Nat.le_of_eq (hidT_size _ _), funs := trivial, frf := fun b hb => (List.not_mem_nil hb).elim, hok := hok, bare := .of_eq hg }
  refine codeAny_mono (F base hK (names hns) callerA [] s1 H [.ref a] [.ref a] _ _ hr rfl e0 (.cons rfl .nil) hsp) fun r s' h => ?_
  cases r with
  | error e => exact False.elim h
  | ok fl =>
    cases fl with
    | ret u =>
      obtain ⟨v, H2, os, bare, un, ok2, rv, q⟩ := h
      subst q
      cases rv
      refine ⟨rfl, OldK.of_keep fun b o e => ?_, os, bare⟩
      cases q : H b with
      | none => exact un.keep b o e q (fun z => List.not_mem_nil z) (fun z => List.not_mem_nil z)
      | some u =>
        rcases hO b with z | ⟨ob, xs, z⟩
        · rw [q] at z
          cases z
        · have e1 := (hok b _ z).1
          have e2 := (ok2 b _ (un.frzs b ob _ z)).1
          rw [e] at e1
          cases e1
          exact e2
    | next => exact False.elim h
    | brk => exact False.elim h
    | cont => exact False.elim h
theorem end_callG (KX : K.In s1.heap) (hns : s1.heap.Ns mainGlobals mg) (hb : s1.heap.Ns builtinsNs mb) (hbb : ∀ x : Str, x ≠ "__name__" → mb x = bootBuiltins x) (hlim : s1.heap.NoLimit) (hg : s1.gens = #[]) (hr : Room k callerA)
    (ha : s1.heap.get? a = some { cls := .type "list", data := .seq vs.toArray }) (hi : IntsAre vs ns) (hl : ns.length ≤ sizeLine) (F : ∀ base : Heap, K.In base → base.Ns mainGlobals mg → FnG P w K mg base CX0 k fa sp)
    (hsp : ∀ H : Hp, Only H → SqL K H a (ns.map V.int) → sp [.ref a] H (fun v _ => v = .bl true) fun _ _ _ => False) :
    codeAny (model P w) callerA (.call (.ref fa) ⟨[.ref a], []⟩) (fun r s' => r = .ok (.ret (.bool true)) ∧ OldK s1.heap s'.heap ∧ s'.os = s1.os ∧ AllBare s'.gens) s1 := by
  have rv := vals_ints hi
  have hl2 : (ns.map V.int).length ≤ sizeLine := by rw [List.length_map]; exact hl
  cases hk : K.lookup a with
  | some o =>
    have e := KX a o hk
    rw [ha] at e
    cases e
    refine end_from KX hns hb hbb hlim hg hr F (H := fun _ => none) (fun _ => .inl rfl) (fun b u z => by cases z) (fun b u z => by cases z) (hsp _ (fun _ => .inl rfl) ?_)
    exact .inr ⟨_, vs.toArray, _, hk, rfl, rfl, rfl, by rw [List.size_toArray, hi.length]; exact hl, by simpa using rv⟩
  | none =>
    let o : Obj := { cls := .type "list", data := .seq vs.toArray }
    let H : Hp := fun b => if b = a then some (.frz o (.lst (ns.map V.int))) else none
    have H1 : H a = some (.frz o (.lst (ns.map V.int))) := if_pos rfl
    have H0 : ∀ b u, H b = some u → b = a ∧ u = .frz o (.lst (ns.map V.int)) := fun b u z => by
      by_cases e : b = a
      · subst e
        rw [H1] at z
        cases z
        exact ⟨rfl, rfl⟩
      · have z0 : H b = none := if_neg e
        rw [z0] at z
        cases z
    have hO : Only H := fun b => by
      by_cases e : b = a
      · subst e; exact .inr ⟨_, _, H1⟩
      · exact .inl (if_neg e)
    refine end_from KX hns hb hbb hlim hg hr F (H := H) hO (fun b u z => ?_) (fun b u z => ?_) (hsp _ hO (.inl (.inr ⟨_, H1⟩)))
    · obtain ⟨rfl, rfl⟩ := H0 b u z
      exact ⟨ha, hl2, vs, _, rv, ha⟩
    · obtain ⟨rfl, rfl⟩ := H0 b u z
      exact ⟨hk, _, _, _, ha, rfl⟩
end
theorem walk_ofG {l : PySem.W.OpenLaw} {n k : Nat} {q : Program} {loose : List Str} {XP : (Str → Option Value) → Heap → Prop} {YP : World → Heap → Prop} {d : DefRec} {K : Params → PySem.W.Frag} {sp : World → Sp}
    (hn : l.most = some n) (hn2 : n ≤ sizeLine) (hdf : d.params.defaults = []) (hr : Room k callerA) (hY : ∀ (w : World) (h : Heap), YP w h → (K w.params).In h)
    (F : ∀ (w : World) (mg : Str → Option Value) (fa : Addr) (h : Heap), (K w.params).In h → h.Ns mainGlobals mg → mg d.name = some (.ref fa) →
      ∀ base : Heap, (K w.params).In base → base.Ns mainGlobals mg → FnG l.prog w (K w.params) mg base CX0 k fa (sp w))
    (hsp : ∀ (w : World) (H : Hp) (a : Addr) (ns : List Int), ns.length ≤ n → Only H → SqL (K w.params) H a (ns.map V.int) → sp w [.ref a] H (fun v _ => v = .bl true) fun _ _ _ => False) :
    PySem.W.WalkO q loose XP YP l.row.toRowW d [] (fun f vs => PySem.call f vs) := by
  refine Att.attach_call hn hdf fun w s0 s1 mg mb fa o pm cd doc a vs ns G Y ho hd hcd hmg hobj hints hlen hg => ?_
  have KX := hY w _ Y
  exact end_callG KX G.T.g G.T.b G.T.builtins G.T.nolimit hg hr hobj hints (Nat.le_trans hlen hn2) (F w mg fa _ KX G.T.g hmg) fun H hO hS => hsp w H a ns hlen hO hS
end Ow
end
section
set_option maxHeartbeats 4000000
/-! Own errors with a def of their own that keeps the fields: raise C(e), raise C(e, e'). -/
namespace Ow
open PySem PySem.Spec PyProof.Rows L2 StX
section
variable {P : Program} {w : World} {K : PySem.W.Frag} {mg : Str → Option Value} {base : Heap} {x qual : Str} {st : Stmt} {f : Addr}
/-- a def without defaults that may let errors out -/
theorem FnT.okX {N ps : List Str} {k : Nat} {sp : Sp} (F : FnT K x qual st [] f) (S : FnScope N ps (defScope st))
    (hb : ∀ (kV doc pm : Value) (an : Option Addr) (cdv ct : Value) (us : List Value), us.length = ps.length → bindArgs (PySem.W.fnOf x qual (defArgs st) (defBody st) (defScope st) .none kV doc pm an cdv ct) ⟨us, []⟩ = pure (ps.zip us))
    (len : ∀ vs H Q E, sp vs H Q E → vs.length = ps.length)
    (hbody : ∀ (cdv : Value) (A : Around) (outer : List Env) (s : Shared) (H : Hp) (vs : List V) (Q : VK) (E : XK), Room k (A.deeper (envOfC qual (defScope st) s.heap.objs.size f cdv)) → sp vs H Q E →
      ∃ t, PSs (cxOf (CX P w) P w K mg base N qual (defScope st) f cdv A outer s H E) (defBody st) t ∧ t { nx := fun _ H' => Q .non H', rt := Q } (start N vs) H) : FnR P w K mg base (CX P w) (k + 1) f sp := by
  obtain ⟨fd, F⟩ := F
  have ok : FnOk P w K mg base (CX P w) (k + 1) f fd ps sp := F.ok S len hbody
  have b : Binds K fd ps [] := F.bindsN hb
  exact (ok.raw b .nil).imp fun vs H Q E h => by rw [List.append_nil]; exact h
/-- .. with defaults -/
theorem FnT.okDX {N ps : List Str} {k n j : Nat} {sp : Sp} {dvs : List V} (F : FnT K x qual st dvs f) (S : FnScope N ps (defScope st)) (hd : dvs ≠ []) (hn : n + (dvs.length - j) = ps.length)
    (hb : ∀ (T : Addr) (kV doc pm : Value) (an : Option Addr) (cdv ct : Value) (us its : List Value), us.length = n → its.length = dvs.length →
      ∃ k, bindArgs (PySem.W.fnOf x qual (defArgs st) (defBody st) (defScope st) (.ref T) kV doc pm an cdv ct) ⟨us, []⟩ = seqItems? (.ref T) >>= k ∧ k (some its.toArray) = pure (ps.zip (us ++ its.drop j)))
    (len : ∀ vs H Q E, sp vs H Q E → vs.length = ps.length)
    (hbody : ∀ (cdv : Value) (A : Around) (outer : List Env) (s : Shared) (H : Hp) (vs : List V) (Q : VK) (E : XK), Room k (A.deeper (envOfC qual (defScope st) s.heap.objs.size f cdv)) → sp vs H Q E →
      ∃ t, PSs (cxOf (CX P w) P w K mg base N qual (defScope st) f cdv A outer s H E) (defBody st) t ∧ t { nx := fun _ H' => Q .non H', rt := Q } (start N vs) H) : FnR P w K mg base (CX P w) (k + 1) f (fun vs H Q E => sp (vs ++ dvs.drop j) H Q E) := by
  obtain ⟨fd, F⟩ := F
  have ok : FnOk P w K mg base (CX P w) (k + 1) f fd ps sp := F.ok S len hbody
  obtain ⟨ds, hds, b⟩ := F.binds1 n j hd hn hb
  exact ok.raw b hds
/-- an own error's class, whose __init__ stands at g -/
structure ErrF (K : PySem.W.Frag) (C g : Addr) : Prop where
  ox : OexC K C
  iC : PySem.W.findIn K (.ref C) "__init__" = some (some (.ref g))
  tI : PySem.W.typeIn K (.ref g) = some (.type "function")
/-- __init__(self, v): self.f = v -/
def spErr1 (C : Addr) (n : Str) : Sp := fun vs H Q _ => ∃ (a : Addr) (v : V), vs = [.ref a, v] ∧ H a = some (exo a C none) ∧ ∀ dx, H dx = none → dx ≠ a → Q .non (upd (upd H dx (exd dx [(n, v)])) a (exo a C (some dx)))
/-- __init__(self, v, u): self.f = v; self.g = u -/
def spErr2 (C : Addr) (n m : Str) : Sp := fun vs H Q _ => ∃ (a : Addr) (v u : V), vs = [.ref a, v, u] ∧ H a = some (exo a C none) ∧ ∀ dx, H dx = none → dx ≠ a → Q .non (upd (upd H dx (exd dx [(m, u), (n, v)])) a (exo a C (some dx)))
theorem raise_heap {H : Hp} {a d : Addr} {C : Addr} {fs : List (Str × V)} (ha : H a = none) (hne : d ≠ a) :
    upd (del (upd (upd (upd H a (exo a C none)) d (exd d fs)) a (exo a C (some d))) a) d (.xd fs) = upd H d (.xd fs) := by
  funext b
  by_cases e : b = d
  · subst e; rw [upd_same, upd_same]
  · rw [upd_ne e, upd_ne e]
    by_cases e2 : b = a
    · subst e2
      rw [ha]
      exact if_pos rfl
    · show (if b = a then none else _) = _
      rw [if_neg e2, upd_ne e2, upd_ne e, upd_ne e2]
/-- what making such an error asks: the reading of pmk_oex, its fields told -/
theorem err1_made {Q : XK} {H1 : Hp} {v : V} {C : Addr} {n : Str} (k : ∀ d, H1 d = none → Q (.ref C) (some d) (upd H1 d (.xd [(n, v)]))) :
    [v].length ≤ 1000 ∧ ∀ a, H1 a = none → spErr1 C n (.ref a :: ([v] ++ [])) (upd H1 a (exo a C none)) (fun u H2 => u = .non ∧ ∃ (d : Addr) (fs : List (Str × V)), H2 a = some (exo a C (some d)) ∧ H2 d = some (exd d fs) ∧ H1 d = none ∧ Q (.ref C) (some d) (upd (del H2 a) d (.xd fs))) (fun _ _ _ => False) := by
  refine ⟨Nat.le_of_ble_eq_true rfl, fun a ha => ⟨a, v, rfl, upd_same, fun dx hdx ne => ⟨rfl, dx, _, upd_same, by rw [upd_ne ne]; exact upd_same, by rw [upd_ne ne] at hdx; exact hdx, ?_⟩⟩⟩
  rw [raise_heap ha ne]
  refine k dx ?_
  rw [upd_ne ne] at hdx
  exact hdx
theorem err2_made {Q : XK} {H1 : Hp} {v u : V} {C : Addr} {n m : Str} (k : ∀ d, H1 d = none → Q (.ref C) (some d) (upd H1 d (.xd [(m, u), (n, v)]))) :
    [v, u].length ≤ 1000 ∧ ∀ a, H1 a = none → spErr2 C n m (.ref a :: ([v, u] ++ [])) (upd H1 a (exo a C none)) (fun u H2 => u = .non ∧ ∃ (d : Addr) (fs : List (Str × V)), H2 a = some (exo a C (some d)) ∧ H2 d = some (exd d fs) ∧ H1 d = none ∧ Q (.ref C) (some d) (upd (del H2 a) d (.xd fs))) (fun _ _ _ => False) := by
  refine ⟨Nat.le_of_ble_eq_true rfl, fun a ha => ⟨a, v, u, rfl, upd_same, fun dx hdx ne => ⟨rfl, dx, _, upd_same, by rw [upd_ne ne]; exact upd_same, by rw [upd_ne ne] at hdx; exact hdx, ?_⟩⟩⟩
  rw [raise_heap ha ne]
  refine k dx ?_
  rw [upd_ne ne] at hdx
  exact hdx
/-- a def without defaults that lets nothing out: its promise by binds, for makings of errors -/
theorem FnT.okB {N ps : List Str} {k : Nat} {sp : Sp} (F : FnT K x qual st [] f) (S : FnScope N ps (defScope st))
    (hb : ∀ (kV doc pm : Value) (an : Option Addr) (cdv ct : Value) (us : List Value), us.length = ps.length → bindArgs (PySem.W.fnOf x qual (defArgs st) (defBody st) (defScope st) .none kV doc pm an cdv ct) ⟨us, []⟩ = pure (ps.zip us))
    (len : ∀ vs H Q E, sp vs H Q E → vs.length = ps.length)
    (hbody : ∀ (cdv : Value) (A : Around) (outer : List Env) (s : Shared) (H : Hp) (vs : List V) (Q : VK) (E : XK), Room k (A.deeper (envOfC qual (defScope st) s.heap.objs.size f cdv)) → sp vs H Q E →
      ∃ t, PSs (cxOf CX0 P w K mg base N qual (defScope st) f cdv A outer s H E).nox (defBody st) t ∧ t { nx := fun _ H' => Q .non H', rt := Q } (start N vs) H) : ∃ fd, FnOk P w K mg base CX0 (k + 1) f fd ps sp ∧ Binds K fd ps [] := by
  obtain ⟨fd, F⟩ := F
  exact ⟨fd, F.ok S len fun cdv A outer s H vs Q E hr hsp => by
    obtain ⟨t, h, q⟩ := hbody cdv A outer s H vs Q E hr hsp
    exact ⟨t, h.nox, q⟩, F.bindsN hb⟩
/-- v is no integer (a bool is none) -/
def NoInt (K : PySem.W.Frag) (H : Hp) (v : V) : Prop := (∃ b, v = .bl b) ∨ ∃ T : String, TyX K H v (.type T) ∧ PySem.W.kitOne K (.type T) (.type "int") = some false
theorem kit_bool_int {K : PySem.W.Frag} : PySem.W.kitOne K (.type "bool") (.type "int") = some true := kit_ty (by decide +kernel)
theorem NoInt.non {H : Hp} : NoInt K H .non := .inr ⟨_, .base .non, kit_ty (by decide +kernel)⟩
theorem NoInt.bl {H : Hp} {b : Bool} : NoInt K H (.bl b) := .inl ⟨b, rfl⟩
theorem NoInt.str {H : Hp} {z : Str} : NoInt K H (.str z) := .inr ⟨_, .base (.str z), kit_ty (by decide +kernel)⟩
theorem NoInt.lst {H : Hp} {l : Addr} {xs : List V} (h : H l = some (.lst xs)) : NoInt K H (.ref l) := .inr ⟨_, .base (.lst h), kit_ty (by decide +kernel)⟩
theorem NoInt.tup {H : Hp} {l : Addr} {xs : List V} (h : H l = some (.tup xs)) : NoInt K H (.ref l) := .inr ⟨_, .base (.tup h), kit_ty (by decide +kernel)⟩
theorem NoInt.dict {H : Hp} {l : Addr} {kvs : List (Key × V)} (h : H l = some (.dK kvs)) : NoInt K H (.ref l) := .inr ⟨_, .base (.dK h), kit_ty (by decide +kernel)⟩
/-- is_int of any value -/
def spIntV (K : PySem.W.Frag) : Sp := fun vs H Q _ => ∃ v, vs = [v] ∧ ((∃ i : Int, v = .int i ∧ Q (.bl true) H) ∨ (NoInt K H v ∧ Q (.bl false) H))
/-- the error of the class at B lets out, with one field -/
def Out1 (B : Addr) (n : Str) (H : Hp) (E : XK) (v : V) : Prop := ∀ d, H d = none → E (.ref B) (some d) (upd H d (.xd [(n, v)]))
theorem TyOf.same {H H' : Hp} {v : V} {t : Value} (h : TyOf K H v t) (m : ∀ b o, H b = some o → H' b = some o) : TyOf K H' v t := by
  cases h with
  | non => exact .non
  | bl x => exact .bl x
  | int i => exact .int i
  | str x => exact .str x
  | flt x => exact .flt x
  | lst h => exact .lst (m _ _ h)
  | frz h => exact .frz (m _ _ h)
  | tup h => exact .tup (m _ _ h)
  | dK h => exact .dK (m _ _ h)
  | dT h => exact .dT (m _ _ h)
  | ins h c a b d e => exact .ins (m _ _ h) c a b d e
theorem TyX.same {H H' : Hp} {v : V} {t : Value} (h : TyX K H v t) (m : ∀ b o, H b = some o → H' b = some o) : TyX K H' v t := by
  cases h with
  | base h => exact .base (TyOf.same h m)
  | byt b => exact .byt b
  | set h => exact .set (m _ _ h)
  | kList h c => exact .kList h c
  | kTuple h c => exact .kTuple h c
  | kDict h c => exact .kDict h c
  | fTuple h => exact .fTuple (m _ _ h)
  | fDict h => exact .fDict (m _ _ h)
theorem NoInt.same {H H' : Hp} {v : V} (h : NoInt K H v) (m : ∀ b o, H b = some o → H' b = some o) : NoInt K H' v := by
  rcases h with h | ⟨t, h, q⟩
  · exact .inl h
  · exact .inr ⟨t, TyX.same h m, q⟩
/-- .. from a heap that has grown -/
def OutS (B : Addr) (n : Str) (H : Hp) (E : XK) (v : V) : Prop := ∀ H', (∀ b o, H b = some o → H' b = some o) → Out1 B n H' E v
end
/-- what a callee lets out leaves the def -/
theorem passUp {X : Cx} {E : XK} (tk : Takes X fun cls d _ H => E cls d H) : Passes (CX X.prog X.w) X E := fun pins σ H s e s' I h => passAt tk σ pins H s e s' I h
end Ow
end
section
set_option maxHeartbeats 4000000
/-! isinstance of a caught own error that keeps fields; what a def that tries its argument tells. -/
namespace Ow
open PySem PySem.Spec PyProof.Rows L2 StX
section
variable {X : Cx} {a : Addr} {oe : Obj} {cls : Value} {d : Option Addr} {pn : List (Addr × Obj)}
/-- isinstance(error, T): error the caught one, with its fields at dd -/
def rIsEX (K : PySem.W.Frag) (a : Addr) (cls : Value) (d : Option Addr) : List V → Hp → VK → Prop := fun xs H Q => ∃ (c : V) (cv : Value) (b : Bool) (D dd : Addr) (fs : List (Str × V)),
  xs = [.ref a, c] ∧ cls = .ref D ∧ ExcC K D ∧ (PySem.W.clsIn K D).isSome = true ∧ d = some dd ∧ H dd = some (.xd fs) ∧ (∀ u, RelV c u → u = cv) ∧ PySem.W.kitOne K (.ref D) cv = some b ∧ Q (.bl b) H
theorem call_isEX (hz : Zc cls d oe) (hf : ∃ vs, oe.data = .fields vs) : CallR (X.suite a ((a, oe) :: pn)) (.builtin "isinstance") (rIsEX X.K a cls d) := by
  intro pins s σ H xs us Q I r h
  obtain ⟨c, cv, b, D, dd, fs, rfl, rfl, C, hci, rfl, hdd, hcv, hk, q⟩ := h
  cases r with
  | cons rx r2 =>
    cases r2 with
    | cons rc r3 =>
      cases r3
      cases rx
      cases hcv _ rc
      obtain ⟨hget, _⟩ := I.pin (a, oe) (List.mem_append.mpr (.inl List.mem_cons_self))
      obtain ⟨vs, hv⟩ := hf
      obtain ⟨z1, z2⟩ := hz
      obtain ⟨od, hod⟩ : ∃ o, s.heap.get? dd = some o := by
        have := I.hok dd _ hdd
        obtain ⟨mA, ⟨o, _, _, e, _⟩, _⟩ := this
        exact ⟨o, e⟩
      have J : PySem.W.InstAt s.heap a oe D (some od) := ⟨hget, z1, by unfold PySem.W.notCls; rw [hv], by rw [z2]; exact hod⟩
      refine PySem.W.kia_one (PySem.W.kitx_exc (x := a) (ox := oe) (od := some od) hci C.hg C.hk C.hs C.ha C.hn C.ht C.hm) I.kIn J hk (fun z => by cases z) fun tk => ?_
      exact ⟨.bl b, H, I.kept fun _ _ e => e, rfl, q⟩
end
/-- return (z, ask()), ask a handed lambda that may raise -/
theorem ret_told {X : Cx} {f c' : Addr} {q z : Str} {tl : XK → Hp → VK → Prop} {W : WX} {n : Str} {j ct : Nat} {p0 p1 p2 pt ps : Pos}
    (act : ∀ E : XK, (∀ cls d σ' H', E cls d H' → W cls d σ' H') → PE X (.Call (.Name n p1) [] [] p2) (fun σZ HZ Q => σZ[0]? = some (some (.ref f)) ∧ HZ c' = some (LamX.CodeO c' q) ∧ tl E HZ Q)) :
    PSs X [.Return (some (.Tuple [.Constant (.str z) j p0, .Call (.Name n p1) [] [] p2] ct pt)) ps] (fun D σ H => ∃ Ech : XK, (∀ cls d σ' H', Ech cls d H' → W cls d σ' H') ∧ σ[0]? = some (some (.ref f)) ∧ H c' = some (LamX.CodeO c' q) ∧
      tl Ech H (fun v H1 => [V.str z, v].length ≤ sizeLine ∧ ∀ p, H1 p = none → D.rt (.ref p) (upd H1 p (.tup [.str z, v])))) := by
  refine ⟨fun pins s' σ H' D I ⟨Ech, hW, h1, h2, h3⟩ => ?_⟩
  exact (pss_one (ps_ret (pe_tup (pa_cons pe_str (pa_cons (act Ech hW) pa_nil))))).run pins s' σ H' D I ⟨h1, h2, h3⟩
/-- as many slots as names stand at each statement -/
theorem pss_len {X : Cx} {b : List Stmt} {t : TS} (n : Nat) (hn : X.N.length = n) (h : PSs X b t) : PSs X b (fun D σ H => σ.length = n → t D σ H) := ⟨fun pins s σ H D I q => h.run pins s σ H D I (q (I.len.trans hn))⟩
/-- an own class against another one -/
theorem kit_err {K : PySem.W.Frag} {C : Addr} {t : Value} {b : Bool} (hi : (PySem.W.clsIn K C).isSome = true) (ht : PySem.W.typeIn K (.ref C) = some (.type "type")) (h : PySem.W.subIn K t (.ref C) = some b) (hb : (t == Value.ref C) = false) : PySem.W.kitOne K t (.ref C) = some b := by
  unfold PySem.W.kitOne
  rw [if_neg (by rw [hb]; exact Bool.false_ne_true)]
  show (if ((PySem.W.clsIn K C).isSome && PySem.W.typeIn K (.ref C) == some (.type "type")) = true then PySem.W.subIn K t (.ref C) else none) = some b
  rw [hi, ht]
  rw [if_pos (by rfl)]
  exact h
end Ow
end
section
set_option maxHeartbeats 4000000
/-! A comparison of an own instance with a value of another kind. -/
namespace Ow
open PySem PySem.Spec PyProof.Rows L2 StX
section
variable {X : Cx} {CX : CXT} {n : Nat} {C g : Addr} {sp : Sp} {E : XK}
/-- x op y: x an instance of C, y of the type t, that is not below C -/
def rBinT (K : PySem.W.Frag) (C : Addr) (sp : Sp) (E : XK) : R2 := fun x y H Q => ∃ (a : Addr) (t : Value), x = .ref a ∧ InsAt H a C ∧ TyX K H y t ∧ PySem.W.notFirst K C t = true ∧ sp [x, y] H Q E
theorem op_cmpT {op : CmpOp} (hop : ∀ a b, compareOp op a b = richCompare op a b) (hs : PySem.W.findIn X.K (.ref C) (cmpInfo op).2.1 = some (some (.ref g))) (hf : PySem.W.isFn X.K (.ref g) = true)
    (F : FnR X.prog X.w X.K X.mg X.base CX n g sp) (hr : Room n X.A) (hx : Passes CX X E) : OpR X (compareOp op) (rBinT X.K C sp E) := by
  intro pins s σ H x y v u Q I rx ry h
  obtain ⟨a, t, rfl, ha, ht, hn, q⟩ := h
  cases (show v = Value.ref a from rx)
  obtain ⟨ox, od, J⟩ := inst_of I ha
  obtain ⟨m, hF⟩ := I.fr
  obtain ⟨Pk, k, hk, _⟩ := kit_of I ry ht
  rw [hop]
  refine PySem.W.cmp_K (op := op) (tb := t) hr.units0 hF I.ok.mod.kin J (k.ty _ _ I.kIn hk) hn hs hf ?_
  refine wpAny_mono (wpAny_call (run_fnR (us := [.ref a, u]) (vs := [.ref a, y]) F hr hx I (.cons rfl (.cons ry .nil)) q)) (fun w s' z => ?_) fun _ _ x => x
  obtain ⟨z', H', I', rz, qz⟩ := z
  exact cmpbackR rz ⟨z', H', I', rz, qz⟩
theorem notFirst_of {K : PySem.W.Frag} {T : String} (h : PySem.W.subIn K (.type T) (.ref C) = some false) : PySem.W.notFirst K C (.type T) = true := by
  unfold PySem.W.notFirst
  rw [h]
  simp
end
end Ow
end
section
set_option maxHeartbeats 4000000
/-! A law whose def hands lambdas over: its code is told, and the code's table. -/
namespace Ow
open PySem PySem.Spec PyProof.Rows L2 StX
section
variable {P : Program} {w : World} {K : PySem.W.Frag} {mg : Str → Option Value} {base : Heap} {x qual : Str} {st : Stmt} {f c : Addr}
/-- a def of the text without defaults, its code at c -/
def FnC (K : PySem.W.Frag) (x qual : Str) (st : Stmt) (f c : Addr) : Prop := ∃ (oc : Value) (od an : Option Addr) (kV doc pm ct : Value) (osl : Array (Option Value)),
  K.lookup f = some ⟨oc, od, .func (PySem.W.fnOf x qual (defArgs st) (defBody st) (defScope st) .none kV doc pm an (.ref c) ct), osl⟩ ∧ PySem.W.codeIn K (.ref c) qual = true
theorem FnC.mk {oc : Value} {od an : Option Addr} {kV doc pm ct : Value} {osl : Array (Option Value)} (l : K.lookup f = some ⟨oc, od, .func (PySem.W.fnOf x qual (defArgs st) (defBody st) (defScope st) .none kV doc pm an (.ref c) ct), osl⟩) (h : PySem.W.codeIn K (.ref c) qual = true) : FnC K x qual st f c := ⟨oc, od, an, kV, doc, pm, ct, osl, l, h⟩
theorem FnC.ok {N ps : List Str} (F : FnC K x qual st f c) (S : FnScope N ps (defScope st))
    (hb : ∀ (kV doc pm : Value) (an : Option Addr) (cdv ct : Value) (us : List Value), us.length = ps.length → bindArgs (PySem.W.fnOf x qual (defArgs st) (defBody st) (defScope st) .none kV doc pm an cdv ct) ⟨us, []⟩ = pure (ps.zip us)) :
    ∃ fd : FuncData, (∀ (s : Shared) (us : List Value), us.length = ps.length → BindsTo s fd ⟨us, []⟩ (ps.zip us)) ∧ ∀ (P : Program) (w : World) (mg : Str → Option Value) (base : Heap) (k : Nat) (sp : Sp), (∀ vs H Q E, sp vs H Q E → vs.length = ps.length) →
      (∀ (A : Around) (outer : List Env) (s : Shared) (H : Hp) (vs : List V) (Q : VK) (E : XK), Room k (A.deeper (envOfC qual (defScope st) s.heap.objs.size f (.ref c))) → sp vs H Q E →
        ∃ t, PSs (cxOf CX0 P w K mg base N qual (defScope st) f (.ref c) A outer s H E).nox (defBody st) t ∧ t { nx := fun _ H' => Q .non H', rt := Q } (start N vs) H) → FnOk P w K mg base CX0 (k + 1) f fd ps sp := by
  obtain ⟨oc, od, an, kV, doc, pm, ct, osl, lk, hcd⟩ := F
  refine ⟨_, fun s us hu => BindsTo.of_eq (hb kV doc pm an (.ref c) ct us hu), fun P w mg base k sp len hbody => ⟨len, fun A outer s H args us vs Q E hr e0 b r hs => ?_⟩⟩
  refine LamX.run_ofS lk hcd S hr e0 b r (len _ _ _ _ hs) fun hr2 => ?_
  obtain ⟨t, h, q⟩ := hbody A outer s H vs Q E hr2 hs
  exact ⟨t, h.nox, q⟩
/-- a code object, its table at T -/
theorem codeHd_mk {h : Heap} {T : Addr} {od : Option Addr} {vs : Array Value} {osl : Array (Option Value)} {file : Str} {tf : Tok} {flags text : Int} {tg tt : Tok} {inF : Bool} (X : K.In h) (l : K.lookup c = some ⟨.type "code", od, .fields vs, osl⟩)
    (e1 : vs[11]? = some (.ref T)) (e2 : vs.getD 11 .none = .ref T) (e3 : vs.getD 18 .none = .str file tf) (e4 : vs.getD 7 .none = .int flags tg) (e5 : vs.getD 9 .none = .bool inF) (e6 : vs.getD 10 .none = .int text tt) (ne : c ≠ T) : PySem.W.CodeHd h c T :=
  ⟨_, vs, file, tf, flags, tg, inF, text, tt, X _ _ l, rfl, rfl, e1, e2, e3, e4, e5, e6, ne⟩
end
/-- a table is not of the written part -/
theorem km_none {K : Params → PySem.W.Frag} {as ts : List Addr} {e : ∀ P, as = (K P).map fun x => x.1} {w : World} {h : Heap} (_ : (PySem.W.kmHook K as e ts).says w h) {T : Addr} (n : as.contains T = false) : List.lookup T (K w.params) = none := by
  rw [List.lookup_eq_none_iff]
  intro p hp
  have m : p.1 ∈ as := by rw [e w.params]; exact List.mem_map.mpr ⟨p, hp, rfl⟩
  refine bne_iff_ne.mpr fun q => ?_
  rw [← q] at m
  have := List.contains_iff_mem.mpr m
  rw [n] at this
  cases this
end Ow
end
section
set_option maxHeartbeats 4000000
/-! A def with defaults and without keyword-only parameters, called by keywords. -/
namespace Ow
open PySem PySem.Spec PyProof.Rows L2 StX
section
variable {K : PySem.W.Frag} {x qual : Str} {params : Arguments} {body : List Stmt} {scope : PySem.Scope} {dvs : List V} {kws : List (Str × V)} {f : Addr} {fd : FuncData} {ps : List Str}
/-- n arguments by place, ks by keyword; g puts the defaults in -/
theorem kbnD (F : FunD K x qual params body scope dvs kws f fd) (n : Nat) (ks : List Str) (g : {α : Type} → List α → List α → List α → List α) (hd : dvs ≠ [])
    (hg : ∀ {vs ds zs : List V} {us its ws : List Value}, Vals vs us → Vals ds its → Vals zs ws → Vals (g vs ds zs) (g us its ws))
    (h : ∀ (T : Addr) (kV doc pm : Value) (an : Option Addr) (cdv ct : Value) (us its ws : List Value), us.length = n → its.length = dvs.length → ws.length = ks.length →
      ∃ k, bindArgs (PySem.W.fnOf x qual params body scope (.ref T) kV doc pm an cdv ct) ⟨us, ks.zip ws⟩ = seqItems? (.ref T) >>= k ∧ k (some its.toArray) = pure (ps.zip (g us its ws))) :
    ∃ its, KBn K fd ps n ks (fun us ws => g us its ws) fun vs zs => g vs dvs zs := by
  obtain ⟨oc, od, dV, kV, doc, pm, an, cdv, ct, osl, rfl, lk, hcd, hD, hK⟩ := F.ex
  rcases hD with ⟨e, _⟩ | ⟨_, T, o, its, m, rfl, lT, oT, rT⟩
  · exact absurd e hd
  refine ⟨its, ⟨fun s us ws X hu hw => ?_, fun r1 r2 => hg r1 rT r2⟩⟩
  obtain ⟨k, e1, e2⟩ := h T kV doc pm an cdv ct us its ws hu rT.length.symm hw
  exact BindsTo.of_looks fun M => by
    rw [e1]
    exact looks_items X lT oT (PySem.W.Looks.of_pure e2)
end
section
variable {X : Cx} {CX : CXT} {k : Nat} {f : Addr} {fd : FuncData} {ps ks : List Str} {sp : Sp} {E : XK} {x : Str} {p pos : Pos} {kws : List Keyword} {tk : TA} {g : List Value → List Value → List Value} {gV : List V → List V → List V}
/-- f(k=e, ..): by keywords alone -/
def tCallKO (m : Nat) (sp : Sp) (gV : List V → List V → List V) (E : XK) (tk : TA) : TE := fun σ H Q => tk σ H fun zs H2 => zs.length = m ∧ sp (gV [] zs) H2 Q E
theorem pe_callKO (F : FnOk X.prog X.w X.K X.mg X.base CX k f fd ps sp) (hr : Room k X.A) (hg : Gl X x) (hm : X.mg x = some (.ref f)) (hk : PySem.W.keepIn X.K (.ref f) = true) (hb : KBn X.K fd ps 0 ks g gV) (hx : Passes CX X E) (hkw : PK X kws tk)
    (hall : ((backToKw pos (keywordEach kws X.env)).all fun x => x.1.isSome) = true := by rfl) (hks : List.filterMap (fun x => x.1) (backToKw pos (keywordEach kws X.env)) = ks := by rfl) (hdb : (x == Str.ofString "__debug__") = false := by decide)
    (hpl : (((backTo pos (starEach [] X.env)).any fun x => x.1) || (backToKw pos (keywordEach kws X.env)).any fun x => x.1.isNone) = false := by rfl) :
    PE X (.Call (.Name x p) [] kws pos) (tCallKO ks.length sp gV E tk) := by
  refine ⟨fun pins s σ H Q I h => ?_⟩
  refine wpAny_Call_Name_kw (ld_glob I hg hm ?_ hdb)
  refine PySem.W.callWith_KW0 I.ok.mod.kin hk hall (thn (hkw.run pos pins s σ H _ I h) fun ws s2 z => ?_) hpl
  obtain ⟨zs, H2, I2, rz, l2, q2⟩ := z
  refine ⟨I2.kIn, ?_⟩
  rw [hks]
  exact run_fnN (us := []) (vs := []) F hr hb hx I2 .nil rz rfl l2 q2
end
end Ow
end
section
set_option maxHeartbeats 4000000
/-! `x in o`, `x not in o` and `str(o)` where o is an instance of an own class that defines them. -/
namespace Ow
open PySem PySem.Spec PyProof.Rows L2

theorem unlessNone_fn {K : PySem.W.Frag} {M : Model} {A : Around} {E : Value → Shared → Prop} {s : Shared} {x C f : Addr} {ox : Obj} {od : Option Obj} {name : Str} {args : List Value} {refuse : Sem Value} {Q : Option Value → Shared → Prop}
    (X : K.In s.heap) (I : PySem.W.InstAt s.heap x ox C od) (hs : PySem.W.findIn K (.ref C) name = some (some (.ref f))) (hf : PySem.W.typeIn K (.ref f) = some (.type "function"))
    (h : wpAny M A (call (.ref f) (.ref x :: args)) (fun v => Q (some v)) E s) : wpAny M A (callSpecialUnlessNone? (.ref x) name args refuse) Q E s :=
  wpAny_bind (wpAny_bind (I.type.here ((PySem.W.looks_findIn X hs).here (wpAny_holding (wpAny_bind ((PySem.W.bind_fn X _ hf).here (wpAny_bind (wpAny_mono h (fun _ _ z => wpAny_pure z) fun _ _ z => z))))))))

theorem contains_own {K : PySem.W.Frag} {M : Model} {A : Around} {E : Value → Shared → Prop} {s : Shared} {x C f : Addr} {ox : Obj} {od : Option Obj} {v : Value} {Q : Bool → Shared → Prop}
    (X : K.In s.heap) (I : PySem.W.InstAt s.heap x ox C od) (hs : PySem.W.findIn K (.ref C) "__contains__" = some (some (.ref f))) (hf : PySem.W.isFn K (.ref f) = true)
    (h : wpAny M A (call (.ref f) [.ref x, v]) (fun r s' => ∃ b, r = .bool b ∧ Q b s') E s) : wpAny M A (contains (.ref x) v) Q E s := by
  unfold contains
  refine wpAny_holding ?_
  refine wpAny_bind (m := specialOf (.ref x) "__contains__") (wpAny_bind (I.type.here ((PySem.W.looks_findIn X hs).here ?_)))
  dsimp only
  rw [if_neg (show ¬ (some (Value.ref f) == some Value.none) = true from fun z => by cases z)]
  refine wpAny_bind (m := callSpecialUnlessNone? (.ref x) (Str.ofString "__contains__") [v] _) (unlessNone_fn X I hs (beq_iff_eq.mp hf) (wpAny_mono h (fun r s' z => ?_) fun _ _ z => z))
  obtain ⟨b, rfl, q⟩ := z
  exact wpAny_truthy_bool q

section
variable {X : Cx} {CX : CXT} {n : Nat} {C g : Addr} {sp : Sp} {E : XK}
/-- x in o, o an instance of C -/
def rInO (C : Addr) (sp : Sp) (E : XK) (f : Bool → Bool) : R2 := fun x y H Q => ∃ a, y = .ref a ∧ InsAt H a C ∧ sp [y, x] H (fun v H' => ∃ b, v = .bl b ∧ Q (.bl (f b)) H') E
theorem op_inO (hs : PySem.W.findIn X.K (.ref C) "__contains__" = some (some (.ref g))) (hf : PySem.W.isFn X.K (.ref g) = true)
    (F : FnR X.prog X.w X.K X.mg X.base CX n g sp) (hr : Room n X.A) (hx : Passes CX X E) : OpR X (compareOp .In) (rInO C sp E id) := by
  intro pins s σ H x y v u Q I rx ry h
  obtain ⟨a, rfl, ha, q⟩ := h
  cases (show u = Value.ref a from ry)
  obtain ⟨ox, od, J⟩ := inst_of I ha
  obtain ⟨m, hF⟩ := I.fr
  refine wpAny_bind (contains_own (I.ok.mod.kin.keeps hF.keep) J hs hf ?_)
  refine wpAny_mono (wpAny_call (run_fnR (us := [.ref a, v]) (vs := [.ref a, x]) F hr hx I (.cons rfl (.cons rx .nil)) q)) (fun w s' z => ?_) fun _ _ x => x
  obtain ⟨z', H', I', rz, b, rfl, qz⟩ := z
  exact ⟨b, rz, wpAny_pure ⟨.bl b, H', I', rfl, qz⟩⟩
theorem op_notInO (hs : PySem.W.findIn X.K (.ref C) "__contains__" = some (some (.ref g))) (hf : PySem.W.isFn X.K (.ref g) = true)
    (F : FnR X.prog X.w X.K X.mg X.base CX n g sp) (hr : Room n X.A) (hx : Passes CX X E) : OpR X (compareOp .NotIn) (rInO C sp E fun b => !b) := by
  intro pins s σ H x y v u Q I rx ry h
  obtain ⟨a, rfl, ha, q⟩ := h
  cases (show u = Value.ref a from ry)
  obtain ⟨ox, od, J⟩ := inst_of I ha
  obtain ⟨m, hF⟩ := I.fr
  refine wpAny_bind (contains_own (I.ok.mod.kin.keeps hF.keep) J hs hf ?_)
  refine wpAny_mono (wpAny_call (run_fnR (us := [.ref a, v]) (vs := [.ref a, x]) F hr hx I (.cons rfl (.cons rx .nil)) q)) (fun w s' z => ?_) fun _ _ x => x
  obtain ⟨z', H', I', rz, b, rfl, qz⟩ := z
  exact ⟨b, rz, wpAny_pure ⟨.bl (!b), H', I', rfl, qz⟩⟩
/-- a callee runs further down than the body -/
theorem run_fnRS {pins : List (Addr × Obj)} {σ : L2.St} {H : Hp} {s : Shared} {A : Around} {Q : VK} {us : List Value} {vs : List V} (F : FnR X.prog X.w X.K X.mg X.base CX n g sp) (hr : Room n A) (hfr : A.frames = X.A.frames) (hx : Passes CX X E) (I : Inv X pins σ H s) (r : Vals vs us) (h : sp vs H Q E) :
    codeAny (model X.prog X.w) A (.call (.ref g) ⟨us, []⟩) (fun r s' => match r with | .ok (.ret v) => EP X pins σ Q v s' | .ok _ => False | .error e => X.xe e s') s := by
  have e0 : Env0 X.prog X.w X.K X.mg X.base A X.stack s H := by
    have e := I.env0
    exact ⟨by rw [hfr]; exact e.frames, e.mod, e.bs, e.bsz, e.funs, e.frf, e.hok, e.bare⟩
  refine codeAny_mono (F A X.stack s H us vs Q E hr e0 r h) fun r s' hq => ?_
  cases r with
  | error e => exact hx pins σ H s e s' I hq
  | ok fl =>
    cases fl with
    | ret u => exact I.after hq
    | next => exact False.elim hq
    | brk => exact False.elim hq
    | cont => exact False.elim hq
/-- str(o), o an instance of C that has a __str__ -/
def rStrO (C : Addr) (sp : Sp) (E : XK) : List V → Hp → VK → Prop := fun xs H Q => ∃ a, xs = [.ref a] ∧ InsAt H a C ∧ sp [.ref a] H (fun v H' => ∃ t, v = .str t ∧ Q (.str t) H') E
theorem call_strO (hs : PySem.W.findIn X.K (.ref C) "__str__" = some (some (.ref g))) (hf : PySem.W.isFn X.K (.ref g) = true)
    (F : FnR X.prog X.w X.K X.mg X.base CX n g sp) (hr : Room (n + 2) X.A) (hx : Passes CX X E) : CallR X (.type "str") (rStrO C sp E) := by
  intro pins s σ H xs us Q I r h
  obtain ⟨a, rfl, ha, q⟩ := h
  obtain ⟨u, rfl, ru⟩ := vals1 r
  cases (show u = Value.ref a from ru)
  obtain ⟨ox, od, J⟩ := inst_of I ha
  obtain ⟨m, hF⟩ := I.fr
  refine PySem.W.kso_call hr.in1.in1.units0 (I.ok.mod.kin.keeps hF.keep) J hs hf ?_
  refine wpAny_mono (wpAny_call (run_fnRS (us := [.ref a]) (vs := [.ref a]) F hr.in1.in1 rfl hx I (.cons rfl .nil) q)) (fun w s' z => ?_) fun _ _ x => x
  obtain ⟨z', H', I', rz, t, rfl, qz⟩ := z
  obtain ⟨tk, rfl⟩ := rz
  exact ⟨.str t, H', I', ⟨tk, rfl⟩, qz⟩
end
end Ow
end
section
set_option maxHeartbeats 4000000
/-! The end of a law whose def hands lambdas over and asks repr of containers: nothing is being shown, and the codes' tables are told. -/
namespace Ow
open PySem PySem.Spec PyProof.Rows L2 StX
section
variable {P : Program} {w : World} {K : PySem.W.Frag} {mg mb : Str → Option Value} {k : Nat} {fa a c T : Addr} {sp : Sp} {s1 : Shared} {vs : List Value} {ns : List Int}
/-- a table that is still empty -/
abbrev tab0 : Obj := { cls := .none, data := .fields #[] }
/-- what stands in the abstract heap at the begin: the table, and perhaps the script -/
structure Begin (K : PySem.W.Frag) (h : Heap) (T : Addr) (H : Hp) : Prop where
  tab : H T = some (.tbl #[])
  rest : ∀ b, b ≠ T → H b = none ∨ ∃ o xs items n, H b = some (.frz o (.lst xs)) ∧ K.lookup b = none ∧ h.get? b = some o ∧ o.data = .seq items n
theorem end_fromT (KX : K.In s1.heap) (hns : s1.heap.Ns mainGlobals mg) (hb : s1.heap.Ns builtinsNs mb) (hbb : ∀ x : Str, x ≠ "__name__" → mb x = bootBuiltins x) (hlim : s1.heap.NoLimit) (hg : s1.gens = #[]) (hr : Room k callerA)
    (eT : s1.heap.get? T = some tab0) (nT : K.lookup T = none) (cT : PySem.W.CodeHd s1.heap c T)
    (main : ∃ (m : Addr) (o : Obj), mg "__builtins__" = some (.ref m) ∧ m ≠ builtinsNs ∧ s1.heap.get? m = some o ∧ o.cls = .type "module" ∧ o.dict = some builtinsNs ∧ o.data = .plain)
    (F : ∀ base : Heap, K.In base → base.Ns mainGlobals mg → LamX.TabB base mg c T → FnG P w K mg base CX0 k fa sp) {H : Hp} (B : Begin K s1.heap T H) (hok : HOk P w H s1.heap)
    (hsp : sp [.ref a] H (fun v _ => v = .bl true) fun _ _ _ => False) :
    codeAny (model P w) callerA (.call (.ref fa) ⟨[.ref a], []⟩) (fun r s' => r = .ok (.ret (.bool true)) ∧ OldK s1.heap s'.heap ∧ s'.os = s1.os ∧ AllBare s'.gens) s1 := by
  let base := hidT s1.heap H
  have free : ∀ {b : Addr} {o : Obj}, s1.heap.get? b = some o → (∀ items n, o.data ≠ .seq items n) → o.data ≠ .fields #[] → base.get? b = some o := fun {b o} e d1 d2 => by
    refine hidT_get e ?_
    by_cases q : b = T
    · rw [q, eT] at e
      cases e
      exact (d2 rfl).elim
    · rcases B.rest b q with z | ⟨o2, xs, items, n, _, _, e2, z⟩
      · exact z
      · rw [e] at e2
        cases e2
        exact (d1 _ _ z).elim
  have names : ∀ {b : Addr} {m : Str → Option Value}, s1.heap.Ns b m → base.Ns b m := fun z => by
    obtain ⟨o, es, ep, e, d, r⟩ := z
    exact ⟨o, es, ep, free e (fun _ _ y => by rw [d] at y; cases y) (fun y => by rw [d] at y; cases y), d, r⟩
  have hK : K.In base := fun b o e => by
    refine hidT_get (KX b o e) ?_
    by_cases q : b = T
    · rw [q, nT] at e
      cases e
    · rcases B.rest b q with z | ⟨o2, xs, items, n, _, z, _⟩
      · exact z
      · rw [e] at z
        cases z
  have lim : base.NoLimit := by
    obtain ⟨m, h1, h2⟩ := hlim
    exact ⟨m, names h1, h2⟩
  have TB : LamX.TabB base mg c T := by
    refine ⟨?_, ?_, fun z => ?_⟩
    · obtain ⟨o, us, file, tf, flags, tg, inF, text, tt, e1, p1, p2, p3, p4, p5, p6, p7, p8, p9⟩ := cT
      exact ⟨o, us, file, tf, flags, tg, inF, text, tt, free e1 (fun _ _ y => by rw [p2] at y; cases y) (fun y => by rw [p2] at y; cases y; simp at p3), p1, p2, p3, p4, p5, p6, p7, p8, p9⟩
    · obtain ⟨m, o, q1, q2, q3, q4, q5, q6⟩ := main
      refine ⟨m, o, q1, q2, fun y => ?_, fun y => ?_, free q3 (fun _ _ y => by rw [q6] at y; cases y) (fun y => by rw [q6] at y; cases y), q4, q5, q6⟩
      · obtain ⟨og, es, ep, e, d, _⟩ := hns
        rw [y, e] at q3
        cases q3
        rw [q6] at d
        cases d
      · rw [y, eT] at q3
        cases q3
        cases q6
    · obtain ⟨og, es, ep, e, d, _⟩ := hns
      rw [z, eT] at e
      cases e
      cases d
  have e0 : Env0 P w K mg base callerA [] s1 H :=
    { frames := rfl, mod := ⟨hK, names hns, ⟨mb, names hb, hbb⟩, lim⟩, bs := fun b o e => of_hidT e, bsz := Nat.le_of_eq (hidT_size _ _), funs := trivial, frf := fun b hb => (List.not_mem_nil hb).elim, hok := hok, bare := .of_eq hg }
  refine codeAny_mono (F base hK (names hns) TB callerA [] s1 H [.ref a] [.ref a] _ _ hr rfl e0 (.cons rfl .nil) hsp) fun r s' h => ?_
  cases r with
  | error e => exact False.elim h
  | ok fl =>
    cases fl with
    | next => exact False.elim h
    | brk => exact False.elim h
    | cont => exact False.elim h
    | ret u =>
      obtain ⟨v, H2, os, bare, un, ok2, rv, q⟩ := h
      subst q
      cases rv
      have still : ∀ b o, b ≠ T → s1.heap.get? b = some o → s'.heap.get? b = some o := fun b o nb e => by
        rcases B.rest b nb with z | ⟨o2, xs, items, n, z, _⟩
        · exact un.keep b o e z (fun y => List.not_mem_nil y) (fun y => List.not_mem_nil y)
        · have e1 := (hok b _ z).1
          have e2 := (ok2 b _ (un.frzs b o2 _ z)).1
          rw [e] at e1
          cases e1
          exact e2
      obtain ⟨more, z⟩ := un.tbls T #[] B.tab
      have wide := ok2 T _ z
      refine ⟨rfl, ⟨fun b o e => ?_, fun b o e => ?_⟩, os, bare⟩
      · by_cases q : b = T
        · subst q
          rw [eT] at e
          cases e
          exact .inr (.inl ⟨(cT.tab eT).isCodeTable, rfl, #[], _, rfl, by rw [Array.empty_append]; exact wide⟩)
        · exact .inl (still b o q e)
      · by_cases q : b = T
        · subst q
          exact ⟨_, wide⟩
        · exact ⟨o, still b o q e⟩
theorem end_callT (KX : K.In s1.heap) (hns : s1.heap.Ns mainGlobals mg) (hb : s1.heap.Ns builtinsNs mb) (hbb : ∀ x : Str, x ≠ "__name__" → mb x = bootBuiltins x) (hlim : s1.heap.NoLimit) (hg : s1.gens = #[]) (hr : Room k callerA)
    (eT : s1.heap.get? T = some tab0) (nT : K.lookup T = none) (cT : PySem.W.CodeHd s1.heap c T)
    (main : ∃ (m : Addr) (o : Obj), mg "__builtins__" = some (.ref m) ∧ m ≠ builtinsNs ∧ s1.heap.get? m = some o ∧ o.cls = .type "module" ∧ o.dict = some builtinsNs ∧ o.data = .plain)
    (ha : s1.heap.get? a = some { cls := .type "list", data := .seq vs.toArray }) (hi : IntsAre vs ns) (hl : ns.length ≤ sizeLine) (F : ∀ base : Heap, K.In base → base.Ns mainGlobals mg → LamX.TabB base mg c T → FnG P w K mg base CX0 k fa sp)
    (hsp : ∀ H : Hp, H T = some (.tbl #[]) → SqL K H a (ns.map V.int) → sp [.ref a] H (fun v _ => v = .bl true) fun _ _ _ => False) :
    codeAny (model P w) callerA (.call (.ref fa) ⟨[.ref a], []⟩) (fun r s' => r = .ok (.ret (.bool true)) ∧ OldK s1.heap s'.heap ∧ s'.os = s1.os ∧ AllBare s'.gens) s1 := by
  have rv := vals_ints hi
  have hl2 : (ns.map V.int).length ≤ sizeLine := by rw [List.length_map]; exact hl
  have naT : a ≠ T := fun z => by
    rw [z, eT] at ha
    cases ha
  cases hk : K.lookup a with
  | some o =>
    have e := KX a o hk
    rw [ha] at e
    cases e
    let H : Hp := fun b => if b = T then some (.tbl #[]) else none
    have HT : H T = some (.tbl #[]) := if_pos rfl
    have HN : ∀ b, b ≠ T → H b = none := fun b n => if_neg n
    refine end_fromT KX hns hb hbb hlim hg hr eT nT cT main F (H := H) ⟨HT, fun b n => .inl (HN b n)⟩ (fun b u z => ?_) (hsp H HT ?_)
    · by_cases q : b = T
      · subst q
        rw [HT] at z
        cases z
        exact eT
      · rw [HN b q] at z
        cases z
    · exact .inr ⟨_, vs.toArray, _, hk, rfl, rfl, rfl, by rw [List.size_toArray, hi.length]; exact hl, by simpa using rv⟩
  | none =>
    let o : Obj := { cls := .type "list", data := .seq vs.toArray }
    let H : Hp := fun b => if b = a then some (.frz o (.lst (ns.map V.int))) else if b = T then some (.tbl #[]) else none
    have HA : H a = some (.frz o (.lst (ns.map V.int))) := if_pos rfl
    have HT : H T = some (.tbl #[]) := by show (if T = a then _ else _) = _; rw [if_neg (Ne.symm naT), if_pos rfl]
    have HN : ∀ b, b ≠ a → b ≠ T → H b = none := fun b n n2 => by show (if b = a then _ else _) = _; rw [if_neg n, if_neg n2]
    refine end_fromT KX hns hb hbb hlim hg hr eT nT cT main F (H := H) ⟨HT, fun b n => ?_⟩ (fun b u z => ?_) (hsp H HT (.inl (.inr ⟨_, HA⟩)))
    · by_cases q : b = a
      · subst q
        exact .inr ⟨o, _, _, _, HA, hk, ha, rfl⟩
      · exact .inl (HN b q n)
    · by_cases q : b = a
      · subst q
        rw [HA] at z
        cases z
        exact ⟨ha, hl2, vs, _, rv, ha⟩
      · by_cases q2 : b = T
        · subst q2
          rw [HT] at z
          cases z
          exact eT
        · rw [HN b q q2] at z
          cases z
end
/-- what is to be known of the law's promise at the head's heap -/
def LawT (l : PySem.W.OpenLaw) (w : World) (K : PySem.W.Frag) (k n : Nat) (mg : Str → Option Value) (fa : Addr) (h : Heap) : Prop :=
  ∃ (c T : Addr) (sp : Sp), h.get? T = some tab0 ∧ K.lookup T = none ∧ PySem.W.CodeHd h c T ∧
    (∀ (H : Hp) (a : Addr) (ns : List Int), ns.length ≤ n → H T = some (.tbl #[]) → SqL K H a (ns.map V.int) → sp [.ref a] H (fun v _ => v = .bl true) fun _ _ _ => False) ∧
    ∀ base : Heap, K.In base → base.Ns mainGlobals mg → LamX.TabB base mg c T → FnG l.prog w K mg base CX0 k fa sp
theorem walk_ofTG {l : PySem.W.OpenLaw} {n k : Nat} {q : Program} {loose : List Str} {XP : (Str → Option Value) → Heap → Prop} {YP : World → Heap → Prop} {d : DefRec} {K : Params → PySem.W.Frag}
    (hn : l.most = some n) (hn2 : n ≤ sizeLine) (hdf : d.params.defaults = []) (hr : Room k callerA) (hY : ∀ (w : World) (h : Heap), YP w h → (K w.params).In h)
    (F : ∀ (w : World) (mg : Str → Option Value) (fa : Addr) (h : Heap), YP w h → (K w.params).In h → h.Ns mainGlobals mg → mg d.name = some (.ref fa) → LawT l w (K w.params) k n mg fa h) :
    PySem.W.WalkO q loose XP YP l.row.toRowW d [] (fun f vs => PySem.call f vs) := by
  refine Att.attach_call hn hdf fun w s0 s1 mg mb fa o pm cd doc a vs ns G Y ho hd hcd hmg hobj hints hlen hg => ?_
  have KX := hY w _ Y
  obtain ⟨c, T, sp, eT, nT, cT, hsp, hF⟩ := F w mg fa _ Y KX G.T.g hmg
  exact end_callT KX G.T.g G.T.b G.T.builtins G.T.nolimit hg hr eT nT cT G.T.bmain hobj hints (Nat.le_trans hlen hn2) hF fun H hH hS => hsp H a ns hlen hH hS
end Ow
end
section
set_option maxHeartbeats 4000000
/-! A law's def, its code told, called while nothing is being shown; what stays when a lambda is made. -/
namespace Ow
open PySem PySem.Spec PyProof.Rows L2 StX
section
variable {P : Program} {w : World} {K : PySem.W.Frag} {mg : Str → Option Value} {base : Heap} {x qual : Str} {st : Stmt} {f c : Addr}
theorem FnC.okG {N ps : List Str} {k : Nat} {sp : Sp} (F : FnC K x qual st f c) (S : FnScope N ps (defScope st))
    (hb : ∀ (kV doc pm : Value) (an : Option Addr) (cdv ct : Value) (us : List Value), us.length = ps.length → bindArgs (PySem.W.fnOf x qual (defArgs st) (defBody st) (defScope st) .none kV doc pm an cdv ct) ⟨us, []⟩ = pure (ps.zip us))
    (len : ∀ vs H Q E, sp vs H Q E → vs.length = ps.length)
    (hbody : ∀ (A : Around) (outer : List Env) (s : Shared) (H : Hp) (vs : List V) (Q : VK) (E : XK), Room k (A.deeper (envOfC qual (defScope st) s.heap.objs.size f (.ref c))) → A.guards = some [] → sp vs H Q E →
      ∃ t, PSs (cxOf CX0 P w K mg base N qual (defScope st) f (.ref c) A outer s H E).nox (defBody st) t ∧ t { nx := fun _ H' => Q .non H', rt := Q } (start N vs) H) : FnG P w K mg base CX0 (k + 1) f sp := by
  obtain ⟨oc, od, an, kV, doc, pm, ct, osl, lk, hcd⟩ := F
  intro A outer s H us vs Q E hr hg e0 r hs
  have hv := len _ _ _ _ hs
  refine LamX.run_ofS lk hcd S hr e0 (BindsTo.of_eq (hb kV doc pm an (.ref c) ct us (r.length.symm.trans hv))) r hv fun hr2 => ?_
  obtain ⟨t, h, q⟩ := hbody A outer s H vs Q E hr2 hg hs
  exact ⟨t, h.nox, q⟩
end
section
variable {K : PySem.W.Frag} {H H' : Hp} {v : V} {t : Value}
theorem TyOf.extN (h : TyOf K H v t) (m : LamX.ExtN H H') : TyOf K H' v t := by
  cases h with
  | non => exact .non
  | bl x => exact .bl x
  | int i => exact .int i
  | str x => exact .str x
  | flt x => exact .flt x
  | lst h => exact .lst (m _ _ h fun _ z => by cases z)
  | frz h => exact .frz (m _ _ h fun _ z => by cases z)
  | tup h => exact .tup (m _ _ h fun _ z => by cases z)
  | dK h => exact .dK (m _ _ h fun _ z => by cases z)
  | dT h => exact .dT (m _ _ h fun _ z => by cases z)
  | ins h c a b d e => exact .ins (m _ _ h fun _ z => by cases z) c a b d e
theorem TyX.extN (h : TyX K H v t) (m : LamX.ExtN H H') : TyX K H' v t := by
  cases h with
  | base h => exact .base (TyOf.extN h m)
  | byt b => exact .byt b
  | set h => exact .set (m _ _ h fun _ z => by cases z)
  | kList h c => exact .kList h c
  | kTuple h c => exact .kTuple h c
  | kDict h c => exact .kDict h c
  | fTuple h => exact .fTuple (m _ _ h fun _ z => by cases z)
  | fDict h => exact .fDict (m _ _ h fun _ z => by cases z)
theorem NoInt.extN (h : NoInt K H v) (m : LamX.ExtN H H') : NoInt K H' v := by
  rcases h with h | ⟨t, h, q⟩
  · exact .inl h
  · exact .inr ⟨t, TyX.extN h m, q⟩
end
end Ow
end
section
set_option maxHeartbeats 4000000
/-! A def with defaults: its promise as FnOk, by place and by keywords. -/
namespace Ow
open PySem PySem.Spec PyProof.Rows L2 StX
section
variable {P : Program} {w : World} {K : PySem.W.Frag} {mg : Str → Option Value} {base : Heap} {CX : CXT} {x qual : Str} {params : Arguments} {body : List Stmt} {scope : PySem.Scope} {dvs : List V} {f : Addr} {fd : FuncData} {ps : List Str} {k : Nat} {sp : Sp}
/-- n arguments by place, the defaults behind the first j fill up -/
theorem posR (F : FunD K x qual params body scope dvs [] f fd) (ok : FnOk P w K mg base CX k f fd ps sp) (n j : Nat) (hd : dvs ≠ []) (hn : n + (dvs.length - j) = ps.length)
    (hb : ∀ (T : Addr) (kV doc pm : Value) (an : Option Addr) (cdv ct : Value) (us its : List Value), us.length = n → its.length = dvs.length →
      ∃ k, bindArgs (PySem.W.fnOf x qual params body scope (.ref T) kV doc pm an cdv ct) ⟨us, []⟩ = seqItems? (.ref T) >>= k ∧ k (some its.toArray) = pure (ps.zip (us ++ its.drop j))) : FnR P w K mg base CX k f (fun vs H Q E => sp (vs ++ dvs.drop j) H Q E) := by
  obtain ⟨ds, hds, b⟩ := F.binds1 n j hd hn hb
  exact ok.raw b hds
end
end Ow
end
section
set_option maxHeartbeats 4000000
/-! An instance called by keywords alone; a def without defaults called by keywords; a def called without arguments. -/
namespace Ow
open PySem PySem.Spec PyProof.Rows L2 StX
section
variable {K : PySem.W.Frag} {x qual : Str} {params : Arguments} {body : List Stmt} {scope : PySem.Scope} {f : Addr} {fd : FuncData} {ps ks : List Str} {n : Nat} {g : List Value → List Value → List Value} {gV : List V → List V → List V}
/-- keywords at a def without defaults -/
theorem kbn0 (F : FunD K x qual params body scope [] [] f fd) (hrel : ∀ {vs zs : List V} {us ws : List Value}, Vals vs us → Vals zs ws → Vals (gV vs zs) (g us ws))
    (hb : ∀ (kV doc pm : Value) (an : Option Addr) (cdv ct : Value) (us ws : List Value), us.length = n → ws.length = ks.length → bindArgs (PySem.W.fnOf x qual params body scope .none kV doc pm an cdv ct) ⟨us, ks.zip ws⟩ = pure (ps.zip (g us ws))) : KBn K fd ps n ks g gV := by
  obtain ⟨oc, od, dV, kV, doc, pm, an, cdv, ct, osl, rfl, lk, hcd, hD, hK⟩ := F.ex
  rcases hD with ⟨_, rfl⟩ | ⟨e, _⟩
  · exact ⟨fun s us ws _ hu hw => BindsTo.of_eq (hb kV doc pm an cdv ct us ws hu hw), hrel⟩
  · exact absurd rfl e
end
theorem callKW_of {M : Model} {A : Around} {E : Value → Shared → Prop} {s : Shared} {a : Addr} {p : Pos} {Q : Value → Shared → Prop} {as : List (Bool × Sem Value)} {kws : List (Option Str × Sem Value)} (np : (as.any (·.1) || kws.any (·.1.isNone)) = false)
    (h : wpAny M A (evalArgs (.ref a) true as kws) (fun z s1 => (∃ C ox od, PySem.W.InstAt s1.heap a ox C od ∧ ox.data = .plain) ∧ wpAny M A (call (.ref a) z.pos z.kw) Q E s1) E s) : wpAny M A (callWith p (.ref a) [] as kws) Q E s := by
  unfold callWith
  refine wpAny_bind (wpAny_holding (wpAny_mono h (fun z s1 y => wpAny_bind (wpAny_standAt ?_)) fun _ _ e => e))
  obtain ⟨⟨C, ox, od, J, hd⟩, y⟩ := y
  simp only [np]
  refine wpAny_bind ((PySem.W.kco_keeper (M := M) J hd).here ?_)
  exact wpAny_bind (wpAny_mono (wpAny_operateT y) (fun r s2 hr => wpAny_bind (wpAny_holding (wpAny_point (wpAny_pure hr)))) fun _ _ e => e)
section
variable {X : Cx} {CX : CXT} {k n : Nat} {f C : Addr} {fd : FuncData} {ps ks : List Str} {sp : Sp} {E : XK} {x : Str} {p pos : Pos} {fe : Expr} {kws : List Keyword} {tf : TE} {tk : TA} {g : List Value → List Value → List Value} {gV : List V → List V → List V}
/-- o(k=e, ..): o an expression that gives an instance of C -/
def tCallOK (X : Cx) (C : Addr) (m : Nat) (sp : Sp) (gV : List V → List V → List V) (E : XK) (tf : TE) (tk : TA) : TE := fun σ H Q => tf σ H fun y H1 => ∃ a, y = V.ref a ∧ tk σ H1 fun zs H2 => zs.length = m ∧ InsC X H2 a C ∧ sp (gV [V.ref a] zs) H2 Q E
theorem pe_callOK (hf : PE X fe tf) (c : CallO X.K C f) (F : FnOk X.prog X.w X.K X.mg X.base CX k f fd ps sp) (hr : Room k X.A) (hb : KBn X.K fd ps 1 ks g gV) (hx : Passes CX X E) (hkw : PK X kws tk)
    (ht : eval (.Call fe [] kws pos) X.env = (do callWith pos (← eval fe X.env) [] (backTo pos (starEach [] X.env)) (backToKw pos (keywordEach kws X.env))) := by rfl)
    (hall : ((backToKw pos (keywordEach kws X.env)).all fun x => x.1.isSome) = true := by rfl) (hks : List.filterMap (fun x => x.1) (backToKw pos (keywordEach kws X.env)) = ks := by rfl)
    (hpl : (((backTo pos (starEach [] X.env)).any fun x => x.1) || (backToKw pos (keywordEach kws X.env)).any fun x => x.1.isNone) = false := by rfl) : PE X (.Call fe [] kws pos) (tCallOK X C ks.length sp gV E tf tk) := by
  refine ⟨fun pins s σ H Q I h => ?_⟩
  rw [ht]
  refine wpAny_bind (thn (hf.run pins s σ H _ I h) fun u s1 ⟨y, H1, I1, ry, a, ey, q⟩ => ?_)
  subst ey
  obtain rfl : u = Value.ref a := ry
  refine callKW_of hpl (evalArgs_kw2_nil hall (thn (hkw.run pos pins s1 σ H1 _ I1 q) fun ws s2 ⟨zs, H2, I2, rz, l2, hi, q2⟩ => ?_))
  obtain ⟨ox, od, J, hd⟩ := insC_at I2 hi
  refine ⟨⟨C, ox, od, J, hd⟩, ?_⟩
  rw [hks]
  have r1 : Vals [V.ref a] [Value.ref a] := .cons rfl .nil
  refine wpAny_call (PySem.W.kco_code I2.kIn J hd c.at_ c.fn c.fi (codeAny_mono (F.run X.A X.stack s2 H2 ⟨[.ref a], ks.zip ws⟩ (g [.ref a] ws) (gV [.ref a] zs) Q E hr I2.env0 (hb.to s2 [.ref a] ws I2.kIn rfl (rz.length.symm.trans l2)) (hb.rel r1 rz) q2) fun r s' hq => ?_))
  cases r with
  | error e => exact hx pins σ H2 s2 e s' I2 hq
  | ok fl =>
    cases fl with
    | ret u => exact I2.after hq
    | next => exact False.elim hq
    | brk => exact False.elim hq
    | cont => exact False.elim hq
/-- o(e, ..), told without the context (for a lambda's body) -/
def tCallOI (C : Addr) (sp : Sp) (E : XK) (tf : TE) (t : TA) : TE := fun σ H Q => tf σ H fun y H1 => ∃ a, y = V.ref a ∧ t σ H1 fun vs H2 => InsAt H2 a C ∧ sp (V.ref a :: vs) H2 Q E
theorem pe_callOI {g : Addr} {e : Expr} {es : List Expr} {t : TA} (hf : PE X fe tf) (c : CallO X.K C g) (F : FnR X.prog X.w X.K X.mg X.base CX k g sp) (hr : Room k X.A) (hx : Passes CX X E) (ha : PA X (e :: es) t)
    (ht : eval (.Call fe (e :: es) [] pos) X.env = (do callWith pos (← eval fe X.env) [] (backTo pos (starEach (e :: es) X.env)) (backToKw pos (keywordEach [] X.env))) := by rfl)
    (he : starEach (e :: es) X.env = (false, eval e X.env) :: starEach es X.env := by rfl) (hpl : (backTo pos (starEach es X.env)).any (·.1) = false := by rfl) : PE X (.Call fe (e :: es) [] pos) (tCallOI C sp E tf t) := by
  constructor
  intro pins s σ H Q I h
  rw [ht]
  refine wpAny_bind (thn (hf.run pins s σ H _ I h) fun u s1 z => ?_)
  obtain ⟨y, H1, I1, ry, a, rfl, q⟩ := z
  obtain rfl : u = Value.ref a := ry
  refine callO_with (thn (ha.run pos pins s1 σ H1 _ I1 q) fun us s2 z => ?_) he hpl
  obtain ⟨vs, H2, I2, r, ⟨dx, fs, hi⟩, q2⟩ := z
  have hc : InsC X H2 a C := .inr ⟨dx, fs, hi⟩
  obtain ⟨ox, od, J, hd⟩ := insC_at I2 hc
  exact ⟨⟨C, ox, od, J, hd⟩, run_callO c F hr hx I2 hc r q2⟩
end
end Ow
end
section
set_option maxHeartbeats 4000000
/-! Own errors as values: made, by place or by keywords, their fields read, their classes asked. -/
namespace PySem
namespace OwX
open Builtin Builtin.ObjectAttr HandSPX
section
variable {M : Model} {A : Around} {E : Value → Shared → Prop} {h : Heap} {g : Array GenState} {d : Drawn} {t : Nat} {os : OsState}
variable {nm q : Str} {C N : Addr} {bs bm bmB : List Value} {hdct : Bool} {sn : List Str} {sub : List Value} {ab : Bool} {col : Option Bool} {dd : Option Addr} {k0 k1 k2 k3 k5 : Option Value} {B newId initId : String}
theorem check_new_kw (F : ExcBaseFacts B newId initId bmB) (hT : ∀ X : String, bm.contains (.type X) = bmB.contains (.type X)) {rest : List Value} {kw : List (Str × Value)} {Q : Unit → Shared → Prop}
    (hC : h.get? C = some (excClassObj nm q C N bs bm hdct sn sub ab col dd k0 k1 k2 k3 k5 newId)) (hq : Q () ⟨h, g, d, t, os⟩) : wpAny M A (checkBuiltinCall newId ⟨.ref C :: rest, kw⟩) Q E ⟨h, g, d, t, os⟩ := by
  have hcont : (Value.ref C :: bm).contains (.type B) = true := by rw [List.contains_cons, hT, F.hasB, Bool.or_true]
  have hstar := F.noStar
  simp only [checkBuiltinCall, F.newKind, F.newSplit, F.newRow]
  repeat (first | refine wpAny_loadPart_at hC ?_ | (refine wpAny_isSubtype_exc hC ?_; rw [hcont]) | refine wpAny_staticBase_exc hC ?_ | refine wpAny_madeBy_exc hC ?_ | simp only [bne_self_eq_false, Bool.false_eq_true, if_false] | wp_step)
  exact hq
end
section
variable {prog : Program} {w : World} {A : Around} {E : Value → Shared → Prop} {R : Result → Shared → Prop} {h : Heap} {g : Array GenState} {d : Drawn} {t : Nat} {os : OsState}
variable {nm q : Str} {C N : Addr} {bs bm bmB : List Value} {hdct : Bool} {sn : List Str} {sub : List Value} {ab : Bool} {col : Option Bool} {dd : Option Addr} {k0 k1 k2 k3 k5 : Option Value} {B newId initId : String}
theorem new_kw (F : ExcBaseFacts B newId initId bmB) (hT : ∀ X : String, bm.contains (.type X) = bmB.contains (.type X)) {rest : List Value} {kw : List (Str × Value)}
    (hC : h.get? C = some (excClassObj nm q C N bs bm hdct sn sub ab col dd k0 k1 k2 k3 k5 newId))
    (hq : R (.ok (.ret (.ref (h.objs.size + 1)))) ⟨(h.push { cls := .type "tuple", data := .seq rest.toArray }).push
      { cls := .ref C, data := .fields #[.ref h.objs.size, .none, .none, .none, .bool false, .none] }, g, d, t, os⟩) (hrest : rest.length ≤ sizeLine) :
    codeAny (model prog w) A (.builtin newId ⟨.ref C :: rest, kw⟩) R ⟨h, g, d, t, os⟩ := by
  have hends := F.ends
  have hcB : (Value.ref C :: bm).contains (.type B) = true := by rw [List.contains_cons, hT, F.hasB, Bool.or_true]
  have hcA : (Value.ref C :: bm).contains (.type "AttributeError") = false := by rw [List.contains_cons, hT, F.noAttr]; rfl
  have hcN : (Value.ref C :: bm).contains (.type "NameError") = false := by rw [List.contains_cons, hT, F.noName]; rfl
  refine codeAny_builtinAt F.entry ?_
  unfold Builtin.«BaseException.__new__»
  refine wpAt_bind ?_
  show wpAt _ _ _ (stack >>= _) _ _ _
  refine wpAt_bind (wpAt_stack fun p below => wpAt_of_wpAny ?_)
  wp_walk
  refine wpAt_of_wpAny ?_
  rw [F.owner]
  repeat (first | with_reducible refine wpAny_madeHere_exc F.canon hC ?_ | with_reducible refine wpAny_loadPart_at hC ?_ | (with_reducible refine wpAny_isSubtype_exc hC ?_; first | rw [hcB] | rw [hcA] | rw [hcN]) | wp_step)
  show R _ _
  rw [Heap.size_push]
  exact hq
theorem type_call_kw (F : ExcBaseFacts B newId initId bmB) (hT : ∀ X : String, bm.contains (.type X) = bmB.contains (.type X)) {rest : List Value} {kw : List (Str × Value)} {fI : Addr} {Q : Fin → Shared → Prop}
    (hC : h.get? C = some (excClassObj nm q C N bs bm hdct sn sub ab col dd k0 k1 k2 k3 k5 newId))
    (hi : W.Looks (model prog w) h (typeLookup (.ref C) "__init__") (some (.ref fI))) (hb : ∀ self, W.Looks (model prog w) h (bindSpecial (.ref fI) self) (.ref fI, [self])) (hrest : rest.length ≤ sizeLine)
    (hq : codeAny (model prog w) A (.call (.ref fI) ⟨.ref (h.objs.size + 1) :: rest, kw⟩)
      (fun r s' => match r with | .ok (.ret v) => v = .none ∧ Q (.done (.ret (.ref (h.objs.size + 1)))) s' | .ok _ => False | .error e => E e s')
      ⟨(h.push (W.kdv_tup rest)).push (excO C h.objs.size), g, d, t, os⟩) :
    wpAny (model prog w) A (Builtin.«type.__call__» ⟨.ref C :: rest, kw⟩) Q E ⟨h, g, d, t, os⟩ := by
  repeat (first | with_reducible refine wpAny_loadPart_at hC ?_ | with_reducible refine wpAny_madeBy_exc hC ?_ | wp_step)
  refine codeAny_call_builtin_code (Code.quiet_builtin _ F.quiet) (check_new_kw F hT hC ?_)
  refine new_kw F hT hC ?_ hrest
  show wpAny _ _ _ _ _ _
  have k : ∀ b o, h.get? b = some o → ((h.push (W.kdv_tup rest)).push (excO C h.objs.size)).get? b = some o := fun b o e => Heap.get?_push_of_some _ (Heap.get?_push_of_some _ e)
  have hC₁ := k _ _ hC
  have hget : ((h.push (W.kdv_tup rest)).push (excO C h.objs.size)).get? (h.objs.size + 1) = some (excO C h.objs.size) := by heap_get
  have hcC : (Value.ref C :: bm).contains (.ref C) = true := by simp
  have i1 := hi.keeps k
  have b1 := (hb (.ref (h.objs.size + 1))).keeps k
  unfold isInstance
  repeat (first | with_reducible refine wpAny_loadPart_at hget ?_ | (with_reducible refine wpAny_isSubtype_exc hC₁ ?_; rw [hcC]) | wp_step)
  show wpAny _ _ (typeLookup (.ref C) _) _ _ _
  refine i1.at ?_
  refine wpAny_holding (wpAny_bind (b1.at ?_))
  refine wpAny_bind (wpAny_call (codeAny_mono hq fun r s' z => ?_))
  rcases r with e | (v | _ | _ | _) <;> first | exact z | exact z.elim | skip
  obtain ⟨rfl, z⟩ := z
  first
    | exact wpAny_pure (wpAny_pure z)
    | (wp_walk; exact z)
theorem call_kw (F : ExcBaseFacts B newId initId bmB) (hT : ∀ X : String, bm.contains (.type X) = bmB.contains (.type X)) {rest : List Value} {kw : List (Str × Value)} {fI : Addr}
    (hC : h.get? C = some (excClassObj nm q C N bs bm hdct sn sub ab col dd k0 k1 k2 k3 k5 newId))
    (hi : W.Looks (model prog w) h (typeLookup (.ref C) "__init__") (some (.ref fI))) (hb : ∀ self, W.Looks (model prog w) h (bindSpecial (.ref fI) self) (.ref fI, [self])) (hrest : rest.length ≤ sizeLine)
    (hq : codeAny (model prog w) (A.under (.builtin "type.__call__" ⟨.ref C :: rest, kw⟩)) (.call (.ref fI) ⟨.ref (h.objs.size + 1) :: rest, kw⟩) (W.InitBack (h.objs.size + 1) R)
      ⟨(h.push (W.kdv_tup rest)).push (excO C h.objs.size), g, d, t, os⟩) :
    codeAny (model prog w) A (.call (.ref C) ⟨rest, kw⟩) R ⟨h, g, d, t, os⟩ := by
  have f1 := tc_lookup
  have f2 := tc_bind (.ref C)
  have hTy : (⟨h, g, d, t, os⟩ : Shared).TypeIs (.ref C) "type" := ⟨_, hC, rfl⟩
  refine codeAny_of_tree ?_
  show wpAny _ _ (callAny (.ref C) _) _ _ _
  repeat (any_goals (first | assumption | with_reducible refine wpAny_loadPart_at hC ?_ | wp_step))
  refine ⟨rfl, ?_⟩
  refine codeAny_call_builtin_at (Code.quiet_builtin _ (by decide +kernel)) entry_typeCall (wpAny_check_type_call_sub hC (type_call_kw F hT hC hi hb hrest ?_))
  refine codeAny_mono hq fun r s' z => ?_
  rcases r with e | (v | _ | _ | _) <;> exact z
end
end OwX
end PySem
namespace Ow
open PySem PySem.Spec PyProof.Rows L2 StX
section
variable {X : Cx} {CX : CXT} {x : Str} {C fI : Addr} {k n : Nat} {fd : FuncData} {ps ks : List Str} {sp : Sp} {ds : List Value} {dvs : List V} {E : XK} {p pos : Pos} {e : Expr} {es : List Expr} {kws : List Keyword} {ta tk : TA} {g : List Value → List Value → List Value} {gV : List V → List V → List V}
/-- C(e, ..): a new error, then its __init__; the error is the value -/
def tOex (C : Addr) (sp : Sp) (ta : TA) : TE := fun σ H Q => ta σ H fun vs H1 => vs.length ≤ 1000 ∧ ∀ a, H1 a = none → sp (.ref a :: vs) (upd H1 a (exo a C none)) (fun u H2 => u = .non ∧ Q (.ref a) H2) (fun _ _ _ => False)
theorem pe_oex (T : OexC X.K C) (iC : PySem.W.findIn X.K (.ref C) "__init__" = some (some (.ref fI))) (tI : PySem.W.typeIn X.K (.ref fI) = some (.type "function"))
    (F1 : FnR X.prog X.w X.K X.mg X.base CX (k + 1) fI sp) (hr : Room (k + 2) X.A) (hx : Passes CX X (fun _ _ _ => False)) (hg : Gl X x) (hm : X.mg x = some (.ref C)) (ha : PA X (e :: es) ta)
    (hdb : (x == ("__debug__" : Str)) = false := by decide) (he : starEach (e :: es) X.env = (false, eval e X.env) :: starEach es X.env := by rfl) (hpl : (backTo pos (starEach es X.env)).any (·.1) = false := by rfl) :
    PE X (.Call (.Name x p) (e :: es) [] pos) (tOex C sp ta) := by
  refine ⟨fun pins s σ H Q I h => ?_⟩
  obtain ⟨nm, q, N, bs, bm, sn, sub, ab, col, dd, k0, k1, k2, k3, k5, hC, hbm⟩ := T.cls
  refine wpAny_Call_Name_kw (ld_glob I hg hm ?_ hdb)
  refine PySem.W.callWith_K (h₀ := X.base) I.ok.mod.kin T.kC (thn (ha.run pos pins s σ H _ I h) fun us s1 ⟨vs, H1, I1, r1, hz, q1⟩ => ⟨I1.kIn, ?_⟩) he hpl
  show wpAny _ _ (call (.ref C) us) _ _ _
  obtain ⟨hp, g, dr, tk, os⟩ := s1
  have hsz : hp.objs.size ≤ hp.objs.size + 1 := Nat.le_succ _
  have hn : H1 (hp.objs.size + 1) = none := I1.hok.fresh hsz
  have hq := q1 (hp.objs.size + 1) hn
  have kk : ∀ b o, hp.get? b = some o → ((hp.push (PySem.W.kdv_tup us)).push (PySem.HandSPX.excO C hp.objs.size)).get? b = some o := fun b o e => Heap.get?_push_of_some _ (Heap.get?_push_of_some _ e)
  have hget : ((hp.push (PySem.W.kdv_tup us)).push (PySem.HandSPX.excO C hp.objs.size)).get? (hp.objs.size + 1) = some (PySem.HandSPX.excO C hp.objs.size) := by heap_get
  have I2 : Inv X pins σ (upd H1 (hp.objs.size + 1) (exo (hp.objs.size + 1) C none)) ⟨(hp.push (PySem.W.kdv_tup us)).push (PySem.HandSPX.excO C hp.objs.size), g, dr, tk, os⟩ :=
    I1.laid (t' := tk) (a := hp.objs.size + 1) (o := exo (hp.objs.size + 1) C none) (h' := (hp.push (PySem.W.kdv_tup us)).push (PySem.HandSPX.excO C hp.objs.size)) kk hsz (exo_ok hget)
  have r2 : Vals (V.ref (hp.objs.size + 1) :: vs) (Value.ref (hp.objs.size + 1) :: us) := .cons rfl r1
  have hus : us.length ≤ sizeLine := by
    rw [← Paired.length r1, sizeLine_eq]
    omega
  refine wpAny_call (PySem.HandSPX.call_own F.excBase_ValueError (fun Y => PySem.HandSPX.refsVE_contains Y bm hbm) (I1.kIn _ _ hC) (PySem.W.looks_findIn I1.kIn iC) (fun self => PySem.W.bind_fn I1.kIn self tI) hus
    (codeAny_mono (F1 _ X.stack _ _ (Value.ref (hp.objs.size + 1) :: us) _ _ (fun _ _ _ => False) (hr.make C us []) (I2.env0.make C us []) r2 hq) fun r s' hq' => ?_))
  cases r with
  | error er => exact hx pins σ _ _ er s' I2 hq'
  | ok fl =>
    cases fl with
    | ret u =>
      obtain ⟨v, H', I3, rv, ev, q3⟩ := I2.after hq'
      subst ev
      exact ⟨rv, V.ref (hp.objs.size + 1), H', I3, rfl, q3⟩
    | next => exact False.elim hq'
    | brk => exact False.elim hq'
    | cont => exact False.elim hq'
/-- C(k=e, ..): by keywords alone -/
def tOexK (C : Addr) (m : Nat) (gV : List V → List V → List V) (sp : Sp) (tk : TA) : TE := fun σ H Q => tk σ H fun zs H1 => zs.length = m ∧ ∀ a, H1 a = none → sp (gV [.ref a] zs) (upd H1 a (exo a C none)) (fun u H2 => u = .non ∧ Q (.ref a) H2) (fun _ _ _ => False)
theorem pe_oexK (T : OexC X.K C) (iC : PySem.W.findIn X.K (.ref C) "__init__" = some (some (.ref fI))) (tI : PySem.W.typeIn X.K (.ref fI) = some (.type "function"))
    (F1 : FnOk X.prog X.w X.K X.mg X.base CX k fI fd ps sp) (hr : Room (k + 1) X.A) (hb : KBn X.K fd ps 1 ks g gV) (hx : Passes CX X (fun _ _ _ => False)) (hg : Gl X x) (hm : X.mg x = some (.ref C)) (hkw : PK X kws tk)
    (hall : (backToKw pos (keywordEach kws X.env)).all (·.1.isSome) = true := by rfl) (hks : (backToKw pos (keywordEach kws X.env)).filterMap (·.1) = ks := by rfl) (hdb : (x == ("__debug__" : Str)) = false := by decide)
    (hpl : ((backTo pos (starEach [] X.env)).any (·.1) || (backToKw pos (keywordEach kws X.env)).any (·.1.isNone)) = false := by rfl) :
    PE X (.Call (.Name x p) [] kws pos) (tOexK C ks.length gV sp tk) := by
  refine ⟨fun pins s σ H Q I h => ?_⟩
  obtain ⟨nm, q, N, bs, bm, sn, sub, ab, col, dd, k0, k1, k2, k3, k5, hC, hbm⟩ := T.cls
  refine wpAny_Call_Name_kw (ld_glob I hg hm ?_ hdb)
  refine PySem.W.callWith_KW0 (h₀ := X.base) I.ok.mod.kin T.kC hall (thn (hkw.run pos pins s σ H _ I h) fun ws s1 ⟨zs, H1, I1, rz, l2, q1⟩ => ⟨I1.kIn, ?_⟩) hpl
  rw [hks]
  show wpAny _ _ (call (.ref C) [] (ks.zip ws)) _ _ _
  obtain ⟨hp, g0, dr, tk, os⟩ := s1
  have hsz : hp.objs.size ≤ hp.objs.size + 1 := Nat.le_succ _
  have hn : H1 (hp.objs.size + 1) = none := I1.hok.fresh hsz
  have hq := q1 (hp.objs.size + 1) hn
  have kk : ∀ b o, hp.get? b = some o → ((hp.push (PySem.W.kdv_tup [])).push (PySem.HandSPX.excO C hp.objs.size)).get? b = some o := fun b o e => Heap.get?_push_of_some _ (Heap.get?_push_of_some _ e)
  have hget : ((hp.push (PySem.W.kdv_tup [])).push (PySem.HandSPX.excO C hp.objs.size)).get? (hp.objs.size + 1) = some (PySem.HandSPX.excO C hp.objs.size) := by heap_get
  have I2 : Inv X pins σ (upd H1 (hp.objs.size + 1) (exo (hp.objs.size + 1) C none)) ⟨(hp.push (PySem.W.kdv_tup [])).push (PySem.HandSPX.excO C hp.objs.size), g0, dr, tk, os⟩ :=
    I1.laid (t' := tk) (a := hp.objs.size + 1) (o := exo (hp.objs.size + 1) C none) (h' := (hp.push (PySem.W.kdv_tup [])).push (PySem.HandSPX.excO C hp.objs.size)) kk hsz (exo_ok hget)
  have r1 : Vals [V.ref (hp.objs.size + 1)] [Value.ref (hp.objs.size + 1)] := .cons rfl .nil
  refine wpAny_call (PySem.OwX.call_kw F.excBase_ValueError (fun Y => PySem.HandSPX.refsVE_contains Y bm hbm) (I1.kIn _ _ hC) (PySem.W.looks_findIn I1.kIn iC) (fun self => PySem.W.bind_fn I1.kIn self tI) (Nat.zero_le _)
    (codeAny_mono (F1.run _ X.stack _ _ ⟨[Value.ref (hp.objs.size + 1)], ks.zip ws⟩ (g [Value.ref (hp.objs.size + 1)] ws) _ _ (fun _ _ _ => False) (hr.make C [] (ks.zip ws)) (I2.env0.make C [] (ks.zip ws)) (hb.to _ [Value.ref (hp.objs.size + 1)] ws I2.kIn rfl (rz.length.symm.trans l2)) (hb.rel r1 rz) hq) fun r s' hq' => ?_))
  cases r with
  | error er => exact hx pins σ _ _ er s' I2 hq'
  | ok fl =>
    cases fl with
    | ret u =>
      obtain ⟨v, H', I3, rv, ev, q3⟩ := I2.after hq'
      subst ev
      exact ⟨rv, V.ref (hp.objs.size + 1), H', I3, rfl, q3⟩
    | next => exact False.elim hq'
    | brk => exact False.elim hq'
    | cont => exact False.elim hq'
/-- o.f, o an own error that keeps fields -/
def tXfV (K : PySem.W.Frag) (n : Str) (te : TE) : TE := fun σ H Q => te σ H fun y H1 => ∃ (a C dd : Addr) (fs : List (Str × V)) (v : V), y = .ref a ∧ XfC K C ∧ PySem.W.findIn K (.ref C) n = some none ∧ H1 a = some (exo a C (some dd)) ∧ H1 dd = some (exd dd fs) ∧ fs.lookup n = some v ∧ Q v H1
theorem pe_xfV {te : TE} {n : Str} (he : PE X e te) (hb : attributeBase e n X.env (eval e X.env) = eval e X.env := by rfl) : PE X (.Attribute e n pos) (tXfV X.K n te) := by
  refine ⟨fun pins s σ H Q I h => ?_⟩
  refine attr_of hb (thn (he.run pins s σ H _ I h) fun u s1 hh => ?_)
  obtain ⟨y, H1, I1, ry, a, C, dd, fs, v, ey, T, hno, ea, ed, l, q⟩ := hh
  subst ey
  obtain rfl : u = Value.ref a := ry
  obtain ⟨t1, ha⟩ := exo_at I1.hok ea
  obtain ⟨mA, hns, hr⟩ := exd_at I1.hok ed
  obtain ⟨od, ho, hl⟩ := lookIn_ns hns
  obtain ⟨u, hu, ru⟩ := RelO.some_of (v := v) (o := mA n) (by rw [← l]; exact hr n)
  have J : PySem.W.InstAt s1.heap a _ C (some od) := ⟨ha, rfl, rfl, ho⟩
  exact HandSPX.exc_get I1.kIn J T.ga T.gg T.exC (PySem.W.findObj_own T.hdC hno rfl (by rw [hl, hu])) (handed_of ru) ⟨v, H1, I1.tok _, ru, q⟩
/-- isinstance(o, T), o an own error with or without fields -/
def rIsXV (K : PySem.W.Frag) : List V → Hp → VK → Prop := fun xs H Q => ∃ (a C : Addr) (d : Option Addr) (c : V) (cv : Value) (b : Bool), xs = [.ref a, c] ∧ H a = some (exo a C d) ∧ (∀ dd, d = some dd → ∃ fs, H dd = some (exd dd fs)) ∧ ExcC K C ∧ (PySem.W.clsIn K C).isSome = true ∧ (∀ u, RelV c u → u = cv) ∧ PySem.W.kitOne K (.ref C) cv = some b ∧ Q (.bl b) H
theorem call_isXV : CallR X (.builtin "isinstance") (rIsXV X.K) := by
  intro pins s σ H xs us Q I r h
  obtain ⟨a, C, d, c, cv, b, rfl, ea, ed, T, hci, hcv, hk, q⟩ := h
  cases r with
  | cons rx r2 =>
    cases r2 with
    | cons rc r3 =>
      cases r3
      cases rx
      cases hcv _ rc
      obtain ⟨t1, ha⟩ := exo_at I.hok ea
      have J : ∃ od, PySem.W.InstAt s.heap a ({ cls := .ref C, dict := d, data := .fields #[.ref t1, .none, .none, .none, .bool false, .none] } : Obj) C od := by
        cases d with
        | none => exact ⟨none, ha, rfl, rfl, True.intro⟩
        | some dd =>
          obtain ⟨fs, hd⟩ := ed dd rfl
          obtain ⟨mA, hns, hr⟩ := exd_at I.hok hd
          obtain ⟨od, ho, hl⟩ := lookIn_ns hns
          exact ⟨some od, ha, rfl, rfl, ho⟩
      obtain ⟨od, J⟩ := J
      refine PySem.W.kia_one (PySem.W.kitx_exc (x := a) (od := od) hci T.hg T.hk T.hs T.ha T.hn T.ht T.hm) I.kIn J hk (fun z => by cases z) fun tk => ?_
      exact ⟨.bl b, H, I.kept fun _ _ e => e, rfl, q⟩
end
end Ow
end
section
set_option maxHeartbeats 4000000
/-! repr of data with dicts, where the table of modules is known to stand. -/
namespace Ow
open PySem PySem.Spec PyProof.Rows L2 StX
def keyD : Key → PyData
  | .inl i => .int i
  | .inr x => .str x
mutual
inductive Dq (K : PySem.W.Frag) (H : Hp) : V → PyData → Prop
  | non : Dq K H .non .none
  | bl (b : Bool) : Dq K H (.bl b) (.bool b)
  | int (i : Int) : Dq K H (.int i) (.int i)
  | str (x : Str) : Dq K H (.str x) (.str x)
  | lst {a : Addr} {xs : List V} {ds : List PyData} : SqL K H a xs → DqAll K H xs ds → Dq K H (.ref a) (.list ds)
  | tup {a : Addr} {xs : List V} {ds : List PyData} : SqT K H a xs → DqAll K H xs ds → Dq K H (.ref a) (.tuple ds)
  | dic {a : Addr} {kvs : List (Key × V)} {ds : List (PyData × PyData)} : H a = some (.dK kvs) → DqPs K H kvs ds → Dq K H (.ref a) (.dict ds)
inductive DqAll (K : PySem.W.Frag) (H : Hp) : List V → List PyData → Prop
  | nil : DqAll K H [] []
  | cons {v : V} {vs : List V} {d : PyData} {ds : List PyData} : Dq K H v d → DqAll K H vs ds → DqAll K H (v :: vs) (d :: ds)
inductive DqPs (K : PySem.W.Frag) (H : Hp) : List (Key × V) → List (PyData × PyData) → Prop
  | nil : DqPs K H [] []
  | cons {k : Key} {v : V} {vs : List (Key × V)} {d : PyData} {ds : List (PyData × PyData)} : Dq K H v d → DqPs K H vs ds → DqPs K H ((k, v) :: vs) ((keyD k, d) :: ds)
end
/-- the table of modules stands in the base -/
def SysB (base : Heap) : Prop := ∃ m, base.Ns sysModules m
section
variable {X : Cx} {pins : List (Addr × Obj)} {σ : L2.St} {H : Hp} {s : Shared}
theorem SysB.lst {a : Addr} {its : Array Value} {n : Nat} {o : Obj} (S : SysB X.base) (I : Inv X pins σ H s) (h : s.heap.get? a = some o) (hd : o.data = .seq its n) : sysModules ≠ a := fun e => by
  obtain ⟨m, ob, es, ep, e1, e2, _⟩ := S
  have z := (I.env0.bs _ _ e1).1
  rw [e, h] at z
  cases z
  rw [hd] at e2
  cases e2
theorem key_reads {h : Heap} {k : Key} {v : Value} (e : keyIs k v = true) : Reads h v (keyD k) [] := by
  rcases keyIs_shape e with ⟨i, t, rfl, rfl⟩ | ⟨x, t, rfl, rfl⟩
  · exact Reads.int i t
  · exact Reads.str x t
mutual
theorem Dq.reads (I : Inv X pins σ H s) : ∀ (d : PyData) (v : V) (u : Value), Dq X.K H v d → RelV v u → ∃ as, Reads s.heap u d as ∧ (SysB X.base → sysModules ∉ as)
  | .none, _, _, h, r => by
    cases h
    cases r
    exact ⟨_, Reads.none, fun _ => List.not_mem_nil⟩
  | .bool b, _, _, h, r => by
    cases h
    cases r
    exact ⟨_, Reads.bool b, fun _ => List.not_mem_nil⟩
  | .int i, _, _, h, r => by
    cases h
    obtain ⟨t, rfl⟩ := r
    exact ⟨_, Reads.int i t, fun _ => List.not_mem_nil⟩
  | .str x, _, _, h, r => by
    cases h
    obtain ⟨t, rfl⟩ := r
    exact ⟨_, Reads.str x t, fun _ => List.not_mem_nil⟩
  | .list ds, _, _, h, r => by
    cases h with
    | lst hs ha =>
      cases r
      obtain ⟨its, rv, ⟨o, n, ho, hc, _, hd⟩, _⟩ := I.list hs
      obtain ⟨as, hr, hq⟩ := Dq.readsAll I ds _ its ha rv
      exact ⟨_, Reads.list ho hc hd hr, fun S z => by
        rcases List.mem_cons.mp z with e | e
        · exact S.lst I ho hd e
        · exact hq S e⟩
  | .tuple ds, _, _, h, r => by
    cases h with
    | tup hs ha =>
      cases r
      obtain ⟨its, rv, ⟨o, ho, hc, n, hd⟩, _⟩ := I.tuple hs
      obtain ⟨as, hr, hq⟩ := Dq.readsAll I ds _ its ha rv
      exact ⟨_, Reads.tuple ho hc hd hr, hq⟩
  | .dict ds, _, _, h, r => by
    cases h with
    | dic hs ha =>
      cases r
      obtain ⟨hlen, ns, vs, rv, o, es, ep, ho, hc, hd, _, hp, _⟩ := I.hok _ _ hs
      obtain ⟨as, bs, h1, h2, h3⟩ := Dq.readsPs I ds _ vs es.toList ha rv hp
      refine ⟨_, Reads.dict ho hc.1 hd h1 h2, fun S z => ?_⟩
      rcases List.mem_append.mp z with e | e
      · rcases List.mem_cons.mp e with e | e
        · rw [← e] at ns
          exact absurd ns (by decide)
        · exact (h3 S).1 e
      · exact (h3 S).2 e
theorem Dq.readsAll (I : Inv X pins σ H s) : ∀ (ds : List PyData) (vs : List V) (us : List Value), DqAll X.K H vs ds → Vals vs us → ∃ as, ReadsAll s.heap us ds as ∧ (SysB X.base → sysModules ∉ as)
  | [], _, _, h, r => by
    cases h
    cases r
    exact ⟨_, ReadsAll.nil, fun _ => List.not_mem_nil⟩
  | d :: ds, _, _, h, r => by
    cases h with
    | cons h1 h2 =>
      cases r with
      | cons r1 r2 =>
        obtain ⟨as, q1, s1⟩ := Dq.reads I d _ _ h1 r1
        obtain ⟨bs, q2, s2⟩ := Dq.readsAll I ds _ _ h2 r2
        exact ⟨_, ReadsAll.cons q1 q2, fun S z => (List.mem_append.mp z).elim (s1 S) (s2 S)⟩
theorem Dq.readsPs (I : Inv X pins σ H s) : ∀ (ds : List (PyData × PyData)) (kvs : List (Key × V)) (vs : List (Key × Value)) (es : List DictEntry), DqPs X.K H kvs ds → KV kvs vs → Pairs (mixKind X.prog X.w) es vs →
    ∃ as bs, ReadsAll s.heap (es.map (·.key)) (ds.map (·.1)) as ∧ ReadsAll s.heap (es.map (·.val)) (ds.map (·.2)) bs ∧ (SysB X.base → sysModules ∉ as ∧ sysModules ∉ bs)
  | [], _, _, _, h, r, p => by
    cases h
    cases r
    cases p
    exact ⟨_, _, ReadsAll.nil, ReadsAll.nil, fun _ => ⟨List.not_mem_nil, List.not_mem_nil⟩⟩
  | (kd, d) :: ds, _, _, _, h, r, p => by
    cases h with
    | cons h1 h2 =>
      cases r with
      | cons r1 r2 =>
        cases p with
        | cons p1 p2 p3 =>
          obtain ⟨e1, rv⟩ := r1
          obtain ⟨bs, q2, s2⟩ := Dq.reads I d _ _ h1 rv
          obtain ⟨as', bs', q3, q4, s3⟩ := Dq.readsPs I ds _ _ _ h2 r2 p3
          subst e1
          rw [← p2] at q2
          refine ⟨_, _, ReadsAll.cons (key_reads p1) q3, ReadsAll.cons q2 q4, fun S => ⟨?_, fun z => ?_⟩⟩
          · exact (s3 S).1
          · exact (List.mem_append.mp z).elim (s2 S) (s3 S).2
end
end
section
variable {X : Cx} {CX : CXT} {n : Nat} {sp : Sp} {E : XK}
/-- repr of data, dicts too: its text -/
def rReprQ (K : PySem.W.Frag) : List V → Hp → VK → Prop := fun xs H Q => ∃ (x : V) (d : PyData), xs = [x] ∧ Dq K H x d ∧ d.showable = true ∧ d.depth ≤ 8 ∧ d.shown.length ≤ sizeLine ∧ Q (.str d.shown) H
theorem call_reprQ (sb : SysB X.base) (gd : X.A.guards = some []) (hu : X.A.units + 64 < cLine) : CallR X (.builtin "repr") (rReprQ X.K) := by
  intro pins s σ H xs us Q I r h
  obtain ⟨x, d, rfl, hd, hs, hdp, hsz, q⟩ := h
  obtain ⟨u, rfl, ru⟩ := vals1 r
  have fin : ∀ (h' : Heap) (tk : Nat) (u : Tok), (∀ b o, s.heap.get? b = some o → h'.get? b = some o) → EP X pins σ Q (.str d.shown u) { s with heap := h', toks := tk } := fun h' tk u k => ⟨.str d.shown, H, I.kept (t' := tk) k, ⟨u, rfl⟩, q⟩
  obtain ⟨as, rd, ns⟩ := Dq.reads I _ _ _ hd ru
  cases hd with
  | non => cases ru; exact PySem.P.repr_of_none (fin s.heap _ _ fun _ _ e => e)
  | bl b => cases ru; exact PySem.P.repr_of_bool (by cases b <;> exact fin s.heap _ _ fun _ _ e => e)
  | int i =>
    obtain ⟨t, rfl⟩ := ru
    have hi : i.natAbs.log2 < 1920 := of_decide_eq_true hs
    exact PySem.P.repr_of_int hi (fin s.heap _ _ fun _ _ e => e)
  | str z => obtain ⟨t, rfl⟩ := ru; exact PySem.P.repr_of_str (fin s.heap _ _ fun _ _ e => e) hsz
  | lst hq ha =>
    cases ru
    exact repr_of_reads' rd hs (fun _ => ns sb) gd (by omega) (fun _ _ e => e) (fun h' u tk k => fin h' tk u k) hsz
  | tup hq ha =>
    cases ru
    exact repr_of_reads' rd hs (fun _ => ns sb) gd (by omega) (fun _ _ e => e) (fun h' u tk k => fin h' tk u k) hsz
  | dic hq ha =>
    cases ru
    exact repr_of_reads' rd hs (fun _ => ns sb) gd (by omega) (fun _ _ e => e) (fun h' u tk k => fin h' tk u k) hsz
end
end Ow
end
section
set_option maxHeartbeats 4000000
namespace Ow
open PySem PySem.Spec PyProof.Rows L2 StX
/-! ### the end of a law whose def wants to know that nothing is being shown -/
section
variable {P : Program} {w : World} {K : PySem.W.Frag} {mg mb : Str → Option Value} {k : Nat} {fa a : Addr} {sp : Sp} {s1 : Shared} {vs : List Value} {ns : List Int}
/-- the call, from one abstract heap that tracks the script alone, or nothing -/
theorem end_fromB (KX : K.In s1.heap) (hns : s1.heap.Ns mainGlobals mg) (hb : s1.heap.Ns builtinsNs mb) (hbb : ∀ x : Str, x ≠ "__name__" → mb x = bootBuiltins x) (hlim : s1.heap.NoLimit) (hsy : SysB s1.heap) (hg : s1.gens = #[]) (hr : Room k callerA)
    (F : ∀ base : Heap, K.In base → base.Ns mainGlobals mg → SysB base → FnG P w K mg base CX0 k fa sp) {H : Hp} (hO : Only H) (hok : HOk P w H s1.heap) (dom : ∀ b u, H b = some u → K.lookup b = none ∧ ∃ o items n, s1.heap.get? b = some o ∧ o.data = .seq items n)
    (hsp : sp [.ref a] H (fun v _ => v = .bl true) fun _ _ _ => False) :
    codeAny (model P w) callerA (.call (.ref fa) ⟨[.ref a], []⟩) (fun r s' => r = .ok (.ret (.bool true)) ∧ OldK s1.heap s'.heap ∧ s'.os = s1.os ∧ AllBare s'.gens) s1 := by
  let base := hidT s1.heap H
  have dicts : ∀ {b : Addr} {o : Obj} {es : Array DictEntry} {ep : Nat}, s1.heap.get? b = some o → o.data = .dict es ep → base.get? b = some o := fun {b o es ep} e d => by
    refine hidT_get e ?_
    cases q : H b with
    | none => rfl
    | some u =>
      obtain ⟨_, o2, items, n, e2, d2⟩ := dom b u q
      rw [e2] at e
      cases e
      rw [d2] at d
      cases d
  have names : ∀ {b : Addr} {m : Str → Option Value}, s1.heap.Ns b m → base.Ns b m := fun z => by
    obtain ⟨o, es, ep, e, d, r⟩ := z
    exact ⟨o, es, ep, dicts e d, d, r⟩
  have hK : K.In base := fun b o e => by
    refine hidT_get (KX b o e) ?_
    cases q : H b with
    | none => rfl
    | some u =>
      have z := (dom b u q).1
      rw [e] at z
      cases z
  have lim : base.NoLimit := by
    obtain ⟨m, h1, h2⟩ := hlim
    exact ⟨m, names h1, h2⟩
  have e0 : Env0 P w K mg base callerA [] s1 H :=
    { frames := rfl, mod := ⟨hK, names hns, ⟨mb, names hb, hbb⟩, lim⟩, bs := fun b o e => of_hidT e, bsz := Nat.le_of_eq (hidT_size _ _), funs := trivial, frf := fun b hb => (List.not_mem_nil hb).elim, hok := hok, bare := .of_eq hg }
  refine codeAny_mono (F base hK (names hns) (let ⟨m, z⟩ := hsy; ⟨m, names z⟩) callerA [] s1 H [.ref a] [.ref a] _ _ hr rfl e0 (.cons rfl .nil) hsp) fun r s' h => ?_
  cases r with
  | error e => exact False.elim h
  | ok fl =>
    cases fl with
    | ret u =>
      obtain ⟨v, H2, os, bare, un, ok2, rv, q⟩ := h
      subst q
      cases rv
      refine ⟨rfl, OldK.of_keep fun b o e => ?_, os, bare⟩
      cases q : H b with
      | none => exact un.keep b o e q (fun z => List.not_mem_nil z) (fun z => List.not_mem_nil z)
      | some u =>
        rcases hO b with z | ⟨ob, xs, z⟩
        · rw [q] at z
          cases z
        · have e1 := (hok b _ z).1
          have e2 := (ok2 b _ (un.frzs b ob _ z)).1
          rw [e] at e1
          cases e1
          exact e2
    | next => exact False.elim h
    | brk => exact False.elim h
    | cont => exact False.elim h
theorem end_callGB (KX : K.In s1.heap) (hns : s1.heap.Ns mainGlobals mg) (hb : s1.heap.Ns builtinsNs mb) (hbb : ∀ x : Str, x ≠ "__name__" → mb x = bootBuiltins x) (hlim : s1.heap.NoLimit) (hsy : SysB s1.heap) (hg : s1.gens = #[]) (hr : Room k callerA)
    (ha : s1.heap.get? a = some { cls := .type "list", data := .seq vs.toArray }) (hi : IntsAre vs ns) (hl : ns.length ≤ sizeLine) (F : ∀ base : Heap, K.In base → base.Ns mainGlobals mg → SysB base → FnG P w K mg base CX0 k fa sp)
    (hsp : ∀ H : Hp, Only H → SqL K H a (ns.map V.int) → sp [.ref a] H (fun v _ => v = .bl true) fun _ _ _ => False) :
    codeAny (model P w) callerA (.call (.ref fa) ⟨[.ref a], []⟩) (fun r s' => r = .ok (.ret (.bool true)) ∧ OldK s1.heap s'.heap ∧ s'.os = s1.os ∧ AllBare s'.gens) s1 := by
  have rv := vals_ints hi
  have hl2 : (ns.map V.int).length ≤ sizeLine := by rw [List.length_map]; exact hl
  cases hk : K.lookup a with
  | some o =>
    have e := KX a o hk
    rw [ha] at e
    cases e
    refine end_fromB KX hns hb hbb hlim hsy hg hr F (H := fun _ => none) (fun _ => .inl rfl) (fun b u z => by cases z) (fun b u z => by cases z) (hsp _ (fun _ => .inl rfl) ?_)
    exact .inr ⟨_, vs.toArray, _, hk, rfl, rfl, rfl, by rw [List.size_toArray, hi.length]; exact hl, by simpa using rv⟩
  | none =>
    let o : Obj := { cls := .type "list", data := .seq vs.toArray }
    let H : Hp := fun b => if b = a then some (.frz o (.lst (ns.map V.int))) else none
    have H1 : H a = some (.frz o (.lst (ns.map V.int))) := if_pos rfl
    have H0 : ∀ b u, H b = some u → b = a ∧ u = .frz o (.lst (ns.map V.int)) := fun b u z => by
      by_cases e : b = a
      · subst e
        rw [H1] at z
        cases z
        exact ⟨rfl, rfl⟩
      · have z0 : H b = none := if_neg e
        rw [z0] at z
        cases z
    have hO : Only H := fun b => by
      by_cases e : b = a
      · subst e; exact .inr ⟨_, _, H1⟩
      · exact .inl (if_neg e)
    refine end_fromB KX hns hb hbb hlim hsy hg hr F (H := H) hO (fun b u z => ?_) (fun b u z => ?_) (hsp _ hO (.inl (.inr ⟨_, H1⟩)))
    · obtain ⟨rfl, rfl⟩ := H0 b u z
      exact ⟨ha, hl2, vs, _, rv, ha⟩
    · obtain ⟨rfl, rfl⟩ := H0 b u z
      exact ⟨hk, _, _, _, ha, rfl⟩
end
theorem walk_ofGB {l : PySem.W.OpenLaw} {n k : Nat} {q : Program} {loose : List Str} {XP : (Str → Option Value) → Heap → Prop} {YP : World → Heap → Prop} {d : DefRec} {K : Params → PySem.W.Frag} {sp : World → Sp}
    (hi : importsNone q = true) (hn : l.most = some n) (hn2 : n ≤ sizeLine) (hdf : d.params.defaults = []) (hr : Room k callerA) (hY : ∀ (w : World) (h : Heap), YP w h → (K w.params).In h)
    (F : ∀ (w : World) (mg : Str → Option Value) (fa : Addr) (h : Heap), (K w.params).In h → h.Ns mainGlobals mg → mg d.name = some (.ref fa) →
      ∀ base : Heap, (K w.params).In base → base.Ns mainGlobals mg → SysB base → FnG l.prog w (K w.params) mg base CX0 k fa (sp w))
    (hsp : ∀ (w : World) (H : Hp) (a : Addr) (ns : List Int), ns.length ≤ n → Only H → SqL (K w.params) H a (ns.map V.int) → sp w [.ref a] H (fun v _ => v = .bl true) fun _ _ _ => False) :
    PySem.W.WalkO q loose XP YP l.row.toRowW d [] (fun f vs => PySem.call f vs) := by
  refine Att.attach_call hn hdf fun w s0 s1 mg mb fa o pm cd doc a vs ns G Y ho hd hcd hmg hobj hints hlen hg => ?_
  have KX := hY w _ Y
  exact end_callGB KX G.T.g G.T.b G.T.builtins G.T.nolimit (let ⟨m, z, _⟩ := (G.T.seer hi).mods; ⟨m, z⟩) hg hr hobj hints (Nat.le_trans hlen hn2) (F w mg fa _ KX G.T.g hmg) fun H hO hS => hsp w H a ns hlen hO hS
end Ow
end
section
set_option maxHeartbeats 4000000
/-! Own errors as values: what holds of one, classes told by the order of their bases, readings of the makings. -/
namespace Ow
open PySem PySem.Spec PyProof.Rows L2 StX
/-- the class's order of bases: itself, the package's base, ValueError, .. -/
def mroE (K : PySem.W.Frag) (C B : Addr) : Bool := match PySem.W.clsIn K C with
  | some cd => cd.mro == [.ref C, .ref B, .type "ValueError", .type "Exception", .type "BaseException", .type "object"]
  | none => false
theorem mroE_mk {K : PySem.W.Frag} {C B : Addr} {cd : PySem.ClassData} (h : PySem.W.clsIn K C = some cd) (m : (cd.mro == [.ref C, .ref B, .type "ValueError", .type "Exception", .type "BaseException", .type "object"]) = true) : mroE K C B = true := by
  unfold mroE
  rw [h]
  exact m
theorem mroE_sub {K : PySem.W.Frag} {C B : Addr} (h : mroE K C B = true) (t : Value) : PySem.W.subIn K (.ref C) t = some (([.ref C, .ref B, .type "ValueError", .type "Exception", .type "BaseException", .type "object"] : List Value).contains t) := by
  unfold mroE at h
  show PySem.W.mroIn K C t = _
  unfold PySem.W.mroIn
  cases e : PySem.W.clsIn K C with
  | none => rw [e] at h; cases h
  | some cd =>
    rw [e] at h
    have q := beq_iff_eq.mp h
    show (if cd.mro.isEmpty then none else some (cd.mro.contains t)) = _
    rw [q]
    rfl
theorem mroE_some {K : PySem.W.Frag} {C B : Addr} (h : mroE K C B = true) : (PySem.W.clsIn K C).isSome = true := by
  unfold mroE at h
  cases e : PySem.W.clsIn K C with
  | none => rw [e] at h; cases h
  | some cd => rfl
/-- isinstance of an own error: its class, the base, a class beside it, ValueError -/
theorem kitE {K : PySem.W.Frag} {C B D : Addr} (h : mroE K C B = true) (i : (PySem.W.clsIn K D).isSome = true) (t : PySem.W.typeIn K (.ref D) = Option.some (.type "type")) (ne : D ≠ C) (nb : D ≠ B) : PySem.W.kitOne K (.ref C) (.ref D) = Option.some false := by
  refine kit_err i t ?_ (beq_eq_false_iff_ne.mpr fun z => ne (by cases z; rfl))
  rw [mroE_sub h]
  simp [ne, nb]
theorem kitEB {K : PySem.W.Frag} {C B : Addr} (h : mroE K C B = true) (i : (PySem.W.clsIn K B).isSome = true) (t : PySem.W.typeIn K (.ref B) = Option.some (.type "type")) (ne : C ≠ B) : PySem.W.kitOne K (.ref C) (.ref B) = Option.some true := by
  refine kit_err i t ?_ (beq_eq_false_iff_ne.mpr fun z => ne (by cases z; rfl))
  rw [mroE_sub h]
  simp
theorem kitEV {K : PySem.W.Frag} {C B : Addr} (h : mroE K C B = true) : PySem.W.kitOne K (.ref C) (.type "ValueError") = Option.some true := by
  unfold PySem.W.kitOne
  rw [if_neg (by simp)]
  show PySem.W.subIn K (.ref C) (.type "ValueError") = _
  rw [mroE_sub h]
  simp
/-- an own error with these fields -/
def EO (H : Hp) (e C : Addr) (fs : List (Str × V)) : Prop := ∃ d, H e = some (exo e C (some d)) ∧ H d = some (exd d fs)
theorem EO.same {H H' : Hp} {e C : Addr} {fs : List (Str × V)} (x : EO H e C fs) (s : ∀ b o, H b = some o → H' b = some o) : EO H' e C fs := by
  obtain ⟨d, h1, h2⟩ := x
  exact ⟨d, s _ _ h1, s _ _ h2⟩
theorem made_keeps {H : Hp} {e d : Addr} {C : Addr} {fs : List (Str × V)} (ha : H e = none) (hd : H d = none) (ne : d ≠ e) :
    (∀ b o, H b = some o → upd (upd (upd H e (exo e C none)) d (exd d fs)) e (exo e C (some d)) b = some o) ∧ EO (upd (upd (upd H e (exo e C none)) d (exd d fs)) e (exo e C (some d))) e C fs := by
  refine ⟨fun b o q => ?_, d, upd_same, by rw [upd_ne ne]; exact upd_same⟩
  have n1 : b ≠ e := ne_of_none q ha
  have n2 : b ≠ d := ne_of_none q hd
  rw [upd_ne n1, upd_ne n2, upd_ne n1]
  exact q
section
variable {H : Hp} {C : Addr} {n m : Str} {v u : V} {Q : VK}
theorem oex1 (k : ∀ (e : Addr) (H' : Hp), (∀ b o, H b = some o → H' b = some o) → EO H' e C [(n, v)] → Q (.ref e) H') :
    [v].length ≤ 1000 ∧ ∀ a, H a = none → spErr1 C n (.ref a :: [v]) (upd H a (exo a C none)) (fun z H2 => z = .non ∧ Q (.ref a) H2) (fun _ _ _ => False) := by
  refine ⟨Nat.le_of_ble_eq_true rfl, fun a ha => ⟨a, v, rfl, upd_same, fun d hd ne => ⟨rfl, ?_⟩⟩⟩
  rw [upd_ne ne] at hd
  exact k a _ (made_keeps ha hd ne).1 (made_keeps ha hd ne).2
theorem oex2 (k : ∀ (e : Addr) (H' : Hp), (∀ b o, H b = some o → H' b = some o) → EO H' e C [(m, u), (n, v)] → Q (.ref e) H') :
    [v, u].length ≤ 1000 ∧ ∀ a, H a = none → spErr2 C n m (.ref a :: [v, u]) (upd H a (exo a C none)) (fun z H2 => z = .non ∧ Q (.ref a) H2) (fun _ _ _ => False) := by
  refine ⟨Nat.le_of_ble_eq_true rfl, fun a ha => ⟨a, v, u, rfl, upd_same, fun d hd ne => ⟨rfl, ?_⟩⟩⟩
  rw [upd_ne ne] at hd
  exact k a _ (made_keeps ha hd ne).1 (made_keeps ha hd ne).2
/-- by keywords, the other way round -/
theorem oexK2 {gV : List V → List V → List V} (hg : ∀ a, gV [V.ref a] [u, v] = [.ref a, v, u]) (k : ∀ (e : Addr) (H' : Hp), (∀ b o, H b = some o → H' b = some o) → EO H' e C [(m, u), (n, v)] → Q (.ref e) H') :
    [u, v].length = 2 ∧ ∀ a, H a = none → spErr2 C n m (gV [.ref a] [u, v]) (upd H a (exo a C none)) (fun z H2 => z = .non ∧ Q (.ref a) H2) (fun _ _ _ => False) := by
  refine ⟨rfl, fun a ha => ?_⟩
  rw [hg]
  exact (oex2 k).2 a ha
end
end Ow
end
section
set_option maxHeartbeats 4000000
/-! An own error without a def of its own, made of nothing, as a value. -/
namespace Ow
open PySem PySem.Spec PyProof.Rows L2 StX
theorem pe_exc0 {X : Cx} {C : Addr} {bmB : List Value} {B newId initId : String} {x : Str} {p pos : Pos} (F : ExcBaseFacts B newId initId bmB) (q : PySem.W.excIn X.K C bmB newId = true) (gC : X.mg x = some (.ref C)) (kC : PySem.W.keepIn X.K (.ref C) = true) (hg : Gl X x)
    (hdb : (x == ("__debug__" : Str)) = false := by decide) : PE X (.Call (.Name x p) [] [] pos) (fun σ H Q => ∀ a, H a = none → Q (.ref a) (upd H a (exo a C none))) := by
  refine ⟨fun pins s σ H Q I h => ?_⟩
  refine wpAny_Call_Name_kw (ld_glob I hg gC ?_ hdb)
  refine PySem.W.callWith_K0 I.kIn kC ?_
  obtain ⟨bm, N, nm, qn, bs, hdct, sn, sub, ab, col, dd, k0, k1, k2, k3, k5, mN, hC, hN, hni, T⟩ := exc_obj I.kIn q
  obtain ⟨hp, g, dr, tk, os⟩ := s
  refine wpAny_call_exc_subT F T hC hN hni (fun h' a hm => ?_) (by show 0 ≤ sizeLine; exact Nat.zero_le _)
  have hn : H a = none := I.hok.gone hm.new
  obtain ⟨t, ht, _, _⟩ := hm.there
  exact ⟨.ref a, upd H a (exo a C none), I.laidN hm.keeps hm.new hn (exo_ok ht), rfl, h a hn⟩
end Ow
end
section
namespace Pf
open PySem PySem.Spec PyProof.Rows L2 Ow
def topS (i : Nat) : Stmt := PySem.Challenge.pw_heldfloods_k01_errors_and_their_fields.main.body.getD i (.Pass ⟨0, 0, 0, 0⟩)
abbrev s_BadPlace_init : Stmt := inClass (topS 2) 0
theorem sc_BadPlace_init : FnScope ["self", "part"] ["self", "part"] (defScope s_BadPlace_init) := ⟨rfl, rfl, rfl, by decide +kernel, rfl, by decide +kernel, by decide +kernel⟩
abbrev s_BadSize_init : Stmt := inClass (topS 3) 0
theorem sc_BadSize_init : FnScope ["self", "part"] ["self", "part"] (defScope s_BadSize_init) := ⟨rfl, rfl, rfl, by decide +kernel, rfl, by decide +kernel, by decide +kernel⟩
abbrev s_BadColour_init : Stmt := inClass (topS 4) 0
theorem sc_BadColour_init : FnScope ["self", "value"] ["self", "value"] (defScope s_BadColour_init) := ⟨rfl, rfl, rfl, by decide +kernel, rfl, by decide +kernel, by decide +kernel⟩
abbrev s_BadPicture_init : Stmt := inClass (topS 6) 0
theorem sc_BadPicture_init : FnScope ["self", "row"] ["self", "row"] (defScope s_BadPicture_init) := ⟨rfl, rfl, rfl, by decide +kernel, rfl, by decide +kernel, by decide +kernel⟩
abbrev s_BadDeed_init : Stmt := inClass (topS 7) 0
theorem sc_BadDeed_init : FnScope ["self", "part"] ["self", "part"] (defScope s_BadDeed_init) := ⟨rfl, rfl, rfl, by decide +kernel, rfl, by decide +kernel, by decide +kernel⟩
abbrev s_BadProgram_init : Stmt := inClass (topS 8) 0
theorem sc_BadProgram_init : FnScope ["self", "at"] ["self", "at"] (defScope s_BadProgram_init) := ⟨rfl, rfl, rfl, by decide +kernel, rfl, by decide +kernel, by decide +kernel⟩
abbrev s_BadClaim_init : Stmt := inClass (topS 9) 0
theorem sc_BadClaim_init : FnScope ["self", "part"] ["self", "part"] (defScope s_BadClaim_init) := ⟨rfl, rfl, rfl, by decide +kernel, rfl, by decide +kernel, by decide +kernel⟩
abbrev s_BadClass_init : Stmt := inClass (topS 10) 0
theorem sc_BadClass_init : FnScope ["self", "part"] ["self", "part"] (defScope s_BadClass_init) := ⟨rfl, rfl, rfl, by decide +kernel, rfl, by decide +kernel, by decide +kernel⟩
abbrev s_NoDeed_init : Stmt := inClass (topS 13) 0
theorem sc_NoDeed_init : FnScope ["self", "index"] ["self", "index"] (defScope s_NoDeed_init) := ⟨rfl, rfl, rfl, by decide +kernel, rfl, by decide +kernel, by decide +kernel⟩
abbrev s_NoFlood_init : Stmt := inClass (topS 14) 0
theorem sc_NoFlood_init : FnScope ["self", "index"] ["self", "index"] (defScope s_NoFlood_init) := ⟨rfl, rfl, rfl, by decide +kernel, rfl, by decide +kernel, by decide +kernel⟩
abbrev s_NoClass_init : Stmt := inClass (topS 15) 0
theorem sc_NoClass_init : FnScope ["self", "value"] ["self", "value"] (defScope s_NoClass_init) := ⟨rfl, rfl, rfl, by decide +kernel, rfl, by decide +kernel, by decide +kernel⟩
abbrev s_NoName_init : Stmt := inClass (topS 19) 0
theorem sc_NoName_init : FnScope ["self", "name"] ["self", "name"] (defScope s_NoName_init) := ⟨rfl, rfl, rfl, by decide +kernel, rfl, by decide +kernel, by decide +kernel⟩
abbrev s_NoRow_init : Stmt := inClass (topS 20) 0
theorem sc_NoRow_init : FnScope ["self", "word"] ["self", "word"] (defScope s_NoRow_init) := ⟨rfl, rfl, rfl, by decide +kernel, rfl, by decide +kernel, by decide +kernel⟩
abbrev s_BadPixel_init : Stmt := inClass (topS 5) 0
theorem sc_BadPixel_init : FnScope ["self", "x", "y"] ["self", "x", "y"] (defScope s_BadPixel_init) := ⟨rfl, rfl, rfl, by decide +kernel, rfl, by decide +kernel, by decide +kernel⟩
abbrev s_TooMany_init : Stmt := inClass (topS 12) 0
theorem sc_TooMany_init : FnScope ["self", "what", "most"] ["self", "what", "most"] (defScope s_TooMany_init) := ⟨rfl, rfl, rfl, by decide +kernel, rfl, by decide +kernel, by decide +kernel⟩
abbrev s_Fails_init : Stmt := inClass (topS 16) 0
theorem sc_Fails_init : FnScope ["self", "width", "height"] ["self", "width", "height"] (defScope s_Fails_init) := ⟨rfl, rfl, rfl, by decide +kernel, rfl, by decide +kernel, by decide +kernel⟩
abbrev s_Gap_init : Stmt := inClass (topS 17) 0
theorem sc_Gap_init : FnScope ["self", "x", "y"] ["self", "x", "y"] (defScope s_Gap_init) := ⟨rfl, rfl, rfl, by decide +kernel, rfl, by decide +kernel, by decide +kernel⟩
abbrev s_BadText_init : Stmt := inClass (topS 18) 0
theorem sc_BadText_init : FnScope ["self", "line", "word"] ["self", "line", "word"] (defScope s_BadText_init) := ⟨rfl, rfl, rfl, by decide +kernel, rfl, by decide +kernel, by decide +kernel⟩
abbrev s__law_bag : Stmt := topS 22
theorem sc__law_bag : FnScope ["_law_script", "_law_state", "_law_cell"] ["_law_script"] (defScope s__law_bag) := ⟨rfl, rfl, rfl, by decide +kernel, rfl, by decide +kernel, by decide +kernel⟩
abbrev s__law_draw : Stmt := topS 23
theorem sc__law_draw : FnScope ["_law_bag_here", "_law_limit", "_law_cell", "_law_mixed", "_law_found"] ["_law_bag_here", "_law_limit"] (defScope s__law_draw) := ⟨rfl, rfl, rfl, by decide +kernel, rfl, by decide +kernel, by decide +kernel⟩
abbrev s__law_value : Stmt := topS 24
theorem sc__law_value : FnScope ["_law_bag_here", "_law_some"] ["_law_bag_here"] (defScope s__law_value) := ⟨rfl, rfl, rfl, by decide +kernel, rfl, by decide +kernel, by decide +kernel⟩
abbrev s__law_same : Stmt := topS 25
theorem sc__law_same : FnScope ["_law_one", "_law_other"] ["_law_one", "_law_other"] (defScope s__law_same) := ⟨rfl, rfl, rfl, by decide +kernel, rfl, by decide +kernel, by decide +kernel⟩
abbrev s__law_ones : Stmt := topS 26
theorem sc__law_ones : FnScope ["_law_one", "_law_found"] ["_law_one"] (defScope s__law_ones) := ⟨rfl, rfl, rfl, by decide +kernel, rfl, by decide +kernel, by decide +kernel⟩
abbrev s__law_field : Stmt := topS 27
theorem sc__law_field : FnScope ["_law_error", "_law_name"] ["_law_error", "_law_name"] (defScope s__law_field) := ⟨rfl, rfl, rfl, by decide +kernel, rfl, by decide +kernel, by decide +kernel⟩
abbrev s__law_kinds : Stmt := topS 28
theorem sc__law_kinds : FnScope ["_law_error", "_law_found", "_law_at", "_law_is_one"] ["_law_error"] (defScope s__law_kinds) := ⟨rfl, rfl, rfl, by decide +kernel, rfl, by decide +kernel, by decide +kernel⟩
abbrev s__law_named : Stmt := topS 30
theorem sc__law_named : FnScope ["_law_one", "_law_other", "_law_two"] ["_law_one", "_law_other"] (defScope s__law_named) := ⟨rfl, rfl, rfl, by decide +kernel, rfl, by decide +kernel, by decide +kernel⟩
abbrev s__law_two_told : Stmt := topS 31
theorem sc__law_two_told : FnScope ["_law_two", "_law_told"] ["_law_two"] (defScope s__law_two_told) := ⟨rfl, rfl, rfl, by decide +kernel, rfl, by decide +kernel, by decide +kernel⟩
abbrev s__law_caught : Stmt := topS 29
theorem sc__law_caught : FnScope ["_law_wide", "_law_error"] ["_law_wide"] (defScope s__law_caught) := ⟨rfl, rfl, rfl, by decide +kernel, rfl, by decide +kernel, by decide +kernel⟩
abbrev s_law : Stmt := topS 32
theorem sc_law : FnScope ["_law_script", "_law_bag_here", "_law_turn", "_law_one", "_law_other", "_law_at", "_law_pair", "_law_error", "_law_name", "_law_two"] ["_law_script"] (defScope s_law) := ⟨rfl, rfl, rfl, by decide +kernel, rfl, by decide +kernel, by decide +kernel⟩
structure Adr where
  BadPlace_init : Addr
  BadSize_init : Addr
  BadColour_init : Addr
  BadPicture_init : Addr
  BadDeed_init : Addr
  BadProgram_init : Addr
  BadClaim_init : Addr
  BadClass_init : Addr
  NoDeed_init : Addr
  NoFlood_init : Addr
  NoClass_init : Addr
  NoName_init : Addr
  NoRow_init : Addr
  BadPixel_init : Addr
  TooMany_init : Addr
  Fails_init : Addr
  Gap_init : Addr
  BadText_init : Addr
  _law_bag : Addr
  _law_draw : Addr
  _law_value : Addr
  _law_same : Addr
  _law_ones : Addr
  _law_field : Addr
  _law_kinds : Addr
  _law_named : Addr
  _law_two_told : Addr
  _law_caught : Addr
  law : Addr
  BadPlace : Addr
  BadSize : Addr
  BadColour : Addr
  BadPicture : Addr
  BadDeed : Addr
  BadProgram : Addr
  BadClaim : Addr
  BadClass : Addr
  NoDeed : Addr
  NoFlood : Addr
  NoClass : Addr
  NoName : Addr
  NoRow : Addr
  BadPixel : Addr
  TooMany : Addr
  Fails : Addr
  Gap : Addr
  BadText : Addr
  HoldError : Addr
  Unlike : Addr
structure Txt (K : PySem.W.Frag) (mg : Str → Option Value) (a : Adr) : Prop where
  n_len : mg "len" = none
  n_int : mg "int" = none
  n_abs : mg "abs" = none
  n_list : mg "list" = none
  n_range : mg "range" = none
  n_isinstance : mg "isinstance" = none
  n_repr : mg "repr" = none
  n_enumerate : mg "enumerate" = none
  n_ValueError : mg "ValueError" = none
  d_BadPlace_init : FnT K "__init__" "BadPlace.__init__" s_BadPlace_init [] a.BadPlace_init
  d_BadSize_init : FnT K "__init__" "BadSize.__init__" s_BadSize_init [] a.BadSize_init
  d_BadColour_init : FnT K "__init__" "BadColour.__init__" s_BadColour_init [] a.BadColour_init
  d_BadPicture_init : FnT K "__init__" "BadPicture.__init__" s_BadPicture_init [] a.BadPicture_init
  d_BadDeed_init : FnT K "__init__" "BadDeed.__init__" s_BadDeed_init [] a.BadDeed_init
  d_BadProgram_init : FnT K "__init__" "BadProgram.__init__" s_BadProgram_init [] a.BadProgram_init
  d_BadClaim_init : FnT K "__init__" "BadClaim.__init__" s_BadClaim_init [] a.BadClaim_init
  d_BadClass_init : FnT K "__init__" "BadClass.__init__" s_BadClass_init [] a.BadClass_init
  d_NoDeed_init : FnT K "__init__" "NoDeed.__init__" s_NoDeed_init [] a.NoDeed_init
  d_NoFlood_init : FnT K "__init__" "NoFlood.__init__" s_NoFlood_init [] a.NoFlood_init
  d_NoClass_init : FnT K "__init__" "NoClass.__init__" s_NoClass_init [] a.NoClass_init
  d_NoName_init : FnT K "__init__" "NoName.__init__" s_NoName_init [] a.NoName_init
  d_NoRow_init : FnT K "__init__" "NoRow.__init__" s_NoRow_init [] a.NoRow_init
  d_BadPixel_init : FnT K "__init__" "BadPixel.__init__" s_BadPixel_init [] a.BadPixel_init
  d_TooMany_init : FnT K "__init__" "TooMany.__init__" s_TooMany_init [] a.TooMany_init
  d_Fails_init : FnT K "__init__" "Fails.__init__" s_Fails_init [] a.Fails_init
  d_Gap_init : FnT K "__init__" "Gap.__init__" s_Gap_init [] a.Gap_init
  d_BadText_init : FnT K "__init__" "BadText.__init__" s_BadText_init [] a.BadText_init
  d__law_bag : FnT K "_law_bag" "_law_bag" s__law_bag [] a._law_bag
  m__law_bag : mg "_law_bag" = some (.ref a._law_bag)
  k__law_bag : PySem.W.keepIn K (.ref a._law_bag) = true
  d__law_draw : FnT K "_law_draw" "_law_draw" s__law_draw [] a._law_draw
  m__law_draw : mg "_law_draw" = some (.ref a._law_draw)
  k__law_draw : PySem.W.keepIn K (.ref a._law_draw) = true
  d__law_value : FnT K "_law_value" "_law_value" s__law_value [] a._law_value
  m__law_value : mg "_law_value" = some (.ref a._law_value)
  k__law_value : PySem.W.keepIn K (.ref a._law_value) = true
  d__law_same : FnT K "_law_same" "_law_same" s__law_same [] a._law_same
  m__law_same : mg "_law_same" = some (.ref a._law_same)
  k__law_same : PySem.W.keepIn K (.ref a._law_same) = true
  d__law_ones : FnT K "_law_ones" "_law_ones" s__law_ones [] a._law_ones
  m__law_ones : mg "_law_ones" = some (.ref a._law_ones)
  k__law_ones : PySem.W.keepIn K (.ref a._law_ones) = true
  d__law_field : FnT K "_law_field" "_law_field" s__law_field [] a._law_field
  m__law_field : mg "_law_field" = some (.ref a._law_field)
  k__law_field : PySem.W.keepIn K (.ref a._law_field) = true
  d__law_kinds : FnT K "_law_kinds" "_law_kinds" s__law_kinds [] a._law_kinds
  m__law_kinds : mg "_law_kinds" = some (.ref a._law_kinds)
  k__law_kinds : PySem.W.keepIn K (.ref a._law_kinds) = true
  d__law_named : FnT K "_law_named" "_law_named" s__law_named [] a._law_named
  m__law_named : mg "_law_named" = some (.ref a._law_named)
  k__law_named : PySem.W.keepIn K (.ref a._law_named) = true
  d__law_two_told : FnT K "_law_two_told" "_law_two_told" s__law_two_told [] a._law_two_told
  m__law_two_told : mg "_law_two_told" = some (.ref a._law_two_told)
  k__law_two_told : PySem.W.keepIn K (.ref a._law_two_told) = true
  d__law_caught : FnT K "_law_caught" "_law_caught" s__law_caught [] a._law_caught
  m__law_caught : mg "_law_caught" = some (.ref a._law_caught)
  k__law_caught : PySem.W.keepIn K (.ref a._law_caught) = true
  d_law : FnT K "law" "law" s_law [] a.law
  m_law : mg "law" = some (.ref a.law)
  k_law : PySem.W.keepIn K (.ref a.law) = true
  m_HoldError : mg "HoldError" = some (.ref a.HoldError)
  ei_Unlike : PySem.W.excIn K a.Unlike [.type "ValueError", .type "Exception", .type "BaseException", .type "object"] "ValueError.__new__" = true
  kp_Unlike : PySem.W.keepIn K (.ref a.Unlike) = true
  m_Unlike : mg "Unlike" = some (.ref a.Unlike)
  xf_BadPlace : XfC K a.BadPlace
  xc_BadPlace : ExcC K a.BadPlace
  mq_BadPlace : mroE K a.BadPlace a.HoldError = true
  xt_BadPlace : PySem.W.typeIn K (.ref a.BadPlace) = some (.type "type")
  xf_BadSize : XfC K a.BadSize
  xc_BadSize : ExcC K a.BadSize
  mq_BadSize : mroE K a.BadSize a.HoldError = true
  xt_BadSize : PySem.W.typeIn K (.ref a.BadSize) = some (.type "type")
  xf_BadColour : XfC K a.BadColour
  xc_BadColour : ExcC K a.BadColour
  mq_BadColour : mroE K a.BadColour a.HoldError = true
  xt_BadColour : PySem.W.typeIn K (.ref a.BadColour) = some (.type "type")
  xf_BadPicture : XfC K a.BadPicture
  xc_BadPicture : ExcC K a.BadPicture
  mq_BadPicture : mroE K a.BadPicture a.HoldError = true
  xt_BadPicture : PySem.W.typeIn K (.ref a.BadPicture) = some (.type "type")
  xf_BadDeed : XfC K a.BadDeed
  xc_BadDeed : ExcC K a.BadDeed
  mq_BadDeed : mroE K a.BadDeed a.HoldError = true
  xt_BadDeed : PySem.W.typeIn K (.ref a.BadDeed) = some (.type "type")
  xf_BadProgram : XfC K a.BadProgram
  xc_BadProgram : ExcC K a.BadProgram
  mq_BadProgram : mroE K a.BadProgram a.HoldError = true
  xt_BadProgram : PySem.W.typeIn K (.ref a.BadProgram) = some (.type "type")
  xf_BadClaim : XfC K a.BadClaim
  xc_BadClaim : ExcC K a.BadClaim
  mq_BadClaim : mroE K a.BadClaim a.HoldError = true
  xt_BadClaim : PySem.W.typeIn K (.ref a.BadClaim) = some (.type "type")
  xf_BadClass : XfC K a.BadClass
  xc_BadClass : ExcC K a.BadClass
  mq_BadClass : mroE K a.BadClass a.HoldError = true
  xt_BadClass : PySem.W.typeIn K (.ref a.BadClass) = some (.type "type")
  xf_NoDeed : XfC K a.NoDeed
  xc_NoDeed : ExcC K a.NoDeed
  mq_NoDeed : mroE K a.NoDeed a.HoldError = true
  xt_NoDeed : PySem.W.typeIn K (.ref a.NoDeed) = some (.type "type")
  xf_NoFlood : XfC K a.NoFlood
  xc_NoFlood : ExcC K a.NoFlood
  mq_NoFlood : mroE K a.NoFlood a.HoldError = true
  xt_NoFlood : PySem.W.typeIn K (.ref a.NoFlood) = some (.type "type")
  xf_NoClass : XfC K a.NoClass
  xc_NoClass : ExcC K a.NoClass
  mq_NoClass : mroE K a.NoClass a.HoldError = true
  xt_NoClass : PySem.W.typeIn K (.ref a.NoClass) = some (.type "type")
  xf_NoName : XfC K a.NoName
  xc_NoName : ExcC K a.NoName
  mq_NoName : mroE K a.NoName a.HoldError = true
  xt_NoName : PySem.W.typeIn K (.ref a.NoName) = some (.type "type")
  xf_NoRow : XfC K a.NoRow
  xc_NoRow : ExcC K a.NoRow
  mq_NoRow : mroE K a.NoRow a.HoldError = true
  xt_NoRow : PySem.W.typeIn K (.ref a.NoRow) = some (.type "type")
  xf_BadPixel : XfC K a.BadPixel
  xc_BadPixel : ExcC K a.BadPixel
  mq_BadPixel : mroE K a.BadPixel a.HoldError = true
  xt_BadPixel : PySem.W.typeIn K (.ref a.BadPixel) = some (.type "type")
  xf_TooMany : XfC K a.TooMany
  xc_TooMany : ExcC K a.TooMany
  mq_TooMany : mroE K a.TooMany a.HoldError = true
  xt_TooMany : PySem.W.typeIn K (.ref a.TooMany) = some (.type "type")
  xf_Fails : XfC K a.Fails
  xc_Fails : ExcC K a.Fails
  mq_Fails : mroE K a.Fails a.HoldError = true
  xt_Fails : PySem.W.typeIn K (.ref a.Fails) = some (.type "type")
  xf_Gap : XfC K a.Gap
  xc_Gap : ExcC K a.Gap
  mq_Gap : mroE K a.Gap a.HoldError = true
  xt_Gap : PySem.W.typeIn K (.ref a.Gap) = some (.type "type")
  xf_BadText : XfC K a.BadText
  xc_BadText : ExcC K a.BadText
  mq_BadText : mroE K a.BadText a.HoldError = true
  xt_BadText : PySem.W.typeIn K (.ref a.BadText) = some (.type "type")
  xf_Unlike : XfC K a.Unlike
  xc_Unlike : ExcC K a.Unlike
  mq_Unlike : mroE K a.Unlike a.HoldError = true
  xt_Unlike : PySem.W.typeIn K (.ref a.Unlike) = some (.type "type")
  xi_HoldError : PySem.W.isClsIn K a.HoldError = true
  xt_HoldError : PySem.W.typeIn K (.ref a.HoldError) = some (.type "type")
  xm_Fails_HoldError : PySem.W.exmOne K (.ref a.Fails) (.ref a.HoldError) = some true
  nd : [a.BadPlace, a.BadSize, a.BadColour, a.BadPicture, a.BadDeed, a.BadProgram, a.BadClaim, a.BadClass, a.NoDeed, a.NoFlood, a.NoClass, a.NoName, a.NoRow, a.BadPixel, a.TooMany, a.Fails, a.Gap, a.BadText, a.Unlike, a.HoldError].Nodup
  m_BadPlace : mg "BadPlace" = some (.ref a.BadPlace)
  e_BadPlace : ErrF K a.BadPlace a.BadPlace_init
  a_BadPlace_part : PySem.W.findIn K (.ref a.BadPlace) "part" = some none
  m_BadSize : mg "BadSize" = some (.ref a.BadSize)
  e_BadSize : ErrF K a.BadSize a.BadSize_init
  a_BadSize_part : PySem.W.findIn K (.ref a.BadSize) "part" = some none
  m_BadColour : mg "BadColour" = some (.ref a.BadColour)
  e_BadColour : ErrF K a.BadColour a.BadColour_init
  a_BadColour_value : PySem.W.findIn K (.ref a.BadColour) "value" = some none
  m_BadPicture : mg "BadPicture" = some (.ref a.BadPicture)
  e_BadPicture : ErrF K a.BadPicture a.BadPicture_init
  a_BadPicture_row : PySem.W.findIn K (.ref a.BadPicture) "row" = some none
  m_BadDeed : mg "BadDeed" = some (.ref a.BadDeed)
  e_BadDeed : ErrF K a.BadDeed a.BadDeed_init
  a_BadDeed_part : PySem.W.findIn K (.ref a.BadDeed) "part" = some none
  m_BadProgram : mg "BadProgram" = some (.ref a.BadProgram)
  e_BadProgram : ErrF K a.BadProgram a.BadProgram_init
  a_BadProgram_at : PySem.W.findIn K (.ref a.BadProgram) "at" = some none
  m_BadClaim : mg "BadClaim" = some (.ref a.BadClaim)
  e_BadClaim : ErrF K a.BadClaim a.BadClaim_init
  a_BadClaim_part : PySem.W.findIn K (.ref a.BadClaim) "part" = some none
  m_BadClass : mg "BadClass" = some (.ref a.BadClass)
  e_BadClass : ErrF K a.BadClass a.BadClass_init
  a_BadClass_part : PySem.W.findIn K (.ref a.BadClass) "part" = some none
  m_NoDeed : mg "NoDeed" = some (.ref a.NoDeed)
  e_NoDeed : ErrF K a.NoDeed a.NoDeed_init
  a_NoDeed_index : PySem.W.findIn K (.ref a.NoDeed) "index" = some none
  m_NoFlood : mg "NoFlood" = some (.ref a.NoFlood)
  e_NoFlood : ErrF K a.NoFlood a.NoFlood_init
  a_NoFlood_index : PySem.W.findIn K (.ref a.NoFlood) "index" = some none
  m_NoClass : mg "NoClass" = some (.ref a.NoClass)
  e_NoClass : ErrF K a.NoClass a.NoClass_init
  a_NoClass_value : PySem.W.findIn K (.ref a.NoClass) "value" = some none
  m_NoName : mg "NoName" = some (.ref a.NoName)
  e_NoName : ErrF K a.NoName a.NoName_init
  a_NoName_name : PySem.W.findIn K (.ref a.NoName) "name" = some none
  m_NoRow : mg "NoRow" = some (.ref a.NoRow)
  e_NoRow : ErrF K a.NoRow a.NoRow_init
  a_NoRow_word : PySem.W.findIn K (.ref a.NoRow) "word" = some none
  m_BadPixel : mg "BadPixel" = some (.ref a.BadPixel)
  e_BadPixel : ErrF K a.BadPixel a.BadPixel_init
  a_BadPixel_x : PySem.W.findIn K (.ref a.BadPixel) "x" = some none
  a_BadPixel_y : PySem.W.findIn K (.ref a.BadPixel) "y" = some none
  m_TooMany : mg "TooMany" = some (.ref a.TooMany)
  e_TooMany : ErrF K a.TooMany a.TooMany_init
  a_TooMany_what : PySem.W.findIn K (.ref a.TooMany) "what" = some none
  a_TooMany_most : PySem.W.findIn K (.ref a.TooMany) "most" = some none
  m_Fails : mg "Fails" = some (.ref a.Fails)
  e_Fails : ErrF K a.Fails a.Fails_init
  a_Fails_width : PySem.W.findIn K (.ref a.Fails) "width" = some none
  a_Fails_height : PySem.W.findIn K (.ref a.Fails) "height" = some none
  m_Gap : mg "Gap" = some (.ref a.Gap)
  e_Gap : ErrF K a.Gap a.Gap_init
  a_Gap_x : PySem.W.findIn K (.ref a.Gap) "x" = some none
  a_Gap_y : PySem.W.findIn K (.ref a.Gap) "y" = some none
  m_BadText : mg "BadText" = some (.ref a.BadText)
  e_BadText : ErrF K a.BadText a.BadText_init
  a_BadText_line : PySem.W.findIn K (.ref a.BadText) "line" = some none
  a_BadText_word : PySem.W.findIn K (.ref a.BadText) "word" = some none
/-! ### the bag of draws -/
/-- the pairs of a bag: its cells' list at c, where it stands, what rests, its state -/
def bagK (c : Addr) (i r st : Int) : List (Key × V) := [(Sum.inr "cells", V.ref c), (Sum.inr "at", V.int i), (Sum.inr "rest", V.int r), (Sum.inr "state", V.int st)]
theorem bagK_len (c : Addr) (i r st : Int) : (bagK c i r st).length < sizeLine := Nat.lt_of_le_of_lt (show 4 ≤ 4 from Nat.le_refl 4) (by decide +kernel)
theorem kAC : ¬ (("cells" : Str) = "at") := by decide +kernel
theorem kRC : ¬ (("cells" : Str) = "rest") := by decide +kernel
theorem kSC : ¬ (("cells" : Str) = "state") := by decide +kernel
theorem kAR : ¬ (("at" : Str) = "rest") := by decide +kernel
theorem kAS : ¬ (("at" : Str) = "state") := by decide +kernel
theorem kRS : ¬ (("rest" : Str) = "state") := by decide +kernel
theorem inr_ne {x y : Str} (h : ¬ x = y) : ¬ ((Sum.inr x : Key) = Sum.inr y) := fun e => h (Sum.inr.inj e)
theorem bag_cells (c : Addr) (i r st : Int) : valV (bagK c i r st) (Sum.inr "cells") = some (V.ref c) := valV_pos rfl
theorem bag_at (c : Addr) (i r st : Int) : valV (bagK c i r st) (Sum.inr "at") = some (V.int i) := (valV_neg (inr_ne kAC)).trans (valV_pos rfl)
theorem bag_rest (c : Addr) (i r st : Int) : valV (bagK c i r st) (Sum.inr "rest") = some (V.int r) := (valV_neg (inr_ne kRC)).trans ((valV_neg (inr_ne kAR)).trans (valV_pos rfl))
theorem bag_state (c : Addr) (i r st : Int) : valV (bagK c i r st) (Sum.inr "state") = some (V.int st) := (valV_neg (inr_ne kSC)).trans ((valV_neg (inr_ne kAS)).trans ((valV_neg (inr_ne kRS)).trans (valV_pos rfl)))
theorem put_at (c : Addr) (i r st j : Int) : putK (bagK c i r st) (Sum.inr "at") (V.int j) = bagK c j r st := by
  have e1 : ¬ ((Sum.inr ("cells" : Str) : Key) = Sum.inr ("at" : Str)) := inr_ne kAC
  have e2 : ¬ ((Sum.inr ("rest" : Str) : Key) = Sum.inr ("at" : Str)) := inr_ne fun z => kAR z.symm
  have e3 : ¬ ((Sum.inr ("state" : Str) : Key) = Sum.inr ("at" : Str)) := inr_ne fun z => kAS z.symm
  unfold putK bagK
  simp [e1, e2, e3]
theorem put_rest (c : Addr) (i r st j : Int) : putK (bagK c i r st) (Sum.inr "rest") (V.int j) = bagK c i j st := by
  have e1 : ¬ ((Sum.inr ("cells" : Str) : Key) = Sum.inr ("rest" : Str)) := inr_ne kRC
  have e2 : ¬ ((Sum.inr ("at" : Str) : Key) = Sum.inr ("rest" : Str)) := inr_ne kAR
  have e3 : ¬ ((Sum.inr ("state" : Str) : Key) = Sum.inr ("rest" : Str)) := inr_ne fun z => kRS z.symm
  unfold putK bagK
  simp [e1, e2, e3]
theorem put_state (c : Addr) (i r st j : Int) : putK (bagK c i r st) (Sum.inr "state") (V.int j) = bagK c i r j := by
  have e1 : ¬ ((Sum.inr ("cells" : Str) : Key) = Sum.inr ("state" : Str)) := inr_ne kSC
  have e2 : ¬ ((Sum.inr ("at" : Str) : Key) = Sum.inr ("state" : Str)) := inr_ne kAS
  have e3 : ¬ ((Sum.inr ("rest" : Str) : Key) = Sum.inr ("state" : Str)) := inr_ne kRS
  unfold putK bagK
  simp [e1, e2, e3]
theorem merge_bag (c : Addr) (i r st : Int) : mergeK [] (bagK c i r st) = bagK c i r st := by
  have e1 : ¬ ((Sum.inr ("cells" : Str) : Key) = Sum.inr ("at" : Str)) := inr_ne kAC
  have e2 : ¬ ((Sum.inr ("cells" : Str) : Key) = Sum.inr ("rest" : Str)) := inr_ne kRC
  have e3 : ¬ ((Sum.inr ("cells" : Str) : Key) = Sum.inr ("state" : Str)) := inr_ne kSC
  have e4 : ¬ ((Sum.inr ("at" : Str) : Key) = Sum.inr ("rest" : Str)) := inr_ne kAR
  have e5 : ¬ ((Sum.inr ("at" : Str) : Key) = Sum.inr ("state" : Str)) := inr_ne kAS
  have e6 : ¬ ((Sum.inr ("rest" : Str) : Key) = Sum.inr ("state" : Str)) := inr_ne kRS
  unfold mergeK bagK putK
  simp [e1, e2, e3, e4, e5, e6]
/-- what holds of a bag at d whose cells stand at c -/
structure BagN (c : Addr) (ns : List Int) (i : Nat) (r st : Int) : Prop where
  hi : i ≤ ns.length
  r0 : 0 ≤ r
  s0 : 0 ≤ st
  s1 : st < 2147483647
def BagIs (o : HO) (c : Addr) (ns : List Int) : Prop := ∃ (i : Nat) (r st : Int), o = .dK (bagK c i r st) ∧ BagN c ns i r st
/-- a bag stands at d -/
def Bag (H : Hp) (d : Addr) : Prop := ∃ (c : Addr) (ns : List Int) (o : HO), H d = some o ∧ BagIs o c ns ∧ H c = some (.lst (ns.map V.int)) ∧ ns.length ≤ 63
theorem Bag.ne {H : Hp} {d b : Addr} {o : HO} (B : Bag H d) (h : H b = some o) (n : ∀ kvs, o ≠ .dK kvs) : b ≠ d := by
  obtain ⟨c, ns, o', hd, ⟨i, r, st, e, _⟩, _⟩ := B
  subst e
  exact ne_of h hd (n _)
theorem Bag.same {H H' : Hp} {d : Addr} (B : Bag H d) (s : Same H H') : Bag H' d := by
  obtain ⟨c, ns, o, hd, bi, hc, hl⟩ := B
  exact ⟨c, ns, o, s _ _ hd, bi, s _ _ hc, hl⟩
theorem Bag.there {H : Hp} {d : Addr} (B : Bag H d) : ∃ o, H d = some o := by
  obtain ⟨c, ns, o, hd, _⟩ := B
  exact ⟨o, hd⟩
theorem upd_self {H : Hp} {a : Addr} {o : HO} (h : H a = some o) : upd H a o = H := by
  funext b
  by_cases e : b = a
  · subst e; rw [upd_same, h]
  · rw [upd_ne e]
/-- draw: an int below the limit, the bag goes on, nothing else is touched -/
def spDraw : Sp := fun vs H Q _ => ∃ (d : Addr) (n : Int), vs = [.ref d, .int n] ∧ Bag H d ∧ 0 < n ∧ n < 1073741824 ∧
  ∀ (z : Int) (o : HO), 0 ≤ z → z < n → Bag (upd H d o) d → Q (.int z) (upd H d o)
/-- the bag's cells stand at c -/
def CellsAt (H : Hp) (d c : Addr) : Prop := ∃ (i : Nat) (r st : Int), H d = some (.dK (bagK c i r st))
theorem cells_one {H : Hp} {d c c' : Addr} (h : CellsAt H d c) (h' : CellsAt H d c') : c = c' := by
  obtain ⟨i, r, st, e⟩ := h
  obtain ⟨i', r', st', e'⟩ := h'
  rw [e] at e'
  have q : bagK c i r st = bagK c' i' r' st' := by injection e' with q; injection q
  have a := bag_cells c i r st
  rw [q, bag_cells] at a
  injection a with a
  injection a with a
  exact a.symm
theorem CellsAt.same {H H' : Hp} {d c : Addr} (h : CellsAt H d c) (s : Same H H') : CellsAt H' d c := by
  obtain ⟨i, r, st, e⟩ := h
  exact ⟨i, r, st, s _ _ e⟩
/-- draw, told with the cells -/
def spDrawC : Sp := fun vs H Q _ => ∃ (d : Addr) (n : Int), vs = [.ref d, .int n] ∧ Bag H d ∧ 0 < n ∧ n < 1073741824 ∧
  ∀ (z : Int) (o : HO), 0 ≤ z → z < n → Bag (upd H d o) d → (∀ c, CellsAt H d c → CellsAt (upd H d o) d c) → Q (.int z) (upd H d o)
theorem dg_cells {H : Hp} {d c : Addr} {i r st : Int} (h : H d = some (.dK (bagK c i r st))) : DGet H d (.str "cells") (some (.ref c)) := .inl ⟨_, Sum.inr "cells", .inl h, rfl, (bag_cells c i r st).symm⟩
theorem dg_at {H : Hp} {d c : Addr} {i r st : Int} (h : H d = some (.dK (bagK c i r st))) : DGet H d (.str "at") (some (.int i)) := .inl ⟨_, Sum.inr "at", .inl h, rfl, (bag_at c i r st).symm⟩
theorem dg_rest {H : Hp} {d c : Addr} {i r st : Int} (h : H d = some (.dK (bagK c i r st))) : DGet H d (.str "rest") (some (.int r)) := .inl ⟨_, Sum.inr "rest", .inl h, rfl, (bag_rest c i r st).symm⟩
theorem dg_state {H : Hp} {d c : Addr} {i r st : Int} (h : H d = some (.dK (bagK c i r st))) : DGet H d (.str "state") (some (.int st)) := .inl ⟨_, Sum.inr "state", .inl h, rfl, (bag_state c i r st).symm⟩
theorem dp_at {H : Hp} {d c : Addr} {i r st : Int} (j : Int) (h : H d = some (.dK (bagK c i r st))) : DPut H d (.str "at") (.int j) (upd H d (.dK (bagK c j r st))) := by
  have := DPut.k (k := Sum.inr "at") (v := V.int j) h (bagK_len c i r st)
  rw [put_at] at this
  exact this
theorem dp_rest {H : Hp} {d c : Addr} {i r st : Int} (j : Int) (h : H d = some (.dK (bagK c i r st))) : DPut H d (.str "rest") (.int j) (upd H d (.dK (bagK c i j st))) := by
  have := DPut.k (k := Sum.inr "rest") (v := V.int j) h (bagK_len c i r st)
  rw [put_rest] at this
  exact this
theorem dp_state {H : Hp} {d c : Addr} {i r st : Int} (j : Int) (h : H d = some (.dK (bagK c i r st))) : DPut H d (.str "state") (.int j) (upd H d (.dK (bagK c i r j))) := by
  have := DPut.k (k := Sum.inr "state") (v := V.int j) h (bagK_len c i r st)
  rw [put_state] at this
  exact this
theorem while_inv {c : TT} {tb : TS} {D : Ends} {σ : L2.St} {H : Hp} (W : Nat → L2.St → Hp → Prop) (h0 : ∃ m, W m σ H) (hexit : ∀ m σ H, W m σ H → D.nx σ H)
    (hturn : (∀ m σ H, W m σ H → D.nx σ H) → ∀ m σ H, W m σ H → c σ H fun b H1 => if b = true then ∃ N : L2.St → Hp → Prop, (∀ σ' H', N σ' H' → ∃ m', m' < m ∧ W m' σ' H') ∧ tb { D with nx := N, ct := N, bk := D.nx } σ H1 else D.nx σ H1) : tWhile c tb D σ H :=
  ⟨W, h0, hturn hexit⟩
section
variable {P : Program} {w : World} {K : PySem.W.Frag} {mg : Str → Option Value} {base : Heap} {a : Adr}
set_option maxHeartbeats 4000000
theorem ok_drawC (T : Txt K mg a) : FnR P w K mg base CX0 1 a._law_draw spDrawC := by
  refine T.d__law_draw.ok sc__law_draw (fun _ _ _ _ _ _ us hl => match us, hl with | [_, _], _ => rfl) (fun vs H Q E h => ?_) (fun cdv A outer s H vs Q E hr h => ?_)
  · obtain ⟨d, n, rfl, _⟩ := h
    rfl
  · obtain ⟨d, n, rfl, B, hn, hn2, k⟩ := h
    have hu := hu_of hr
    have pos1 : (0 : Int) < 2147483647 := by decide
    have pos2 : (0 : Int) < 2147483629 := by decide
    refine ⟨_, (pss_cons (ps_while PassesOwn.never (PW.pt (pw_and (pt_cmpR op_lt (pe_dget hu (pv 0) pe_str (fun _ _ => rfl)) pe_int (nomark _)) (pw_and1 (pt_cmpR op_lt (pe_dget hu (pv 0) pe_str (fun _ _ => rfl)) (pe_callB call_len_seq (by rfl) T.n_len (by decide +kernel) (pa_cons (pe_dget hu (pv 0) pe_str (fun _ _ => rfl)) pa_nil)) (nomark _)))))
          (pss_cons (ps_set (i := 2) sc__law_draw.nd rfl (Or.inl rfl) (pe_callB call_abs (by rfl) T.n_abs (by decide +kernel) (pa_cons (pe_ix ix_list (pe_dget hu (pv 0) pe_str (fun _ _ => rfl)) (pe_dget hu (pv 0) pe_str (fun _ _ => rfl)) (fun _ _ => rfl)) pa_nil)))
          (pss_cons (ps_dput hu (pv 0) pe_str (pe_op op_add (pe_dget hu (pv 0) pe_str (fun _ _ => rfl)) pe_int) rfl)
          (pss_cons (ps_if (pt_cmpR op_lt (pv 2) (pe_op op_pow pe_int pe_int) (nomark _))
              (pss_cons (ps_set (i := 3) sc__law_draw.nd rfl (Or.inl rfl) (pe_op op_mod (pe_callTy call_int1 (by rfl) T.n_int (by decide +kernel) (pa_cons (pe_op op_add (pe_op op_pow (pe_op op_add (pv 2) pe_int) pe_int) (pe_op op_mul (pe_dget hu (pv 0) pe_str (fun _ _ => rfl)) (pe_op op_add (pe_dget hu (pv 0) pe_str (fun _ _ => rfl)) pe_int))) pa_nil)) pe_int))
              (pss_one (ps_ret (pe_op op_mod (pv 3) (pv 1)))))
              pss_nil)
          (pss_one (ps_dput hu (pv 0) pe_str (pv 2) rfl))))))
      (pss_cons (ps_if (pt_cmpR op_ge (pe_dget hu (pv 0) pe_str (fun _ _ => rfl)) pe_int (nomark _))
          (pss_cons (ps_set (i := 4) sc__law_draw.nd rfl (Or.inl rfl) (pe_op op_mod (pe_callTy call_int1 (by rfl) T.n_int (by decide +kernel) (pa_cons (pe_dget hu (pv 0) pe_str (fun _ _ => rfl)) pa_nil)) (pv 1)))
          (pss_cons (ps_dput hu (pv 0) pe_str (pe_op op_fdiv (pe_dget hu (pv 0) pe_str (fun _ _ => rfl)) (pv 1)) rfl)
          (pss_one (ps_ret (pv 4)))))
          pss_nil)
      (pss_cons (ps_dput hu (pv 0) pe_str (pe_op op_mod (pe_callTy call_int1 (by rfl) T.n_int (by decide +kernel) (pa_cons (pe_op op_add (pe_op op_mul (pe_dget hu (pv 0) pe_str (fun _ _ => rfl)) pe_int) pe_int) pa_nil)) pe_int) rfl)
      (pss_one (ps_ret (pe_op op_mod (pe_op op_mod (pe_callTy call_int1 (by rfl) T.n_int (by decide +kernel) (pa_cons (pe_op op_pow (pe_dget hu (pv 0) pe_str (fun _ _ => rfl)) pe_int) pa_nil)) pe_int) (pv 1))))))), ?_⟩
    obtain ⟨c, ns, o, hd, ⟨i0, r0, st0, eo, N0⟩, hc, hns⟩ := B
    subst eo
    have hcd : c ≠ d := ne_of hc hd (fun z => by cases z)
    have bagU : ∀ (i : Nat) (r st : Int), BagN c ns i r st → Bag (upd H d (.dK (bagK c i r st))) d := fun i r st N =>
      ⟨c, ns, _, upd_same, ⟨i, r, st, rfl, N⟩, by rw [upd_ne hcd]; exact hc, hns⟩
    have kk : ∀ (z : Int) (i : Nat) (r st : Int), 0 ≤ z → z < n → BagN c ns i r st → Q (.int z) (upd H d (.dK (bagK c i r st))) := fun z i r st h0 h1 N => k z _ h0 h1 (bagU i r st N) fun c' hc' => by
      rw [cells_one hc' ⟨i0, r0, st0, hd⟩]
      exact ⟨i, r, st, upd_same⟩
    refine while_inv (fun m σ H' => ∃ (i : Nat) (r st : Int) (v2 v3 v4 : Option V), m = ns.length - i ∧ σ = [some (.ref d), some (.int n), v2, v3, v4] ∧ H' = upd H d (.dK (bagK c i r st)) ∧ BagN c ns i r st)
      ⟨_, i0, r0, st0, _, _, _, rfl, rfl, (upd_self hd).symm, N0⟩ ?_ ?_
    · -- behind the loop
      rintro m σ H' ⟨i, r, st, v2, v3, v4, _, rfl, rfl, N⟩
      refine ⟨_, rfl, d, _, rfl, dg_rest upd_same, _, _, rfl, rfl, _, rfl, ?_⟩
      refine ite2 (fun hb => ?_) (fun hb => ?_)
      · have h2 : 2 ≤ r := of_decide_eq_true hb
        refine ⟨_, rfl, d, _, rfl, dg_rest upd_same, .inl ⟨_, rfl, _, rfl, _, _, rfl, rfl, hn, ?_⟩⟩
        refine ⟨_, rfl, d, _, rfl, dg_rest upd_same, _, rfl, _, _, rfl, rfl, ⟨hn, hn2⟩, _, rfl, d, _, rfl, dp_rest _ upd_same, ?_⟩
        rw [upd_upd]
        refine ⟨_, rfl, kk _ i _ st (Int.emod_nonneg _ (by omega)) (Int.emod_lt_of_pos _ hn) ⟨N.hi, Int.ediv_nonneg N.r0 (by omega), N.s0, N.s1⟩⟩
      · have s64 : (-(2 ^ 64) < st ∧ st < 2 ^ 64) := ⟨by have := N.s0; omega, by have := N.s1; omega⟩
        refine ⟨_, rfl, d, _, rfl, dg_state upd_same, _, _, rfl, rfl, .inl s64, _, _, rfl, rfl, .inl ⟨_, rfl, _, _, rfl, rfl, pos1, _, rfl, d, _, rfl, dp_state _ upd_same, ?_⟩⟩
        rw [upd_upd]
        have t0 : 0 ≤ (st * 48271 + 13) % 2147483647 := Int.emod_nonneg _ (by decide)
        have t1 : (st * 48271 + 13) % 2147483647 < 2147483647 := Int.emod_lt_of_pos _ (by decide)
        refine ⟨_, rfl, d, _, rfl, dg_state upd_same, _, _, rfl, rfl, ⟨by decide, by decide, by omega⟩, .inl ⟨_, rfl, _, _, rfl, rfl, pos2, _, rfl, _, _, rfl, rfl, hn, ?_⟩⟩
        exact kk _ i _ _ (Int.emod_nonneg _ (by omega)) (Int.emod_lt_of_pos _ hn) ⟨N.hi, N.r0, t0, t1⟩
    · rintro ex m σ H' ⟨i, r, st, v2, v3, v4, rfl, rfl, rfl, N⟩
      have hc' : ∀ o, (upd H d o) c = some (.lst (ns.map V.int)) := fun o => by rw [upd_ne hcd]; exact hc
      refine ⟨_, rfl, d, _, rfl, dg_rest upd_same, _, _, rfl, rfl, _, rfl, ?_⟩
      refine ite2 (fun hb => ?_) (fun hb => iteF (ex _ _ _ ⟨i, r, st, v2, v3, v4, rfl, rfl, rfl, N⟩))
      refine ⟨_, rfl, d, _, rfl, dg_at upd_same, _, rfl, d, _, rfl, dg_cells upd_same, c, _, rfl, .inl (SqL.of (hc' _)), _, _, rfl, rfl, _, rfl, ?_⟩
      refine ite2 (fun hb2 => ?_) (fun hb2 => ex _ _ _ ⟨i, r, st, v2, v3, v4, rfl, rfl, rfl, N⟩)
      have hil : i < ns.length := by
        have := of_decide_eq_true hb2
        rw [List.length_map] at this
        omega
      refine ⟨fun σ' H' => ∃ m', m' < ns.length - i ∧ ∃ (i : Nat) (r st : Int) (v2 v3 v4 : Option V), m' = ns.length - i ∧ σ' = [some (.ref d), some (.int n), v2, v3, v4] ∧ H' = upd H d (.dK (bagK c i r st)) ∧ BagN c ns i r st, fun _ _ h => h, ?_⟩
      -- cell = abs(cells[at]); at = at + 1
      have ei : (ns.map V.int)[i]? = some (V.int ns[i]) := by simp [hil]
      have s64 : (-(2 ^ 64) < st ∧ st < 2 ^ 64) := ⟨by have := N.s0; omega, by have := N.s1; omega⟩
      have ea : (i : Int) + 1 = ((i + 1 : Nat) : Int) := by omega
      refine ⟨_, rfl, d, _, rfl, dg_cells upd_same, _, rfl, d, _, rfl, dg_at upd_same, c, _, _, _, rfl, rfl, SqL.of (hc' _), atI_nat ei, _, rfl, ?_⟩
      have hc0 : 0 ≤ (if ns[i] < 0 then -ns[i] else ns[i]) := by split <;> omega
      generalize (if ns[i] < 0 then -ns[i] else ns[i]) = cell at hc0
      refine ⟨_, rfl, d, _, rfl, dg_at upd_same, _, _, rfl, rfl, _, rfl, d, _, rfl, dp_at _ upd_same, ?_⟩
      rw [upd_upd, ea]
      refine ⟨_, rfl, _, _, rfl, rfl, ⟨by decide, by decide, by decide⟩, _, _, rfl, rfl, _, rfl, ?_⟩
      refine ite2 (fun h18 => ?_) (fun h18 => ?_)
      · have h18' : cell < 10 ^ 18 := of_decide_eq_true h18
        have hq : (10 : Int) ^ 18 = 1000000000000000000 := by decide
        rw [hq] at h18'
        refine ⟨_, rfl, _, _, rfl, rfl, _, _, rfl, rfl, ⟨by decide, by decide, by omega⟩, _, rfl, d, _, rfl, dg_state upd_same, _, rfl, d, _, rfl, dg_at upd_same, _, _, rfl, rfl, _, _, rfl, rfl, .inl s64, _, _, rfl, rfl, .inl ⟨_, rfl, _, _, rfl, rfl, pos2, ?_⟩⟩
        refine ⟨_, rfl, _, rfl, _, _, rfl, rfl, hn, ?_⟩
        exact kk _ (i + 1) _ _ (Int.emod_nonneg _ (by omega)) (Int.emod_lt_of_pos _ hn) ⟨hil, N.r0, N.s0, N.s1⟩
      · refine ⟨_, rfl, _, rfl, d, _, rfl, dp_rest _ upd_same, ?_⟩
        rw [upd_upd]
        exact ⟨_, Nat.sub_lt_sub_left hil (Nat.lt_succ_self i), i + 1, cell, st, _, _, _, rfl, rfl, rfl, ⟨hil, hc0, N.s0, N.s1⟩⟩
theorem ok_draw (T : Txt K mg a) : FnR P w K mg base CX0 1 a._law_draw spDraw := (ok_drawC T).imp fun vs H Q E h => by
  obtain ⟨d, n, rfl, B, h1, h2, k⟩ := h
  exact ⟨d, n, rfl, B, h1, h2, fun z o a b c _ => k z o a b c⟩
/-- bag: a new bag of the script -/
def spBag (K : PySem.W.Frag) : Sp := fun vs H Q _ => ∃ (sa : Addr) (ns : List Int), vs = [.ref sa] ∧ SqL K H sa (ns.map V.int) ∧ ns.length ≤ 63 ∧
  ∀ (d : Addr) (H' : Hp), Same H H' → H d = none → Bag H' d → Q (.ref d) H'
theorem cut63 {ns : List Int} (h : ns.length ≤ 63) : cutV (ns.map V.int) none (some 63) = ns.map V.int := by
  have e1 : HT.sIx (ns.map V.int).length 0 none = 0 := rfl
  have e2 : (ns.map V.int).length ≤ HT.sIx (ns.map V.int).length (ns.map V.int).length (some 63) := by
    rw [List.length_map]
    unfold HT.sIx
    simp
    omega
  unfold cutV
  rw [e1, List.drop_zero, Nat.sub_zero]
  exact List.take_of_length_le e2
theorem ok_bag (T : Txt K mg a) : FnR P w K mg base CX0 1 a._law_bag (spBag K) := by
  refine T.d__law_bag.ok sc__law_bag (fun _ _ _ _ _ _ us hl => match us, hl with | [_], _ => rfl) (fun vs H Q E h => ?_) (fun cdv A outer s H vs Q E hr h => ?_)
  · obtain ⟨sa, ns, rfl, _⟩ := h
    rfl
  · obtain ⟨sa, ns, rfl, hS, hns, k⟩ := h
    have hu := hu_of hr
    have pos1 : (0 : Int) < 2147483647 := by decide
    have pos2 : (0 : Int) < 2147483629 := by decide
    refine ⟨_, (pss_cons (ps_set (i := 1) sc__law_bag.nd rfl (Or.inl rfl) pe_int)
      (pss_cons (ps_for PassesOwn.never rfl (pi_list (pe_slice sl_list (pv 0) po_none (po_some pe_int))) (pg_name (i := 2) sc__law_bag.nd rfl (Or.inl rfl))
          (pss_one (ps_set (i := 1) sc__law_bag.nd rfl (Or.inl rfl) (pe_op op_mod (pe_callTy call_int1 (by rfl) T.n_int (by decide +kernel) (pa_cons (pe_op op_add (pe_op op_add (pe_op op_mul (pv 1) pe_int) (pe_op op_mod (pe_callB call_abs (by rfl) T.n_abs (by decide +kernel) (pa_cons (pv 2) pa_nil)) pe_int)) pe_int) pa_nil)) pe_int))))
      (pss_one (ps_ret (pe_disp (pps_cons pe_str (pe_callTy call_list_of (by rfl) T.n_list (by decide +kernel) (pa_cons (pe_slice sl_list (pv 0) po_none (po_some pe_int)) pa_nil)) (pps_cons pe_str pe_int (pps_cons pe_str pe_int (pps_cons pe_str (pv 1) pps_nil)))) (by rfl) (by rfl) (fun z => by cases z) (by decide)))))), ?_⟩
    refine ⟨_, rfl, _, rfl, sa, _, rfl, hS, fun p hp => ?_⟩
    rw [cut63 hns]
    refine ⟨p, rfl, ⟨_, SqL.of upd_same⟩, for_list (K := K) (a := p) (xs := ns.map V.int) (fun i σ H' => ∃ (st : Int) (v : Option V), σ = [some (.ref sa), some (.int st), v] ∧ H' = upd H p (.lst (ns.map V.int)) ∧ 0 ≤ st ∧ st < 2147483647)
      ⟨7, none, rfl, rfl, by decide, by decide⟩ (fun i σ H' _ ⟨_, _, _, e, _⟩ => by rw [e]; exact SqL.of upd_same) ?_ ?_⟩
    · rintro i y σ H' hi ⟨st, v, rfl, rfl, s0, s1⟩
      obtain ⟨z, rfl⟩ : ∃ z, y = V.int z := by
        rw [List.getElem?_map] at hi
        cases e : ns[i]? with
        | none =>
          rw [e] at hi
          cases hi
        | some z =>
          rw [e] at hi
          exact ⟨z, (Option.some.inj hi).symm⟩
      have s64 : (-(2 ^ 64) < st ∧ st < 2 ^ 64) := ⟨by omega, by omega⟩
      refine ⟨_, rfl, _, _, rfl, rfl, .inl s64, _, rfl, _, rfl, _, _, rfl, rfl, pos2, _, _, rfl, rfl, _, _, rfl, rfl, .inl ⟨_, rfl, _, _, rfl, rfl, pos1, ?_⟩⟩
      exact ⟨_, _, rfl, rfl, Int.emod_nonneg _ (by decide), Int.emod_lt_of_pos _ pos1⟩
    · rintro σ H' ⟨st, v, rfl, rfl, s0, s1⟩
      have s1' : Same H (upd H p (.lst (ns.map V.int))) := fun b o e => by rw [upd_ne (ne_of_none e hp)]; exact e
      intro d hd
      have hdp : p ≠ d := ne_of_none (upd_same (H := H) (o := .lst (ns.map V.int))) hd
      have hd0 : H d = none := s1'.free hd
      have hS2 : SqL K (upd (upd H p (.lst (ns.map V.int))) d (.dK [])) sa (ns.map V.int) := by
        refine Same.seq (fun b o e => ?_) (s1'.seq hS)
        rw [upd_ne (ne_of_none e hd)]
        exact e
      refine ⟨_, rfl, _, rfl, sa, _, rfl, hS2, fun p2 hp2 => ?_⟩
      rw [cut63 hns]
      refine ⟨p2, _, rfl, .inl (SqL.of upd_same), fun l hl => ?_⟩
      have hpd : p2 ≠ d := fun e => by rw [e, upd_same] at hp2; cases hp2
      have hld : l ≠ d := fun e => by rw [e, upd_ne (fun z => hpd z.symm), upd_same] at hl; cases hl
      refine ⟨_, rfl, by rw [upd_ne (fun z => hld z.symm), upd_ne (fun z => hpd z.symm), upd_same], bagK l 0 0 st, rfl, (by show 4 ≤ 15; decide), ?_⟩
      rw [merge_bag]
      refine k d _ (fun b o e => ?_) hd0 ⟨l, ns, _, upd_same, ⟨0, 0, st, rfl, ⟨Nat.zero_le _, Int.le_refl _, s0, s1⟩⟩, by rw [upd_ne hld, upd_same], hns⟩
      have e1 := s1' _ _ e
      have nb : b ≠ d := ne_of_none e1 hd
      have e2 : (upd (upd H p (.lst (ns.map V.int))) d (.dK [])) b = some o := by rw [upd_ne nb]; exact e1
      have e3 : (upd (upd (upd H p (.lst (ns.map V.int))) d (.dK [])) p2 (.lst (ns.map V.int))) b = some o := by rw [upd_ne (ne_of_none e2 hp2)]; exact e2
      rw [upd_ne nb, upd_ne (ne_of_none e3 hl)]
      exact e3
end
section
variable {P : Program} {w : World} {K : PySem.W.Frag} {mg : Str → Option Value} {base : Heap} {a : Adr}
set_option maxHeartbeats 4000000
theorem upd_mid {H : Hp} {d e : Addr} {o o2 u : HO} (ne : d ≠ e) : upd (upd (upd H d o) e u) d o2 = upd (upd H d o2) e u := by
  funext b
  by_cases q : b = d
  · subst q
    rw [upd_same, upd_ne ne, upd_same]
  · rw [upd_ne q]
    by_cases z : b = e
    · subst z
      rw [upd_same, upd_same]
    · rw [upd_ne z, upd_ne q, upd_ne z, upd_ne q]
theorem ok_BadPlace (T : Txt K mg a) : ∃ fd, FnOk P w K mg base CX0 1 a.BadPlace_init fd ["self", "part"] (spErr1 a.BadPlace "part") ∧ FunD K "__init__" "BadPlace.__init__" (defArgs s_BadPlace_init) (defBody s_BadPlace_init) (defScope s_BadPlace_init) [] [] a.BadPlace_init fd := by
  obtain ⟨fd, F⟩ := id T.d_BadPlace_init
  refine ⟨fd, F.ok sc_BadPlace_init (fun vs H Q E h => by obtain ⟨b, v, rfl, _⟩ := h; rfl) (fun cdv A outer s H vs Q E hr h => ?_), F⟩
  obtain ⟨b, v, rfl, hb, k⟩ := h
  exact ⟨_, (pss_one (ps_ost (pv 0) (pv 1))), _, rfl, _, rfl, b, _, rfl, T.e_BadPlace.ox, T.a_BadPlace_part, .inl ⟨hb, k⟩⟩
theorem ok_BadSize (T : Txt K mg a) : ∃ fd, FnOk P w K mg base CX0 1 a.BadSize_init fd ["self", "part"] (spErr1 a.BadSize "part") ∧ FunD K "__init__" "BadSize.__init__" (defArgs s_BadSize_init) (defBody s_BadSize_init) (defScope s_BadSize_init) [] [] a.BadSize_init fd := by
  obtain ⟨fd, F⟩ := id T.d_BadSize_init
  refine ⟨fd, F.ok sc_BadSize_init (fun vs H Q E h => by obtain ⟨b, v, rfl, _⟩ := h; rfl) (fun cdv A outer s H vs Q E hr h => ?_), F⟩
  obtain ⟨b, v, rfl, hb, k⟩ := h
  exact ⟨_, (pss_one (ps_ost (pv 0) (pv 1))), _, rfl, _, rfl, b, _, rfl, T.e_BadSize.ox, T.a_BadSize_part, .inl ⟨hb, k⟩⟩
theorem ok_BadColour (T : Txt K mg a) : ∃ fd, FnOk P w K mg base CX0 1 a.BadColour_init fd ["self", "value"] (spErr1 a.BadColour "value") ∧ FunD K "__init__" "BadColour.__init__" (defArgs s_BadColour_init) (defBody s_BadColour_init) (defScope s_BadColour_init) [] [] a.BadColour_init fd := by
  obtain ⟨fd, F⟩ := id T.d_BadColour_init
  refine ⟨fd, F.ok sc_BadColour_init (fun vs H Q E h => by obtain ⟨b, v, rfl, _⟩ := h; rfl) (fun cdv A outer s H vs Q E hr h => ?_), F⟩
  obtain ⟨b, v, rfl, hb, k⟩ := h
  exact ⟨_, (pss_one (ps_ost (pv 0) (pv 1))), _, rfl, _, rfl, b, _, rfl, T.e_BadColour.ox, T.a_BadColour_value, .inl ⟨hb, k⟩⟩
theorem ok_BadPicture (T : Txt K mg a) : ∃ fd, FnOk P w K mg base CX0 1 a.BadPicture_init fd ["self", "row"] (spErr1 a.BadPicture "row") ∧ FunD K "__init__" "BadPicture.__init__" (defArgs s_BadPicture_init) (defBody s_BadPicture_init) (defScope s_BadPicture_init) [] [] a.BadPicture_init fd := by
  obtain ⟨fd, F⟩ := id T.d_BadPicture_init
  refine ⟨fd, F.ok sc_BadPicture_init (fun vs H Q E h => by obtain ⟨b, v, rfl, _⟩ := h; rfl) (fun cdv A outer s H vs Q E hr h => ?_), F⟩
  obtain ⟨b, v, rfl, hb, k⟩ := h
  exact ⟨_, (pss_one (ps_ost (pv 0) (pv 1))), _, rfl, _, rfl, b, _, rfl, T.e_BadPicture.ox, T.a_BadPicture_row, .inl ⟨hb, k⟩⟩
theorem ok_BadDeed (T : Txt K mg a) : ∃ fd, FnOk P w K mg base CX0 1 a.BadDeed_init fd ["self", "part"] (spErr1 a.BadDeed "part") ∧ FunD K "__init__" "BadDeed.__init__" (defArgs s_BadDeed_init) (defBody s_BadDeed_init) (defScope s_BadDeed_init) [] [] a.BadDeed_init fd := by
  obtain ⟨fd, F⟩ := id T.d_BadDeed_init
  refine ⟨fd, F.ok sc_BadDeed_init (fun vs H Q E h => by obtain ⟨b, v, rfl, _⟩ := h; rfl) (fun cdv A outer s H vs Q E hr h => ?_), F⟩
  obtain ⟨b, v, rfl, hb, k⟩ := h
  exact ⟨_, (pss_one (ps_ost (pv 0) (pv 1))), _, rfl, _, rfl, b, _, rfl, T.e_BadDeed.ox, T.a_BadDeed_part, .inl ⟨hb, k⟩⟩
theorem ok_BadProgram (T : Txt K mg a) : ∃ fd, FnOk P w K mg base CX0 1 a.BadProgram_init fd ["self", "at"] (spErr1 a.BadProgram "at") ∧ FunD K "__init__" "BadProgram.__init__" (defArgs s_BadProgram_init) (defBody s_BadProgram_init) (defScope s_BadProgram_init) [] [] a.BadProgram_init fd := by
  obtain ⟨fd, F⟩ := id T.d_BadProgram_init
  refine ⟨fd, F.ok sc_BadProgram_init (fun vs H Q E h => by obtain ⟨b, v, rfl, _⟩ := h; rfl) (fun cdv A outer s H vs Q E hr h => ?_), F⟩
  obtain ⟨b, v, rfl, hb, k⟩ := h
  exact ⟨_, (pss_one (ps_ost (pv 0) (pv 1))), _, rfl, _, rfl, b, _, rfl, T.e_BadProgram.ox, T.a_BadProgram_at, .inl ⟨hb, k⟩⟩
theorem ok_BadClaim (T : Txt K mg a) : ∃ fd, FnOk P w K mg base CX0 1 a.BadClaim_init fd ["self", "part"] (spErr1 a.BadClaim "part") ∧ FunD K "__init__" "BadClaim.__init__" (defArgs s_BadClaim_init) (defBody s_BadClaim_init) (defScope s_BadClaim_init) [] [] a.BadClaim_init fd := by
  obtain ⟨fd, F⟩ := id T.d_BadClaim_init
  refine ⟨fd, F.ok sc_BadClaim_init (fun vs H Q E h => by obtain ⟨b, v, rfl, _⟩ := h; rfl) (fun cdv A outer s H vs Q E hr h => ?_), F⟩
  obtain ⟨b, v, rfl, hb, k⟩ := h
  exact ⟨_, (pss_one (ps_ost (pv 0) (pv 1))), _, rfl, _, rfl, b, _, rfl, T.e_BadClaim.ox, T.a_BadClaim_part, .inl ⟨hb, k⟩⟩
theorem ok_BadClass (T : Txt K mg a) : ∃ fd, FnOk P w K mg base CX0 1 a.BadClass_init fd ["self", "part"] (spErr1 a.BadClass "part") ∧ FunD K "__init__" "BadClass.__init__" (defArgs s_BadClass_init) (defBody s_BadClass_init) (defScope s_BadClass_init) [] [] a.BadClass_init fd := by
  obtain ⟨fd, F⟩ := id T.d_BadClass_init
  refine ⟨fd, F.ok sc_BadClass_init (fun vs H Q E h => by obtain ⟨b, v, rfl, _⟩ := h; rfl) (fun cdv A outer s H vs Q E hr h => ?_), F⟩
  obtain ⟨b, v, rfl, hb, k⟩ := h
  exact ⟨_, (pss_one (ps_ost (pv 0) (pv 1))), _, rfl, _, rfl, b, _, rfl, T.e_BadClass.ox, T.a_BadClass_part, .inl ⟨hb, k⟩⟩
theorem ok_NoDeed (T : Txt K mg a) : ∃ fd, FnOk P w K mg base CX0 1 a.NoDeed_init fd ["self", "index"] (spErr1 a.NoDeed "index") ∧ FunD K "__init__" "NoDeed.__init__" (defArgs s_NoDeed_init) (defBody s_NoDeed_init) (defScope s_NoDeed_init) [] [] a.NoDeed_init fd := by
  obtain ⟨fd, F⟩ := id T.d_NoDeed_init
  refine ⟨fd, F.ok sc_NoDeed_init (fun vs H Q E h => by obtain ⟨b, v, rfl, _⟩ := h; rfl) (fun cdv A outer s H vs Q E hr h => ?_), F⟩
  obtain ⟨b, v, rfl, hb, k⟩ := h
  exact ⟨_, (pss_one (ps_ost (pv 0) (pv 1))), _, rfl, _, rfl, b, _, rfl, T.e_NoDeed.ox, T.a_NoDeed_index, .inl ⟨hb, k⟩⟩
theorem ok_NoFlood (T : Txt K mg a) : ∃ fd, FnOk P w K mg base CX0 1 a.NoFlood_init fd ["self", "index"] (spErr1 a.NoFlood "index") ∧ FunD K "__init__" "NoFlood.__init__" (defArgs s_NoFlood_init) (defBody s_NoFlood_init) (defScope s_NoFlood_init) [] [] a.NoFlood_init fd := by
  obtain ⟨fd, F⟩ := id T.d_NoFlood_init
  refine ⟨fd, F.ok sc_NoFlood_init (fun vs H Q E h => by obtain ⟨b, v, rfl, _⟩ := h; rfl) (fun cdv A outer s H vs Q E hr h => ?_), F⟩
  obtain ⟨b, v, rfl, hb, k⟩ := h
  exact ⟨_, (pss_one (ps_ost (pv 0) (pv 1))), _, rfl, _, rfl, b, _, rfl, T.e_NoFlood.ox, T.a_NoFlood_index, .inl ⟨hb, k⟩⟩
theorem ok_NoClass (T : Txt K mg a) : ∃ fd, FnOk P w K mg base CX0 1 a.NoClass_init fd ["self", "value"] (spErr1 a.NoClass "value") ∧ FunD K "__init__" "NoClass.__init__" (defArgs s_NoClass_init) (defBody s_NoClass_init) (defScope s_NoClass_init) [] [] a.NoClass_init fd := by
  obtain ⟨fd, F⟩ := id T.d_NoClass_init
  refine ⟨fd, F.ok sc_NoClass_init (fun vs H Q E h => by obtain ⟨b, v, rfl, _⟩ := h; rfl) (fun cdv A outer s H vs Q E hr h => ?_), F⟩
  obtain ⟨b, v, rfl, hb, k⟩ := h
  exact ⟨_, (pss_one (ps_ost (pv 0) (pv 1))), _, rfl, _, rfl, b, _, rfl, T.e_NoClass.ox, T.a_NoClass_value, .inl ⟨hb, k⟩⟩
theorem ok_NoName (T : Txt K mg a) : ∃ fd, FnOk P w K mg base CX0 1 a.NoName_init fd ["self", "name"] (spErr1 a.NoName "name") ∧ FunD K "__init__" "NoName.__init__" (defArgs s_NoName_init) (defBody s_NoName_init) (defScope s_NoName_init) [] [] a.NoName_init fd := by
  obtain ⟨fd, F⟩ := id T.d_NoName_init
  refine ⟨fd, F.ok sc_NoName_init (fun vs H Q E h => by obtain ⟨b, v, rfl, _⟩ := h; rfl) (fun cdv A outer s H vs Q E hr h => ?_), F⟩
  obtain ⟨b, v, rfl, hb, k⟩ := h
  exact ⟨_, (pss_one (ps_ost (pv 0) (pv 1))), _, rfl, _, rfl, b, _, rfl, T.e_NoName.ox, T.a_NoName_name, .inl ⟨hb, k⟩⟩
theorem ok_NoRow (T : Txt K mg a) : ∃ fd, FnOk P w K mg base CX0 1 a.NoRow_init fd ["self", "word"] (spErr1 a.NoRow "word") ∧ FunD K "__init__" "NoRow.__init__" (defArgs s_NoRow_init) (defBody s_NoRow_init) (defScope s_NoRow_init) [] [] a.NoRow_init fd := by
  obtain ⟨fd, F⟩ := id T.d_NoRow_init
  refine ⟨fd, F.ok sc_NoRow_init (fun vs H Q E h => by obtain ⟨b, v, rfl, _⟩ := h; rfl) (fun cdv A outer s H vs Q E hr h => ?_), F⟩
  obtain ⟨b, v, rfl, hb, k⟩ := h
  exact ⟨_, (pss_one (ps_ost (pv 0) (pv 1))), _, rfl, _, rfl, b, _, rfl, T.e_NoRow.ox, T.a_NoRow_word, .inl ⟨hb, k⟩⟩
theorem ok_BadPixel (T : Txt K mg a) : ∃ fd, FnOk P w K mg base CX0 1 a.BadPixel_init fd ["self", "x", "y"] (spErr2 a.BadPixel "x" "y") ∧ FunD K "__init__" "BadPixel.__init__" (defArgs s_BadPixel_init) (defBody s_BadPixel_init) (defScope s_BadPixel_init) [] [] a.BadPixel_init fd := by
  obtain ⟨fd, F⟩ := id T.d_BadPixel_init
  refine ⟨fd, F.ok sc_BadPixel_init (fun vs H Q E h => by obtain ⟨b, v, u, rfl, _⟩ := h; rfl) (fun cdv A outer s H vs Q E hr h => ?_), F⟩
  obtain ⟨b, v, u, rfl, hb, k⟩ := h
  refine ⟨_, (pss_cons (ps_ost (pv 0) (pv 1))
      (pss_one (ps_ost (pv 0) (pv 2)))), _, rfl, _, rfl, b, _, rfl, T.e_BadPixel.ox, T.a_BadPixel_x, .inl ⟨hb, fun dx hd ne => ?_⟩⟩
  refine ⟨_, rfl, _, rfl, b, _, rfl, T.e_BadPixel.ox, T.a_BadPixel_y, .inr ⟨dx, _, upd_same, by rw [upd_ne ne]; exact upd_same, by show 1 ≤ 900; decide, ?_⟩⟩
  show Q .non _
  rw [upd_mid ne]
  exact k dx hd ne
theorem ok_TooMany (T : Txt K mg a) : ∃ fd, FnOk P w K mg base CX0 1 a.TooMany_init fd ["self", "what", "most"] (spErr2 a.TooMany "what" "most") ∧ FunD K "__init__" "TooMany.__init__" (defArgs s_TooMany_init) (defBody s_TooMany_init) (defScope s_TooMany_init) [] [] a.TooMany_init fd := by
  obtain ⟨fd, F⟩ := id T.d_TooMany_init
  refine ⟨fd, F.ok sc_TooMany_init (fun vs H Q E h => by obtain ⟨b, v, u, rfl, _⟩ := h; rfl) (fun cdv A outer s H vs Q E hr h => ?_), F⟩
  obtain ⟨b, v, u, rfl, hb, k⟩ := h
  refine ⟨_, (pss_cons (ps_ost (pv 0) (pv 1))
      (pss_one (ps_ost (pv 0) (pv 2)))), _, rfl, _, rfl, b, _, rfl, T.e_TooMany.ox, T.a_TooMany_what, .inl ⟨hb, fun dx hd ne => ?_⟩⟩
  refine ⟨_, rfl, _, rfl, b, _, rfl, T.e_TooMany.ox, T.a_TooMany_most, .inr ⟨dx, _, upd_same, by rw [upd_ne ne]; exact upd_same, by show 1 ≤ 900; decide, ?_⟩⟩
  show Q .non _
  rw [upd_mid ne]
  exact k dx hd ne
theorem ok_Fails (T : Txt K mg a) : ∃ fd, FnOk P w K mg base CX0 1 a.Fails_init fd ["self", "width", "height"] (spErr2 a.Fails "width" "height") ∧ FunD K "__init__" "Fails.__init__" (defArgs s_Fails_init) (defBody s_Fails_init) (defScope s_Fails_init) [] [] a.Fails_init fd := by
  obtain ⟨fd, F⟩ := id T.d_Fails_init
  refine ⟨fd, F.ok sc_Fails_init (fun vs H Q E h => by obtain ⟨b, v, u, rfl, _⟩ := h; rfl) (fun cdv A outer s H vs Q E hr h => ?_), F⟩
  obtain ⟨b, v, u, rfl, hb, k⟩ := h
  refine ⟨_, (pss_cons (ps_ost (pv 0) (pv 1))
      (pss_one (ps_ost (pv 0) (pv 2)))), _, rfl, _, rfl, b, _, rfl, T.e_Fails.ox, T.a_Fails_width, .inl ⟨hb, fun dx hd ne => ?_⟩⟩
  refine ⟨_, rfl, _, rfl, b, _, rfl, T.e_Fails.ox, T.a_Fails_height, .inr ⟨dx, _, upd_same, by rw [upd_ne ne]; exact upd_same, by show 1 ≤ 900; decide, ?_⟩⟩
  show Q .non _
  rw [upd_mid ne]
  exact k dx hd ne
theorem ok_Gap (T : Txt K mg a) : ∃ fd, FnOk P w K mg base CX0 1 a.Gap_init fd ["self", "x", "y"] (spErr2 a.Gap "x" "y") ∧ FunD K "__init__" "Gap.__init__" (defArgs s_Gap_init) (defBody s_Gap_init) (defScope s_Gap_init) [] [] a.Gap_init fd := by
  obtain ⟨fd, F⟩ := id T.d_Gap_init
  refine ⟨fd, F.ok sc_Gap_init (fun vs H Q E h => by obtain ⟨b, v, u, rfl, _⟩ := h; rfl) (fun cdv A outer s H vs Q E hr h => ?_), F⟩
  obtain ⟨b, v, u, rfl, hb, k⟩ := h
  refine ⟨_, (pss_cons (ps_ost (pv 0) (pv 1))
      (pss_one (ps_ost (pv 0) (pv 2)))), _, rfl, _, rfl, b, _, rfl, T.e_Gap.ox, T.a_Gap_x, .inl ⟨hb, fun dx hd ne => ?_⟩⟩
  refine ⟨_, rfl, _, rfl, b, _, rfl, T.e_Gap.ox, T.a_Gap_y, .inr ⟨dx, _, upd_same, by rw [upd_ne ne]; exact upd_same, by show 1 ≤ 900; decide, ?_⟩⟩
  show Q .non _
  rw [upd_mid ne]
  exact k dx hd ne
theorem ok_BadText (T : Txt K mg a) : ∃ fd, FnOk P w K mg base CX0 1 a.BadText_init fd ["self", "line", "word"] (spErr2 a.BadText "line" "word") ∧ FunD K "__init__" "BadText.__init__" (defArgs s_BadText_init) (defBody s_BadText_init) (defScope s_BadText_init) [] [] a.BadText_init fd := by
  obtain ⟨fd, F⟩ := id T.d_BadText_init
  refine ⟨fd, F.ok sc_BadText_init (fun vs H Q E h => by obtain ⟨b, v, u, rfl, _⟩ := h; rfl) (fun cdv A outer s H vs Q E hr h => ?_), F⟩
  obtain ⟨b, v, u, rfl, hb, k⟩ := h
  refine ⟨_, (pss_cons (ps_ost (pv 0) (pv 1))
      (pss_one (ps_ost (pv 0) (pv 2)))), _, rfl, _, rfl, b, _, rfl, T.e_BadText.ox, T.a_BadText_line, .inl ⟨hb, fun dx hd ne => ?_⟩⟩
  refine ⟨_, rfl, _, rfl, b, _, rfl, T.e_BadText.ox, T.a_BadText_word, .inr ⟨dx, _, upd_same, by rw [upd_ne ne]; exact upd_same, by show 1 ≤ 900; decide, ?_⟩⟩
  show Q .non _
  rw [upd_mid ne]
  exact k dx hd ne
end
end Pf
end
section
namespace Pf
open PySem PySem.Spec PyProof.Rows L2 Ow StX
def names7 : List Str := ["part", "value", "row", "at", "index", "name", "word"]
def spField (K : PySem.W.Frag) : Sp := fun vs H Q _ => ∃ (e C : Addr) (n : Str) (v : V), vs = [.ref e, .str n] ∧ n ∈ names7 ∧ EO H e C [(n, v)] ∧ XfC K C ∧ PySem.W.findIn K (.ref C) n = some none ∧ Q v H
def spSame (K : PySem.W.Frag) : Sp := fun vs H Q _ => ∃ (x y : V) (d e : PyData), vs = [x, y] ∧ Dq K H x d ∧ Dq K H y e ∧ d.showable = true ∧ e.showable = true ∧ d.depth ≤ 8 ∧ e.depth ≤ 8 ∧ d.shown.length ≤ sizeLine ∧ e.shown.length ≤ sizeLine ∧ Q (.bl (decide (V.str d.shown = V.str e.shown))) H
section
variable {P : Program} {w : World} {K : PySem.W.Frag} {mg : Str → Option Value} {base : Heap} {a : Adr}
set_option maxHeartbeats 4000000
theorem str_no {x y : Str} {p : Prop} (h : decide (V.str x = V.str y) = true) (ne : x ≠ y) : p := absurd (V.str.inj (of_decide_eq_true h)) ne
theorem ok_same (T : Txt K mg a) (sb : SysB base) : FnG P w K mg base CX0 1 a._law_same (spSame K) := by
  refine T.d__law_same.okG sc__law_same (fun _ _ _ _ _ _ us hl => match us, hl with | [_, _], _ => rfl) (fun vs H Q E h => by obtain ⟨x, y, d, e, rfl, _⟩ := h; rfl) (fun cdv A outer s H vs Q E hr hg h => ?_)
  obtain ⟨x, y, d, e, rfl, hx, hy, s1, s2, p1, p2, l1, l2, k⟩ := h
  exact ⟨_, (pss_one (ps_ret (pe_cmpR op_eq (pe_callB (call_reprQ sb (by exact hg) hr.units) (by rfl) T.n_repr (by decide +kernel) (pa_cons (pv 0) pa_nil)) (pe_callB (call_reprQ sb (by exact hg) hr.units) (by rfl) T.n_repr (by decide +kernel) (pa_cons (pv 1) pa_nil)) (nomark _)))), _, rfl, x, d, rfl, hx, s1, p1, l1, _, rfl, y, e, rfl, hy, s2, p2, l2, rfl, k⟩
theorem ok_field (T : Txt K mg a) : FnR P w K mg base CX0 1 a._law_field (spField K) := by
  refine T.d__law_field.ok sc__law_field (fun _ _ _ _ _ _ us hl => match us, hl with | [_, _], _ => rfl) (fun vs H Q E h => by obtain ⟨e, C, n, v, rfl, _⟩ := h; rfl) (fun cdv A outer s H vs Q E hr h => ?_)
  obtain ⟨e, C, n, v, rfl, hn, ⟨d, h1, h2⟩, X, hf, k⟩ := h
  refine ⟨_, (pss_cons (ps_if (pt_cmpR op_eq (pv 1) pe_str (nomark _))
          (pss_one (ps_ret (pe_xfV (pv 0) (by rfl))))
          pss_nil)
      (pss_cons (ps_if (pt_cmpR op_eq (pv 1) pe_str (nomark _))
          (pss_one (ps_ret (pe_xfV (pv 0) (by rfl))))
          pss_nil)
      (pss_cons (ps_if (pt_cmpR op_eq (pv 1) pe_str (nomark _))
          (pss_one (ps_ret (pe_xfV (pv 0) (by rfl))))
          pss_nil)
      (pss_cons (ps_if (pt_cmpR op_eq (pv 1) pe_str (nomark _))
          (pss_one (ps_ret (pe_xfV (pv 0) (by rfl))))
          pss_nil)
      (pss_cons (ps_if (pt_cmpR op_eq (pv 1) pe_str (nomark _))
          (pss_one (ps_ret (pe_xfV (pv 0) (by rfl))))
          pss_nil)
      (pss_one (ps_ret (pe_ifExp (pt_cmpR op_eq (pv 1) pe_str (nomark _)) (pe_xfV (pv 0) (by rfl)) (pe_xfV (pv 0) (by rfl)))))))))), ?_⟩
  have e0 : List.lookup n [(n, v)] = some v := by simp
  simp only [names7, List.mem_cons, List.not_mem_nil, or_false] at hn
  rcases hn with rfl | rfl | rfl | rfl | rfl | rfl | rfl
  · exact ⟨_, rfl, rfl, _, rfl, ite2 (fun _ => ⟨_, rfl, e, C, d, _, v, rfl, X, hf, h1, h2, e0, k⟩) fun z => absurd (decide_eq_true rfl) z⟩
  · exact ⟨_, rfl, rfl, _, rfl, ite2 (fun z => str_no z (by decide)) fun _ => ⟨_, rfl, rfl, _, rfl, ite2 (fun _ => ⟨_, rfl, e, C, d, _, v, rfl, X, hf, h1, h2, e0, k⟩) fun z => absurd (decide_eq_true rfl) z⟩⟩
  · exact ⟨_, rfl, rfl, _, rfl, ite2 (fun z => str_no z (by decide)) fun _ => ⟨_, rfl, rfl, _, rfl, ite2 (fun z => str_no z (by decide)) fun _ => ⟨_, rfl, rfl, _, rfl, ite2 (fun _ => ⟨_, rfl, e, C, d, _, v, rfl, X, hf, h1, h2, e0, k⟩) fun z => absurd (decide_eq_true rfl) z⟩⟩⟩
  · exact ⟨_, rfl, rfl, _, rfl, ite2 (fun z => str_no z (by decide)) fun _ => ⟨_, rfl, rfl, _, rfl, ite2 (fun z => str_no z (by decide)) fun _ => ⟨_, rfl, rfl, _, rfl, ite2 (fun z => str_no z (by decide)) fun _ => ⟨_, rfl, rfl, _, rfl, ite2 (fun _ => ⟨_, rfl, e, C, d, _, v, rfl, X, hf, h1, h2, e0, k⟩) fun z => absurd (decide_eq_true rfl) z⟩⟩⟩⟩
  · exact ⟨_, rfl, rfl, _, rfl, ite2 (fun z => str_no z (by decide)) fun _ => ⟨_, rfl, rfl, _, rfl, ite2 (fun z => str_no z (by decide)) fun _ => ⟨_, rfl, rfl, _, rfl, ite2 (fun z => str_no z (by decide)) fun _ => ⟨_, rfl, rfl, _, rfl, ite2 (fun z => str_no z (by decide)) fun _ => ⟨_, rfl, rfl, _, rfl, ite2 (fun _ => ⟨_, rfl, e, C, d, _, v, rfl, X, hf, h1, h2, e0, k⟩) fun z => absurd (decide_eq_true rfl) z⟩⟩⟩⟩⟩
  · exact ⟨_, rfl, rfl, _, rfl, ite2 (fun z => str_no z (by decide)) fun _ => ⟨_, rfl, rfl, _, rfl, ite2 (fun z => str_no z (by decide)) fun _ => ⟨_, rfl, rfl, _, rfl, ite2 (fun z => str_no z (by decide)) fun _ => ⟨_, rfl, rfl, _, rfl, ite2 (fun z => str_no z (by decide)) fun _ => ⟨_, rfl, rfl, _, rfl, ite2 (fun z => str_no z (by decide)) fun _ => ⟨_, rfl, rfl, _, rfl, ite2 (fun _ => ⟨_, rfl, e, C, d, _, v, rfl, X, hf, h1, h2, e0, k⟩) fun z => absurd (decide_eq_true rfl) z⟩⟩⟩⟩⟩⟩
  · exact ⟨_, rfl, rfl, _, rfl, ite2 (fun z => str_no z (by decide)) fun _ => ⟨_, rfl, rfl, _, rfl, ite2 (fun z => str_no z (by decide)) fun _ => ⟨_, rfl, rfl, _, rfl, ite2 (fun z => str_no z (by decide)) fun _ => ⟨_, rfl, rfl, _, rfl, ite2 (fun z => str_no z (by decide)) fun _ => ⟨_, rfl, rfl, _, rfl, ite2 (fun z => str_no z (by decide)) fun _ => ⟨_, rfl, rfl, _, rfl, ite2 (fun z => str_no z (by decide)) fun _ => ⟨_, rfl, e, C, d, _, v, rfl, X, hf, h1, h2, e0, k⟩⟩⟩⟩⟩⟩⟩
end
end Pf
end
section
namespace Pf
open PySem PySem.Spec PyProof.Rows L2 Ow StX
theorem same_new {H : Hp} {p : Addr} {o : HO} (h : H p = none) : Same H (upd H p o) := fun b u e => by rw [upd_ne (ne_of_none e h)]; exact e
/-- an error with its field's name, in a tuple -/
def OneAt (H : Hp) (C : Addr) (n : Str) (v : V) (t : Addr) : Prop := ∃ e, H t = some (.tup [.ref e, .str n]) ∧ EO H e C [(n, v)]
theorem OneAt.same {H H' : Hp} {C : Addr} {n : Str} {v : V} {t : Addr} (x : OneAt H C n v t) (s : Same H H') : OneAt H' C n v t := by
  obtain ⟨e, h1, h2⟩ := x
  exact ⟨e, s _ _ h1, h2.same s⟩
def OnesOk (H : Hp) (v : V) : List (Addr × Str) → List V → Prop
  | [], [] => True
  | (C, n) :: r, .ref t :: ts => OneAt H C n v t ∧ OnesOk H v r ts
  | _, _ => False
theorem pair_keeps {H : Hp} {e d t C : Addr} {n : Str} {v : V} (he : H e = none) (hd : upd H e (exo e C none) d = none) (ne : d ≠ e) (ht : upd (upd (upd H e (exo e C none)) d (exd d [(n, v)])) e (exo e C (some d)) t = none) :
    Same H (upd (upd (upd (upd H e (exo e C none)) d (exd d [(n, v)])) e (exo e C (some d))) t (.tup [.ref e, .str n])) ∧ OneAt (upd (upd (upd (upd H e (exo e C none)) d (exd d [(n, v)])) e (exo e C (some d))) t (.tup [.ref e, .str n])) C n v t := by
  rw [upd_ne ne] at hd
  obtain ⟨m, E⟩ := made_keeps (C := C) (fs := [(n, v)]) he hd ne
  exact ⟨fun b o q => same_new ht b o (m b o q), e, upd_same, E.same (same_new ht)⟩
def ones (a : Adr) : List (Addr × Str) := [(a.BadPlace, "part"), (a.BadSize, "part"), (a.BadColour, "value"), (a.BadPicture, "row"), (a.BadDeed, "part"), (a.BadProgram, "at"), (a.BadClaim, "part"), (a.BadClass, "part"), (a.NoDeed, "index"), (a.NoFlood, "index"), (a.NoClass, "value"), (a.NoName, "name"), (a.NoRow, "word")]
def spOnes (a : Adr) : Sp := fun vs H Q _ => ∃ v, vs = [v] ∧ ∀ (l : Addr) (ts : List V) (H' : Hp), Same H H' → H' l = some (.lst ts) → OnesOk H' v (ones a) ts → Q (.ref l) H'
section
variable {P : Program} {w : World} {K : PySem.W.Frag} {mg : Str → Option Value} {base : Heap} {a : Adr}
set_option maxHeartbeats 8000000
theorem ok_ones (T : Txt K mg a) : FnR P w K mg base CX0 3 a._law_ones (spOnes a) := by
  have R_BadPlace : FnR P w K mg base CX0 1 a.BadPlace_init (spErr1 a.BadPlace "part") := by
    obtain ⟨fd, F, FD⟩ := ok_BadPlace (P := P) (w := w) (base := base) T
    exact (F.raw (FD.bindsN (fun _ _ _ _ _ _ us hl => match us, hl with | [_, _], _ => rfl)) .nil).imp fun vs H Q E h => by rw [List.append_nil]; exact h
  have R_BadSize : FnR P w K mg base CX0 1 a.BadSize_init (spErr1 a.BadSize "part") := by
    obtain ⟨fd, F, FD⟩ := ok_BadSize (P := P) (w := w) (base := base) T
    exact (F.raw (FD.bindsN (fun _ _ _ _ _ _ us hl => match us, hl with | [_, _], _ => rfl)) .nil).imp fun vs H Q E h => by rw [List.append_nil]; exact h
  have R_BadColour : FnR P w K mg base CX0 1 a.BadColour_init (spErr1 a.BadColour "value") := by
    obtain ⟨fd, F, FD⟩ := ok_BadColour (P := P) (w := w) (base := base) T
    exact (F.raw (FD.bindsN (fun _ _ _ _ _ _ us hl => match us, hl with | [_, _], _ => rfl)) .nil).imp fun vs H Q E h => by rw [List.append_nil]; exact h
  have R_BadPicture : FnR P w K mg base CX0 1 a.BadPicture_init (spErr1 a.BadPicture "row") := by
    obtain ⟨fd, F, FD⟩ := ok_BadPicture (P := P) (w := w) (base := base) T
    exact (F.raw (FD.bindsN (fun _ _ _ _ _ _ us hl => match us, hl with | [_, _], _ => rfl)) .nil).imp fun vs H Q E h => by rw [List.append_nil]; exact h
  have R_BadDeed : FnR P w K mg base CX0 1 a.BadDeed_init (spErr1 a.BadDeed "part") := by
    obtain ⟨fd, F, FD⟩ := ok_BadDeed (P := P) (w := w) (base := base) T
    exact (F.raw (FD.bindsN (fun _ _ _ _ _ _ us hl => match us, hl with | [_, _], _ => rfl)) .nil).imp fun vs H Q E h => by rw [List.append_nil]; exact h
  have R_BadProgram : FnR P w K mg base CX0 1 a.BadProgram_init (spErr1 a.BadProgram "at") := by
    obtain ⟨fd, F, FD⟩ := ok_BadProgram (P := P) (w := w) (base := base) T
    exact (F.raw (FD.bindsN (fun _ _ _ _ _ _ us hl => match us, hl with | [_, _], _ => rfl)) .nil).imp fun vs H Q E h => by rw [List.append_nil]; exact h
  have R_BadClaim : FnR P w K mg base CX0 1 a.BadClaim_init (spErr1 a.BadClaim "part") := by
    obtain ⟨fd, F, FD⟩ := ok_BadClaim (P := P) (w := w) (base := base) T
    exact (F.raw (FD.bindsN (fun _ _ _ _ _ _ us hl => match us, hl with | [_, _], _ => rfl)) .nil).imp fun vs H Q E h => by rw [List.append_nil]; exact h
  have R_BadClass : FnR P w K mg base CX0 1 a.BadClass_init (spErr1 a.BadClass "part") := by
    obtain ⟨fd, F, FD⟩ := ok_BadClass (P := P) (w := w) (base := base) T
    exact (F.raw (FD.bindsN (fun _ _ _ _ _ _ us hl => match us, hl with | [_, _], _ => rfl)) .nil).imp fun vs H Q E h => by rw [List.append_nil]; exact h
  have R_NoDeed : FnR P w K mg base CX0 1 a.NoDeed_init (spErr1 a.NoDeed "index") := by
    obtain ⟨fd, F, FD⟩ := ok_NoDeed (P := P) (w := w) (base := base) T
    exact (F.raw (FD.bindsN (fun _ _ _ _ _ _ us hl => match us, hl with | [_, _], _ => rfl)) .nil).imp fun vs H Q E h => by rw [List.append_nil]; exact h
  have R_NoFlood : FnR P w K mg base CX0 1 a.NoFlood_init (spErr1 a.NoFlood "index") := by
    obtain ⟨fd, F, FD⟩ := ok_NoFlood (P := P) (w := w) (base := base) T
    exact (F.raw (FD.bindsN (fun _ _ _ _ _ _ us hl => match us, hl with | [_, _], _ => rfl)) .nil).imp fun vs H Q E h => by rw [List.append_nil]; exact h
  have R_NoClass : FnR P w K mg base CX0 1 a.NoClass_init (spErr1 a.NoClass "value") := by
    obtain ⟨fd, F, FD⟩ := ok_NoClass (P := P) (w := w) (base := base) T
    exact (F.raw (FD.bindsN (fun _ _ _ _ _ _ us hl => match us, hl with | [_, _], _ => rfl)) .nil).imp fun vs H Q E h => by rw [List.append_nil]; exact h
  have R_NoName : FnR P w K mg base CX0 1 a.NoName_init (spErr1 a.NoName "name") := by
    obtain ⟨fd, F, FD⟩ := ok_NoName (P := P) (w := w) (base := base) T
    exact (F.raw (FD.bindsN (fun _ _ _ _ _ _ us hl => match us, hl with | [_, _], _ => rfl)) .nil).imp fun vs H Q E h => by rw [List.append_nil]; exact h
  have R_NoRow : FnR P w K mg base CX0 1 a.NoRow_init (spErr1 a.NoRow "word") := by
    obtain ⟨fd, F, FD⟩ := ok_NoRow (P := P) (w := w) (base := base) T
    exact (F.raw (FD.bindsN (fun _ _ _ _ _ _ us hl => match us, hl with | [_, _], _ => rfl)) .nil).imp fun vs H Q E h => by rw [List.append_nil]; exact h
  refine T.d__law_ones.ok sc__law_ones (fun _ _ _ _ _ _ us hl => match us, hl with | [_], _ => rfl) (fun vs H Q E h => by obtain ⟨v, rfl, _⟩ := h; rfl) (fun cdv A outer s H vs Q E hr h => ?_)
  obtain ⟨v, rfl, k⟩ := h
  refine ⟨_, (pss_cons (ps_set (i := 1) sc__law_ones.nd rfl (Or.inl rfl) (pe_lst (pa_cons (pe_tup (pa_cons (pe_oex T.e_BadPlace.ox T.e_BadPlace.iC T.e_BadPlace.tI R_BadPlace (hr.mono (by decide)) pass0 rfl T.m_BadPlace (pa_cons (pv 0) pa_nil)) (pa_cons pe_str pa_nil))) (pa_cons (pe_tup (pa_cons (pe_oex T.e_BadSize.ox T.e_BadSize.iC T.e_BadSize.tI R_BadSize (hr.mono (by decide)) pass0 rfl T.m_BadSize (pa_cons (pv 0) pa_nil)) (pa_cons pe_str pa_nil))) (pa_cons (pe_tup (pa_cons (pe_oex T.e_BadColour.ox T.e_BadColour.iC T.e_BadColour.tI R_BadColour (hr.mono (by decide)) pass0 rfl T.m_BadColour (pa_cons (pv 0) pa_nil)) (pa_cons pe_str pa_nil))) (pa_cons (pe_tup (pa_cons (pe_oex T.e_BadPicture.ox T.e_BadPicture.iC T.e_BadPicture.tI R_BadPicture (hr.mono (by decide)) pass0 rfl T.m_BadPicture (pa_cons (pv 0) pa_nil)) (pa_cons pe_str pa_nil))) pa_nil))))))
      (pss_cons (ps_set (i := 1) sc__law_ones.nd rfl (Or.inl rfl) (pe_op op_cat (pv 1) (pe_lst (pa_cons (pe_tup (pa_cons (pe_oex T.e_BadDeed.ox T.e_BadDeed.iC T.e_BadDeed.tI R_BadDeed (hr.mono (by decide)) pass0 rfl T.m_BadDeed (pa_cons (pv 0) pa_nil)) (pa_cons pe_str pa_nil))) (pa_cons (pe_tup (pa_cons (pe_oex T.e_BadProgram.ox T.e_BadProgram.iC T.e_BadProgram.tI R_BadProgram (hr.mono (by decide)) pass0 rfl T.m_BadProgram (pa_cons (pv 0) pa_nil)) (pa_cons pe_str pa_nil))) (pa_cons (pe_tup (pa_cons (pe_oex T.e_BadClaim.ox T.e_BadClaim.iC T.e_BadClaim.tI R_BadClaim (hr.mono (by decide)) pass0 rfl T.m_BadClaim (pa_cons (pv 0) pa_nil)) (pa_cons pe_str pa_nil))) (pa_cons (pe_tup (pa_cons (pe_oex T.e_BadClass.ox T.e_BadClass.iC T.e_BadClass.tI R_BadClass (hr.mono (by decide)) pass0 rfl T.m_BadClass (pa_cons (pv 0) pa_nil)) (pa_cons pe_str pa_nil))) pa_nil)))))))
      (pss_cons (ps_set (i := 1) sc__law_ones.nd rfl (Or.inl rfl) (pe_op op_cat (pv 1) (pe_lst (pa_cons (pe_tup (pa_cons (pe_oex T.e_NoDeed.ox T.e_NoDeed.iC T.e_NoDeed.tI R_NoDeed (hr.mono (by decide)) pass0 rfl T.m_NoDeed (pa_cons (pv 0) pa_nil)) (pa_cons pe_str pa_nil))) (pa_cons (pe_tup (pa_cons (pe_oex T.e_NoFlood.ox T.e_NoFlood.iC T.e_NoFlood.tI R_NoFlood (hr.mono (by decide)) pass0 rfl T.m_NoFlood (pa_cons (pv 0) pa_nil)) (pa_cons pe_str pa_nil))) (pa_cons (pe_tup (pa_cons (pe_oex T.e_NoClass.ox T.e_NoClass.iC T.e_NoClass.tI R_NoClass (hr.mono (by decide)) pass0 rfl T.m_NoClass (pa_cons (pv 0) pa_nil)) (pa_cons pe_str pa_nil))) (pa_cons (pe_tup (pa_cons (pe_oex T.e_NoName.ox T.e_NoName.iC T.e_NoName.tI R_NoName (hr.mono (by decide)) pass0 rfl T.m_NoName (pa_cons (pv 0) pa_nil)) (pa_cons pe_str pa_nil))) pa_nil)))))))
      (pss_one (ps_ret (pe_op op_cat (pv 1) (pe_lst (pa_cons (pe_tup (pa_cons (pe_oex T.e_NoRow.ox T.e_NoRow.iC T.e_NoRow.tI R_NoRow (hr.mono (by decide)) pass0 rfl T.m_NoRow (pa_cons (pv 0) pa_nil)) (pa_cons pe_str pa_nil))) pa_nil)))))))), ?_⟩
  refine ⟨_, rfl, Nat.le_of_ble_eq_true rfl, fun e0 he0 => ⟨e0, _, rfl, upd_same, fun d0 hd0 nd0 => ⟨rfl, (by show 2 ≤ sizeLine; decide), fun t0 ht0 => ?_⟩⟩⟩
  obtain ⟨m0, O0⟩ := pair_keeps (C := a.BadPlace) (n := "part") (v := v) he0 hd0 nd0 ht0
  generalize upd (upd (upd (upd H e0 (exo e0 a.BadPlace none)) d0 (exd d0 [("part", v)])) e0 (exo e0 a.BadPlace (some d0))) t0 (.tup [.ref e0, .str "part"]) = H0 at *
  clear he0 hd0 nd0 ht0
  refine ⟨_, rfl, Nat.le_of_ble_eq_true rfl, fun e1 he1 => ⟨e1, _, rfl, upd_same, fun d1 hd1 nd1 => ⟨rfl, (by show 2 ≤ sizeLine; decide), fun t1 ht1 => ?_⟩⟩⟩
  obtain ⟨m1, O1⟩ := pair_keeps (C := a.BadSize) (n := "part") (v := v) he1 hd1 nd1 ht1
  generalize upd (upd (upd (upd H0 e1 (exo e1 a.BadSize none)) d1 (exd d1 [("part", v)])) e1 (exo e1 a.BadSize (some d1))) t1 (.tup [.ref e1, .str "part"]) = H1 at *
  clear he1 hd1 nd1 ht1
  refine ⟨_, rfl, Nat.le_of_ble_eq_true rfl, fun e2 he2 => ⟨e2, _, rfl, upd_same, fun d2 hd2 nd2 => ⟨rfl, (by show 2 ≤ sizeLine; decide), fun t2 ht2 => ?_⟩⟩⟩
  obtain ⟨m2, O2⟩ := pair_keeps (C := a.BadColour) (n := "value") (v := v) he2 hd2 nd2 ht2
  generalize upd (upd (upd (upd H1 e2 (exo e2 a.BadColour none)) d2 (exd d2 [("value", v)])) e2 (exo e2 a.BadColour (some d2))) t2 (.tup [.ref e2, .str "value"]) = H2 at *
  clear he2 hd2 nd2 ht2
  refine ⟨_, rfl, Nat.le_of_ble_eq_true rfl, fun e3 he3 => ⟨e3, _, rfl, upd_same, fun d3 hd3 nd3 => ⟨rfl, (by show 2 ≤ sizeLine; decide), fun t3 ht3 => ?_⟩⟩⟩
  obtain ⟨m3, O3⟩ := pair_keeps (C := a.BadPicture) (n := "row") (v := v) he3 hd3 nd3 ht3
  generalize upd (upd (upd (upd H2 e3 (exo e3 a.BadPicture none)) d3 (exd d3 [("row", v)])) e3 (exo e3 a.BadPicture (some d3))) t3 (.tup [.ref e3, .str "row"]) = H3 at *
  clear he3 hd3 nd3 ht3
  refine ⟨(by show 4 ≤ sizeLine; decide), fun l0 hl0 => ?_⟩
  have ml0 := same_new (o := .lst [.ref t0, .ref t1, .ref t2, .ref t3]) hl0
  have el0 : upd H3 l0 (.lst [.ref t0, .ref t1, .ref t2, .ref t3]) l0 = some (.lst [.ref t0, .ref t1, .ref t2, .ref t3]) := upd_same
  generalize upd H3 l0 (.lst [.ref t0, .ref t1, .ref t2, .ref t3]) = L0 at *
  refine ⟨_, rfl, _, rfl, Nat.le_of_ble_eq_true rfl, fun e4 he4 => ⟨e4, _, rfl, upd_same, fun d4 hd4 nd4 => ⟨rfl, (by show 2 ≤ sizeLine; decide), fun t4 ht4 => ?_⟩⟩⟩
  obtain ⟨m4, O4⟩ := pair_keeps (C := a.BadDeed) (n := "part") (v := v) he4 hd4 nd4 ht4
  generalize upd (upd (upd (upd L0 e4 (exo e4 a.BadDeed none)) d4 (exd d4 [("part", v)])) e4 (exo e4 a.BadDeed (some d4))) t4 (.tup [.ref e4, .str "part"]) = H4 at *
  clear he4 hd4 nd4 ht4
  refine ⟨_, rfl, Nat.le_of_ble_eq_true rfl, fun e5 he5 => ⟨e5, _, rfl, upd_same, fun d5 hd5 nd5 => ⟨rfl, (by show 2 ≤ sizeLine; decide), fun t5 ht5 => ?_⟩⟩⟩
  obtain ⟨m5, O5⟩ := pair_keeps (C := a.BadProgram) (n := "at") (v := v) he5 hd5 nd5 ht5
  generalize upd (upd (upd (upd H4 e5 (exo e5 a.BadProgram none)) d5 (exd d5 [("at", v)])) e5 (exo e5 a.BadProgram (some d5))) t5 (.tup [.ref e5, .str "at"]) = H5 at *
  clear he5 hd5 nd5 ht5
  refine ⟨_, rfl, Nat.le_of_ble_eq_true rfl, fun e6 he6 => ⟨e6, _, rfl, upd_same, fun d6 hd6 nd6 => ⟨rfl, (by show 2 ≤ sizeLine; decide), fun t6 ht6 => ?_⟩⟩⟩
  obtain ⟨m6, O6⟩ := pair_keeps (C := a.BadClaim) (n := "part") (v := v) he6 hd6 nd6 ht6
  generalize upd (upd (upd (upd H5 e6 (exo e6 a.BadClaim none)) d6 (exd d6 [("part", v)])) e6 (exo e6 a.BadClaim (some d6))) t6 (.tup [.ref e6, .str "part"]) = H6 at *
  clear he6 hd6 nd6 ht6
  refine ⟨_, rfl, Nat.le_of_ble_eq_true rfl, fun e7 he7 => ⟨e7, _, rfl, upd_same, fun d7 hd7 nd7 => ⟨rfl, (by show 2 ≤ sizeLine; decide), fun t7 ht7 => ?_⟩⟩⟩
  obtain ⟨m7, O7⟩ := pair_keeps (C := a.BadClass) (n := "part") (v := v) he7 hd7 nd7 ht7
  generalize upd (upd (upd (upd H6 e7 (exo e7 a.BadClass none)) d7 (exd d7 [("part", v)])) e7 (exo e7 a.BadClass (some d7))) t7 (.tup [.ref e7, .str "part"]) = H7 at *
  clear he7 hd7 nd7 ht7
  refine ⟨(by show 4 ≤ sizeLine; decide), fun l1 hl1 => ?_⟩
  have ml1 := same_new (o := .lst [.ref t4, .ref t5, .ref t6, .ref t7]) hl1
  have el1 : upd H7 l1 (.lst [.ref t4, .ref t5, .ref t6, .ref t7]) l1 = some (.lst [.ref t4, .ref t5, .ref t6, .ref t7]) := upd_same
  generalize upd H7 l1 (.lst [.ref t4, .ref t5, .ref t6, .ref t7]) = L1 at *
  refine ⟨_, _, _, _, rfl, rfl, (ml1 _ _ (m7 _ _ (m6 _ _ (m5 _ _ (m4 _ _ el0))))), el1, (by show 8 ≤ sizeLine; decide), fun c1 hc1 => ?_⟩
  have mc1 := same_new (o := .lst [.ref t0, .ref t1, .ref t2, .ref t3, .ref t4, .ref t5, .ref t6, .ref t7]) hc1
  have ec1 : upd L1 c1 (.lst [.ref t0, .ref t1, .ref t2, .ref t3, .ref t4, .ref t5, .ref t6, .ref t7]) c1 = some (.lst [.ref t0, .ref t1, .ref t2, .ref t3, .ref t4, .ref t5, .ref t6, .ref t7]) := upd_same
  simp only [List.cons_append, List.nil_append]
  generalize upd L1 c1 (.lst [.ref t0, .ref t1, .ref t2, .ref t3, .ref t4, .ref t5, .ref t6, .ref t7]) = C1 at *
  refine ⟨_, rfl, _, rfl, Nat.le_of_ble_eq_true rfl, fun e8 he8 => ⟨e8, _, rfl, upd_same, fun d8 hd8 nd8 => ⟨rfl, (by show 2 ≤ sizeLine; decide), fun t8 ht8 => ?_⟩⟩⟩
  obtain ⟨m8, O8⟩ := pair_keeps (C := a.NoDeed) (n := "index") (v := v) he8 hd8 nd8 ht8
  generalize upd (upd (upd (upd C1 e8 (exo e8 a.NoDeed none)) d8 (exd d8 [("index", v)])) e8 (exo e8 a.NoDeed (some d8))) t8 (.tup [.ref e8, .str "index"]) = H8 at *
  clear he8 hd8 nd8 ht8
  refine ⟨_, rfl, Nat.le_of_ble_eq_true rfl, fun e9 he9 => ⟨e9, _, rfl, upd_same, fun d9 hd9 nd9 => ⟨rfl, (by show 2 ≤ sizeLine; decide), fun t9 ht9 => ?_⟩⟩⟩
  obtain ⟨m9, O9⟩ := pair_keeps (C := a.NoFlood) (n := "index") (v := v) he9 hd9 nd9 ht9
  generalize upd (upd (upd (upd H8 e9 (exo e9 a.NoFlood none)) d9 (exd d9 [("index", v)])) e9 (exo e9 a.NoFlood (some d9))) t9 (.tup [.ref e9, .str "index"]) = H9 at *
  clear he9 hd9 nd9 ht9
  refine ⟨_, rfl, Nat.le_of_ble_eq_true rfl, fun e10 he10 => ⟨e10, _, rfl, upd_same, fun d10 hd10 nd10 => ⟨rfl, (by show 2 ≤ sizeLine; decide), fun t10 ht10 => ?_⟩⟩⟩
  obtain ⟨m10, O10⟩ := pair_keeps (C := a.NoClass) (n := "value") (v := v) he10 hd10 nd10 ht10
  generalize upd (upd (upd (upd H9 e10 (exo e10 a.NoClass none)) d10 (exd d10 [("value", v)])) e10 (exo e10 a.NoClass (some d10))) t10 (.tup [.ref e10, .str "value"]) = H10 at *
  clear he10 hd10 nd10 ht10
  refine ⟨_, rfl, Nat.le_of_ble_eq_true rfl, fun e11 he11 => ⟨e11, _, rfl, upd_same, fun d11 hd11 nd11 => ⟨rfl, (by show 2 ≤ sizeLine; decide), fun t11 ht11 => ?_⟩⟩⟩
  obtain ⟨m11, O11⟩ := pair_keeps (C := a.NoName) (n := "name") (v := v) he11 hd11 nd11 ht11
  generalize upd (upd (upd (upd H10 e11 (exo e11 a.NoName none)) d11 (exd d11 [("name", v)])) e11 (exo e11 a.NoName (some d11))) t11 (.tup [.ref e11, .str "name"]) = H11 at *
  clear he11 hd11 nd11 ht11
  refine ⟨(by show 4 ≤ sizeLine; decide), fun l2 hl2 => ?_⟩
  have ml2 := same_new (o := .lst [.ref t8, .ref t9, .ref t10, .ref t11]) hl2
  have el2 : upd H11 l2 (.lst [.ref t8, .ref t9, .ref t10, .ref t11]) l2 = some (.lst [.ref t8, .ref t9, .ref t10, .ref t11]) := upd_same
  generalize upd H11 l2 (.lst [.ref t8, .ref t9, .ref t10, .ref t11]) = L2 at *
  refine ⟨_, _, _, _, rfl, rfl, (ml2 _ _ (m11 _ _ (m10 _ _ (m9 _ _ (m8 _ _ ec1))))), el2, (by show 12 ≤ sizeLine; decide), fun c2 hc2 => ?_⟩
  have mc2 := same_new (o := .lst [.ref t0, .ref t1, .ref t2, .ref t3, .ref t4, .ref t5, .ref t6, .ref t7, .ref t8, .ref t9, .ref t10, .ref t11]) hc2
  have ec2 : upd L2 c2 (.lst [.ref t0, .ref t1, .ref t2, .ref t3, .ref t4, .ref t5, .ref t6, .ref t7, .ref t8, .ref t9, .ref t10, .ref t11]) c2 = some (.lst [.ref t0, .ref t1, .ref t2, .ref t3, .ref t4, .ref t5, .ref t6, .ref t7, .ref t8, .ref t9, .ref t10, .ref t11]) := upd_same
  simp only [List.cons_append, List.nil_append]
  generalize upd L2 c2 (.lst [.ref t0, .ref t1, .ref t2, .ref t3, .ref t4, .ref t5, .ref t6, .ref t7, .ref t8, .ref t9, .ref t10, .ref t11]) = C2 at *
  refine ⟨_, rfl, _, rfl, Nat.le_of_ble_eq_true rfl, fun e12 he12 => ⟨e12, _, rfl, upd_same, fun d12 hd12 nd12 => ⟨rfl, (by show 2 ≤ sizeLine; decide), fun t12 ht12 => ?_⟩⟩⟩
  obtain ⟨m12, O12⟩ := pair_keeps (C := a.NoRow) (n := "word") (v := v) he12 hd12 nd12 ht12
  generalize upd (upd (upd (upd C2 e12 (exo e12 a.NoRow none)) d12 (exd d12 [("word", v)])) e12 (exo e12 a.NoRow (some d12))) t12 (.tup [.ref e12, .str "word"]) = H12 at *
  clear he12 hd12 nd12 ht12
  refine ⟨(by show 1 ≤ sizeLine; decide), fun l3 hl3 => ?_⟩
  have ml3 := same_new (o := .lst [.ref t12]) hl3
  have el3 : upd H12 l3 (.lst [.ref t12]) l3 = some (.lst [.ref t12]) := upd_same
  generalize upd H12 l3 (.lst [.ref t12]) = L3 at *
  refine ⟨_, _, _, _, rfl, rfl, (ml3 _ _ (m12 _ _ ec2)), el3, (by show 13 ≤ sizeLine; decide), fun c3 hc3 => ?_⟩
  have mc3 := same_new (o := .lst [.ref t0, .ref t1, .ref t2, .ref t3, .ref t4, .ref t5, .ref t6, .ref t7, .ref t8, .ref t9, .ref t10, .ref t11, .ref t12]) hc3
  have ec3 : upd L3 c3 (.lst [.ref t0, .ref t1, .ref t2, .ref t3, .ref t4, .ref t5, .ref t6, .ref t7, .ref t8, .ref t9, .ref t10, .ref t11, .ref t12]) c3 = some (.lst [.ref t0, .ref t1, .ref t2, .ref t3, .ref t4, .ref t5, .ref t6, .ref t7, .ref t8, .ref t9, .ref t10, .ref t11, .ref t12]) := upd_same
  simp only [List.cons_append, List.nil_append]
  generalize upd L3 c3 (.lst [.ref t0, .ref t1, .ref t2, .ref t3, .ref t4, .ref t5, .ref t6, .ref t7, .ref t8, .ref t9, .ref t10, .ref t11, .ref t12]) = C3 at *
  exact k _ _ _ (((((((((((((((((((m0.trans m1).trans m2).trans m3).trans ml0).trans m4).trans m5).trans m6).trans m7).trans ml1).trans mc1).trans m8).trans m9).trans m10).trans m11).trans ml2).trans mc2).trans m12).trans ml3).trans mc3) ec3 ⟨(((((((((((((((((((O0.same m1).same m2).same m3).same ml0).same m4).same m5).same m6).same m7).same ml1).same mc1).same m8).same m9).same m10).same m11).same ml2).same mc2).same m12).same ml3).same mc3), ((((((((((((((((((O1.same m2).same m3).same ml0).same m4).same m5).same m6).same m7).same ml1).same mc1).same m8).same m9).same m10).same m11).same ml2).same mc2).same m12).same ml3).same mc3), (((((((((((((((((O2.same m3).same ml0).same m4).same m5).same m6).same m7).same ml1).same mc1).same m8).same m9).same m10).same m11).same ml2).same mc2).same m12).same ml3).same mc3), ((((((((((((((((O3.same ml0).same m4).same m5).same m6).same m7).same ml1).same mc1).same m8).same m9).same m10).same m11).same ml2).same mc2).same m12).same ml3).same mc3), ((((((((((((((O4.same m5).same m6).same m7).same ml1).same mc1).same m8).same m9).same m10).same m11).same ml2).same mc2).same m12).same ml3).same mc3), (((((((((((((O5.same m6).same m7).same ml1).same mc1).same m8).same m9).same m10).same m11).same ml2).same mc2).same m12).same ml3).same mc3), ((((((((((((O6.same m7).same ml1).same mc1).same m8).same m9).same m10).same m11).same ml2).same mc2).same m12).same ml3).same mc3), (((((((((((O7.same ml1).same mc1).same m8).same m9).same m10).same m11).same ml2).same mc2).same m12).same ml3).same mc3), ((((((((O8.same m9).same m10).same m11).same ml2).same mc2).same m12).same ml3).same mc3), (((((((O9.same m10).same m11).same ml2).same mc2).same m12).same ml3).same mc3), ((((((O10.same m11).same ml2).same mc2).same m12).same ml3).same mc3), (((((O11.same ml2).same mc2).same m12).same ml3).same mc3), ((O12.same ml3).same mc3), True.intro⟩
end
end Pf
end
section
namespace Pf
open PySem PySem.Spec PyProof.Rows L2 Ow StX
def kindsL (a : Adr) : List Addr := [a.BadPlace, a.BadSize, a.BadColour, a.BadPicture, a.BadDeed, a.BadProgram, a.BadClaim, a.BadClass, a.NoDeed, a.NoFlood, a.NoClass, a.NoName, a.NoRow, a.BadPixel, a.TooMany, a.Fails, a.Gap, a.BadText, a.Unlike]
/-- an own error, with fields or without -/
def ErrAt (H : Hp) (e C : Addr) (d : Option Addr) : Prop := H e = some (exo e C d) ∧ ∀ dd, d = some dd → ∃ fs, H dd = some (exd dd fs)
theorem ErrAt.same {H H' : Hp} {e C : Addr} {d : Option Addr} (x : ErrAt H e C d) (s : Same H H') : ErrAt H' e C d := ⟨s _ _ x.1, fun dd q => by
  obtain ⟨fs, h⟩ := x.2 dd q
  exact ⟨fs, s _ _ h⟩⟩
theorem EO.err {H : Hp} {e C : Addr} {fs : List (Str × V)} (x : EO H e C fs) : ∃ d, ErrAt H e C d := by
  obtain ⟨d, h1, h2⟩ := x
  exact ⟨some d, h1, fun dd q => by cases q; exact ⟨fs, h2⟩⟩
theorem kinds_facts {K : PySem.W.Frag} {mg : Str → Option Value} {a : Adr} (T : Txt K mg a) : ∀ C ∈ kindsL a, mroE K C a.HoldError = true ∧ PySem.W.typeIn K (.ref C) = some (.type "type") ∧ ExcC K C ∧ XfC K C := by
  intro C h
  simp only [kindsL, List.mem_cons, List.not_mem_nil, or_false] at h
  rcases h with rfl | rfl | rfl | rfl | rfl | rfl | rfl | rfl | rfl | rfl | rfl | rfl | rfl | rfl | rfl | rfl | rfl | rfl | rfl
  · exact ⟨T.mq_BadPlace, T.xt_BadPlace, T.xc_BadPlace, T.xf_BadPlace⟩
  · exact ⟨T.mq_BadSize, T.xt_BadSize, T.xc_BadSize, T.xf_BadSize⟩
  · exact ⟨T.mq_BadColour, T.xt_BadColour, T.xc_BadColour, T.xf_BadColour⟩
  · exact ⟨T.mq_BadPicture, T.xt_BadPicture, T.xc_BadPicture, T.xf_BadPicture⟩
  · exact ⟨T.mq_BadDeed, T.xt_BadDeed, T.xc_BadDeed, T.xf_BadDeed⟩
  · exact ⟨T.mq_BadProgram, T.xt_BadProgram, T.xc_BadProgram, T.xf_BadProgram⟩
  · exact ⟨T.mq_BadClaim, T.xt_BadClaim, T.xc_BadClaim, T.xf_BadClaim⟩
  · exact ⟨T.mq_BadClass, T.xt_BadClass, T.xc_BadClass, T.xf_BadClass⟩
  · exact ⟨T.mq_NoDeed, T.xt_NoDeed, T.xc_NoDeed, T.xf_NoDeed⟩
  · exact ⟨T.mq_NoFlood, T.xt_NoFlood, T.xc_NoFlood, T.xf_NoFlood⟩
  · exact ⟨T.mq_NoClass, T.xt_NoClass, T.xc_NoClass, T.xf_NoClass⟩
  · exact ⟨T.mq_NoName, T.xt_NoName, T.xc_NoName, T.xf_NoName⟩
  · exact ⟨T.mq_NoRow, T.xt_NoRow, T.xc_NoRow, T.xf_NoRow⟩
  · exact ⟨T.mq_BadPixel, T.xt_BadPixel, T.xc_BadPixel, T.xf_BadPixel⟩
  · exact ⟨T.mq_TooMany, T.xt_TooMany, T.xc_TooMany, T.xf_TooMany⟩
  · exact ⟨T.mq_Fails, T.xt_Fails, T.xc_Fails, T.xf_Fails⟩
  · exact ⟨T.mq_Gap, T.xt_Gap, T.xc_Gap, T.xf_Gap⟩
  · exact ⟨T.mq_BadText, T.xt_BadText, T.xc_BadText, T.xf_BadText⟩
  · exact ⟨T.mq_Unlike, T.xt_Unlike, T.xc_Unlike, T.xf_Unlike⟩
theorem kinds_base {K : PySem.W.Frag} {mg : Str → Option Value} {a : Adr} (T : Txt K mg a) : ∀ C ∈ kindsL a, C ≠ a.HoldError := by
  intro C h e
  have nd : (kindsL a ++ [a.HoldError]).Nodup := T.nd
  rw [List.nodup_append] at nd
  exact nd.2.2 C h a.HoldError (List.mem_singleton.mpr rfl) e
theorem kk_of {K : PySem.W.Frag} {mg : Str → Option Value} {a : Adr} (T : Txt K mg a) {i j : Nat} {C D : Addr} (hi : (kindsL a)[i]? = some C) (hj : (kindsL a)[j]? = some D) : PySem.W.kitOne K (.ref C) (.ref D) = some (decide (j = i)) := by
  have fC := kinds_facts T C (List.mem_of_getElem? hi)
  have fD := kinds_facts T D (List.mem_of_getElem? hj)
  by_cases e : j = i
  · subst e
    rw [hi] at hj
    cases hj
    rw [decide_eq_true rfl]
    exact kit_self
  · rw [decide_eq_false e]
    refine kitE fC.1 (mroE_some fD.1) fD.2.1 (fun z => e ?_) (kinds_base T D (List.mem_of_getElem? hj))
    subst z
    have nd : (kindsL a ++ [a.HoldError]).Nodup := T.nd
    rw [List.nodup_append] at nd
    obtain ⟨h1, e1⟩ := List.getElem?_eq_some_iff.mp hi
    obtain ⟨h2, e2⟩ := List.getElem?_eq_some_iff.mp hj
    have pw := List.pairwise_iff_getElem.mp nd.1
    rcases Nat.lt_trichotomy j i with q | q | q
    · exact absurd (e2.trans e1.symm) (pw j i h2 h1 q)
    · exact q
    · exact absurd (e1.trans e2.symm) (pw i j h1 h2 q)
def spKinds (a : Adr) : Sp := fun vs H Q _ => ∃ (e C : Addr) (d : Option Addr) (i : Nat), vs = [.ref e] ∧ (kindsL a)[i]? = some C ∧ ErrAt H e C d ∧ ∀ (l : Addr) (H' : Hp), H l = none → Same H H' → H' l = some (.lst [.int (i : Int)]) → Q (.ref l) H'
section
variable {P : Program} {w : World} {K : PySem.W.Frag} {mg : Str → Option Value} {base : Heap} {a : Adr}
set_option maxHeartbeats 8000000
theorem ok_kinds (T : Txt K mg a) : FnR P w K mg base CX0 1 a._law_kinds (spKinds a) := by
  refine T.d__law_kinds.ok sc__law_kinds (fun _ _ _ _ _ _ us hl => match us, hl with | [_], _ => rfl) (fun vs H Q E h => by obtain ⟨e, C, d, i, rfl, _⟩ := h; rfl) (fun cdv A outer s H vs Q E hr h => ?_)
  obtain ⟨e, C, d, i, rfl, hi, E0, k⟩ := h
  have fC := kinds_facts T C (List.mem_of_getElem? hi)
  have XC := fC.2.2.1
  have hci := mroE_some fC.1
  refine ⟨_, (pss_cons (ps_set (i := 1) sc__law_kinds.nd rfl (Or.inl rfl) (pe_lst (pa_cons (pe_callB call_isXV (by rfl) T.n_isinstance (by decide +kernel) (pa_cons (pv 0) (pa_cons (pe_glob (v := .ref a.BadPlace) rfl T.m_BadPlace rfl) pa_nil))) (pa_cons (pe_callB call_isXV (by rfl) T.n_isinstance (by decide +kernel) (pa_cons (pv 0) (pa_cons (pe_glob (v := .ref a.BadSize) rfl T.m_BadSize rfl) pa_nil))) (pa_cons (pe_callB call_isXV (by rfl) T.n_isinstance (by decide +kernel) (pa_cons (pv 0) (pa_cons (pe_glob (v := .ref a.BadColour) rfl T.m_BadColour rfl) pa_nil))) pa_nil)))))
      (pss_cons (ps_set (i := 1) sc__law_kinds.nd rfl (Or.inl rfl) (pe_op op_cat (pv 1) (pe_lst (pa_cons (pe_callB call_isXV (by rfl) T.n_isinstance (by decide +kernel) (pa_cons (pv 0) (pa_cons (pe_glob (v := .ref a.BadPicture) rfl T.m_BadPicture rfl) pa_nil))) (pa_cons (pe_callB call_isXV (by rfl) T.n_isinstance (by decide +kernel) (pa_cons (pv 0) (pa_cons (pe_glob (v := .ref a.BadDeed) rfl T.m_BadDeed rfl) pa_nil))) (pa_cons (pe_callB call_isXV (by rfl) T.n_isinstance (by decide +kernel) (pa_cons (pv 0) (pa_cons (pe_glob (v := .ref a.BadProgram) rfl T.m_BadProgram rfl) pa_nil))) pa_nil))))))
      (pss_cons (ps_set (i := 1) sc__law_kinds.nd rfl (Or.inl rfl) (pe_op op_cat (pv 1) (pe_lst (pa_cons (pe_callB call_isXV (by rfl) T.n_isinstance (by decide +kernel) (pa_cons (pv 0) (pa_cons (pe_glob (v := .ref a.BadClaim) rfl T.m_BadClaim rfl) pa_nil))) (pa_cons (pe_callB call_isXV (by rfl) T.n_isinstance (by decide +kernel) (pa_cons (pv 0) (pa_cons (pe_glob (v := .ref a.BadClass) rfl T.m_BadClass rfl) pa_nil))) (pa_cons (pe_callB call_isXV (by rfl) T.n_isinstance (by decide +kernel) (pa_cons (pv 0) (pa_cons (pe_glob (v := .ref a.NoDeed) rfl T.m_NoDeed rfl) pa_nil))) pa_nil))))))
      (pss_cons (ps_set (i := 1) sc__law_kinds.nd rfl (Or.inl rfl) (pe_op op_cat (pv 1) (pe_lst (pa_cons (pe_callB call_isXV (by rfl) T.n_isinstance (by decide +kernel) (pa_cons (pv 0) (pa_cons (pe_glob (v := .ref a.NoFlood) rfl T.m_NoFlood rfl) pa_nil))) (pa_cons (pe_callB call_isXV (by rfl) T.n_isinstance (by decide +kernel) (pa_cons (pv 0) (pa_cons (pe_glob (v := .ref a.NoClass) rfl T.m_NoClass rfl) pa_nil))) (pa_cons (pe_callB call_isXV (by rfl) T.n_isinstance (by decide +kernel) (pa_cons (pv 0) (pa_cons (pe_glob (v := .ref a.NoName) rfl T.m_NoName rfl) pa_nil))) pa_nil))))))
      (pss_cons (ps_set (i := 1) sc__law_kinds.nd rfl (Or.inl rfl) (pe_op op_cat (pv 1) (pe_lst (pa_cons (pe_callB call_isXV (by rfl) T.n_isinstance (by decide +kernel) (pa_cons (pv 0) (pa_cons (pe_glob (v := .ref a.NoRow) rfl T.m_NoRow rfl) pa_nil))) (pa_cons (pe_callB call_isXV (by rfl) T.n_isinstance (by decide +kernel) (pa_cons (pv 0) (pa_cons (pe_glob (v := .ref a.BadPixel) rfl T.m_BadPixel rfl) pa_nil))) (pa_cons (pe_callB call_isXV (by rfl) T.n_isinstance (by decide +kernel) (pa_cons (pv 0) (pa_cons (pe_glob (v := .ref a.TooMany) rfl T.m_TooMany rfl) pa_nil))) pa_nil))))))
      (pss_cons (ps_set (i := 1) sc__law_kinds.nd rfl (Or.inl rfl) (pe_op op_cat (pv 1) (pe_lst (pa_cons (pe_callB call_isXV (by rfl) T.n_isinstance (by decide +kernel) (pa_cons (pv 0) (pa_cons (pe_glob (v := .ref a.Fails) rfl T.m_Fails rfl) pa_nil))) (pa_cons (pe_callB call_isXV (by rfl) T.n_isinstance (by decide +kernel) (pa_cons (pv 0) (pa_cons (pe_glob (v := .ref a.Gap) rfl T.m_Gap rfl) pa_nil))) (pa_cons (pe_callB call_isXV (by rfl) T.n_isinstance (by decide +kernel) (pa_cons (pv 0) (pa_cons (pe_glob (v := .ref a.BadText) rfl T.m_BadText rfl) pa_nil))) pa_nil))))))
      (pss_one (ps_ret (pe_lc (own := [("_law_at", 2), ("_law_is_one", 3)]) (g := gTup K 2 (gCons (gName 2) (gCons (gName 3) gNil))) (by rfl) sc__law_kinds.nd (pi_enum (by rfl) T.n_enumerate (pa_cons (pe_op op_cat (pv 1) (pe_lst (pa_cons (pe_callB call_isXV (by rfl) T.n_isinstance (by decide +kernel) (pa_cons (pv 0) (pa_cons (pe_glob (v := .ref a.Unlike) rfl T.m_Unlike rfl) pa_nil))) pa_nil))) pa_nil)) (blkOk_by (own := [("_law_at", 2), ("_law_is_one", 3)]) (N := ["_law_error", "_law_found", "_law_at", "_law_is_one"]) (sc := defScope s__law_kinds) (by decide +kernel)) (fun _ _ _ _ _ => (pg_tup rfl (pgs_cons (pg_name (i := 2) sc__law_kinds.nd rfl (Or.inl rfl)) (pgs_cons (pg_name (i := 3) sc__law_kinds.nd rfl (Or.inl rfl)) pgs_nil)))) (fun _ _ _ _ _ => (pts_one (pt_val (pv 3)))) (fun _ _ _ _ _ => (pv 2))))))))))), ?_⟩
  refine ⟨_, rfl, e, C, d, _, .ref a.BadPlace, decide (0 = i), rfl, E0.1, E0.2, XC, hci, (fun u r => by cases r; rfl), kk_of T hi (j := 0) rfl, _, rfl, e, C, d, _, .ref a.BadSize, decide (1 = i), rfl, E0.1, E0.2, XC, hci, (fun u r => by cases r; rfl), kk_of T hi (j := 1) rfl, _, rfl, e, C, d, _, .ref a.BadColour, decide (2 = i), rfl, E0.1, E0.2, XC, hci, (fun u r => by cases r; rfl), kk_of T hi (j := 2) rfl, (by show 3 ≤ sizeLine; decide), fun l0 hl0 => ?_⟩
  have ml0 := same_new (o := .lst [.bl (decide (0 = i)), .bl (decide (1 = i)), .bl (decide (2 = i))]) hl0
  have el0 : upd H l0 (.lst [.bl (decide (0 = i)), .bl (decide (1 = i)), .bl (decide (2 = i))]) l0 = some (.lst [.bl (decide (0 = i)), .bl (decide (1 = i)), .bl (decide (2 = i))]) := upd_same
  generalize upd H l0 (.lst [.bl (decide (0 = i)), .bl (decide (1 = i)), .bl (decide (2 = i))]) = L0 at *
  have E1 := E0.same ml0
  refine ⟨_, rfl, _, rfl, e, C, d, _, .ref a.BadPicture, decide (3 = i), rfl, E1.1, E1.2, XC, hci, (fun u r => by cases r; rfl), kk_of T hi (j := 3) rfl, _, rfl, e, C, d, _, .ref a.BadDeed, decide (4 = i), rfl, E1.1, E1.2, XC, hci, (fun u r => by cases r; rfl), kk_of T hi (j := 4) rfl, _, rfl, e, C, d, _, .ref a.BadProgram, decide (5 = i), rfl, E1.1, E1.2, XC, hci, (fun u r => by cases r; rfl), kk_of T hi (j := 5) rfl, (by show 3 ≤ sizeLine; decide), fun l1 hl1 => ?_⟩
  have ml1 := same_new (o := .lst [.bl (decide (3 = i)), .bl (decide (4 = i)), .bl (decide (5 = i))]) hl1
  have el1 : upd L0 l1 (.lst [.bl (decide (3 = i)), .bl (decide (4 = i)), .bl (decide (5 = i))]) l1 = some (.lst [.bl (decide (3 = i)), .bl (decide (4 = i)), .bl (decide (5 = i))]) := upd_same
  generalize upd L0 l1 (.lst [.bl (decide (3 = i)), .bl (decide (4 = i)), .bl (decide (5 = i))]) = L1 at *
  refine ⟨_, _, _, _, rfl, rfl, ml1 _ _ el0, el1, (by show 6 ≤ sizeLine; decide), fun c1 hc1 => ?_⟩
  have mc1 := same_new (o := .lst [.bl (decide (0 = i)), .bl (decide (1 = i)), .bl (decide (2 = i)), .bl (decide (3 = i)), .bl (decide (4 = i)), .bl (decide (5 = i))]) hc1
  have ec1 : upd L1 c1 (.lst [.bl (decide (0 = i)), .bl (decide (1 = i)), .bl (decide (2 = i)), .bl (decide (3 = i)), .bl (decide (4 = i)), .bl (decide (5 = i))]) c1 = some (.lst [.bl (decide (0 = i)), .bl (decide (1 = i)), .bl (decide (2 = i)), .bl (decide (3 = i)), .bl (decide (4 = i)), .bl (decide (5 = i))]) := upd_same
  simp only [List.cons_append, List.nil_append]
  generalize upd L1 c1 (.lst [.bl (decide (0 = i)), .bl (decide (1 = i)), .bl (decide (2 = i)), .bl (decide (3 = i)), .bl (decide (4 = i)), .bl (decide (5 = i))]) = C1 at *
  have E2 := E0.same (((ml0).trans ml1).trans mc1)
  refine ⟨_, rfl, _, rfl, e, C, d, _, .ref a.BadClaim, decide (6 = i), rfl, E2.1, E2.2, XC, hci, (fun u r => by cases r; rfl), kk_of T hi (j := 6) rfl, _, rfl, e, C, d, _, .ref a.BadClass, decide (7 = i), rfl, E2.1, E2.2, XC, hci, (fun u r => by cases r; rfl), kk_of T hi (j := 7) rfl, _, rfl, e, C, d, _, .ref a.NoDeed, decide (8 = i), rfl, E2.1, E2.2, XC, hci, (fun u r => by cases r; rfl), kk_of T hi (j := 8) rfl, (by show 3 ≤ sizeLine; decide), fun l2 hl2 => ?_⟩
  have ml2 := same_new (o := .lst [.bl (decide (6 = i)), .bl (decide (7 = i)), .bl (decide (8 = i))]) hl2
  have el2 : upd C1 l2 (.lst [.bl (decide (6 = i)), .bl (decide (7 = i)), .bl (decide (8 = i))]) l2 = some (.lst [.bl (decide (6 = i)), .bl (decide (7 = i)), .bl (decide (8 = i))]) := upd_same
  generalize upd C1 l2 (.lst [.bl (decide (6 = i)), .bl (decide (7 = i)), .bl (decide (8 = i))]) = L2 at *
  refine ⟨_, _, _, _, rfl, rfl, ml2 _ _ ec1, el2, (by show 9 ≤ sizeLine; decide), fun c2 hc2 => ?_⟩
  have mc2 := same_new (o := .lst [.bl (decide (0 = i)), .bl (decide (1 = i)), .bl (decide (2 = i)), .bl (decide (3 = i)), .bl (decide (4 = i)), .bl (decide (5 = i)), .bl (decide (6 = i)), .bl (decide (7 = i)), .bl (decide (8 = i))]) hc2
  have ec2 : upd L2 c2 (.lst [.bl (decide (0 = i)), .bl (decide (1 = i)), .bl (decide (2 = i)), .bl (decide (3 = i)), .bl (decide (4 = i)), .bl (decide (5 = i)), .bl (decide (6 = i)), .bl (decide (7 = i)), .bl (decide (8 = i))]) c2 = some (.lst [.bl (decide (0 = i)), .bl (decide (1 = i)), .bl (decide (2 = i)), .bl (decide (3 = i)), .bl (decide (4 = i)), .bl (decide (5 = i)), .bl (decide (6 = i)), .bl (decide (7 = i)), .bl (decide (8 = i))]) := upd_same
  simp only [List.cons_append, List.nil_append]
  generalize upd L2 c2 (.lst [.bl (decide (0 = i)), .bl (decide (1 = i)), .bl (decide (2 = i)), .bl (decide (3 = i)), .bl (decide (4 = i)), .bl (decide (5 = i)), .bl (decide (6 = i)), .bl (decide (7 = i)), .bl (decide (8 = i))]) = C2 at *
  have E3 := E0.same (((((ml0).trans ml1).trans mc1).trans ml2).trans mc2)
  refine ⟨_, rfl, _, rfl, e, C, d, _, .ref a.NoFlood, decide (9 = i), rfl, E3.1, E3.2, XC, hci, (fun u r => by cases r; rfl), kk_of T hi (j := 9) rfl, _, rfl, e, C, d, _, .ref a.NoClass, decide (10 = i), rfl, E3.1, E3.2, XC, hci, (fun u r => by cases r; rfl), kk_of T hi (j := 10) rfl, _, rfl, e, C, d, _, .ref a.NoName, decide (11 = i), rfl, E3.1, E3.2, XC, hci, (fun u r => by cases r; rfl), kk_of T hi (j := 11) rfl, (by show 3 ≤ sizeLine; decide), fun l3 hl3 => ?_⟩
  have ml3 := same_new (o := .lst [.bl (decide (9 = i)), .bl (decide (10 = i)), .bl (decide (11 = i))]) hl3
  have el3 : upd C2 l3 (.lst [.bl (decide (9 = i)), .bl (decide (10 = i)), .bl (decide (11 = i))]) l3 = some (.lst [.bl (decide (9 = i)), .bl (decide (10 = i)), .bl (decide (11 = i))]) := upd_same
  generalize upd C2 l3 (.lst [.bl (decide (9 = i)), .bl (decide (10 = i)), .bl (decide (11 = i))]) = L3 at *
  refine ⟨_, _, _, _, rfl, rfl, ml3 _ _ ec2, el3, (by show 12 ≤ sizeLine; decide), fun c3 hc3 => ?_⟩
  have mc3 := same_new (o := .lst [.bl (decide (0 = i)), .bl (decide (1 = i)), .bl (decide (2 = i)), .bl (decide (3 = i)), .bl (decide (4 = i)), .bl (decide (5 = i)), .bl (decide (6 = i)), .bl (decide (7 = i)), .bl (decide (8 = i)), .bl (decide (9 = i)), .bl (decide (10 = i)), .bl (decide (11 = i))]) hc3
  have ec3 : upd L3 c3 (.lst [.bl (decide (0 = i)), .bl (decide (1 = i)), .bl (decide (2 = i)), .bl (decide (3 = i)), .bl (decide (4 = i)), .bl (decide (5 = i)), .bl (decide (6 = i)), .bl (decide (7 = i)), .bl (decide (8 = i)), .bl (decide (9 = i)), .bl (decide (10 = i)), .bl (decide (11 = i))]) c3 = some (.lst [.bl (decide (0 = i)), .bl (decide (1 = i)), .bl (decide (2 = i)), .bl (decide (3 = i)), .bl (decide (4 = i)), .bl (decide (5 = i)), .bl (decide (6 = i)), .bl (decide (7 = i)), .bl (decide (8 = i)), .bl (decide (9 = i)), .bl (decide (10 = i)), .bl (decide (11 = i))]) := upd_same
  simp only [List.cons_append, List.nil_append]
  generalize upd L3 c3 (.lst [.bl (decide (0 = i)), .bl (decide (1 = i)), .bl (decide (2 = i)), .bl (decide (3 = i)), .bl (decide (4 = i)), .bl (decide (5 = i)), .bl (decide (6 = i)), .bl (decide (7 = i)), .bl (decide (8 = i)), .bl (decide (9 = i)), .bl (decide (10 = i)), .bl (decide (11 = i))]) = C3 at *
  have E4 := E0.same (((((((ml0).trans ml1).trans mc1).trans ml2).trans mc2).trans ml3).trans mc3)
  refine ⟨_, rfl, _, rfl, e, C, d, _, .ref a.NoRow, decide (12 = i), rfl, E4.1, E4.2, XC, hci, (fun u r => by cases r; rfl), kk_of T hi (j := 12) rfl, _, rfl, e, C, d, _, .ref a.BadPixel, decide (13 = i), rfl, E4.1, E4.2, XC, hci, (fun u r => by cases r; rfl), kk_of T hi (j := 13) rfl, _, rfl, e, C, d, _, .ref a.TooMany, decide (14 = i), rfl, E4.1, E4.2, XC, hci, (fun u r => by cases r; rfl), kk_of T hi (j := 14) rfl, (by show 3 ≤ sizeLine; decide), fun l4 hl4 => ?_⟩
  have ml4 := same_new (o := .lst [.bl (decide (12 = i)), .bl (decide (13 = i)), .bl (decide (14 = i))]) hl4
  have el4 : upd C3 l4 (.lst [.bl (decide (12 = i)), .bl (decide (13 = i)), .bl (decide (14 = i))]) l4 = some (.lst [.bl (decide (12 = i)), .bl (decide (13 = i)), .bl (decide (14 = i))]) := upd_same
  generalize upd C3 l4 (.lst [.bl (decide (12 = i)), .bl (decide (13 = i)), .bl (decide (14 = i))]) = L4 at *
  refine ⟨_, _, _, _, rfl, rfl, ml4 _ _ ec3, el4, (by show 15 ≤ sizeLine; decide), fun c4 hc4 => ?_⟩
  have mc4 := same_new (o := .lst [.bl (decide (0 = i)), .bl (decide (1 = i)), .bl (decide (2 = i)), .bl (decide (3 = i)), .bl (decide (4 = i)), .bl (decide (5 = i)), .bl (decide (6 = i)), .bl (decide (7 = i)), .bl (decide (8 = i)), .bl (decide (9 = i)), .bl (decide (10 = i)), .bl (decide (11 = i)), .bl (decide (12 = i)), .bl (decide (13 = i)), .bl (decide (14 = i))]) hc4
  have ec4 : upd L4 c4 (.lst [.bl (decide (0 = i)), .bl (decide (1 = i)), .bl (decide (2 = i)), .bl (decide (3 = i)), .bl (decide (4 = i)), .bl (decide (5 = i)), .bl (decide (6 = i)), .bl (decide (7 = i)), .bl (decide (8 = i)), .bl (decide (9 = i)), .bl (decide (10 = i)), .bl (decide (11 = i)), .bl (decide (12 = i)), .bl (decide (13 = i)), .bl (decide (14 = i))]) c4 = some (.lst [.bl (decide (0 = i)), .bl (decide (1 = i)), .bl (decide (2 = i)), .bl (decide (3 = i)), .bl (decide (4 = i)), .bl (decide (5 = i)), .bl (decide (6 = i)), .bl (decide (7 = i)), .bl (decide (8 = i)), .bl (decide (9 = i)), .bl (decide (10 = i)), .bl (decide (11 = i)), .bl (decide (12 = i)), .bl (decide (13 = i)), .bl (decide (14 = i))]) := upd_same
  simp only [List.cons_append, List.nil_append]
  generalize upd L4 c4 (.lst [.bl (decide (0 = i)), .bl (decide (1 = i)), .bl (decide (2 = i)), .bl (decide (3 = i)), .bl (decide (4 = i)), .bl (decide (5 = i)), .bl (decide (6 = i)), .bl (decide (7 = i)), .bl (decide (8 = i)), .bl (decide (9 = i)), .bl (decide (10 = i)), .bl (decide (11 = i)), .bl (decide (12 = i)), .bl (decide (13 = i)), .bl (decide (14 = i))]) = C4 at *
  have E5 := E0.same (((((((((ml0).trans ml1).trans mc1).trans ml2).trans mc2).trans ml3).trans mc3).trans ml4).trans mc4)
  refine ⟨_, rfl, _, rfl, e, C, d, _, .ref a.Fails, decide (15 = i), rfl, E5.1, E5.2, XC, hci, (fun u r => by cases r; rfl), kk_of T hi (j := 15) rfl, _, rfl, e, C, d, _, .ref a.Gap, decide (16 = i), rfl, E5.1, E5.2, XC, hci, (fun u r => by cases r; rfl), kk_of T hi (j := 16) rfl, _, rfl, e, C, d, _, .ref a.BadText, decide (17 = i), rfl, E5.1, E5.2, XC, hci, (fun u r => by cases r; rfl), kk_of T hi (j := 17) rfl, (by show 3 ≤ sizeLine; decide), fun l5 hl5 => ?_⟩
  have ml5 := same_new (o := .lst [.bl (decide (15 = i)), .bl (decide (16 = i)), .bl (decide (17 = i))]) hl5
  have el5 : upd C4 l5 (.lst [.bl (decide (15 = i)), .bl (decide (16 = i)), .bl (decide (17 = i))]) l5 = some (.lst [.bl (decide (15 = i)), .bl (decide (16 = i)), .bl (decide (17 = i))]) := upd_same
  generalize upd C4 l5 (.lst [.bl (decide (15 = i)), .bl (decide (16 = i)), .bl (decide (17 = i))]) = L5 at *
  refine ⟨_, _, _, _, rfl, rfl, ml5 _ _ ec4, el5, (by show 18 ≤ sizeLine; decide), fun c5 hc5 => ?_⟩
  have mc5 := same_new (o := .lst [.bl (decide (0 = i)), .bl (decide (1 = i)), .bl (decide (2 = i)), .bl (decide (3 = i)), .bl (decide (4 = i)), .bl (decide (5 = i)), .bl (decide (6 = i)), .bl (decide (7 = i)), .bl (decide (8 = i)), .bl (decide (9 = i)), .bl (decide (10 = i)), .bl (decide (11 = i)), .bl (decide (12 = i)), .bl (decide (13 = i)), .bl (decide (14 = i)), .bl (decide (15 = i)), .bl (decide (16 = i)), .bl (decide (17 = i))]) hc5
  have ec5 : upd L5 c5 (.lst [.bl (decide (0 = i)), .bl (decide (1 = i)), .bl (decide (2 = i)), .bl (decide (3 = i)), .bl (decide (4 = i)), .bl (decide (5 = i)), .bl (decide (6 = i)), .bl (decide (7 = i)), .bl (decide (8 = i)), .bl (decide (9 = i)), .bl (decide (10 = i)), .bl (decide (11 = i)), .bl (decide (12 = i)), .bl (decide (13 = i)), .bl (decide (14 = i)), .bl (decide (15 = i)), .bl (decide (16 = i)), .bl (decide (17 = i))]) c5 = some (.lst [.bl (decide (0 = i)), .bl (decide (1 = i)), .bl (decide (2 = i)), .bl (decide (3 = i)), .bl (decide (4 = i)), .bl (decide (5 = i)), .bl (decide (6 = i)), .bl (decide (7 = i)), .bl (decide (8 = i)), .bl (decide (9 = i)), .bl (decide (10 = i)), .bl (decide (11 = i)), .bl (decide (12 = i)), .bl (decide (13 = i)), .bl (decide (14 = i)), .bl (decide (15 = i)), .bl (decide (16 = i)), .bl (decide (17 = i))]) := upd_same
  simp only [List.cons_append, List.nil_append]
  generalize upd L5 c5 (.lst [.bl (decide (0 = i)), .bl (decide (1 = i)), .bl (decide (2 = i)), .bl (decide (3 = i)), .bl (decide (4 = i)), .bl (decide (5 = i)), .bl (decide (6 = i)), .bl (decide (7 = i)), .bl (decide (8 = i)), .bl (decide (9 = i)), .bl (decide (10 = i)), .bl (decide (11 = i)), .bl (decide (12 = i)), .bl (decide (13 = i)), .bl (decide (14 = i)), .bl (decide (15 = i)), .bl (decide (16 = i)), .bl (decide (17 = i))]) = C5 at *
  have E6 := E0.same (((((((((((ml0).trans ml1).trans mc1).trans ml2).trans mc2).trans ml3).trans mc3).trans ml4).trans mc4).trans ml5).trans mc5)
  refine ⟨_, rfl, _, rfl, e, C, d, _, .ref a.Unlike, decide (18 = i), rfl, E6.1, E6.2, XC, hci, (fun u r => by cases r; rfl), kk_of T hi (j := 18) rfl, (by show 1 ≤ sizeLine; decide), fun l6 hl6 => ?_⟩
  have ml6 := same_new (o := .lst [.bl (decide (18 = i))]) hl6
  have el6 : upd C5 l6 (.lst [.bl (decide (18 = i))]) l6 = some (.lst [.bl (decide (18 = i))]) := upd_same
  generalize upd C5 l6 (.lst [.bl (decide (18 = i))]) = L6 at *
  refine ⟨_, _, _, _, rfl, rfl, ml6 _ _ ec5, el6, (by show 19 ≤ sizeLine; decide), fun c6 hc6 => ?_⟩
  have mc6 := same_new (o := .lst [.bl (decide (0 = i)), .bl (decide (1 = i)), .bl (decide (2 = i)), .bl (decide (3 = i)), .bl (decide (4 = i)), .bl (decide (5 = i)), .bl (decide (6 = i)), .bl (decide (7 = i)), .bl (decide (8 = i)), .bl (decide (9 = i)), .bl (decide (10 = i)), .bl (decide (11 = i)), .bl (decide (12 = i)), .bl (decide (13 = i)), .bl (decide (14 = i)), .bl (decide (15 = i)), .bl (decide (16 = i)), .bl (decide (17 = i)), .bl (decide (18 = i))]) hc6
  have ec6 : upd L6 c6 (.lst [.bl (decide (0 = i)), .bl (decide (1 = i)), .bl (decide (2 = i)), .bl (decide (3 = i)), .bl (decide (4 = i)), .bl (decide (5 = i)), .bl (decide (6 = i)), .bl (decide (7 = i)), .bl (decide (8 = i)), .bl (decide (9 = i)), .bl (decide (10 = i)), .bl (decide (11 = i)), .bl (decide (12 = i)), .bl (decide (13 = i)), .bl (decide (14 = i)), .bl (decide (15 = i)), .bl (decide (16 = i)), .bl (decide (17 = i)), .bl (decide (18 = i))]) c6 = some (.lst [.bl (decide (0 = i)), .bl (decide (1 = i)), .bl (decide (2 = i)), .bl (decide (3 = i)), .bl (decide (4 = i)), .bl (decide (5 = i)), .bl (decide (6 = i)), .bl (decide (7 = i)), .bl (decide (8 = i)), .bl (decide (9 = i)), .bl (decide (10 = i)), .bl (decide (11 = i)), .bl (decide (12 = i)), .bl (decide (13 = i)), .bl (decide (14 = i)), .bl (decide (15 = i)), .bl (decide (16 = i)), .bl (decide (17 = i)), .bl (decide (18 = i))]) := upd_same
  simp only [List.cons_append, List.nil_append]
  generalize upd L6 c6 (.lst [.bl (decide (0 = i)), .bl (decide (1 = i)), .bl (decide (2 = i)), .bl (decide (3 = i)), .bl (decide (4 = i)), .bl (decide (5 = i)), .bl (decide (6 = i)), .bl (decide (7 = i)), .bl (decide (8 = i)), .bl (decide (9 = i)), .bl (decide (10 = i)), .bl (decide (11 = i)), .bl (decide (12 = i)), .bl (decide (13 = i)), .bl (decide (14 = i)), .bl (decide (15 = i)), .bl (decide (16 = i)), .bl (decide (17 = i)), .bl (decide (18 = i))]) = C6 at *
  have E7 := E0.same (((((((((((((ml0).trans ml1).trans mc1).trans ml2).trans mc2).trans ml3).trans mc3).trans ml4).trans mc4).trans ml5).trans mc5).trans ml6).trans mc6)
  have hlen : i < 19 := (List.getElem?_eq_some_iff.mp hi).1
  have SS := ((((((((((((ml0).trans ml1).trans mc1).trans ml2).trans mc2).trans ml3).trans mc3).trans ml4).trans mc4).trans ml5).trans mc5).trans ml6).trans mc6
  clear E0 E1 E2 E3 E4 E5 E6 E7 ml0 el0 ml1 el1 mc1 ec1 ml2 el2 mc2 ec2 ml3 el3 mc3 ec3 ml4 el4 mc4 ec4 ml5 el5 mc5 ec5 ml6 el6 mc6
  refine ⟨c6, _, rfl, SqL.of ec6, fun D hD => ?_⟩
  have nD : c6 ≠ D := ne_of_none ec6 hD
  have hx : ∀ j y, ([V.bl (decide (0 = i)), V.bl (decide (1 = i)), V.bl (decide (2 = i)), V.bl (decide (3 = i)), V.bl (decide (4 = i)), V.bl (decide (5 = i)), V.bl (decide (6 = i)), V.bl (decide (7 = i)), V.bl (decide (8 = i)), V.bl (decide (9 = i)), V.bl (decide (10 = i)), V.bl (decide (11 = i)), V.bl (decide (12 = i)), V.bl (decide (13 = i)), V.bl (decide (14 = i)), V.bl (decide (15 = i)), V.bl (decide (16 = i)), V.bl (decide (17 = i)), V.bl (decide (18 = i))] : List V)[j]? = some y → y = V.bl (decide (j = i)) := fun j y h => by
    rw [show ([V.bl (decide (0 = i)), V.bl (decide (1 = i)), V.bl (decide (2 = i)), V.bl (decide (3 = i)), V.bl (decide (4 = i)), V.bl (decide (5 = i)), V.bl (decide (6 = i)), V.bl (decide (7 = i)), V.bl (decide (8 = i)), V.bl (decide (9 = i)), V.bl (decide (10 = i)), V.bl (decide (11 = i)), V.bl (decide (12 = i)), V.bl (decide (13 = i)), V.bl (decide (14 = i)), V.bl (decide (15 = i)), V.bl (decide (16 = i)), V.bl (decide (17 = i)), V.bl (decide (18 = i))] : List V) = (List.range 19).map fun j => V.bl (decide (j = i)) from rfl, List.getElem?_map] at h
    obtain ⟨z, h1, h2⟩ := Option.map_eq_some_iff.mp h
    obtain ⟨_, h3⟩ := List.getElem?_eq_some_iff.mp h1
    rw [List.getElem_range] at h3
    rw [← h3] at h2
    exact h2.symm
  refine lc_it (walk_enum (K := K) (a := c6) (xs := [V.bl (decide (0 = i)), V.bl (decide (1 = i)), V.bl (decide (2 = i)), V.bl (decide (3 = i)), V.bl (decide (4 = i)), V.bl (decide (5 = i)), V.bl (decide (6 = i)), V.bl (decide (7 = i)), V.bl (decide (8 = i)), V.bl (decide (9 = i)), V.bl (decide (10 = i)), V.bl (decide (11 = i)), V.bl (decide (12 = i)), V.bl (decide (13 = i)), V.bl (decide (14 = i)), V.bl (decide (15 = i)), V.bl (decide (16 = i)), V.bl (decide (17 = i)), V.bl (decide (18 = i))])) (fun j H' => H' D = some (.lst (if i < j then [V.int (i : Int)] else [])) ∧ ∀ b o, b ≠ D → C6 b = some o → H' b = some o)
    ⟨upd_same, fun b o n q => by rw [upd_ne n]; exact q⟩ (fun j H' _ p => SqL.of (p.2 _ _ nD ec6)) ?_ ?_
  · rintro j x H1 H2 hj ⟨p1, p2⟩ ⟨Z, y1, y2, rfl, hZ, rfl, ey1, ey2⟩
    cases ey1
    have e2 := hx j y2 ey2
    subst e2
    have nZ := same_new (o := .tup [V.int (j : Nat), V.bl (decide (j = i))]) hZ
    have nDZ : D ≠ Z := ne_of_none p1 hZ
    refine ⟨Z, _, rfl, SqT.of upd_same, rfl, _, _, rfl, _, _, rfl, rfl, ?_⟩
    have q1 : upd H1 Z (.tup [V.int (j : Nat), V.bl (decide (j = i))]) D = some (.lst (if i < j then [V.int (i : Int)] else [])) := nZ _ _ p1
    refine ⟨rfl, _, rfl, _, rfl, ite2 (fun z => ?_) fun z => ?_⟩
    · have z := of_decide_eq_true z
      subst z
      rw [if_neg (Nat.lt_irrefl _)] at q1
      refine ⟨_, rfl, [], q1, (by show 0 < sizeLine; decide), ?_, fun b o n q => ?_⟩
      · rw [upd_same, if_pos (Nat.lt_succ_self _)]
        rfl
      · rw [upd_ne n]
        exact nZ _ _ (p2 b o n q)
    · have z : ¬ j = i := fun y => z (decide_eq_true y)
      refine ⟨?_, fun b o n q => nZ _ _ (p2 b o n q)⟩
      rw [q1]
      by_cases y : i < j
      · rw [if_pos y, if_pos (by omega)]
      · rw [if_neg y, if_neg (by omega)]
  · rintro H' ⟨p1, p2⟩
    rw [show (if i < ([V.bl (decide (0 = i)), V.bl (decide (1 = i)), V.bl (decide (2 = i)), V.bl (decide (3 = i)), V.bl (decide (4 = i)), V.bl (decide (5 = i)), V.bl (decide (6 = i)), V.bl (decide (7 = i)), V.bl (decide (8 = i)), V.bl (decide (9 = i)), V.bl (decide (10 = i)), V.bl (decide (11 = i)), V.bl (decide (12 = i)), V.bl (decide (13 = i)), V.bl (decide (14 = i)), V.bl (decide (15 = i)), V.bl (decide (16 = i)), V.bl (decide (17 = i)), V.bl (decide (18 = i))] : List V).length then [V.int (i : Int)] else []) = [V.int (i : Int)] from if_pos hlen] at p1
    exact k D H' (by
      cases q : H D with
      | none => rfl
      | some o =>
        have z := SS D o q
        rw [hD] at z
        cases z) (fun b o q => p2 b o (ne_of_none (SS b o q) hD) (SS b o q)) p1
end
end Pf
end
section
namespace Pf
open PySem PySem.Spec PyProof.Rows L2 Ow StX
theorem vals_rev {vs : List V} {us : List Value} (r : Vals vs us) : Vals vs.reverse us.reverse := by
  induction r with
  | nil => exact .nil
  | cons h t ih => rw [List.reverse_cons, List.reverse_cons]; exact ih.append (.cons h .nil)
section
variable {P : Program} {w : World} {K : PySem.W.Frag} {mg : Str → Option Value} {base : Heap} {a : Adr}
set_option maxHeartbeats 8000000
theorem kb_BadPixel {fd : FuncData} (F : FunD K "__init__" "BadPixel.__init__" (defArgs s_BadPixel_init) (defBody s_BadPixel_init) (defScope s_BadPixel_init) [] [] a.BadPixel_init fd) : KBn K fd ["self", "x", "y"] 1 ["y", "x"] (fun us ws => us ++ ws.reverse) (fun vs zs => vs ++ zs.reverse) :=
  kbn0 F (fun r1 r2 => r1.append (vals_rev r2)) (fun kV doc pm an cdv ct us ws hu hw => match us, ws, hu, hw with | [_], [_, _], _, _ => rfl)
theorem kb_TooMany {fd : FuncData} (F : FunD K "__init__" "TooMany.__init__" (defArgs s_TooMany_init) (defBody s_TooMany_init) (defScope s_TooMany_init) [] [] a.TooMany_init fd) : KBn K fd ["self", "what", "most"] 1 ["most", "what"] (fun us ws => us ++ ws.reverse) (fun vs zs => vs ++ zs.reverse) :=
  kbn0 F (fun r1 r2 => r1.append (vals_rev r2)) (fun kV doc pm an cdv ct us ws hu hw => match us, ws, hu, hw with | [_], [_, _], _, _ => rfl)
theorem kb_Fails {fd : FuncData} (F : FunD K "__init__" "Fails.__init__" (defArgs s_Fails_init) (defBody s_Fails_init) (defScope s_Fails_init) [] [] a.Fails_init fd) : KBn K fd ["self", "width", "height"] 1 ["height", "width"] (fun us ws => us ++ ws.reverse) (fun vs zs => vs ++ zs.reverse) :=
  kbn0 F (fun r1 r2 => r1.append (vals_rev r2)) (fun kV doc pm an cdv ct us ws hu hw => match us, ws, hu, hw with | [_], [_, _], _, _ => rfl)
theorem kb_Gap {fd : FuncData} (F : FunD K "__init__" "Gap.__init__" (defArgs s_Gap_init) (defBody s_Gap_init) (defScope s_Gap_init) [] [] a.Gap_init fd) : KBn K fd ["self", "x", "y"] 1 ["y", "x"] (fun us ws => us ++ ws.reverse) (fun vs zs => vs ++ zs.reverse) :=
  kbn0 F (fun r1 r2 => r1.append (vals_rev r2)) (fun kV doc pm an cdv ct us ws hu hw => match us, ws, hu, hw with | [_], [_, _], _, _ => rfl)
theorem kb_BadText {fd : FuncData} (F : FunD K "__init__" "BadText.__init__" (defArgs s_BadText_init) (defBody s_BadText_init) (defScope s_BadText_init) [] [] a.BadText_init fd) : KBn K fd ["self", "line", "word"] 1 ["word", "line"] (fun us ws => us ++ ws.reverse) (fun vs zs => vs ++ zs.reverse) :=
  kbn0 F (fun r1 r2 => r1.append (vals_rev r2)) (fun kV doc pm an cdv ct us ws hu hw => match us, ws, hu, hw with | [_], [_, _], _, _ => rfl)
def TwoOk (H : Hp) (a : Adr) (v u : V) (es : List V) : Prop := ∃ e0 e1 e2 e3 e4, es = [V.ref e0, .ref e1, .ref e2, .ref e3, .ref e4] ∧ EO H e0 a.BadPixel [("y", u), ("x", v)] ∧ EO H e1 a.TooMany [("most", u), ("what", v)] ∧ EO H e2 a.Fails [("height", u), ("width", v)] ∧ EO H e3 a.Gap [("y", u), ("x", v)] ∧ EO H e4 a.BadText [("word", u), ("line", v)]
theorem TwoOk.same {H H' : Hp} {a : Adr} {v u : V} {es : List V} (x : TwoOk H a v u es) (s : Same H H') : TwoOk H' a v u es := by
  obtain ⟨e0, e1, e2, e3, e4, rfl, h0, h1, h2, h3, h4⟩ := x
  exact ⟨e0, e1, e2, e3, e4, rfl, h0.same s, h1.same s, h2.same s, h3.same s, h4.same s⟩
def spNamed (a : Adr) : Sp := fun vs H Q _ => ∃ v u, vs = [v, u] ∧ ∀ (l : Addr) (es : List V) (H' : Hp), Same H H' → TwoOk H' a v u es → H' l = some (.lst es) → Q (.ref l) H'
def spTold (a : Adr) : Sp := fun vs H Q _ => ∃ (l : Addr) (es : List V) (v u : V), vs = [.ref l] ∧ H l = some (.lst es) ∧ TwoOk H a v u es ∧ ∀ (r : Addr) (H' : Hp), Same H H' → H' r = some (.lst [v, u, v, u, v, u, v, u, v, u]) → Q (.ref r) H'
theorem ok_named (T : Txt K mg a) : FnR P w K mg base CX0 3 a._law_named (spNamed a) := by
  obtain ⟨fd_BadPixel, O_BadPixel, FD_BadPixel⟩ := ok_BadPixel (P := P) (w := w) (base := base) T
  have KB_BadPixel := kb_BadPixel FD_BadPixel
  obtain ⟨fd_TooMany, O_TooMany, FD_TooMany⟩ := ok_TooMany (P := P) (w := w) (base := base) T
  have KB_TooMany := kb_TooMany FD_TooMany
  obtain ⟨fd_Fails, O_Fails, FD_Fails⟩ := ok_Fails (P := P) (w := w) (base := base) T
  have KB_Fails := kb_Fails FD_Fails
  obtain ⟨fd_Gap, O_Gap, FD_Gap⟩ := ok_Gap (P := P) (w := w) (base := base) T
  have KB_Gap := kb_Gap FD_Gap
  obtain ⟨fd_BadText, O_BadText, FD_BadText⟩ := ok_BadText (P := P) (w := w) (base := base) T
  have KB_BadText := kb_BadText FD_BadText
  refine T.d__law_named.ok sc__law_named (fun _ _ _ _ _ _ us hl => match us, hl with | [_, _], _ => rfl) (fun vs H Q E h => by obtain ⟨v, u, rfl, _⟩ := h; rfl) (fun cdv A outer s H vs Q E hr h => ?_)
  obtain ⟨v, u, rfl, k⟩ := h
  refine ⟨_, (pss_cons (ps_set (i := 2) sc__law_named.nd rfl (Or.inl rfl) (pe_lst (pa_cons (pe_oexK T.e_BadPixel.ox T.e_BadPixel.iC T.e_BadPixel.tI O_BadPixel (hr.mono (by decide)) KB_BadPixel pass0 rfl T.m_BadPixel (pk_cons (pv 1) (pk_cons (pv 0) pk_nil))) (pa_cons (pe_oexK T.e_TooMany.ox T.e_TooMany.iC T.e_TooMany.tI O_TooMany (hr.mono (by decide)) KB_TooMany pass0 rfl T.m_TooMany (pk_cons (pv 1) (pk_cons (pv 0) pk_nil))) (pa_cons (pe_oexK T.e_Fails.ox T.e_Fails.iC T.e_Fails.tI O_Fails (hr.mono (by decide)) KB_Fails pass0 rfl T.m_Fails (pk_cons (pv 1) (pk_cons (pv 0) pk_nil))) pa_nil)))))
      (pss_one (ps_ret (pe_op op_cat (pv 2) (pe_lst (pa_cons (pe_oexK T.e_Gap.ox T.e_Gap.iC T.e_Gap.tI O_Gap (hr.mono (by decide)) KB_Gap pass0 rfl T.m_Gap (pk_cons (pv 1) (pk_cons (pv 0) pk_nil))) (pa_cons (pe_oexK T.e_BadText.ox T.e_BadText.iC T.e_BadText.tI O_BadText (hr.mono (by decide)) KB_BadText pass0 rfl T.m_BadText (pk_cons (pv 1) (pk_cons (pv 0) pk_nil))) pa_nil))))))), ?_⟩
  refine ⟨_, rfl, _, rfl, rfl, fun e0 he0 => ⟨e0, v, u, rfl, upd_same, fun d0 hd0 nd0 => ⟨rfl, ?_⟩⟩⟩
  rw [upd_ne nd0] at hd0
  obtain ⟨m0, E0⟩ := made_keeps (C := a.BadPixel) (fs := [("y", u), ("x", v)]) he0 hd0 nd0
  generalize upd (upd (upd H e0 (exo e0 a.BadPixel none)) d0 (exd d0 [("y", u), ("x", v)])) e0 (exo e0 a.BadPixel (some d0)) = H0 at *
  clear he0 hd0 nd0
  refine ⟨_, rfl, _, rfl, rfl, fun e1 he1 => ⟨e1, v, u, rfl, upd_same, fun d1 hd1 nd1 => ⟨rfl, ?_⟩⟩⟩
  rw [upd_ne nd1] at hd1
  obtain ⟨m1, E1⟩ := made_keeps (C := a.TooMany) (fs := [("most", u), ("what", v)]) he1 hd1 nd1
  generalize upd (upd (upd H0 e1 (exo e1 a.TooMany none)) d1 (exd d1 [("most", u), ("what", v)])) e1 (exo e1 a.TooMany (some d1)) = H1 at *
  clear he1 hd1 nd1
  refine ⟨_, rfl, _, rfl, rfl, fun e2 he2 => ⟨e2, v, u, rfl, upd_same, fun d2 hd2 nd2 => ⟨rfl, ?_⟩⟩⟩
  rw [upd_ne nd2] at hd2
  obtain ⟨m2, E2⟩ := made_keeps (C := a.Fails) (fs := [("height", u), ("width", v)]) he2 hd2 nd2
  generalize upd (upd (upd H1 e2 (exo e2 a.Fails none)) d2 (exd d2 [("height", u), ("width", v)])) e2 (exo e2 a.Fails (some d2)) = H2 at *
  clear he2 hd2 nd2
  refine ⟨(by show 3 ≤ sizeLine; decide), fun l0 hl0 => ?_⟩
  have ml0 := same_new (o := .lst [.ref e0, .ref e1, .ref e2]) hl0
  have el0 : upd H2 l0 (.lst [.ref e0, .ref e1, .ref e2]) l0 = some (.lst [.ref e0, .ref e1, .ref e2]) := upd_same
  generalize upd H2 l0 (.lst [.ref e0, .ref e1, .ref e2]) = L0 at *
  refine ⟨_, rfl, _, rfl, _, rfl, rfl, fun e3 he3 => ⟨e3, v, u, rfl, upd_same, fun d3 hd3 nd3 => ⟨rfl, ?_⟩⟩⟩
  rw [upd_ne nd3] at hd3
  obtain ⟨m3, E3⟩ := made_keeps (C := a.Gap) (fs := [("y", u), ("x", v)]) he3 hd3 nd3
  generalize upd (upd (upd L0 e3 (exo e3 a.Gap none)) d3 (exd d3 [("y", u), ("x", v)])) e3 (exo e3 a.Gap (some d3)) = H3 at *
  clear he3 hd3 nd3
  refine ⟨_, rfl, _, rfl, rfl, fun e4 he4 => ⟨e4, v, u, rfl, upd_same, fun d4 hd4 nd4 => ⟨rfl, ?_⟩⟩⟩
  rw [upd_ne nd4] at hd4
  obtain ⟨m4, E4⟩ := made_keeps (C := a.BadText) (fs := [("word", u), ("line", v)]) he4 hd4 nd4
  generalize upd (upd (upd H3 e4 (exo e4 a.BadText none)) d4 (exd d4 [("word", u), ("line", v)])) e4 (exo e4 a.BadText (some d4)) = H4 at *
  clear he4 hd4 nd4
  refine ⟨(by show 2 ≤ sizeLine; decide), fun l1 hl1 => ?_⟩
  have ml1 := same_new (o := .lst [.ref e3, .ref e4]) hl1
  have el1 : upd H4 l1 (.lst [.ref e3, .ref e4]) l1 = some (.lst [.ref e3, .ref e4]) := upd_same
  generalize upd H4 l1 (.lst [.ref e3, .ref e4]) = L1 at *
  refine ⟨_, _, _, _, rfl, rfl, ml1 _ _ (m4 _ _ (m3 _ _ el0)), el1, (by show 5 ≤ sizeLine; decide), fun c hc => ?_⟩
  have mc := same_new (o := .lst [.ref e0, .ref e1, .ref e2, .ref e3, .ref e4]) hc
  have ec : upd L1 c (.lst [.ref e0, .ref e1, .ref e2, .ref e3, .ref e4]) c = some (.lst [.ref e0, .ref e1, .ref e2, .ref e3, .ref e4]) := upd_same
  simp only [List.cons_append, List.nil_append]
  generalize upd L1 c (.lst [.ref e0, .ref e1, .ref e2, .ref e3, .ref e4]) = C at *
  exact k c _ _ (Same.trans (Same.trans (Same.trans (Same.trans (Same.trans (Same.trans (Same.trans m0 m1) m2) ml0) m3) m4) ml1) mc) ⟨e0, e1, e2, e3, e4, rfl, (((((((E0.same m1).same m2).same ml0).same m3).same m4).same ml1).same mc), ((((((E1.same m2).same ml0).same m3).same m4).same ml1).same mc), (((((E2.same ml0).same m3).same m4).same ml1).same mc), (((E3.same m4).same ml1).same mc), ((E4.same ml1).same mc)⟩ ec
theorem ok_told (T : Txt K mg a) : FnR P w K mg base CX0 1 a._law_two_told (spTold a) := by
  refine T.d__law_two_told.ok sc__law_two_told (fun _ _ _ _ _ _ us hl => match us, hl with | [_], _ => rfl) (fun vs H Q E h => by obtain ⟨l, es, v, u, rfl, _⟩ := h; rfl) (fun cdv A outer s H vs Q E hr h => ?_)
  obtain ⟨l, es, v, u, rfl, hl, ⟨e0, e1, e2, e3, e4, rfl, ⟨d0, p0, q0⟩, ⟨d1, p1, q1⟩, ⟨d2, p2, q2⟩, ⟨d3, p3, q3⟩, ⟨d4, p4, q4⟩⟩, k⟩ := h
  refine ⟨_, (pss_cons (ps_set (i := 1) sc__law_two_told.nd rfl (Or.inl rfl) (pe_lst (pa_cons (pe_xfV (pe_ix ix_list (pv 0) pe_int (fun _ _ => rfl)) (by rfl)) (pa_cons (pe_xfV (pe_ix ix_list (pv 0) pe_int (fun _ _ => rfl)) (by rfl)) (pa_cons (pe_xfV (pe_ix ix_list (pv 0) pe_int (fun _ _ => rfl)) (by rfl)) (pa_cons (pe_xfV (pe_ix ix_list (pv 0) pe_int (fun _ _ => rfl)) (by rfl)) (pa_cons (pe_xfV (pe_ix ix_list (pv 0) pe_int (fun _ _ => rfl)) (by rfl)) (pa_cons (pe_xfV (pe_ix ix_list (pv 0) pe_int (fun _ _ => rfl)) (by rfl)) (pa_cons (pe_xfV (pe_ix ix_list (pv 0) pe_int (fun _ _ => rfl)) (by rfl)) (pa_cons (pe_xfV (pe_ix ix_list (pv 0) pe_int (fun _ _ => rfl)) (by rfl)) pa_nil))))))))))
      (pss_one (ps_ret (pe_op op_cat (pv 1) (pe_lst (pa_cons (pe_xfV (pe_ix ix_list (pv 0) pe_int (fun _ _ => rfl)) (by rfl)) (pa_cons (pe_xfV (pe_ix ix_list (pv 0) pe_int (fun _ _ => rfl)) (by rfl)) pa_nil))))))), ?_⟩
  refine ⟨_, rfl, _, _, _, _, rfl, rfl, SqL.of hl, rfl, e0, a.BadPixel, d0, _, v, rfl, T.xf_BadPixel, T.a_BadPixel_x, p0, q0, rfl, _, rfl, _, _, _, _, rfl, rfl, SqL.of hl, rfl, e0, a.BadPixel, d0, _, u, rfl, T.xf_BadPixel, T.a_BadPixel_y, p0, q0, rfl, _, rfl, _, _, _, _, rfl, rfl, SqL.of hl, rfl, e1, a.TooMany, d1, _, v, rfl, T.xf_TooMany, T.a_TooMany_what, p1, q1, rfl, _, rfl, _, _, _, _, rfl, rfl, SqL.of hl, rfl, e1, a.TooMany, d1, _, u, rfl, T.xf_TooMany, T.a_TooMany_most, p1, q1, rfl, _, rfl, _, _, _, _, rfl, rfl, SqL.of hl, rfl, e2, a.Fails, d2, _, v, rfl, T.xf_Fails, T.a_Fails_width, p2, q2, rfl, _, rfl, _, _, _, _, rfl, rfl, SqL.of hl, rfl, e2, a.Fails, d2, _, u, rfl, T.xf_Fails, T.a_Fails_height, p2, q2, rfl, _, rfl, _, _, _, _, rfl, rfl, SqL.of hl, rfl, e3, a.Gap, d3, _, v, rfl, T.xf_Gap, T.a_Gap_x, p3, q3, rfl, _, rfl, _, _, _, _, rfl, rfl, SqL.of hl, rfl, e3, a.Gap, d3, _, u, rfl, T.xf_Gap, T.a_Gap_y, p3, q3, rfl, (by show 8 ≤ sizeLine; decide), fun r0 hr0 => ?_⟩
  have m0 := same_new (o := .lst [v, u, v, u, v, u, v, u]) hr0
  have f0 : upd H r0 (.lst [v, u, v, u, v, u, v, u]) r0 = some (.lst [v, u, v, u, v, u, v, u]) := upd_same
  generalize upd H r0 (.lst [v, u, v, u, v, u, v, u]) = H0 at *
  refine ⟨_, rfl, _, rfl, _, _, _, _, rfl, rfl, SqL.of (m0 _ _ hl), rfl, e4, a.BadText, d4, _, v, rfl, T.xf_BadText, T.a_BadText_line, (m0 _ _ p4), (m0 _ _ q4), rfl, _, rfl, _, _, _, _, rfl, rfl, SqL.of (m0 _ _ hl), rfl, e4, a.BadText, d4, _, u, rfl, T.xf_BadText, T.a_BadText_word, (m0 _ _ p4), (m0 _ _ q4), rfl, (by show 2 ≤ sizeLine; decide), fun r1 hr1 => ?_⟩
  have m1 := same_new (o := .lst [v, u]) hr1
  have f1 : upd H0 r1 (.lst [v, u]) r1 = some (.lst [v, u]) := upd_same
  generalize upd H0 r1 (.lst [v, u]) = H1 at *
  refine ⟨_, _, _, _, rfl, rfl, m1 _ _ f0, f1, (by show 10 ≤ sizeLine; decide), fun r2 hr2 => ?_⟩
  have m2 := same_new (o := .lst [v, u, v, u, v, u, v, u, v, u]) hr2
  exact k r2 _ ((m0.trans m1).trans m2) upd_same
end
end Pf
end
section
namespace Pf
open PySem PySem.Spec PyProof.Rows L2 Ow StX
def SameBut (d : Addr) (H H' : Hp) : Prop := ∀ b o, b ≠ d → H b = some o → H' b = some o
theorem SameBut.of {d : Addr} {H H' : Hp} (s : Same H H') : SameBut d H H' := fun b o _ e => s b o e
theorem SameBut.trans {d : Addr} {H H1 H2 : Hp} (x : SameBut d H H1) (y : SameBut d H1 H2) : SameBut d H H2 := fun b o n e => y b o n (x b o n e)
theorem SameBut.upd {d : Addr} {H : Hp} {o : HO} : SameBut d H (upd H d o) := fun b u n e => by rw [upd_ne n]; exact e
theorem atI_any {xs : List V} {z : Int} (h0 : 0 ≤ z) (h1 : z < xs.length) : ∃ v, v ∈ xs ∧ atI xs z = some v := by
  obtain ⟨k, rfl⟩ : ∃ k : Nat, z = (k : Int) := ⟨z.toNat, by omega⟩
  have hk : k < xs.length := by omega
  exact ⟨xs[k], List.getElem_mem hk, atI_nat (List.getElem?_eq_getElem hk)⟩
/-- a drawn value: data that is small -/
def Small (K : PySem.W.Frag) (H : Hp) (v : V) : Prop := ∃ d, Dq K H v d ∧ d.showable = true ∧ d.depth ≤ 3 ∧ d.shown.length ≤ 100
def spVal (K : PySem.W.Frag) : Sp := fun vs H Q _ => ∃ (d : Addr), vs = [.ref d] ∧ Bag H d ∧ ∀ (v : V) (H' : Hp), SameBut d H H' → Bag H' d → Small K (del H' d) v → Q v H'
section
variable {P : Program} {w : World} {K : PySem.W.Frag} {mg : Str → Option Value} {base : Heap} {a : Adr}
set_option maxHeartbeats 4000000
theorem ok_val (T : Txt K mg a) : FnR P w K mg base CX0 2 a._law_value (spVal K) := by
  have G__law_draw : FnR P w K mg base CX0 1 a._law_draw spDraw := ok_draw T
  refine T.d__law_value.ok sc__law_value (fun _ _ _ _ _ _ us hl => match us, hl with | [_], _ => rfl) (fun vs H Q E h => by obtain ⟨d, rfl, _⟩ := h; rfl) (fun cdv A outer s H vs Q E hr h => ?_)
  obtain ⟨d, rfl, B, k⟩ := h
  refine ⟨_, (pss_cons (ps_set (i := 1) sc__law_value.nd rfl (Or.inl rfl) (pe_lst (pa_cons pe_non (pa_cons pe_bl (pa_cons pe_bl (pa_cons pe_int (pa_cons (pe_un un_neg pe_int) (pa_cons (pe_op op_pow pe_int pe_int) (pa_cons pe_str (pa_cons pe_str (pa_cons (pe_tup pa_nil) (pa_cons (pe_tup (pa_cons pe_int (pa_cons pe_str pa_nil))) (pa_cons (pe_lst pa_nil) (pa_cons (pe_lst (pa_cons pe_int (pa_cons (pe_lst (pa_cons pe_int pa_nil)) pa_nil))) (pa_cons pe_dnewK (pa_cons (pe_disp (pps_cons pe_str pe_int pps_nil) (by rfl) (by rfl) (fun z => by cases z) (by decide)) (pa_cons pe_str pa_nil)))))))))))))))))
      (pss_one (ps_ret (pe_ix ix_list (pv 1) (pe_callR G__law_draw (hr.mono (by decide)) T.m__law_draw T.k__law_draw pass0 (pa_cons (pv 0) (pa_cons (pe_callB call_len_seq (by rfl) T.n_len (by decide +kernel) (pa_cons (pv 1) pa_nil)) pa_nil))) (fun _ _ => rfl))))), ?_⟩
  refine ⟨_, rfl, _, _, rfl, rfl, ⟨by decide, by decide, by decide⟩, (by show 0 ≤ sizeLine; decide), fun p1 h1 => ⟨(by show 2 ≤ sizeLine; decide), fun p2 h2 => ⟨(by show 0 ≤ sizeLine; decide), fun p3 h3 => ⟨(by show 1 ≤ sizeLine; decide), fun p4 h4 => ⟨(by show 2 ≤ sizeLine; decide), fun p5 h5 => fun p6 h6 => ?_⟩⟩⟩⟩⟩
  refine fun p7 h7 => ⟨upd_same, [(.inr "a", .int 1)], rfl, by decide, ?_⟩
  rw [upd_upd]
  refine ⟨(by show 15 ≤ sizeLine; decide), fun L hL => ?_⟩
  have m1 := same_new (o := .tup []) h1
  have m2 := same_new (o := .tup [.int 1, .str "a"]) h2
  have m3 := same_new (o := .lst []) h3
  have m4 := same_new (o := .lst [.int 1]) h4
  have m5 := same_new (o := .lst [.int 0, .ref p4]) h5
  have m6 := same_new (o := .dK []) h6
  have m7 := same_new (o := .dK (mergeK [] [(Sum.inr "a", V.int 1)])) h7
  have hL : (upd (upd (upd (upd (upd (upd (upd H p1 (.tup [])) p2 (.tup [.int 1, .str "a"])) p3 (.lst [])) p4 (.lst [.int 1])) p5 (.lst [.int 0, .ref p4])) p6 (.dK [])) p7 (.dK (mergeK [] [(Sum.inr "a", V.int 1)]))) L = none := hL
  have m8 := same_new (o := .lst [.non, .bl true, .bl false, .int 0, .int (-3), .int (10 ^ Int.toNat 40), .str "", .str "word", .ref p1, .ref p2, .ref p3, .ref p5, .ref p6, .ref p7, .str "x y"]) hL
  have eL : upd (upd (upd (upd (upd (upd (upd (upd H p1 (.tup [])) p2 (.tup [.int 1, .str "a"])) p3 (.lst [])) p4 (.lst [.int 1])) p5 (.lst [.int 0, .ref p4])) p6 (.dK [])) p7 (.dK (mergeK [] [(Sum.inr "a", V.int 1)]))) L (.lst [.non, .bl true, .bl false, .int 0, .int (-3), .int (10 ^ Int.toNat 40), .str "", .str "word", .ref p1, .ref p2, .ref p3, .ref p5, .ref p6, .ref p7, .str "x y"]) L = some (.lst [.non, .bl true, .bl false, .int 0, .int (-3), .int (10 ^ Int.toNat 40), .str "", .str "word", .ref p1, .ref p2, .ref p3, .ref p5, .ref p6, .ref p7, .str "x y"]) := upd_same
  have e1 := (m8 _ _ (m7 _ _ (m6 _ _ (m5 _ _ (m4 _ _ (m3 _ _ (m2 _ _ (upd_same (H := H) (o := .tup []) (a := p1)))))))))
  have e2 := (m8 _ _ (m7 _ _ (m6 _ _ (m5 _ _ (m4 _ _ (m3 _ _ (upd_same (H := (upd H p1 (.tup []))) (o := .tup [.int 1, .str "a"]) (a := p2))))))))
  have e3 := (m8 _ _ (m7 _ _ (m6 _ _ (m5 _ _ (m4 _ _ (upd_same (H := (upd (upd H p1 (.tup [])) p2 (.tup [.int 1, .str "a"]))) (o := .lst []) (a := p3)))))))
  have e4 := (m8 _ _ (m7 _ _ (m6 _ _ (m5 _ _ (upd_same (H := (upd (upd (upd H p1 (.tup [])) p2 (.tup [.int 1, .str "a"])) p3 (.lst []))) (o := .lst [.int 1]) (a := p4))))))
  have e5 := (m8 _ _ (m7 _ _ (m6 _ _ (upd_same (H := (upd (upd (upd (upd H p1 (.tup [])) p2 (.tup [.int 1, .str "a"])) p3 (.lst [])) p4 (.lst [.int 1]))) (o := .lst [.int 0, .ref p4]) (a := p5)))))
  have e6 := (m8 _ _ (m7 _ _ (upd_same (H := (upd (upd (upd (upd (upd H p1 (.tup [])) p2 (.tup [.int 1, .str "a"])) p3 (.lst [])) p4 (.lst [.int 1])) p5 (.lst [.int 0, .ref p4]))) (o := .dK []) (a := p6))))
  have e7 := (m8 _ _ (upd_same (H := (upd (upd (upd (upd (upd (upd H p1 (.tup [])) p2 (.tup [.int 1, .str "a"])) p3 (.lst [])) p4 (.lst [.int 1])) p5 (.lst [.int 0, .ref p4])) p6 (.dK []))) (o := .dK (mergeK [] [(Sum.inr "a", V.int 1)])) (a := p7)))
  have n6 : p6 ≠ d := fun e => by
    obtain ⟨o, ho⟩ := (((((B.same m1).same m2).same m3).same m4).same m5).there
    rw [e, ho] at h6
    cases h6
  have n7 : p7 ≠ d := fun e => by
    obtain ⟨o, ho⟩ := ((((((B.same m1).same m2).same m3).same m4).same m5).same m6).there
    rw [e, ho] at h7
    cases h7
  have mm := m1.trans (m2.trans (m3.trans (m4.trans (m5.trans (m6.trans (m7.trans m8))))))
  have B6 := B.same mm
  clear m1 m2 m3 m4 m5 m6 m7 m8
  generalize upd (upd (upd (upd (upd (upd (upd (upd H p1 (.tup [])) p2 (.tup [.int 1, .str "a"])) p3 (.lst [])) p4 (.lst [.int 1])) p5 (.lst [.int 0, .ref p4])) p6 (.dK [])) p7 (.dK (mergeK [] [(Sum.inr "a", V.int 1)]))) L (.lst [.non, .bl true, .bl false, .int 0, .int (-3), .int (10 ^ Int.toNat 40), .str "", .str "word", .ref p1, .ref p2, .ref p3, .ref p5, .ref p6, .ref p7, .str "x y"]) = HL at *
  refine ⟨_, rfl, _, rfl, _, rfl, L, _, rfl, .inl (SqL.of eL), d, 15, rfl, B6, by decide, by decide, fun z o z0 z1 B7 => ?_⟩
  obtain ⟨v, hv, hat⟩ := atI_any (xs := [.non, .bl true, .bl false, .int 0, .int (-3), .int (10 ^ Int.toNat 40), .str "", .str "word", .ref p1, .ref p2, .ref p3, .ref p5, .ref p6, .ref p7, .str "x y"]) z0 z1
  have up : ∀ {b : Addr} {u : HO}, HL b = some u → (∀ kvs, u ≠ .dK kvs) → (upd HL d o) b = some u := fun {b u} h n => by rw [upd_ne (B6.ne h n)]; exact h
  refine ⟨L, _, _, _, rfl, rfl, SqL.of (up eL fun _ z => by cases z), hat, k v _ ((SameBut.of mm).trans SameBut.upd) B7 ?_⟩
  have dn : ∀ {b : Addr} {u : HO}, HL b = some u → (∀ kvs, u ≠ .dK kvs) → (del (upd HL d o) d) b = some u := fun {b u} h n => by rw [del_ne (B6.ne h n), upd_ne (B6.ne h n)]; exact h
  have f1 := dn e1 fun _ z => by cases z
  have f2 := dn e2 fun _ z => by cases z
  have f3 := dn e3 fun _ z => by cases z
  have f4 := dn e4 fun _ z => by cases z
  have f5 := dn e5 fun _ z => by cases z
  have f6 : (del (upd HL d o) d) p6 = some (.dK []) := by rw [del_ne n6, upd_ne n6]; exact e6
  have f7 : (del (upd HL d o) d) p7 = some (.dK [(Sum.inr "a", V.int 1)]) := by rw [del_ne n7, upd_ne n7]; exact e7
  simp only [List.mem_cons, List.not_mem_nil, or_false] at hv
  rcases hv with rfl | rfl | rfl | rfl | rfl | rfl | rfl | rfl | rfl | rfl | rfl | rfl | rfl | rfl | rfl
  · exact ⟨_, .non, rfl, by decide +kernel, by decide +kernel⟩
  · exact ⟨_, .bl _, rfl, by decide +kernel, by decide +kernel⟩
  · exact ⟨_, .bl _, rfl, by decide +kernel, by decide +kernel⟩
  · exact ⟨_, .int _, by decide +kernel, by decide +kernel, by decide +kernel⟩
  · exact ⟨_, .int _, by decide +kernel, by decide +kernel, by decide +kernel⟩
  · exact ⟨_, .int _, by decide +kernel, by decide +kernel, by decide +kernel⟩
  · exact ⟨_, .str _, by decide +kernel, by decide +kernel, by decide +kernel⟩
  · exact ⟨_, .str _, by decide +kernel, by decide +kernel, by decide +kernel⟩
  · exact ⟨_, .tup (SqT.of f1) .nil, by decide +kernel, by decide +kernel, by decide +kernel⟩
  · exact ⟨_, .tup (SqT.of f2) (.cons (.int _) (.cons (.str _) .nil)), by decide +kernel, by decide +kernel, by decide +kernel⟩
  · exact ⟨_, .lst (SqL.of f3) .nil, by decide +kernel, by decide +kernel, by decide +kernel⟩
  · exact ⟨_, .lst (SqL.of f5) (.cons (.int _) (.cons (.lst (SqL.of f4) (.cons (.int _) .nil)) .nil)), by decide +kernel, by decide +kernel, by decide +kernel⟩
  · exact ⟨_, .dic f6 .nil, by decide +kernel, by decide +kernel, by decide +kernel⟩
  · exact ⟨_, .dic f7 (.cons (.int _) .nil), by decide +kernel, by decide +kernel, by decide +kernel⟩
  · exact ⟨_, .str _, by decide +kernel, by decide +kernel, by decide +kernel⟩
end
end Pf
end
section
namespace Pf
open PySem PySem.Spec PyProof.Rows L2 Ow StX
def spCaught : Sp := fun vs H Q _ => ∃ i : Int, vs = [.int i] ∧ ∀ H', Same H H' → Q (.bl true) H'
section
variable {P : Program} {w : World} {K : PySem.W.Frag} {mg : Str → Option Value} {base : Heap} {a : Adr}
set_option maxHeartbeats 4000000
theorem ok_caught (T : Txt K mg a) : FnR P w K mg base CX0 3 a._law_caught spCaught := by
  obtain ⟨fd_Fails, O_Fails, FD_Fails⟩ := ok_Fails (P := P) (w := w) (base := base) T
  have B_Fails : Binds K fd_Fails ["self", "width", "height"] [] := FD_Fails.bindsN (fun _ _ _ _ _ _ us hl => match us, hl with | [_, _, _], _ => rfl)
  refine T.d__law_caught.ok sc__law_caught (fun _ _ _ _ _ _ us hl => match us, hl with | [_], _ => rfl) (fun vs H Q E h => by obtain ⟨i, rfl, _⟩ := h; rfl) (fun cdv A outer s H vs Q E hr h => ?_)
  obtain ⟨i, rfl, k⟩ := h
  refine ⟨_, pss_one (ps_try_as (i := 1) rfl rfl sc__law_caught.nd rfl rfl ⟨rfl, by decide, .inl T.m_HoldError⟩ LamX.takes0
    (fun W pn xe tk _ => pss_one (ps_raise (by rfl) tk (pmk_oex T.e_Fails.ox T.e_Fails.iC T.e_Fails.tI O_Fails (hr.mono (by decide)) B_Fails .nil pass0 rfl T.m_Fails (pa_cons (pv 0) (pa_cons pe_int pa_nil)))))
    (fun b oe cls d pn hz hf => pss_len 2 (by rfl) (pss_one (ps_ret (pe_and (pe_callB (call_isEX hz hf) (by rfl) T.n_isinstance (by decide +kernel) (pa_cons (pv 1) (pa_cons (pe_glob (v := .ref a.Fails) (by rfl) T.m_Fails (by rfl)) pa_nil)))
      (pe_and (pe_cmpR op_eq (pe_xf T.xf_Fails T.a_Fails_width hz hf (pv 1)) (pv 0) (nomark _)) (pe_one (pe_cmpR op_eq (pe_xf T.xf_Fails T.a_Fails_height hz hf (pv 1)) pe_int (nomark _))))))))), ?_⟩
  refine ⟨_, rfl, Nat.le_of_ble_eq_true rfl, fun e he => ⟨e, .int i, .int 3, rfl, upd_same, fun dx hdx ne => ⟨rfl, dx, _, upd_same, by rw [upd_ne ne]; exact upd_same, by rw [upd_ne ne] at hdx; exact hdx, ?_⟩⟩⟩
  rw [upd_ne ne] at hdx
  rw [raise_heap he ne]
  refine ⟨true, T.xm_Fails_HoldError, fun _ x hx hlen => ?_, fun z => by cases z⟩
  have hs0 : ((L2.start ["_law_wide", "_law_error"] [V.int i]).set 1 (some (V.ref x)))[0]? = some (some (V.int i)) := rfl
  have hs : ((L2.start ["_law_wide", "_law_error"] [V.int i]).set 1 (some (V.ref x)))[1]? = some (some (V.ref x)) := rfl
  have fw : List.lookup ("width" : Str) [(("height" : Str), V.int 3), ("width", .int i)] = some (.int i) := rfl
  have fh : List.lookup ("height" : Str) [(("height" : Str), V.int 3), ("width", .int i)] = some (.int 3) := rfl
  refine ⟨_, hs, .ref a.Fails, .ref a.Fails, true, a.Fails, dx, _, rfl, rfl, T.xc_Fails, mroE_some T.mq_Fails, rfl, upd_same, fun u r => by cases r; rfl, kit_self, ?_⟩
  refine ⟨true, rfl, iteT ⟨_, hs, rfl, rfl, dx, _, _, rfl, upd_same, fw, _, hs0, rfl, true, by rw [decide_eq_true rfl], iteT ⟨_, hs, rfl, rfl, dx, _, _, rfl, upd_same, fh, rfl, ?_⟩⟩⟩
  show Q (.bl (decide (V.int 3 = V.int 3))) _
  rw [decide_eq_true rfl]
  exact k _ (same_new hdx)
end
end Pf
end
section
namespace Pf
open PySem PySem.Spec PyProof.Rows L2 Ow StX
theorem sqT_mono {K : PySem.W.Frag} {H H' : Hp} {a : Addr} {xs : List V} (h : SqT K H a xs) (m : Same H H') : SqT K H' a xs := by
  rcases h with (h | ⟨o, h⟩) | h
  · exact .inl (.inl (m _ _ h))
  · exact .inl (.inr ⟨o, m _ _ h⟩)
  · exact .inr h
theorem sqL_mono {K : PySem.W.Frag} {H H' : Hp} {a : Addr} {xs : List V} (h : SqL K H a xs) (m : Same H H') : SqL K H' a xs := by
  rcases h with (h | ⟨o, h⟩) | h
  · exact .inl (.inl (m _ _ h))
  · exact .inl (.inr ⟨o, m _ _ h⟩)
  · exact .inr h
mutual
theorem Dq.mono {K : PySem.W.Frag} {H H' : Hp} (m : Same H H') : ∀ (d : PyData) (v : V), Dq K H v d → Dq K H' v d
  | .none, _, h => by cases h; exact .non
  | .bool _, _, h => by cases h; exact .bl _
  | .int _, _, h => by cases h; exact .int _
  | .str _, _, h => by cases h; exact .str _
  | .list ds, _, h => by cases h with | lst hs ha => exact .lst (sqL_mono hs m) (Dq.monoAll m ds _ ha)
  | .tuple ds, _, h => by cases h with | tup hs ha => exact .tup (sqT_mono hs m) (Dq.monoAll m ds _ ha)
  | .dict ds, _, h => by cases h with | dic hs ha => exact .dic (m _ _ hs) (Dq.monoPs m ds _ ha)
theorem Dq.monoAll {K : PySem.W.Frag} {H H' : Hp} (m : Same H H') : ∀ (ds : List PyData) (vs : List V), DqAll K H vs ds → DqAll K H' vs ds
  | [], _, h => by cases h; exact .nil
  | d :: ds, _, h => by cases h with | cons h1 h2 => exact .cons (Dq.mono m d _ h1) (Dq.monoAll m ds _ h2)
theorem Dq.monoPs {K : PySem.W.Frag} {H H' : Hp} (m : Same H H') : ∀ (ds : List (PyData × PyData)) (vs : List (Key × V)), DqPs K H vs ds → DqPs K H' vs ds
  | [], _, h => by cases h; exact .nil
  | (_, d) :: ds, _, h => by cases h with | cons h1 h2 => exact .cons (Dq.mono m d _ h1) (Dq.monoPs m ds _ h2)
end
theorem Small.mono {K : PySem.W.Frag} {H H' : Hp} {v : V} (x : Small K H v) (m : Same H H') : Small K H' v := by
  obtain ⟨d, h, r⟩ := x
  exact ⟨d, Dq.mono m d v h, r⟩
theorem del_sub {H : Hp} {d : Addr} : Same (del H d) H := fun b o e => by
  by_cases q : b = d
  · rw [q, del_same] at e
    cases e
  · rw [del_ne q] at e
    exact e
theorem del_but {H H' : Hp} {d : Addr} (s : SameBut d H H') : Same (del H d) (del H' d) := fun b o e => by
  by_cases q : b = d
  · rw [q, del_same] at e
    cases e
  · rw [del_ne q] at e ⊢
    exact s b o q e
theorem onesOk_at {H : Hp} {v : V} : ∀ {cs : List (Addr × Str)} {ts : List V} {i : Nat} {x : V}, OnesOk H v cs ts → ts[i]? = some x → ∃ C n t, cs[i]? = some (C, n) ∧ x = .ref t ∧ OneAt H C n v t
  | [], [], i, x, _, h => by simp at h
  | [], _ :: _, i, x, o, h => by cases o
  | (C, n) :: r, [], i, x, o, h => by cases o
  | (C, n) :: r, y :: ts, i, x, o, h => by
    cases y with
    | ref t =>
      obtain ⟨o1, o2⟩ := o
      cases i with
      | zero => cases h; exact ⟨C, n, t, rfl, rfl, o1⟩
      | succ j => exact onesOk_at (i := j) o2 h
    | _ => cases o
theorem ones_kinds {K : PySem.W.Frag} {mg : Str → Option Value} {a : Adr} (T : Txt K mg a) {i : Nat} {C : Addr} {n : Str} (h : (ones a)[i]? = some (C, n)) : (kindsL a)[i]? = some C ∧ n ∈ names7 ∧ PySem.W.findIn K (.ref C) n = some none := by
  have hi : i < 13 := (List.getElem?_eq_some_iff.mp h).1
  match i, hi, h with
  | 0, _, h => cases h; exact ⟨rfl, by simp [names7], T.a_BadPlace_part⟩
  | 1, _, h => cases h; exact ⟨rfl, by simp [names7], T.a_BadSize_part⟩
  | 2, _, h => cases h; exact ⟨rfl, by simp [names7], T.a_BadColour_value⟩
  | 3, _, h => cases h; exact ⟨rfl, by simp [names7], T.a_BadPicture_row⟩
  | 4, _, h => cases h; exact ⟨rfl, by simp [names7], T.a_BadDeed_part⟩
  | 5, _, h => cases h; exact ⟨rfl, by simp [names7], T.a_BadProgram_at⟩
  | 6, _, h => cases h; exact ⟨rfl, by simp [names7], T.a_BadClaim_part⟩
  | 7, _, h => cases h; exact ⟨rfl, by simp [names7], T.a_BadClass_part⟩
  | 8, _, h => cases h; exact ⟨rfl, by simp [names7], T.a_NoDeed_index⟩
  | 9, _, h => cases h; exact ⟨rfl, by simp [names7], T.a_NoFlood_index⟩
  | 10, _, h => cases h; exact ⟨rfl, by simp [names7], T.a_NoClass_value⟩
  | 11, _, h => cases h; exact ⟨rfl, by simp [names7], T.a_NoName_name⟩
  | 12, _, h => cases h; exact ⟨rfl, by simp [names7], T.a_NoRow_word⟩
def big (d e : PyData) : PyData := .list [d, e, d, e, d, e, d, e, d, e, d, e, d, e, d, e, d, e, d, e]
theorem big_ok {d e : PyData} (hd : d.showable = true) (he : e.showable = true) (pd : d.depth ≤ 3) (pe : e.depth ≤ 3) (ld : d.shown.length ≤ 100) (le : e.shown.length ≤ 100) : (big d e).showable = true ∧ (big d e).depth ≤ 8 ∧ (big d e).shown.length ≤ sizeLine := by
  refine ⟨by simp [big, PyData.showable, PyData.showableAll, hd, he], ?_, ?_⟩
  · simp only [big, PyData.depth, PyData.depthAll]; omega
  · have h := listText_len_le [d.shown, e.shown, d.shown, e.shown, d.shown, e.shown, d.shown, e.shown, d.shown, e.shown, d.shown, e.shown, d.shown, e.shown, d.shown, e.shown, d.shown, e.shown, d.shown, e.shown]
    simp only [List.map_cons, List.map_nil, List.sum_cons, List.sum_nil, List.length_cons, List.length_nil] at h
    show (listText [d.shown, e.shown, d.shown, e.shown, d.shown, e.shown, d.shown, e.shown, d.shown, e.shown, d.shown, e.shown, d.shown, e.shown, d.shown, e.shown, d.shown, e.shown, d.shown, e.shown]).length ≤ sizeLine
    exact Nat.le_trans h (Nat.le_trans (show _ ≤ 2043 by omega) (by decide +kernel))
theorem isCls_some {K : PySem.W.Frag} {C : Addr} (h : PySem.W.isClsIn K C = true) : (PySem.W.clsIn K C).isSome = true := h
end Pf
end
section
namespace Pf
open PySem PySem.Spec PyProof.Rows L2 Ow StX
def spLaw (K : PySem.W.Frag) : Sp := fun vs H Q _ => ∃ (sa : Addr) (ns : List Int), vs = [.ref sa] ∧ SqL K H sa (ns.map V.int) ∧ ns.length ≤ 63 ∧ ∀ H', Q (.bl true) H'
section
variable {P : Program} {w : World} {K : PySem.W.Frag} {mg : Str → Option Value} {base : Heap} {a : Adr}
set_option maxHeartbeats 8000000
theorem ok_law (T : Txt K mg a) (sb : SysB base) : FnG P w K mg base CX0 7 a.law (spLaw K) := by
  have G__law_draw : FnR P w K mg base CX0 1 a._law_draw spDraw := ok_draw T
  have G__law_bag : FnR P w K mg base CX0 1 a._law_bag (spBag K) := ok_bag T
  have G__law_value : FnR P w K mg base CX0 2 a._law_value (spVal K) := ok_val T
  have G__law_same : FnG P w K mg base CX0 1 a._law_same (spSame K) := ok_same T sb
  have G__law_field : FnR P w K mg base CX0 1 a._law_field (spField K) := ok_field T
  have G__law_ones : FnR P w K mg base CX0 3 a._law_ones (spOnes a) := ok_ones T
  have G__law_kinds : FnR P w K mg base CX0 1 a._law_kinds (spKinds a) := ok_kinds T
  have G__law_named : FnR P w K mg base CX0 3 a._law_named (spNamed a) := ok_named T
  have G__law_two_told : FnR P w K mg base CX0 1 a._law_two_told (spTold a) := ok_told T
  have G__law_caught : FnR P w K mg base CX0 3 a._law_caught spCaught := ok_caught T
  have R_BadPixel : FnR P w K mg base CX0 1 a.BadPixel_init (spErr2 a.BadPixel "x" "y") := by
    obtain ⟨fd, F, FD⟩ := ok_BadPixel (P := P) (w := w) (base := base) T
    exact (F.raw (FD.bindsN (fun _ _ _ _ _ _ us hl => match us, hl with | [_, _, _], _ => rfl)) .nil).imp fun vs H Q E h => by rw [List.append_nil]; exact h
  have R_TooMany : FnR P w K mg base CX0 1 a.TooMany_init (spErr2 a.TooMany "what" "most") := by
    obtain ⟨fd, F, FD⟩ := ok_TooMany (P := P) (w := w) (base := base) T
    exact (F.raw (FD.bindsN (fun _ _ _ _ _ _ us hl => match us, hl with | [_, _, _], _ => rfl)) .nil).imp fun vs H Q E h => by rw [List.append_nil]; exact h
  have R_Fails : FnR P w K mg base CX0 1 a.Fails_init (spErr2 a.Fails "width" "height") := by
    obtain ⟨fd, F, FD⟩ := ok_Fails (P := P) (w := w) (base := base) T
    exact (F.raw (FD.bindsN (fun _ _ _ _ _ _ us hl => match us, hl with | [_, _, _], _ => rfl)) .nil).imp fun vs H Q E h => by rw [List.append_nil]; exact h
  have R_Gap : FnR P w K mg base CX0 1 a.Gap_init (spErr2 a.Gap "x" "y") := by
    obtain ⟨fd, F, FD⟩ := ok_Gap (P := P) (w := w) (base := base) T
    exact (F.raw (FD.bindsN (fun _ _ _ _ _ _ us hl => match us, hl with | [_, _, _], _ => rfl)) .nil).imp fun vs H Q E h => by rw [List.append_nil]; exact h
  have R_BadText : FnR P w K mg base CX0 1 a.BadText_init (spErr2 a.BadText "line" "word") := by
    obtain ⟨fd, F, FD⟩ := ok_BadText (P := P) (w := w) (base := base) T
    exact (F.raw (FD.bindsN (fun _ _ _ _ _ _ us hl => match us, hl with | [_, _, _], _ => rfl)) .nil).imp fun vs H Q E h => by rw [List.append_nil]; exact h
  refine T.d_law.okG sc_law (fun _ _ _ _ _ _ us hl => match us, hl with | [_], _ => rfl) (fun vs H Q E h => by obtain ⟨sa, ns, rfl, _⟩ := h; rfl) (fun cdv A outer s H vs Q E hr hg h => ?_)
  obtain ⟨sa, ns, rfl, hS, hns, k⟩ := h
  refine ⟨_, (pss_cons (ps_set (i := 1) sc_law.nd rfl (Or.inl rfl) (pe_callR G__law_bag (hr.mono (by decide)) T.m__law_bag T.k__law_bag pass0 (pa_cons (pv 0) pa_nil)))
      (pss_cons (ps_for PassesOwn.never rfl (pi_range1 rfl T.n_range (pa_cons pe_int pa_nil)) (pg_name (i := 2) sc_law.nd rfl (Or.inl rfl))
          (pss_cons (ps_par (i := 3) (j := 4) (by rfl) sc_law.nd rfl rfl (by decide) rfl rfl (pa_cons (pe_callR G__law_value (hr.mono (by decide)) T.m__law_value T.k__law_value pass0 (pa_cons (pv 1) pa_nil)) (pa_cons (pe_callR G__law_value (hr.mono (by decide)) T.m__law_value T.k__law_value pass0 (pa_cons (pv 1) pa_nil)) pa_nil)) (by rfl))
          (pss_cons (ps_for PassesOwn.never rfl (pi_enum (by rfl) T.n_enumerate (pa_cons (pe_callR G__law_ones (hr.mono (by decide)) T.m__law_ones T.k__law_ones pass0 (pa_cons (pv 3) pa_nil)) pa_nil)) (pg_tup rfl (pgs_cons (pg_name (i := 5) sc_law.nd rfl (Or.inl rfl)) (pgs_cons (pg_name (i := 6) sc_law.nd rfl (Or.inl rfl)) pgs_nil)))
              (pss_cons (ps_asg (pv 6) (pg_tup rfl (pgs_cons (pg_name (i := 7) sc_law.nd rfl (Or.inl rfl)) (pgs_cons (pg_name (i := 8) sc_law.nd rfl (Or.inl rfl)) pgs_nil))))
              (pss_cons (ps_if (PW.pt (pw_or (pt_not (pt_val (pe_callG G__law_same (hr.mono (by decide)) (by exact hg) T.m__law_same T.k__law_same pass0 (pa_cons (pe_callR G__law_field (hr.mono (by decide)) T.m__law_field T.k__law_field pass0 (pa_cons (pv 7) (pa_cons (pv 8) pa_nil))) (pa_cons (pv 3) pa_nil))))) (pw_or1 (pt_cmpR (op_neD hr.units) (pe_callR G__law_kinds (hr.mono (by decide)) T.m__law_kinds T.k__law_kinds pass0 (pa_cons (pv 7) pa_nil)) (pe_lst (pa_cons (pv 5) pa_nil)) (nomark _)))))
                  (pss_one (ps_ret pe_bl))
                  pss_nil)
              (pss_one (ps_if (PW.pt (pw_or (pt_not (pt_val (pe_callB call_isXV (by rfl) T.n_isinstance (by decide +kernel) (pa_cons (pv 7) (pa_cons (pe_glob (v := .ref a.HoldError) rfl T.m_HoldError rfl) pa_nil))))) (pw_or1 (pt_not (pt_val (pe_callB call_isXV (by rfl) T.n_isinstance (by decide +kernel) (pa_cons (pv 7) (pa_cons (pe_bltn (v := .ty "ValueError") (by rfl) T.n_ValueError (by decide +kernel) rfl) pa_nil))))))))
                  (pss_one (ps_ret pe_bl))
                  pss_nil)))))
          (pss_cons (ps_set (i := 9) sc_law.nd rfl (Or.inl rfl) (pe_lst (pa_cons (pe_oex T.e_BadPixel.ox T.e_BadPixel.iC T.e_BadPixel.tI R_BadPixel (hr.mono (by decide)) pass0 rfl T.m_BadPixel (pa_cons (pv 3) (pa_cons (pv 4) pa_nil))) (pa_cons (pe_oex T.e_TooMany.ox T.e_TooMany.iC T.e_TooMany.tI R_TooMany (hr.mono (by decide)) pass0 rfl T.m_TooMany (pa_cons (pv 3) (pa_cons (pv 4) pa_nil))) (pa_cons (pe_oex T.e_Fails.ox T.e_Fails.iC T.e_Fails.tI R_Fails (hr.mono (by decide)) pass0 rfl T.m_Fails (pa_cons (pv 3) (pa_cons (pv 4) pa_nil))) (pa_cons (pe_oex T.e_Gap.ox T.e_Gap.iC T.e_Gap.tI R_Gap (hr.mono (by decide)) pass0 rfl T.m_Gap (pa_cons (pv 3) (pa_cons (pv 4) pa_nil))) (pa_cons (pe_oex T.e_BadText.ox T.e_BadText.iC T.e_BadText.tI R_BadText (hr.mono (by decide)) pass0 rfl T.m_BadText (pa_cons (pv 3) (pa_cons (pv 4) pa_nil))) pa_nil)))))))
          (pss_cons (ps_if (pt_not (pt_val (pe_callG G__law_same (hr.mono (by decide)) (by exact hg) T.m__law_same T.k__law_same pass0 (pa_cons (pe_op op_cat (pe_callR G__law_two_told (hr.mono (by decide)) T.m__law_two_told T.k__law_two_told pass0 (pa_cons (pv 9) pa_nil)) (pe_callR G__law_two_told (hr.mono (by decide)) T.m__law_two_told T.k__law_two_told pass0 (pa_cons (pe_callR G__law_named (hr.mono (by decide)) T.m__law_named T.k__law_named pass0 (pa_cons (pv 3) (pa_cons (pv 4) pa_nil))) pa_nil))) (pa_cons (pe_op op_rep (pe_lst (pa_cons (pv 3) (pa_cons (pv 4) pa_nil))) pe_int) pa_nil)))))
              (pss_one (ps_ret pe_bl))
              pss_nil)
          (pss_one (ps_if (pt_cmpR (op_neD hr.units) (pe_lc (own := [("_law_error", 7)]) (g := gName 7) (by rfl) sc_law.nd (pi_list (pe_op op_cat (pv 9) (pe_lst (pa_cons (pe_exc0 PySem.F.excBase_ValueError T.ei_Unlike T.m_Unlike T.kp_Unlike rfl) pa_nil)))) (blkOk_by (own := [("_law_error", 7)]) (N := ["_law_script", "_law_bag_here", "_law_turn", "_law_one", "_law_other", "_law_at", "_law_pair", "_law_error", "_law_name", "_law_two"]) (sc := defScope s_law) (by decide +kernel)) (fun _ _ _ _ _ => (pg_name (i := 7) sc_law.nd rfl (Or.inl rfl))) (fun _ _ _ _ _ => pts_nil) (fun _ _ _ _ _ => (pe_callR G__law_kinds (hr.mono (by decide)) T.m__law_kinds T.k__law_kinds pass0 (pa_cons (pv 7) pa_nil)))) (pe_lst (pa_cons (pe_lst (pa_cons pe_int pa_nil)) (pa_cons (pe_lst (pa_cons pe_int pa_nil)) (pa_cons (pe_lst (pa_cons pe_int pa_nil)) (pa_cons (pe_lst (pa_cons pe_int pa_nil)) (pa_cons (pe_lst (pa_cons pe_int pa_nil)) (pa_cons (pe_lst (pa_cons pe_int pa_nil)) pa_nil))))))) (nomark _))
              (pss_one (ps_ret pe_bl))
              pss_nil)))))))
      (pss_one (ps_ret (pe_callR G__law_caught (hr.mono (by decide)) T.m__law_caught T.k__law_caught pass0 (pa_cons pe_int pa_nil)))))), ?_⟩
  refine ⟨_, rfl, sa, ns, rfl, hS, hns, fun d H0 sm0 hd0 B0 => ?_⟩
  refine ⟨4, rfl, by decide, by decide, for_range (n := 4) (fun i σ H' => ∃ v2 v3 v4 v5 v6 v7 v8 v9 : Option V, σ = [some (.ref sa), some (.ref d), v2, v3, v4, v5, v6, v7, v8, v9] ∧ Bag H' d) ⟨_, _, _, _, _, _, _, _, rfl, B0⟩ ?_ ?_⟩
  · rintro i σ H1 hi ⟨v2, v3, v4, v5, v6, v7, v8, v9, rfl, B1⟩
    refine ⟨_, rfl, d, rfl, B1, fun v H2 s2 B2 V2 => ⟨_, rfl, d, rfl, B2, fun u H3 s3 B3 V3 => ?_⟩⟩
    have V2' : Small K (del H3 d) v := V2.mono (del_but s3)
    clear V2 s2 B2 B1 s3
    refine ⟨_, _, rfl, _, rfl, v, rfl, fun l ts H4 m4 el O4 => ⟨l, ts, rfl, SqL.of el, ?_⟩⟩
    have B4 := B3.same m4
    have d4 : Same (del H3 d) H4 := fun b o q => m4 _ _ (del_sub _ _ q)
    obtain ⟨dv, qv, sv, pv, lv⟩ := V2'
    obtain ⟨du, qu, su, pu, lu⟩ := V3
    refine for_it (walk_enum (K := K) (a := l) (xs := ts)) (fun j σ H' => ∃ w5 w6 w7 w8 w9 : Option V, σ = [some (.ref sa), some (.ref d), some (.int (0 + (i : Nat))), some v, some u, w5, w6, w7, w8, w9] ∧ Same H4 H') ⟨_, _, _, _, _, rfl, fun _ _ q => q⟩
      (fun j σ H' _ p => by obtain ⟨_, _, _, _, _, _, m⟩ := p; exact SqL.of (m _ _ el)) ?_ ?_
    · rintro j x σ H5 H6 hj ⟨w5, w6, w7, w8, w9, rfl, m5⟩ ⟨Z, y1, y2, rfl, hZ, rfl, ey1, ey2⟩
      cases ey1
      have m6 := m5.trans (same_new (o := .tup [V.int (j : Nat), y2]) hZ)
      have eZ : upd H5 Z (.tup [V.int (j : Nat), y2]) Z = some (.tup [V.int (j : Nat), y2]) := upd_same
      obtain ⟨C, n, t, hC, rfl, O⟩ := onesOk_at O4 ey2
      obtain ⟨kC, nC, fC⟩ := ones_kinds T hC
      clear hZ m5
      generalize upd H5 Z (.tup [V.int (j : Nat), V.ref t]) = H6 at *
      obtain ⟨e, ht, hE⟩ := O.same m6
      refine ⟨Z, _, rfl, SqT.of eZ, rfl, _, _, rfl, _, _, rfl, rfl, ?_⟩
      refine ⟨_, rfl, t, _, rfl, SqT.of ht, rfl, _, _, rfl, _, _, rfl, rfl, ?_⟩
      have qv6 : Dq K H6 v dv := Dq.mono (d4.trans m6) dv v qv
      have kf := kinds_facts T C (List.mem_of_getElem? kC)
      obtain ⟨de, hEr⟩ := EO.err hE
      refine ⟨_, rfl, _, rfl, e, C, n, v, rfl, nC, hE, kf.2.2.2, fC, _, rfl, v, v, dv, dv, rfl, qv6, qv6, sv, sv, by omega, by omega, Nat.le_trans lv (by decide +kernel), Nat.le_trans lv (by decide +kernel), _, rfl, ?_⟩
      rw [decide_eq_true rfl]
      refine iteF ?_
      refine ⟨_, rfl, e, C, de, j, rfl, kC, hEr, fun r H7 _ m7 er => ?_⟩
      refine ⟨_, rfl, (by show 1 ≤ sizeLine; decide), fun q hq => ?_⟩
      have mq := same_new (o := .lst [V.int (j : Nat)]) hq
      refine ⟨.list [.int (j : Int)], .list [.int (j : Int)], .lst (SqL.of (mq _ _ er)) (.cons (.int _) .nil), .lst (SqL.of upd_same) (.cons (.int _) .nil), rfl, rfl, _, rfl, ?_⟩
      rw [show PyData.eqv (.list [.int (j : Int)]) (.list [.int (j : Int)]) = true from by simp [PyData.eqv, PyData.eqvAll]]
      refine iteF ?_
      have hE8 := hEr.same (m7.trans mq)
      refine ⟨_, rfl, e, C, de, _, .ref a.HoldError, true, rfl, hE8.1, hE8.2, kf.2.2.1, mroE_some kf.1, (fun u r => by cases r; rfl), kitEB kf.1 (isCls_some T.xi_HoldError) T.xt_HoldError (kinds_base T C (List.mem_of_getElem? kC)), _, rfl, iteF ?_⟩
      refine ⟨_, rfl, e, C, de, _, .type "ValueError", true, rfl, hE8.1, hE8.2, kf.2.2.1, mroE_some kf.1, (fun u r => by cases r; rfl), kitEV kf.1, _, rfl, iteF ?_⟩
      exact ⟨_, _, _, _, _, rfl, m6.trans (m7.trans mq)⟩
    · rintro σ H5 ⟨w5, w6, w7, w8, w9, rfl, m5⟩
      refine ⟨_, rfl, _, rfl, Nat.le_of_ble_eq_true rfl, fun ex0 hex0 => ⟨ex0, v, u, rfl, upd_same, fun dx0 hdx0 ndx0 => ⟨rfl, ?_⟩⟩⟩
      rw [upd_ne ndx0] at hdx0
      obtain ⟨mx0, Ex0⟩ := made_keeps (C := a.BadPixel) (fs := [("y", u), ("x", v)]) hex0 hdx0 ndx0
      generalize upd (upd (upd H5 ex0 (exo ex0 a.BadPixel none)) dx0 (exd dx0 [("y", u), ("x", v)])) ex0 (exo ex0 a.BadPixel (some dx0)) = Hx0 at *
      clear hex0 hdx0 ndx0
      refine ⟨_, rfl, _, rfl, Nat.le_of_ble_eq_true rfl, fun ex1 hex1 => ⟨ex1, v, u, rfl, upd_same, fun dx1 hdx1 ndx1 => ⟨rfl, ?_⟩⟩⟩
      rw [upd_ne ndx1] at hdx1
      obtain ⟨mx1, Ex1⟩ := made_keeps (C := a.TooMany) (fs := [("most", u), ("what", v)]) hex1 hdx1 ndx1
      generalize upd (upd (upd Hx0 ex1 (exo ex1 a.TooMany none)) dx1 (exd dx1 [("most", u), ("what", v)])) ex1 (exo ex1 a.TooMany (some dx1)) = Hx1 at *
      clear hex1 hdx1 ndx1
      refine ⟨_, rfl, _, rfl, Nat.le_of_ble_eq_true rfl, fun ex2 hex2 => ⟨ex2, v, u, rfl, upd_same, fun dx2 hdx2 ndx2 => ⟨rfl, ?_⟩⟩⟩
      rw [upd_ne ndx2] at hdx2
      obtain ⟨mx2, Ex2⟩ := made_keeps (C := a.Fails) (fs := [("height", u), ("width", v)]) hex2 hdx2 ndx2
      generalize upd (upd (upd Hx1 ex2 (exo ex2 a.Fails none)) dx2 (exd dx2 [("height", u), ("width", v)])) ex2 (exo ex2 a.Fails (some dx2)) = Hx2 at *
      clear hex2 hdx2 ndx2
      refine ⟨_, rfl, _, rfl, Nat.le_of_ble_eq_true rfl, fun ex3 hex3 => ⟨ex3, v, u, rfl, upd_same, fun dx3 hdx3 ndx3 => ⟨rfl, ?_⟩⟩⟩
      rw [upd_ne ndx3] at hdx3
      obtain ⟨mx3, Ex3⟩ := made_keeps (C := a.Gap) (fs := [("y", u), ("x", v)]) hex3 hdx3 ndx3
      generalize upd (upd (upd Hx2 ex3 (exo ex3 a.Gap none)) dx3 (exd dx3 [("y", u), ("x", v)])) ex3 (exo ex3 a.Gap (some dx3)) = Hx3 at *
      clear hex3 hdx3 ndx3
      refine ⟨_, rfl, _, rfl, Nat.le_of_ble_eq_true rfl, fun ex4 hex4 => ⟨ex4, v, u, rfl, upd_same, fun dx4 hdx4 ndx4 => ⟨rfl, ?_⟩⟩⟩
      rw [upd_ne ndx4] at hdx4
      obtain ⟨mx4, Ex4⟩ := made_keeps (C := a.BadText) (fs := [("word", u), ("line", v)]) hex4 hdx4 ndx4
      generalize upd (upd (upd Hx3 ex4 (exo ex4 a.BadText none)) dx4 (exd dx4 [("word", u), ("line", v)])) ex4 (exo ex4 a.BadText (some dx4)) = Hx4 at *
      clear hex4 hdx4 ndx4
      refine ⟨(by show 5 ≤ sizeLine; decide), fun lt hlt => ?_⟩
      have mlt := same_new (o := .lst [.ref ex0, .ref ex1, .ref ex2, .ref ex3, .ref ex4]) hlt
      have elt : upd Hx4 lt (.lst [.ref ex0, .ref ex1, .ref ex2, .ref ex3, .ref ex4]) lt = some (.lst [.ref ex0, .ref ex1, .ref ex2, .ref ex3, .ref ex4]) := upd_same
      generalize upd Hx4 lt (.lst [.ref ex0, .ref ex1, .ref ex2, .ref ex3, .ref ex4]) = HL at *
      have two : TwoOk HL a v u [.ref ex0, .ref ex1, .ref ex2, .ref ex3, .ref ex4] := ⟨ex0, ex1, ex2, ex3, ex4, rfl, (((((Ex0.same mx1).same mx2).same mx3).same mx4).same mlt), ((((Ex1.same mx2).same mx3).same mx4).same mlt), (((Ex2.same mx3).same mx4).same mlt), ((Ex3.same mx4).same mlt), (Ex4.same mlt)⟩
      have mL : Same H4 HL := (Same.trans (Same.trans (Same.trans (Same.trans (Same.trans (Same.trans (show Same H4 H5 from m5) mx0) mx1) mx2) mx3) mx4) mlt)
      clear mx0 mx1 mx2 mx3 mx4 mlt Ex0 Ex1 Ex2 Ex3 Ex4 m5
      refine ⟨_, rfl, lt, _, v, u, rfl, elt, two, fun r1 HA mA eA => ?_⟩
      refine ⟨_, rfl, _, rfl, v, u, rfl, fun l2 es2 HB mB tB eB => ⟨l2, es2, v, u, rfl, eB, tB, fun r2 HC mC eC => ?_⟩⟩
      refine ⟨r1, r2, _, _, rfl, rfl, mC _ _ (mB _ _ eA), eC, (by show 20 ≤ sizeLine; decide), fun r3 h3 => ?_⟩
      simp only [List.cons_append, List.nil_append]
      have m3 := same_new (o := .lst [v, u, v, u, v, u, v, u, v, u, v, u, v, u, v, u, v, u, v, u]) h3
      have e3 : upd HC r3 (.lst [v, u, v, u, v, u, v, u, v, u, v, u, v, u, v, u, v, u, v, u]) r3 = some (.lst [v, u, v, u, v, u, v, u, v, u, v, u, v, u, v, u, v, u, v, u]) := upd_same
      generalize upd HC r3 (.lst [v, u, v, u, v, u, v, u, v, u, v, u, v, u, v, u, v, u, v, u]) = H8 at *
      refine ⟨_, rfl, _, rfl, (by show 2 ≤ sizeLine; decide), fun r4 h4 => ⟨r4, 10, _, rfl, rfl, upd_same, by decide, by decide, (by show 20 ≤ sizeLine; decide), fun r5 h5 => ?_⟩⟩
      have m8 := same_new (o := .lst [v, u]) h4
      have m9 := same_new (o := .lst (List.replicate (Int.toNat 10) [v, u]).flatten) h5
      have e5 : upd (upd H8 r4 (.lst [v, u])) r5 (.lst (List.replicate (Int.toNat 10) [v, u]).flatten) r5 = some (.lst [v, u, v, u, v, u, v, u, v, u, v, u, v, u, v, u, v, u, v, u]) := upd_same
      have mT := mA.trans (mB.trans (mC.trans (m3.trans (m8.trans m9))))
      have e3' := m9 _ _ (m8 _ _ e3)
      clear mA mB mC m3 m8 m9 e3 h5 h4 h3 eC eA eB tB
      generalize upd (upd H8 r4 (.lst [v, u])) r5 (.lst (List.replicate (Int.toNat 10) [v, u]).flatten) = H9 at *
      have Qv : Dq K H9 v dv := Dq.mono (d4.trans (mL.trans mT)) dv v qv
      have Qu : Dq K H9 u du := Dq.mono (d4.trans (mL.trans mT)) du u qu
      obtain ⟨b1, b2, b3⟩ := big_ok sv su pv pu lv lu
      refine ⟨.ref r3, .ref r5, big dv du, big dv du, rfl, .lst (SqL.of e3') (.cons Qv (.cons Qu (.cons Qv (.cons Qu (.cons Qv (.cons Qu (.cons Qv (.cons Qu (.cons Qv (.cons Qu (.cons Qv (.cons Qu (.cons Qv (.cons Qu (.cons Qv (.cons Qu (.cons Qv (.cons Qu (.cons Qv (.cons Qu .nil)))))))))))))))))))), .lst (SqL.of e5) (.cons Qv (.cons Qu (.cons Qv (.cons Qu (.cons Qv (.cons Qu (.cons Qv (.cons Qu (.cons Qv (.cons Qu (.cons Qv (.cons Qu (.cons Qv (.cons Qu (.cons Qv (.cons Qu (.cons Qv (.cons Qu (.cons Qv (.cons Qu .nil)))))))))))))))))))), b1, b1, b2, b2, b3, b3, _, rfl, ?_⟩
      rw [decide_eq_true rfl]
      refine iteF ?_
      clear Qv Qu b1 b2 b3 e3' e5
      have two' := two.same mT
      have elt' := mT _ _ elt
      obtain ⟨x0, x1, x2, x3, x4, ex, E0, E1, E2, E3, E4⟩ := two'
      cases ex
      refine ⟨_, rfl, fun ue hue => ⟨(by show 1 ≤ sizeLine; decide), fun r6 h6 => ⟨lt, r6, _, _, rfl, rfl, same_new h6 _ _ (same_new hue _ _ elt'), upd_same, (by show 6 ≤ sizeLine; decide), fun r7 h7 => ?_⟩⟩⟩
      have m10 := same_new (o := exo ue a.Unlike none) hue
      have m11 := same_new (o := .lst [.ref ue]) h6
      have m12 := same_new (o := .lst [.ref ex0, .ref ex1, .ref ex2, .ref ex3, .ref ex4, .ref ue]) h7
      have eU : ErrAt (upd (upd (upd H9 ue (exo ue a.Unlike none)) r6 (.lst [.ref ue])) r7 (.lst [.ref ex0, .ref ex1, .ref ex2, .ref ex3, .ref ex4, .ref ue])) ue a.Unlike none := ⟨m12 _ _ (m11 _ _ upd_same), fun dd q => by cases q⟩
      have e7 : (upd (upd (upd H9 ue (exo ue a.Unlike none)) r6 (.lst [.ref ue])) r7 (.lst [.ref ex0, .ref ex1, .ref ex2, .ref ex3, .ref ex4, .ref ue])) r7 = some (.lst [.ref ex0, .ref ex1, .ref ex2, .ref ex3, .ref ex4, .ref ue]) := upd_same
      have mU := m10.trans (m11.trans m12)
      simp only [List.cons_append, List.nil_append]
      clear m10 m11 m12 h7 h6 hue
      generalize upd (upd (upd H9 ue (exo ue a.Unlike none)) r6 (.lst [.ref ue])) r7 (.lst [.ref ex0, .ref ex1, .ref ex2, .ref ex3, .ref ex4, .ref ue]) = HF at *
      have its : ∀ (j : Nat) (x : V), ([.ref ex0, .ref ex1, .ref ex2, .ref ex3, .ref ex4, .ref ue] : List V)[j]? = some x → ∃ e C dd, x = .ref e ∧ (kindsL a)[13 + j]? = some C ∧ ErrAt HF e C dd := fun j x hx => by
        have hj : j < 6 := (List.getElem?_eq_some_iff.mp hx).1
        match j, hj, hx with
        | 0, _, h => cases h; obtain ⟨dd, z⟩ := EO.err (E0.same mU); exact ⟨_, _, dd, rfl, rfl, z⟩
        | 1, _, h => cases h; obtain ⟨dd, z⟩ := EO.err (E1.same mU); exact ⟨_, _, dd, rfl, rfl, z⟩
        | 2, _, h => cases h; obtain ⟨dd, z⟩ := EO.err (E2.same mU); exact ⟨_, _, dd, rfl, rfl, z⟩
        | 3, _, h => cases h; obtain ⟨dd, z⟩ := EO.err (E3.same mU); exact ⟨_, _, dd, rfl, rfl, z⟩
        | 4, _, h => cases h; obtain ⟨dd, z⟩ := EO.err (E4.same mU); exact ⟨_, _, dd, rfl, rfl, z⟩
        | 5, _, h => cases h; exact ⟨_, _, none, rfl, rfl, eU⟩
      refine ⟨r7, rfl, ⟨_, SqL.of e7⟩, fun D hD => lc_list (K := K) (a := r7) (xs := [.ref ex0, .ref ex1, .ref ex2, .ref ex3, .ref ex4, .ref ue]) (fun j H' => ∃ rs : List Addr, rs.length = j ∧ H' D = some (.lst (rs.map V.ref)) ∧ Same HF H' ∧ ∀ n r, rs[n]? = some r → r ≠ D ∧ H' r = some (.lst [.int ((13 + n : Nat) : Int)]))
        ⟨[], rfl, upd_same, same_new hD, fun n r q => by simp at q⟩ (fun j H' _ p => by obtain ⟨_, _, _, m, _⟩ := p; exact SqL.of (m _ _ e7)) ?_ ?_⟩
      · rintro j x H' hx ⟨rs, hl, hd, hm, hr'⟩
        obtain ⟨e, C, dd, rfl, kC, hE⟩ := its j x hx
        have hj : j < 6 := (List.getElem?_eq_some_iff.mp hx).1
        refine ⟨rfl, _, rfl, e, C, dd, 13 + j, rfl, kC, hE.same hm, fun r H4 nr m4 er => ⟨rs.map V.ref, m4 _ _ hd, ?_, rs ++ [r], ?_, ?_, fun b o q => ?_, fun n r' q => ?_⟩⟩
        · rw [List.length_map, hl]
          exact Nat.lt_of_lt_of_le hj (by decide)
        · rw [List.length_append, hl]
          rfl
        · rw [upd_same, List.map_append]
          rfl
        · rw [upd_ne (ne_of_none q hD)]
          exact m4 _ _ (hm _ _ q)
        · have nD : r ≠ D := fun z => by
            rw [z, hd] at nr
            cases nr
          by_cases hn : n < rs.length
          · rw [List.getElem?_append_left hn] at q
            obtain ⟨z1, z2⟩ := hr' n r' q
            exact ⟨z1, by rw [upd_ne z1]; exact m4 _ _ z2⟩
          · rw [List.getElem?_append_right (by omega)] at q
            have e0 : n - rs.length = 0 := by
              cases e : n - rs.length with
              | zero => rfl
              | succ y =>
                rw [e] at q
                simp at q
            rw [e0] at q
            cases q
            have en : n = j := by omega
            subst en
            exact ⟨nD, by rw [upd_ne nD]; exact er⟩
      · rintro H' ⟨rs, hl, hd, hm, hr'⟩
        match rs, hl, hd, hr' with
        | [r0, r1, r2, r3', r4', r5'], _, hd, hr' =>
          have g0 := (hr' 0 r0 rfl).2
          have g1 := (hr' 1 r1 rfl).2
          have g2 := (hr' 2 r2 rfl).2
          have g3 := (hr' 3 r3' rfl).2
          have g4 := (hr' 4 r4' rfl).2
          have g5 := (hr' 5 r5' rfl).2
          refine ⟨(by show 1 ≤ sizeLine; decide), fun q0 h0 => ⟨(by show 1 ≤ sizeLine; decide), fun q1 h1 => ⟨(by show 1 ≤ sizeLine; decide), fun q2 h2 => ⟨(by show 1 ≤ sizeLine; decide), fun q3 h3 => ⟨(by show 1 ≤ sizeLine; decide), fun q4 h4 => ⟨(by show 1 ≤ sizeLine; decide), fun q5 h5 => ⟨(by show 6 ≤ sizeLine; decide), fun q6 h6 => ?_⟩⟩⟩⟩⟩⟩⟩
          have n0 := same_new (o := .lst [.int 13]) h0
          have n1 := same_new (o := .lst [.int 14]) h1
          have n2 := same_new (o := .lst [.int 15]) h2
          have n3 := same_new (o := .lst [.int 16]) h3
          have n4 := same_new (o := .lst [.int 17]) h4
          have n5 := same_new (o := .lst [.int 18]) h5
          have n6 := same_new (o := .lst [.ref q0, .ref q1, .ref q2, .ref q3, .ref q4, .ref q5]) h6
          have f0 := (n6 _ _ (n5 _ _ (n4 _ _ (n3 _ _ (n2 _ _ (n1 _ _ (upd_same (H := H') (o := .lst [.int 13]) (a := q0))))))))
          have f1 := (n6 _ _ (n5 _ _ (n4 _ _ (n3 _ _ (n2 _ _ (upd_same (H := (upd H' q0 (.lst [.int 13]))) (o := .lst [.int 14]) (a := q1)))))))
          have f2 := (n6 _ _ (n5 _ _ (n4 _ _ (n3 _ _ (upd_same (H := (upd (upd H' q0 (.lst [.int 13])) q1 (.lst [.int 14]))) (o := .lst [.int 15]) (a := q2))))))
          have f3 := (n6 _ _ (n5 _ _ (n4 _ _ (upd_same (H := (upd (upd (upd H' q0 (.lst [.int 13])) q1 (.lst [.int 14])) q2 (.lst [.int 15]))) (o := .lst [.int 16]) (a := q3)))))
          have f4 := (n6 _ _ (n5 _ _ (upd_same (H := (upd (upd (upd (upd H' q0 (.lst [.int 13])) q1 (.lst [.int 14])) q2 (.lst [.int 15])) q3 (.lst [.int 16]))) (o := .lst [.int 17]) (a := q4))))
          have f5 := (n6 _ _ (upd_same (H := (upd (upd (upd (upd (upd H' q0 (.lst [.int 13])) q1 (.lst [.int 14])) q2 (.lst [.int 15])) q3 (.lst [.int 16])) q4 (.lst [.int 17]))) (o := .lst [.int 18]) (a := q5)))
          have f6 : upd (upd (upd (upd (upd (upd (upd H' q0 (.lst [.int 13])) q1 (.lst [.int 14])) q2 (.lst [.int 15])) q3 (.lst [.int 16])) q4 (.lst [.int 17])) q5 (.lst [.int 18])) q6 (.lst [.ref q0, .ref q1, .ref q2, .ref q3, .ref q4, .ref q5]) q6 = some (.lst [.ref q0, .ref q1, .ref q2, .ref q3, .ref q4, .ref q5]) := upd_same
          have nn := n0.trans (n1.trans (n2.trans (n3.trans (n4.trans (n5.trans n6)))))
          clear n0 n1 n2 n3 n4 n5 n6 h0 h1 h2 h3 h4 h5 h6
          generalize upd (upd (upd (upd (upd (upd (upd H' q0 (.lst [.int 13])) q1 (.lst [.int 14])) q2 (.lst [.int 15])) q3 (.lst [.int 16])) q4 (.lst [.int 17])) q5 (.lst [.int 18])) q6 (.lst [.ref q0, .ref q1, .ref q2, .ref q3, .ref q4, .ref q5]) = HZ at *
          refine ⟨.list [.list [.int 13], .list [.int 14], .list [.int 15], .list [.int 16], .list [.int 17], .list [.int 18]], .list [.list [.int 13], .list [.int 14], .list [.int 15], .list [.int 16], .list [.int 17], .list [.int 18]], .lst (SqL.of (nn _ _ hd)) (.cons (.lst (SqL.of (nn _ _ g0)) (.cons (.int 13) .nil)) (.cons (.lst (SqL.of (nn _ _ g1)) (.cons (.int 14) .nil)) (.cons (.lst (SqL.of (nn _ _ g2)) (.cons (.int 15) .nil)) (.cons (.lst (SqL.of (nn _ _ g3)) (.cons (.int 16) .nil)) (.cons (.lst (SqL.of (nn _ _ g4)) (.cons (.int 17) .nil)) (.cons (.lst (SqL.of (nn _ _ g5)) (.cons (.int 18) .nil)) .nil)))))), .lst (SqL.of f6) (.cons (.lst (SqL.of f0) (.cons (.int 13) .nil)) (.cons (.lst (SqL.of f1) (.cons (.int 14) .nil)) (.cons (.lst (SqL.of f2) (.cons (.int 15) .nil)) (.cons (.lst (SqL.of f3) (.cons (.int 16) .nil)) (.cons (.lst (SqL.of f4) (.cons (.int 17) .nil)) (.cons (.lst (SqL.of f5) (.cons (.int 18) .nil)) .nil)))))), rfl, rfl, _, rfl, ?_⟩
          rw [show PyData.eqv (.list [.list [.int 13], .list [.int 14], .list [.int 15], .list [.int 16], .list [.int 17], .list [.int 18]]) (.list [.list [.int 13], .list [.int 14], .list [.int 15], .list [.int 16], .list [.int 17], .list [.int 18]]) = true from by simp [PyData.eqv, PyData.eqvAll]]
          refine iteF ?_
          exact ⟨_, _, _, _, _, _, _, _, rfl, ((((B4.same mL).same mT).same mU).same hm).same nn⟩
  · rintro σ H1 ⟨v2, v3, v4, v5, v6, v7, v8, v9, rfl, B1⟩
    exact ⟨5, rfl, fun H' _ => k H'⟩
end
end Pf
end
section
namespace Pf
open PySem PySem.Spec PyProof.Rows L2 Ow StX

theorem fnt_mk {K : PySem.W.Frag} {x qual : Str} {st : Stmt} {f : Addr} {oc : Value} {od an : Option Addr} {osl : Array (Option Value)} {kV doc pm cdv ct : Value}
    (l : K.lookup f = some ⟨oc, od, .func (PySem.W.fnOf x qual (defArgs st) (defBody st) (defScope st) .none kV doc pm an cdv ct), osl⟩) (c : PySem.W.codeIn K cdv qual = true) (k : PySem.W.keepIn K (.ref f) = true) : FnT K x qual st [] f :=
  ⟨_, ⟨⟨oc, od, .none, kV, doc, pm, an, cdv, ct, osl, rfl, l, c, .inl ⟨rfl, rfl⟩, .inl rfl⟩, k⟩⟩
theorem fntD_mk {K : PySem.W.Frag} {x qual : Str} {st : Stmt} {f D : Addr} {oc : Value} {od an : Option Addr} {osl : Array (Option Value)} {kV doc pm cdv ct tc : Value} {td : Option Addr} {tn : Nat} {ts : Array (Option Value)} {its : List Value} {dvs : List V}
    (l : K.lookup f = some ⟨oc, od, .func (PySem.W.fnOf x qual (defArgs st) (defBody st) (defScope st) (.ref D) kV doc pm an cdv ct), osl⟩) (c : PySem.W.codeIn K cdv qual = true) (k : PySem.W.keepIn K (.ref f) = true)
    (t : K.lookup D = some ⟨tc, td, .seq its.toArray tn, ts⟩) (hd : dvs ≠ []) (v : Vals dvs its) : FnT K x qual st dvs f :=
  ⟨_, ⟨⟨oc, od, .ref D, kV, doc, pm, an, cdv, ct, osl, rfl, l, c, .inr ⟨hd, D, _, its, tn, rfl, t, rfl, v⟩, .inl rfl⟩, k⟩⟩
theorem fntD1_mk {K : PySem.W.Frag} {x qual : Str} {st : Stmt} {f D : Addr} {oc : Value} {od an : Option Addr} {osl : Array (Option Value)} {kV doc pm cdv ct tc u : Value} {td : Option Addr} {tn : Nat} {ts : Array (Option Value)} {dv : V}
    (l : K.lookup f = some ⟨oc, od, .func (PySem.W.fnOf x qual (defArgs st) (defBody st) (defScope st) (.ref D) kV doc pm an cdv ct), osl⟩) (c : PySem.W.codeIn K cdv qual = true) (k : PySem.W.keepIn K (.ref f) = true)
    (t : K.lookup D = some ⟨tc, td, .seq #[u] tn, ts⟩) (v : RelV dv u) : FnT K x qual st [dv] f := fntD_mk (its := [u]) l c k t (by simp) (.cons v .nil)
theorem propR_mk {K : PySem.W.Frag} {C p g : Addr} {f : Str} {rest : List Value} (h1 : PySem.W.findIn K (.ref C) f = some (some (.ref p))) (h2 : PySem.W.specialIn K (.ref p) "__get__" = some (some (.builtin "property.__get__")))
    (h3 : PySem.W.takesIn K (.ref p) = some true) (h4 : PySem.W.recIn K p "property" = some (.ref g :: rest)) : PropR K C f p g := ⟨h1, h2, h3, rest, h4⟩
theorem mro2_mk {K : PySem.W.Frag} {C : Addr} {cd : PySem.ClassData} (h : PySem.W.clsIn K C = some cd) (m : (cd.mro == [.ref C, .type "object"]) = true) : mro2 K C = true := by
  unfold mro2
  rw [h]
  exact m

theorem errF_mk {K : PySem.W.Frag} {C g : Addr} {nm q N bs bm sn sub ab col dd k0 k1 k2 k3 k5} (l : K.lookup C = some (excClassObj nm q C N bs bm true sn sub ab col dd k0 k1 k2 k3 k5 "ValueError.__new__")) (r : PySem.HandSPX.refsVE bm = true)
    (s : PySem.W.findIn K (.ref C) "__setattr__" = some (some (.builtin "object.__setattr__"))) (x : PySem.W.subIn K (.ref C) (.type "BaseException") = some true) (t : PySem.W.typeIn K (.ref C) = some (.type "type")) (k : PySem.W.keepIn K (.ref C) = true)
    (i : PySem.W.findIn K (.ref C) "__init__" = some (some (.ref g))) (f : PySem.W.typeIn K (.ref g) = some (.type "function")) : ErrF K C g := ⟨⟨⟨_, _, _, _, _, _, _, _, _, _, _, _, _, _, _, l, r⟩, s, x, t, k⟩, i, f⟩
theorem all_mk {l : PySem.W.OpenLaw} {w : World} {K : PySem.W.Frag} {h : Heap} {mg : Str → Option Value} {fa : Addr} (X : K.In h) (G : h.Ns mainGlobals mg) (hfa : mg "law" = some (.ref fa))
    {x_BadPlace_init x_BadSize_init x_BadColour_init x_BadPicture_init x_BadDeed_init x_BadProgram_init x_BadClaim_init x_BadClass_init x_NoDeed_init x_NoFlood_init x_NoClass_init x_NoName_init x_NoRow_init x_BadPixel_init x_TooMany_init x_Fails_init x_Gap_init x_BadText_init x__law_bag x__law_draw x__law_value x__law_same x__law_ones x__law_field x__law_kinds x__law_named x__law_two_told x__law_caught x_law x_BadPlace x_BadSize x_BadColour x_BadPicture x_BadDeed x_BadProgram x_BadClaim x_BadClass x_NoDeed x_NoFlood x_NoClass x_NoName x_NoRow x_BadPixel x_TooMany x_Fails x_Gap x_BadText x_HoldError x_Unlike : Addr}
    (n_len : PySem.W.nsIn K mainGlobals "len" = some none)
    (n_int : PySem.W.nsIn K mainGlobals "int" = some none)
    (n_abs : PySem.W.nsIn K mainGlobals "abs" = some none)
    (n_list : PySem.W.nsIn K mainGlobals "list" = some none)
    (n_range : PySem.W.nsIn K mainGlobals "range" = some none)
    (n_isinstance : PySem.W.nsIn K mainGlobals "isinstance" = some none)
    (n_repr : PySem.W.nsIn K mainGlobals "repr" = some none)
    (n_enumerate : PySem.W.nsIn K mainGlobals "enumerate" = some none)
    (n_ValueError : PySem.W.nsIn K mainGlobals "ValueError" = some none)
    (m__law_bag : PySem.W.nsIn K mainGlobals "_law_bag" = some (some (.ref x__law_bag)))
    (m__law_draw : PySem.W.nsIn K mainGlobals "_law_draw" = some (some (.ref x__law_draw)))
    (m__law_value : PySem.W.nsIn K mainGlobals "_law_value" = some (some (.ref x__law_value)))
    (m__law_same : PySem.W.nsIn K mainGlobals "_law_same" = some (some (.ref x__law_same)))
    (m__law_ones : PySem.W.nsIn K mainGlobals "_law_ones" = some (some (.ref x__law_ones)))
    (m__law_field : PySem.W.nsIn K mainGlobals "_law_field" = some (some (.ref x__law_field)))
    (m__law_kinds : PySem.W.nsIn K mainGlobals "_law_kinds" = some (some (.ref x__law_kinds)))
    (m__law_named : PySem.W.nsIn K mainGlobals "_law_named" = some (some (.ref x__law_named)))
    (m__law_two_told : PySem.W.nsIn K mainGlobals "_law_two_told" = some (some (.ref x__law_two_told)))
    (m__law_caught : PySem.W.nsIn K mainGlobals "_law_caught" = some (some (.ref x__law_caught)))
    (m_law : PySem.W.nsIn K mainGlobals "law" = some (some (.ref x_law)))
    (m_BadPlace : PySem.W.nsIn K mainGlobals "BadPlace" = some (some (.ref x_BadPlace)))
    (e_BadPlace : ErrF K x_BadPlace x_BadPlace_init)
    (a_BadPlace_part : PySem.W.findIn K (.ref x_BadPlace) "part" = some none)
    (m_BadSize : PySem.W.nsIn K mainGlobals "BadSize" = some (some (.ref x_BadSize)))
    (e_BadSize : ErrF K x_BadSize x_BadSize_init)
    (a_BadSize_part : PySem.W.findIn K (.ref x_BadSize) "part" = some none)
    (m_BadColour : PySem.W.nsIn K mainGlobals "BadColour" = some (some (.ref x_BadColour)))
    (e_BadColour : ErrF K x_BadColour x_BadColour_init)
    (a_BadColour_value : PySem.W.findIn K (.ref x_BadColour) "value" = some none)
    (m_BadPicture : PySem.W.nsIn K mainGlobals "BadPicture" = some (some (.ref x_BadPicture)))
    (e_BadPicture : ErrF K x_BadPicture x_BadPicture_init)
    (a_BadPicture_row : PySem.W.findIn K (.ref x_BadPicture) "row" = some none)
    (m_BadDeed : PySem.W.nsIn K mainGlobals "BadDeed" = some (some (.ref x_BadDeed)))
    (e_BadDeed : ErrF K x_BadDeed x_BadDeed_init)
    (a_BadDeed_part : PySem.W.findIn K (.ref x_BadDeed) "part" = some none)
    (m_BadProgram : PySem.W.nsIn K mainGlobals "BadProgram" = some (some (.ref x_BadProgram)))
    (e_BadProgram : ErrF K x_BadProgram x_BadProgram_init)
    (a_BadProgram_at : PySem.W.findIn K (.ref x_BadProgram) "at" = some none)
    (m_BadClaim : PySem.W.nsIn K mainGlobals "BadClaim" = some (some (.ref x_BadClaim)))
    (e_BadClaim : ErrF K x_BadClaim x_BadClaim_init)
    (a_BadClaim_part : PySem.W.findIn K (.ref x_BadClaim) "part" = some none)
    (m_BadClass : PySem.W.nsIn K mainGlobals "BadClass" = some (some (.ref x_BadClass)))
    (e_BadClass : ErrF K x_BadClass x_BadClass_init)
    (a_BadClass_part : PySem.W.findIn K (.ref x_BadClass) "part" = some none)
    (m_NoDeed : PySem.W.nsIn K mainGlobals "NoDeed" = some (some (.ref x_NoDeed)))
    (e_NoDeed : ErrF K x_NoDeed x_NoDeed_init)
    (a_NoDeed_index : PySem.W.findIn K (.ref x_NoDeed) "index" = some none)
    (m_NoFlood : PySem.W.nsIn K mainGlobals "NoFlood" = some (some (.ref x_NoFlood)))
    (e_NoFlood : ErrF K x_NoFlood x_NoFlood_init)
    (a_NoFlood_index : PySem.W.findIn K (.ref x_NoFlood) "index" = some none)
    (m_NoClass : PySem.W.nsIn K mainGlobals "NoClass" = some (some (.ref x_NoClass)))
    (e_NoClass : ErrF K x_NoClass x_NoClass_init)
    (a_NoClass_value : PySem.W.findIn K (.ref x_NoClass) "value" = some none)
    (m_NoName : PySem.W.nsIn K mainGlobals "NoName" = some (some (.ref x_NoName)))
    (e_NoName : ErrF K x_NoName x_NoName_init)
    (a_NoName_name : PySem.W.findIn K (.ref x_NoName) "name" = some none)
    (m_NoRow : PySem.W.nsIn K mainGlobals "NoRow" = some (some (.ref x_NoRow)))
    (e_NoRow : ErrF K x_NoRow x_NoRow_init)
    (a_NoRow_word : PySem.W.findIn K (.ref x_NoRow) "word" = some none)
    (m_BadPixel : PySem.W.nsIn K mainGlobals "BadPixel" = some (some (.ref x_BadPixel)))
    (e_BadPixel : ErrF K x_BadPixel x_BadPixel_init)
    (a_BadPixel_x : PySem.W.findIn K (.ref x_BadPixel) "x" = some none)
    (a_BadPixel_y : PySem.W.findIn K (.ref x_BadPixel) "y" = some none)
    (m_TooMany : PySem.W.nsIn K mainGlobals "TooMany" = some (some (.ref x_TooMany)))
    (e_TooMany : ErrF K x_TooMany x_TooMany_init)
    (a_TooMany_what : PySem.W.findIn K (.ref x_TooMany) "what" = some none)
    (a_TooMany_most : PySem.W.findIn K (.ref x_TooMany) "most" = some none)
    (m_Fails : PySem.W.nsIn K mainGlobals "Fails" = some (some (.ref x_Fails)))
    (e_Fails : ErrF K x_Fails x_Fails_init)
    (a_Fails_width : PySem.W.findIn K (.ref x_Fails) "width" = some none)
    (a_Fails_height : PySem.W.findIn K (.ref x_Fails) "height" = some none)
    (m_Gap : PySem.W.nsIn K mainGlobals "Gap" = some (some (.ref x_Gap)))
    (e_Gap : ErrF K x_Gap x_Gap_init)
    (a_Gap_x : PySem.W.findIn K (.ref x_Gap) "x" = some none)
    (a_Gap_y : PySem.W.findIn K (.ref x_Gap) "y" = some none)
    (m_BadText : PySem.W.nsIn K mainGlobals "BadText" = some (some (.ref x_BadText)))
    (e_BadText : ErrF K x_BadText x_BadText_init)
    (a_BadText_line : PySem.W.findIn K (.ref x_BadText) "line" = some none)
    (a_BadText_word : PySem.W.findIn K (.ref x_BadText) "word" = some none)
    (m_HoldError : PySem.W.nsIn K mainGlobals "HoldError" = some (some (.ref x_HoldError)))
    (m_Unlike : PySem.W.nsIn K mainGlobals "Unlike" = some (some (.ref x_Unlike)))
    (ei_Unlike : PySem.W.excIn K x_Unlike [.type "ValueError", .type "Exception", .type "BaseException", .type "object"] "ValueError.__new__" = true)
    (kp_Unlike : PySem.W.keepIn K (.ref x_Unlike) = true)
    (xf_BadPlace : XfC K x_BadPlace)
    (xc_BadPlace : ExcC K x_BadPlace)
    (mq_BadPlace : mroE K x_BadPlace x_HoldError = true)
    (xt_BadPlace : PySem.W.typeIn K (.ref x_BadPlace) = some (.type "type"))
    (xf_BadSize : XfC K x_BadSize)
    (xc_BadSize : ExcC K x_BadSize)
    (mq_BadSize : mroE K x_BadSize x_HoldError = true)
    (xt_BadSize : PySem.W.typeIn K (.ref x_BadSize) = some (.type "type"))
    (xf_BadColour : XfC K x_BadColour)
    (xc_BadColour : ExcC K x_BadColour)
    (mq_BadColour : mroE K x_BadColour x_HoldError = true)
    (xt_BadColour : PySem.W.typeIn K (.ref x_BadColour) = some (.type "type"))
    (xf_BadPicture : XfC K x_BadPicture)
    (xc_BadPicture : ExcC K x_BadPicture)
    (mq_BadPicture : mroE K x_BadPicture x_HoldError = true)
    (xt_BadPicture : PySem.W.typeIn K (.ref x_BadPicture) = some (.type "type"))
    (xf_BadDeed : XfC K x_BadDeed)
    (xc_BadDeed : ExcC K x_BadDeed)
    (mq_BadDeed : mroE K x_BadDeed x_HoldError = true)
    (xt_BadDeed : PySem.W.typeIn K (.ref x_BadDeed) = some (.type "type"))
    (xf_BadProgram : XfC K x_BadProgram)
    (xc_BadProgram : ExcC K x_BadProgram)
    (mq_BadProgram : mroE K x_BadProgram x_HoldError = true)
    (xt_BadProgram : PySem.W.typeIn K (.ref x_BadProgram) = some (.type "type"))
    (xf_BadClaim : XfC K x_BadClaim)
    (xc_BadClaim : ExcC K x_BadClaim)
    (mq_BadClaim : mroE K x_BadClaim x_HoldError = true)
    (xt_BadClaim : PySem.W.typeIn K (.ref x_BadClaim) = some (.type "type"))
    (xf_BadClass : XfC K x_BadClass)
    (xc_BadClass : ExcC K x_BadClass)
    (mq_BadClass : mroE K x_BadClass x_HoldError = true)
    (xt_BadClass : PySem.W.typeIn K (.ref x_BadClass) = some (.type "type"))
    (xf_NoDeed : XfC K x_NoDeed)
    (xc_NoDeed : ExcC K x_NoDeed)
    (mq_NoDeed : mroE K x_NoDeed x_HoldError = true)
    (xt_NoDeed : PySem.W.typeIn K (.ref x_NoDeed) = some (.type "type"))
    (xf_NoFlood : XfC K x_NoFlood)
    (xc_NoFlood : ExcC K x_NoFlood)
    (mq_NoFlood : mroE K x_NoFlood x_HoldError = true)
    (xt_NoFlood : PySem.W.typeIn K (.ref x_NoFlood) = some (.type "type"))
    (xf_NoClass : XfC K x_NoClass)
    (xc_NoClass : ExcC K x_NoClass)
    (mq_NoClass : mroE K x_NoClass x_HoldError = true)
    (xt_NoClass : PySem.W.typeIn K (.ref x_NoClass) = some (.type "type"))
    (xf_NoName : XfC K x_NoName)
    (xc_NoName : ExcC K x_NoName)
    (mq_NoName : mroE K x_NoName x_HoldError = true)
    (xt_NoName : PySem.W.typeIn K (.ref x_NoName) = some (.type "type"))
    (xf_NoRow : XfC K x_NoRow)
    (xc_NoRow : ExcC K x_NoRow)
    (mq_NoRow : mroE K x_NoRow x_HoldError = true)
    (xt_NoRow : PySem.W.typeIn K (.ref x_NoRow) = some (.type "type"))
    (xf_BadPixel : XfC K x_BadPixel)
    (xc_BadPixel : ExcC K x_BadPixel)
    (mq_BadPixel : mroE K x_BadPixel x_HoldError = true)
    (xt_BadPixel : PySem.W.typeIn K (.ref x_BadPixel) = some (.type "type"))
    (xf_TooMany : XfC K x_TooMany)
    (xc_TooMany : ExcC K x_TooMany)
    (mq_TooMany : mroE K x_TooMany x_HoldError = true)
    (xt_TooMany : PySem.W.typeIn K (.ref x_TooMany) = some (.type "type"))
    (xf_Fails : XfC K x_Fails)
    (xc_Fails : ExcC K x_Fails)
    (mq_Fails : mroE K x_Fails x_HoldError = true)
    (xt_Fails : PySem.W.typeIn K (.ref x_Fails) = some (.type "type"))
    (xf_Gap : XfC K x_Gap)
    (xc_Gap : ExcC K x_Gap)
    (mq_Gap : mroE K x_Gap x_HoldError = true)
    (xt_Gap : PySem.W.typeIn K (.ref x_Gap) = some (.type "type"))
    (xf_BadText : XfC K x_BadText)
    (xc_BadText : ExcC K x_BadText)
    (mq_BadText : mroE K x_BadText x_HoldError = true)
    (xt_BadText : PySem.W.typeIn K (.ref x_BadText) = some (.type "type"))
    (xf_Unlike : XfC K x_Unlike)
    (xc_Unlike : ExcC K x_Unlike)
    (mq_Unlike : mroE K x_Unlike x_HoldError = true)
    (xt_Unlike : PySem.W.typeIn K (.ref x_Unlike) = some (.type "type"))
    (xi_HoldError : PySem.W.isClsIn K x_HoldError = true)
    (xt_HoldError : PySem.W.typeIn K (.ref x_HoldError) = some (.type "type"))
    (xm_Fails_HoldError : PySem.W.exmOne K (.ref x_Fails) (.ref x_HoldError) = some true)
    (nd : [x_BadPlace, x_BadSize, x_BadColour, x_BadPicture, x_BadDeed, x_BadProgram, x_BadClaim, x_BadClass, x_NoDeed, x_NoFlood, x_NoClass, x_NoName, x_NoRow, x_BadPixel, x_TooMany, x_Fails, x_Gap, x_BadText, x_Unlike, x_HoldError].Nodup)
    (d_BadPlace_init : FnT K "__init__" "BadPlace.__init__" s_BadPlace_init [] x_BadPlace_init)
    (d_BadSize_init : FnT K "__init__" "BadSize.__init__" s_BadSize_init [] x_BadSize_init)
    (d_BadColour_init : FnT K "__init__" "BadColour.__init__" s_BadColour_init [] x_BadColour_init)
    (d_BadPicture_init : FnT K "__init__" "BadPicture.__init__" s_BadPicture_init [] x_BadPicture_init)
    (d_BadDeed_init : FnT K "__init__" "BadDeed.__init__" s_BadDeed_init [] x_BadDeed_init)
    (d_BadProgram_init : FnT K "__init__" "BadProgram.__init__" s_BadProgram_init [] x_BadProgram_init)
    (d_BadClaim_init : FnT K "__init__" "BadClaim.__init__" s_BadClaim_init [] x_BadClaim_init)
    (d_BadClass_init : FnT K "__init__" "BadClass.__init__" s_BadClass_init [] x_BadClass_init)
    (d_NoDeed_init : FnT K "__init__" "NoDeed.__init__" s_NoDeed_init [] x_NoDeed_init)
    (d_NoFlood_init : FnT K "__init__" "NoFlood.__init__" s_NoFlood_init [] x_NoFlood_init)
    (d_NoClass_init : FnT K "__init__" "NoClass.__init__" s_NoClass_init [] x_NoClass_init)
    (d_NoName_init : FnT K "__init__" "NoName.__init__" s_NoName_init [] x_NoName_init)
    (d_NoRow_init : FnT K "__init__" "NoRow.__init__" s_NoRow_init [] x_NoRow_init)
    (d_BadPixel_init : FnT K "__init__" "BadPixel.__init__" s_BadPixel_init [] x_BadPixel_init)
    (d_TooMany_init : FnT K "__init__" "TooMany.__init__" s_TooMany_init [] x_TooMany_init)
    (d_Fails_init : FnT K "__init__" "Fails.__init__" s_Fails_init [] x_Fails_init)
    (d_Gap_init : FnT K "__init__" "Gap.__init__" s_Gap_init [] x_Gap_init)
    (d_BadText_init : FnT K "__init__" "BadText.__init__" s_BadText_init [] x_BadText_init)
    (d__law_bag : FnT K "_law_bag" "_law_bag" s__law_bag [] x__law_bag)
    (k__law_bag : PySem.W.keepIn K (.ref x__law_bag) = true)
    (d__law_draw : FnT K "_law_draw" "_law_draw" s__law_draw [] x__law_draw)
    (k__law_draw : PySem.W.keepIn K (.ref x__law_draw) = true)
    (d__law_value : FnT K "_law_value" "_law_value" s__law_value [] x__law_value)
    (k__law_value : PySem.W.keepIn K (.ref x__law_value) = true)
    (d__law_same : FnT K "_law_same" "_law_same" s__law_same [] x__law_same)
    (k__law_same : PySem.W.keepIn K (.ref x__law_same) = true)
    (d__law_ones : FnT K "_law_ones" "_law_ones" s__law_ones [] x__law_ones)
    (k__law_ones : PySem.W.keepIn K (.ref x__law_ones) = true)
    (d__law_field : FnT K "_law_field" "_law_field" s__law_field [] x__law_field)
    (k__law_field : PySem.W.keepIn K (.ref x__law_field) = true)
    (d__law_kinds : FnT K "_law_kinds" "_law_kinds" s__law_kinds [] x__law_kinds)
    (k__law_kinds : PySem.W.keepIn K (.ref x__law_kinds) = true)
    (d__law_named : FnT K "_law_named" "_law_named" s__law_named [] x__law_named)
    (k__law_named : PySem.W.keepIn K (.ref x__law_named) = true)
    (d__law_two_told : FnT K "_law_two_told" "_law_two_told" s__law_two_told [] x__law_two_told)
    (k__law_two_told : PySem.W.keepIn K (.ref x__law_two_told) = true)
    (d__law_caught : FnT K "_law_caught" "_law_caught" s__law_caught [] x__law_caught)
    (k__law_caught : PySem.W.keepIn K (.ref x__law_caught) = true)
    (d_law : FnT K "law" "law" s_law [] x_law)
    (k_law : PySem.W.keepIn K (.ref x_law) = true)
    : ∀ base : Heap, K.In base → base.Ns mainGlobals mg → SysB base → FnG l.prog w K mg base CX0 7 fa (spLaw K) := by
  have e := hfa.symm.trans (PySem.W.mg_of X G m_law)
  have e2 : x_law = fa := by
    cases e
    rfl
  subst e2
  have T : Txt K mg ⟨x_BadPlace_init, x_BadSize_init, x_BadColour_init, x_BadPicture_init, x_BadDeed_init, x_BadProgram_init, x_BadClaim_init, x_BadClass_init, x_NoDeed_init, x_NoFlood_init, x_NoClass_init, x_NoName_init, x_NoRow_init, x_BadPixel_init, x_TooMany_init, x_Fails_init, x_Gap_init, x_BadText_init, x__law_bag, x__law_draw, x__law_value, x__law_same, x__law_ones, x__law_field, x__law_kinds, x__law_named, x__law_two_told, x__law_caught, x_law, x_BadPlace, x_BadSize, x_BadColour, x_BadPicture, x_BadDeed, x_BadProgram, x_BadClaim, x_BadClass, x_NoDeed, x_NoFlood, x_NoClass, x_NoName, x_NoRow, x_BadPixel, x_TooMany, x_Fails, x_Gap, x_BadText, x_HoldError, x_Unlike⟩ :=
    { n_len := PySem.W.mg_none_of X G n_len,
      n_int := PySem.W.mg_none_of X G n_int,
      n_abs := PySem.W.mg_none_of X G n_abs,
      n_list := PySem.W.mg_none_of X G n_list,
      n_range := PySem.W.mg_none_of X G n_range,
      n_isinstance := PySem.W.mg_none_of X G n_isinstance,
      n_repr := PySem.W.mg_none_of X G n_repr,
      n_enumerate := PySem.W.mg_none_of X G n_enumerate,
      n_ValueError := PySem.W.mg_none_of X G n_ValueError,
      d_BadPlace_init := d_BadPlace_init,
      d_BadSize_init := d_BadSize_init,
      d_BadColour_init := d_BadColour_init,
      d_BadPicture_init := d_BadPicture_init,
      d_BadDeed_init := d_BadDeed_init,
      d_BadProgram_init := d_BadProgram_init,
      d_BadClaim_init := d_BadClaim_init,
      d_BadClass_init := d_BadClass_init,
      d_NoDeed_init := d_NoDeed_init,
      d_NoFlood_init := d_NoFlood_init,
      d_NoClass_init := d_NoClass_init,
      d_NoName_init := d_NoName_init,
      d_NoRow_init := d_NoRow_init,
      d_BadPixel_init := d_BadPixel_init,
      d_TooMany_init := d_TooMany_init,
      d_Fails_init := d_Fails_init,
      d_Gap_init := d_Gap_init,
      d_BadText_init := d_BadText_init,
      d__law_bag := d__law_bag,
      m__law_bag := PySem.W.mg_of X G m__law_bag,
      k__law_bag := k__law_bag,
      d__law_draw := d__law_draw,
      m__law_draw := PySem.W.mg_of X G m__law_draw,
      k__law_draw := k__law_draw,
      d__law_value := d__law_value,
      m__law_value := PySem.W.mg_of X G m__law_value,
      k__law_value := k__law_value,
      d__law_same := d__law_same,
      m__law_same := PySem.W.mg_of X G m__law_same,
      k__law_same := k__law_same,
      d__law_ones := d__law_ones,
      m__law_ones := PySem.W.mg_of X G m__law_ones,
      k__law_ones := k__law_ones,
      d__law_field := d__law_field,
      m__law_field := PySem.W.mg_of X G m__law_field,
      k__law_field := k__law_field,
      d__law_kinds := d__law_kinds,
      m__law_kinds := PySem.W.mg_of X G m__law_kinds,
      k__law_kinds := k__law_kinds,
      d__law_named := d__law_named,
      m__law_named := PySem.W.mg_of X G m__law_named,
      k__law_named := k__law_named,
      d__law_two_told := d__law_two_told,
      m__law_two_told := PySem.W.mg_of X G m__law_two_told,
      k__law_two_told := k__law_two_told,
      d__law_caught := d__law_caught,
      m__law_caught := PySem.W.mg_of X G m__law_caught,
      k__law_caught := k__law_caught,
      d_law := d_law,
      m_law := PySem.W.mg_of X G m_law,
      k_law := k_law,
      m_HoldError := PySem.W.mg_of X G m_HoldError,
      ei_Unlike := ei_Unlike,
      kp_Unlike := kp_Unlike,
      m_Unlike := PySem.W.mg_of X G m_Unlike,
      xf_BadPlace := xf_BadPlace,
      xc_BadPlace := xc_BadPlace,
      mq_BadPlace := mq_BadPlace,
      xt_BadPlace := xt_BadPlace,
      xf_BadSize := xf_BadSize,
      xc_BadSize := xc_BadSize,
      mq_BadSize := mq_BadSize,
      xt_BadSize := xt_BadSize,
      xf_BadColour := xf_BadColour,
      xc_BadColour := xc_BadColour,
      mq_BadColour := mq_BadColour,
      xt_BadColour := xt_BadColour,
      xf_BadPicture := xf_BadPicture,
      xc_BadPicture := xc_BadPicture,
      mq_BadPicture := mq_BadPicture,
      xt_BadPicture := xt_BadPicture,
      xf_BadDeed := xf_BadDeed,
      xc_BadDeed := xc_BadDeed,
      mq_BadDeed := mq_BadDeed,
      xt_BadDeed := xt_BadDeed,
      xf_BadProgram := xf_BadProgram,
      xc_BadProgram := xc_BadProgram,
      mq_BadProgram := mq_BadProgram,
      xt_BadProgram := xt_BadProgram,
      xf_BadClaim := xf_BadClaim,
      xc_BadClaim := xc_BadClaim,
      mq_BadClaim := mq_BadClaim,
      xt_BadClaim := xt_BadClaim,
      xf_BadClass := xf_BadClass,
      xc_BadClass := xc_BadClass,
      mq_BadClass := mq_BadClass,
      xt_BadClass := xt_BadClass,
      xf_NoDeed := xf_NoDeed,
      xc_NoDeed := xc_NoDeed,
      mq_NoDeed := mq_NoDeed,
      xt_NoDeed := xt_NoDeed,
      xf_NoFlood := xf_NoFlood,
      xc_NoFlood := xc_NoFlood,
      mq_NoFlood := mq_NoFlood,
      xt_NoFlood := xt_NoFlood,
      xf_NoClass := xf_NoClass,
      xc_NoClass := xc_NoClass,
      mq_NoClass := mq_NoClass,
      xt_NoClass := xt_NoClass,
      xf_NoName := xf_NoName,
      xc_NoName := xc_NoName,
      mq_NoName := mq_NoName,
      xt_NoName := xt_NoName,
      xf_NoRow := xf_NoRow,
      xc_NoRow := xc_NoRow,
      mq_NoRow := mq_NoRow,
      xt_NoRow := xt_NoRow,
      xf_BadPixel := xf_BadPixel,
      xc_BadPixel := xc_BadPixel,
      mq_BadPixel := mq_BadPixel,
      xt_BadPixel := xt_BadPixel,
      xf_TooMany := xf_TooMany,
      xc_TooMany := xc_TooMany,
      mq_TooMany := mq_TooMany,
      xt_TooMany := xt_TooMany,
      xf_Fails := xf_Fails,
      xc_Fails := xc_Fails,
      mq_Fails := mq_Fails,
      xt_Fails := xt_Fails,
      xf_Gap := xf_Gap,
      xc_Gap := xc_Gap,
      mq_Gap := mq_Gap,
      xt_Gap := xt_Gap,
      xf_BadText := xf_BadText,
      xc_BadText := xc_BadText,
      mq_BadText := mq_BadText,
      xt_BadText := xt_BadText,
      xf_Unlike := xf_Unlike,
      xc_Unlike := xc_Unlike,
      mq_Unlike := mq_Unlike,
      xt_Unlike := xt_Unlike,
      xi_HoldError := xi_HoldError,
      xt_HoldError := xt_HoldError,
      xm_Fails_HoldError := xm_Fails_HoldError,
      nd := nd,
      m_BadPlace := PySem.W.mg_of X G m_BadPlace,
      e_BadPlace := e_BadPlace,
      a_BadPlace_part := a_BadPlace_part,
      m_BadSize := PySem.W.mg_of X G m_BadSize,
      e_BadSize := e_BadSize,
      a_BadSize_part := a_BadSize_part,
      m_BadColour := PySem.W.mg_of X G m_BadColour,
      e_BadColour := e_BadColour,
      a_BadColour_value := a_BadColour_value,
      m_BadPicture := PySem.W.mg_of X G m_BadPicture,
      e_BadPicture := e_BadPicture,
      a_BadPicture_row := a_BadPicture_row,
      m_BadDeed := PySem.W.mg_of X G m_BadDeed,
      e_BadDeed := e_BadDeed,
      a_BadDeed_part := a_BadDeed_part,
      m_BadProgram := PySem.W.mg_of X G m_BadProgram,
      e_BadProgram := e_BadProgram,
      a_BadProgram_at := a_BadProgram_at,
      m_BadClaim := PySem.W.mg_of X G m_BadClaim,
      e_BadClaim := e_BadClaim,
      a_BadClaim_part := a_BadClaim_part,
      m_BadClass := PySem.W.mg_of X G m_BadClass,
      e_BadClass := e_BadClass,
      a_BadClass_part := a_BadClass_part,
      m_NoDeed := PySem.W.mg_of X G m_NoDeed,
      e_NoDeed := e_NoDeed,
      a_NoDeed_index := a_NoDeed_index,
      m_NoFlood := PySem.W.mg_of X G m_NoFlood,
      e_NoFlood := e_NoFlood,
      a_NoFlood_index := a_NoFlood_index,
      m_NoClass := PySem.W.mg_of X G m_NoClass,
      e_NoClass := e_NoClass,
      a_NoClass_value := a_NoClass_value,
      m_NoName := PySem.W.mg_of X G m_NoName,
      e_NoName := e_NoName,
      a_NoName_name := a_NoName_name,
      m_NoRow := PySem.W.mg_of X G m_NoRow,
      e_NoRow := e_NoRow,
      a_NoRow_word := a_NoRow_word,
      m_BadPixel := PySem.W.mg_of X G m_BadPixel,
      e_BadPixel := e_BadPixel,
      a_BadPixel_x := a_BadPixel_x,
      a_BadPixel_y := a_BadPixel_y,
      m_TooMany := PySem.W.mg_of X G m_TooMany,
      e_TooMany := e_TooMany,
      a_TooMany_what := a_TooMany_what,
      a_TooMany_most := a_TooMany_most,
      m_Fails := PySem.W.mg_of X G m_Fails,
      e_Fails := e_Fails,
      a_Fails_width := a_Fails_width,
      a_Fails_height := a_Fails_height,
      m_Gap := PySem.W.mg_of X G m_Gap,
      e_Gap := e_Gap,
      a_Gap_x := a_Gap_x,
      a_Gap_y := a_Gap_y,
      m_BadText := PySem.W.mg_of X G m_BadText,
      e_BadText := e_BadText,
      a_BadText_line := a_BadText_line,
      a_BadText_word := a_BadText_word }
  exact fun base _ _ sb => ok_law T sb
theorem walk {l : PySem.W.OpenLaw} {q : Program} {loose : List Str} {XP : (Str → Option Value) → Heap → Prop} {YP : World → Heap → Prop} {d : DefRec} {K : Params → PySem.W.Frag} (hi : importsNone q = true) (hn : l.most = some 63) (hdf : d.params.defaults = [])
    (hY : ∀ (w : World) (h : Heap), YP w h → (K w.params).In h)
    (F : ∀ (w : World) (mg : Str → Option Value) (fa : Addr) (h : Heap), (K w.params).In h → h.Ns mainGlobals mg → mg d.name = some (.ref fa) →
      ∀ base : Heap, (K w.params).In base → base.Ns mainGlobals mg → SysB base → FnG l.prog w (K w.params) mg base CX0 7 fa (spLaw (K w.params))) :
    PySem.W.WalkO q loose XP YP l.row.toRowW d [] (fun f vs => PySem.call f vs) :=
  Ow.walk_ofGB (n := 63) (k := 7) (sp := fun w => spLaw (K w.params)) hi hn (by decide) hdf ⟨rfl, by decide, by decide⟩ hY F (fun _ _ a ns hl _ hS => ⟨a, ns, rfl, hS, hl, fun _ => rfl⟩)
end Pf
end
open PySem PySem.W PyProof.Rows
set_option maxRecDepth 100000 in
set_option maxHeartbeats 0 in
theorem PySem.Challenge.cw_heldfloods_k01_errors_and_their_fields_holds : PySem.Challenge.rw_heldfloods_k01_errors_and_their_fields.Holds := by
  w_on; o_law; k_head; (case hw => w_witness2)
  k_fill
  refine Pf.walk (l := PySem.Challenge.rw_heldfloods_k01_errors_and_their_fields) (by decide +kernel) rfl rfl (fun w h Y => PySem.W.kIn_of Y) ?F
  case F =>
    intro w mg fa h KX G hmg
    refine' Pf.all_mk KX G hmg ?n_len ?n_int ?n_abs ?n_list ?n_range ?n_isinstance ?n_repr ?n_enumerate ?n_ValueError ?m__law_bag ?m__law_draw ?m__law_value ?m__law_same ?m__law_ones ?m__law_field ?m__law_kinds ?m__law_named ?m__law_two_told ?m__law_caught ?m_law ?m_BadPlace ?e_BadPlace ?a_BadPlace_part ?m_BadSize ?e_BadSize ?a_BadSize_part ?m_BadColour ?e_BadColour ?a_BadColour_value ?m_BadPicture ?e_BadPicture ?a_BadPicture_row ?m_BadDeed ?e_BadDeed ?a_BadDeed_part ?m_BadProgram ?e_BadProgram ?a_BadProgram_at ?m_BadClaim ?e_BadClaim ?a_BadClaim_part ?m_BadClass ?e_BadClass ?a_BadClass_part ?m_NoDeed ?e_NoDeed ?a_NoDeed_index ?m_NoFlood ?e_NoFlood ?a_NoFlood_index ?m_NoClass ?e_NoClass ?a_NoClass_value ?m_NoName ?e_NoName ?a_NoName_name ?m_NoRow ?e_NoRow ?a_NoRow_word ?m_BadPixel ?e_BadPixel ?a_BadPixel_x ?a_BadPixel_y ?m_TooMany ?e_TooMany ?a_TooMany_what ?a_TooMany_most ?m_Fails ?e_Fails ?a_Fails_width ?a_Fails_height ?m_Gap ?e_Gap ?a_Gap_x ?a_Gap_y ?m_BadText ?e_BadText ?a_BadText_line ?a_BadText_word ?m_HoldError ?m_Unlike ?ei_Unlike ?kp_Unlike ?xf_BadPlace ?xc_BadPlace ?mq_BadPlace ?xt_BadPlace ?xf_BadSize ?xc_BadSize ?mq_BadSize ?xt_BadSize ?xf_BadColour ?xc_BadColour ?mq_BadColour ?xt_BadColour ?xf_BadPicture ?xc_BadPicture ?mq_BadPicture ?xt_BadPicture ?xf_BadDeed ?xc_BadDeed ?mq_BadDeed ?xt_BadDeed ?xf_BadProgram ?xc_BadProgram ?mq_BadProgram ?xt_BadProgram ?xf_BadClaim ?xc_BadClaim ?mq_BadClaim ?xt_BadClaim ?xf_BadClass ?xc_BadClass ?mq_BadClass ?xt_BadClass ?xf_NoDeed ?xc_NoDeed ?mq_NoDeed ?xt_NoDeed ?xf_NoFlood ?xc_NoFlood ?mq_NoFlood ?xt_NoFlood ?xf_NoClass ?xc_NoClass ?mq_NoClass ?xt_NoClass ?xf_NoName ?xc_NoName ?mq_NoName ?xt_NoName ?xf_NoRow ?xc_NoRow ?mq_NoRow ?xt_NoRow ?xf_BadPixel ?xc_BadPixel ?mq_BadPixel ?xt_BadPixel ?xf_TooMany ?xc_TooMany ?mq_TooMany ?xt_TooMany ?xf_Fails ?xc_Fails ?mq_Fails ?xt_Fails ?xf_Gap ?xc_Gap ?mq_Gap ?xt_Gap ?xf_BadText ?xc_BadText ?mq_BadText ?xt_BadText ?xf_Unlike ?xc_Unlike ?mq_Unlike ?xt_Unlike ?xi_HoldError ?xt_HoldError ?xm_Fails_HoldError ?nd ?d_BadPlace_init ?d_BadSize_init ?d_BadColour_init ?d_BadPicture_init ?d_BadDeed_init ?d_BadProgram_init ?d_BadClaim_init ?d_BadClass_init ?d_NoDeed_init ?d_NoFlood_init ?d_NoClass_init ?d_NoName_init ?d_NoRow_init ?d_BadPixel_init ?d_TooMany_init ?d_Fails_init ?d_Gap_init ?d_BadText_init ?d__law_bag ?k__law_bag ?d__law_draw ?k__law_draw ?d__law_value ?k__law_value ?d__law_same ?k__law_same ?d__law_ones ?k__law_ones ?d__law_field ?k__law_field ?d__law_kinds ?k__law_kinds ?d__law_named ?k__law_named ?d__law_two_told ?k__law_two_told ?d__law_caught ?k__law_caught ?d_law ?k_law
    (case n_len => k_is)
    (case n_int => k_is)
    (case n_abs => k_is)
    (case n_list => k_is)
    (case n_range => k_is)
    (case n_isinstance => k_is)
    (case n_repr => k_is)
    (case n_enumerate => k_is)
    (case n_ValueError => k_is)
    (case m__law_bag => k_is)
    (case m__law_draw => k_is)
    (case m__law_value => k_is)
    (case m__law_same => k_is)
    (case m__law_ones => k_is)
    (case m__law_field => k_is)
    (case m__law_kinds => k_is)
    (case m__law_named => k_is)
    (case m__law_two_told => k_is)
    (case m__law_caught => k_is)
    (case m_law => k_is)
    (case m_BadPlace => k_is)
    (case e_BadPlace => (refine' Pf.errF_mk ?l ?r ?s ?x ?t ?k ?i ?f; (case l => k_is); (case r => rfl); (case s => k_is); (case x => k_is); (case t => k_is); (case k => k_is); (case i => k_is); (case f => k_is)))
    (case a_BadPlace_part => k_is)
    (case m_BadSize => k_is)
    (case e_BadSize => (refine' Pf.errF_mk ?l ?r ?s ?x ?t ?k ?i ?f; (case l => k_is); (case r => rfl); (case s => k_is); (case x => k_is); (case t => k_is); (case k => k_is); (case i => k_is); (case f => k_is)))
    (case a_BadSize_part => k_is)
    (case m_BadColour => k_is)
    (case e_BadColour => (refine' Pf.errF_mk ?l ?r ?s ?x ?t ?k ?i ?f; (case l => k_is); (case r => rfl); (case s => k_is); (case x => k_is); (case t => k_is); (case k => k_is); (case i => k_is); (case f => k_is)))
    (case a_BadColour_value => k_is)
    (case m_BadPicture => k_is)
    (case e_BadPicture => (refine' Pf.errF_mk ?l ?r ?s ?x ?t ?k ?i ?f; (case l => k_is); (case r => rfl); (case s => k_is); (case x => k_is); (case t => k_is); (case k => k_is); (case i => k_is); (case f => k_is)))
    (case a_BadPicture_row => k_is)
    (case m_BadDeed => k_is)
    (case e_BadDeed => (refine' Pf.errF_mk ?l ?r ?s ?x ?t ?k ?i ?f; (case l => k_is); (case r => rfl); (case s => k_is); (case x => k_is); (case t => k_is); (case k => k_is); (case i => k_is); (case f => k_is)))
    (case a_BadDeed_part => k_is)
    (case m_BadProgram => k_is)
    (case e_BadProgram => (refine' Pf.errF_mk ?l ?r ?s ?x ?t ?k ?i ?f; (case l => k_is); (case r => rfl); (case s => k_is); (case x => k_is); (case t => k_is); (case k => k_is); (case i => k_is); (case f => k_is)))
    (case a_BadProgram_at => k_is)
    (case m_BadClaim => k_is)
    (case e_BadClaim => (refine' Pf.errF_mk ?l ?r ?s ?x ?t ?k ?i ?f; (case l => k_is); (case r => rfl); (case s => k_is); (case x => k_is); (case t => k_is); (case k => k_is); (case i => k_is); (case f => k_is)))
    (case a_BadClaim_part => k_is)
    (case m_BadClass => k_is)
    (case e_BadClass => (refine' Pf.errF_mk ?l ?r ?s ?x ?t ?k ?i ?f; (case l => k_is); (case r => rfl); (case s => k_is); (case x => k_is); (case t => k_is); (case k => k_is); (case i => k_is); (case f => k_is)))
    (case a_BadClass_part => k_is)
    (case m_NoDeed => k_is)
    (case e_NoDeed => (refine' Pf.errF_mk ?l ?r ?s ?x ?t ?k ?i ?f; (case l => k_is); (case r => rfl); (case s => k_is); (case x => k_is); (case t => k_is); (case k => k_is); (case i => k_is); (case f => k_is)))
    (case a_NoDeed_index => k_is)
    (case m_NoFlood => k_is)
    (case e_NoFlood => (refine' Pf.errF_mk ?l ?r ?s ?x ?t ?k ?i ?f; (case l => k_is); (case r => rfl); (case s => k_is); (case x => k_is); (case t => k_is); (case k => k_is); (case i => k_is); (case f => k_is)))
    (case a_NoFlood_index => k_is)
    (case m_NoClass => k_is)
    (case e_NoClass => (refine' Pf.errF_mk ?l ?r ?s ?x ?t ?k ?i ?f; (case l => k_is); (case r => rfl); (case s => k_is); (case x => k_is); (case t => k_is); (case k => k_is); (case i => k_is); (case f => k_is)))
    (case a_NoClass_value => k_is)
    (case m_NoName => k_is)
    (case e_NoName => (refine' Pf.errF_mk ?l ?r ?s ?x ?t ?k ?i ?f; (case l => k_is); (case r => rfl); (case s => k_is); (case x => k_is); (case t => k_is); (case k => k_is); (case i => k_is); (case f => k_is)))
    (case a_NoName_name => k_is)
    (case m_NoRow => k_is)
    (case e_NoRow => (refine' Pf.errF_mk ?l ?r ?s ?x ?t ?k ?i ?f; (case l => k_is); (case r => rfl); (case s => k_is); (case x => k_is); (case t => k_is); (case k => k_is); (case i => k_is); (case f => k_is)))
    (case a_NoRow_word => k_is)
    (case m_BadPixel => k_is)
    (case e_BadPixel => (refine' Pf.errF_mk ?l ?r ?s ?x ?t ?k ?i ?f; (case l => k_is); (case r => rfl); (case s => k_is); (case x => k_is); (case t => k_is); (case k => k_is); (case i => k_is); (case f => k_is)))
    (case a_BadPixel_x => k_is)
    (case a_BadPixel_y => k_is)
    (case m_TooMany => k_is)
    (case e_TooMany => (refine' Pf.errF_mk ?l ?r ?s ?x ?t ?k ?i ?f; (case l => k_is); (case r => rfl); (case s => k_is); (case x => k_is); (case t => k_is); (case k => k_is); (case i => k_is); (case f => k_is)))
    (case a_TooMany_what => k_is)
    (case a_TooMany_most => k_is)
    (case m_Fails => k_is)
    (case e_Fails => (refine' Pf.errF_mk ?l ?r ?s ?x ?t ?k ?i ?f; (case l => k_is); (case r => rfl); (case s => k_is); (case x => k_is); (case t => k_is); (case k => k_is); (case i => k_is); (case f => k_is)))
    (case a_Fails_width => k_is)
    (case a_Fails_height => k_is)
    (case m_Gap => k_is)
    (case e_Gap => (refine' Pf.errF_mk ?l ?r ?s ?x ?t ?k ?i ?f; (case l => k_is); (case r => rfl); (case s => k_is); (case x => k_is); (case t => k_is); (case k => k_is); (case i => k_is); (case f => k_is)))
    (case a_Gap_x => k_is)
    (case a_Gap_y => k_is)
    (case m_BadText => k_is)
    (case e_BadText => (refine' Pf.errF_mk ?l ?r ?s ?x ?t ?k ?i ?f; (case l => k_is); (case r => rfl); (case s => k_is); (case x => k_is); (case t => k_is); (case k => k_is); (case i => k_is); (case f => k_is)))
    (case a_BadText_line => k_is)
    (case a_BadText_word => k_is)
    (case m_HoldError => k_is)
    (case m_Unlike => k_is)
    (case ei_Unlike => k_exc)
    (case kp_Unlike => k_is)
    (case xf_BadPlace => (refine' ⟨?a, ?b, ?c, ?d⟩; (case a => k_is); (case b => k_is); (case c => k_is); (case d => k_is)))
    (case xc_BadPlace => (refine' ⟨?a, ?b, ?c, ?d, ?e, ?f, ?g, ?h⟩; (case a => k_is); (case b => k_is); (case c => k_is); (case d => k_is); (case e => k_is); (case f => k_is); (case g => k_is); (case h => k_is)))
    (case mq_BadPlace => (refine' Ow.mroE_mk ?h ?m; (case h => k_is); (case m => rfl)))
    (case xt_BadPlace => k_is)
    (case xf_BadSize => (refine' ⟨?a, ?b, ?c, ?d⟩; (case a => k_is); (case b => k_is); (case c => k_is); (case d => k_is)))
    (case xc_BadSize => (refine' ⟨?a, ?b, ?c, ?d, ?e, ?f, ?g, ?h⟩; (case a => k_is); (case b => k_is); (case c => k_is); (case d => k_is); (case e => k_is); (case f => k_is); (case g => k_is); (case h => k_is)))
    (case mq_BadSize => (refine' Ow.mroE_mk ?h ?m; (case h => k_is); (case m => rfl)))
    (case xt_BadSize => k_is)
    (case xf_BadColour => (refine' ⟨?a, ?b, ?c, ?d⟩; (case a => k_is); (case b => k_is); (case c => k_is); (case d => k_is)))
    (case xc_BadColour => (refine' ⟨?a, ?b, ?c, ?d, ?e, ?f, ?g, ?h⟩; (case a => k_is); (case b => k_is); (case c => k_is); (case d => k_is); (case e => k_is); (case f => k_is); (case g => k_is); (case h => k_is)))
    (case mq_BadColour => (refine' Ow.mroE_mk ?h ?m; (case h => k_is); (case m => rfl)))
    (case xt_BadColour => k_is)
    (case xf_BadPicture => (refine' ⟨?a, ?b, ?c, ?d⟩; (case a => k_is); (case b => k_is); (case c => k_is); (case d => k_is)))
    (case xc_BadPicture => (refine' ⟨?a, ?b, ?c, ?d, ?e, ?f, ?g, ?h⟩; (case a => k_is); (case b => k_is); (case c => k_is); (case d => k_is); (case e => k_is); (case f => k_is); (case g => k_is); (case h => k_is)))
    (case mq_BadPicture => (refine' Ow.mroE_mk ?h ?m; (case h => k_is); (case m => rfl)))
    (case xt_BadPicture => k_is)
    (case xf_BadDeed => (refine' ⟨?a, ?b, ?c, ?d⟩; (case a => k_is); (case b => k_is); (case c => k_is); (case d => k_is)))
    (case xc_BadDeed => (refine' ⟨?a, ?b, ?c, ?d, ?e, ?f, ?g, ?h⟩; (case a => k_is); (case b => k_is); (case c => k_is); (case d => k_is); (case e => k_is); (case f => k_is); (case g => k_is); (case h => k_is)))
    (case mq_BadDeed => (refine' Ow.mroE_mk ?h ?m; (case h => k_is); (case m => rfl)))
    (case xt_BadDeed => k_is)
    (case xf_BadProgram => (refine' ⟨?a, ?b, ?c, ?d⟩; (case a => k_is); (case b => k_is); (case c => k_is); (case d => k_is)))
    (case xc_BadProgram => (refine' ⟨?a, ?b, ?c, ?d, ?e, ?f, ?g, ?h⟩; (case a => k_is); (case b => k_is); (case c => k_is); (case d => k_is); (case e => k_is); (case f => k_is); (case g => k_is); (case h => k_is)))
    (case mq_BadProgram => (refine' Ow.mroE_mk ?h ?m; (case h => k_is); (case m => rfl)))
    (case xt_BadProgram => k_is)
    (case xf_BadClaim => (refine' ⟨?a, ?b, ?c, ?d⟩; (case a => k_is); (case b => k_is); (case c => k_is); (case d => k_is)))
    (case xc_BadClaim => (refine' ⟨?a, ?b, ?c, ?d, ?e, ?f, ?g, ?h⟩; (case a => k_is); (case b => k_is); (case c => k_is); (case d => k_is); (case e => k_is); (case f => k_is); (case g => k_is); (case h => k_is)))
    (case mq_BadClaim => (refine' Ow.mroE_mk ?h ?m; (case h => k_is); (case m => rfl)))
    (case xt_BadClaim => k_is)
    (case xf_BadClass => (refine' ⟨?a, ?b, ?c, ?d⟩; (case a => k_is); (case b => k_is); (case c => k_is); (case d => k_is)))
    (case xc_BadClass => (refine' ⟨?a, ?b, ?c, ?d, ?e, ?f, ?g, ?h⟩; (case a => k_is); (case b => k_is); (case c => k_is); (case d => k_is); (case e => k_is); (case f => k_is); (case g => k_is); (case h => k_is)))
    (case mq_BadClass => (refine' Ow.mroE_mk ?h ?m; (case h => k_is); (case m => rfl)))
    (case xt_BadClass => k_is)
    (case xf_NoDeed => (refine' ⟨?a, ?b, ?c, ?d⟩; (case a => k_is); (case b => k_is); (case c => k_is); (case d => k_is)))
    (case xc_NoDeed => (refine' ⟨?a, ?b, ?c, ?d, ?e, ?f, ?g, ?h⟩; (case a => k_is); (case b => k_is); (case c => k_is); (case d => k_is); (case e => k_is); (case f => k_is); (case g => k_is); (case h => k_is)))
    (case mq_NoDeed => (refine' Ow.mroE_mk ?h ?m; (case h => k_is); (case m => rfl)))
    (case xt_NoDeed => k_is)
    (case xf_NoFlood => (refine' ⟨?a, ?b, ?c, ?d⟩; (case a => k_is); (case b => k_is); (case c => k_is); (case d => k_is)))
    (case xc_NoFlood => (refine' ⟨?a, ?b, ?c, ?d, ?e, ?f, ?g, ?h⟩; (case a => k_is); (case b => k_is); (case c => k_is); (case d => k_is); (case e => k_is); (case f => k_is); (case g => k_is); (case h => k_is)))
    (case mq_NoFlood => (refine' Ow.mroE_mk ?h ?m; (case h => k_is); (case m => rfl)))
    (case xt_NoFlood => k_is)
    (case xf_NoClass => (refine' ⟨?a, ?b, ?c, ?d⟩; (case a => k_is); (case b => k_is); (case c => k_is); (case d => k_is)))
    (case xc_NoClass => (refine' ⟨?a, ?b, ?c, ?d, ?e, ?f, ?g, ?h⟩; (case a => k_is); (case b => k_is); (case c => k_is); (case d => k_is); (case e => k_is); (case f => k_is); (case g => k_is); (case h => k_is)))
    (case mq_NoClass => (refine' Ow.mroE_mk ?h ?m; (case h => k_is); (case m => rfl)))
    (case xt_NoClass => k_is)
    (case xf_NoName => (refine' ⟨?a, ?b, ?c, ?d⟩; (case a => k_is); (case b => k_is); (case c => k_is); (case d => k_is)))
    (case xc_NoName => (refine' ⟨?a, ?b, ?c, ?d, ?e, ?f, ?g, ?h⟩; (case a => k_is); (case b => k_is); (case c => k_is); (case d => k_is); (case e => k_is); (case f => k_is); (case g => k_is); (case h => k_is)))
    (case mq_NoName => (refine' Ow.mroE_mk ?h ?m; (case h => k_is); (case m => rfl)))
    (case xt_NoName => k_is)
    (case xf_NoRow => (refine' ⟨?a, ?b, ?c, ?d⟩; (case a => k_is); (case b => k_is); (case c => k_is); (case d => k_is)))
    (case xc_NoRow => (refine' ⟨?a, ?b, ?c, ?d, ?e, ?f, ?g, ?h⟩; (case a => k_is); (case b => k_is); (case c => k_is); (case d => k_is); (case e => k_is); (case f => k_is); (case g => k_is); (case h => k_is)))
    (case mq_NoRow => (refine' Ow.mroE_mk ?h ?m; (case h => k_is); (case m => rfl)))
    (case xt_NoRow => k_is)
    (case xf_BadPixel => (refine' ⟨?a, ?b, ?c, ?d⟩; (case a => k_is); (case b => k_is); (case c => k_is); (case d => k_is)))
    (case xc_BadPixel => (refine' ⟨?a, ?b, ?c, ?d, ?e, ?f, ?g, ?h⟩; (case a => k_is); (case b => k_is); (case c => k_is); (case d => k_is); (case e => k_is); (case f => k_is); (case g => k_is); (case h => k_is)))
    (case mq_BadPixel => (refine' Ow.mroE_mk ?h ?m; (case h => k_is); (case m => rfl)))
    (case xt_BadPixel => k_is)
    (case xf_TooMany => (refine' ⟨?a, ?b, ?c, ?d⟩; (case a => k_is); (case b => k_is); (case c => k_is); (case d => k_is)))
    (case xc_TooMany => (refine' ⟨?a, ?b, ?c, ?d, ?e, ?f, ?g, ?h⟩; (case a => k_is); (case b => k_is); (case c => k_is); (case d => k_is); (case e => k_is); (case f => k_is); (case g => k_is); (case h => k_is)))
    (case mq_TooMany => (refine' Ow.mroE_mk ?h ?m; (case h => k_is); (case m => rfl)))
    (case xt_TooMany => k_is)
    (case xf_Fails => (refine' ⟨?a, ?b, ?c, ?d⟩; (case a => k_is); (case b => k_is); (case c => k_is); (case d => k_is)))
    (case xc_Fails => (refine' ⟨?a, ?b, ?c, ?d, ?e, ?f, ?g, ?h⟩; (case a => k_is); (case b => k_is); (case c => k_is); (case d => k_is); (case e => k_is); (case f => k_is); (case g => k_is); (case h => k_is)))
    (case mq_Fails => (refine' Ow.mroE_mk ?h ?m; (case h => k_is); (case m => rfl)))
    (case xt_Fails => k_is)
    (case xf_Gap => (refine' ⟨?a, ?b, ?c, ?d⟩; (case a => k_is); (case b => k_is); (case c => k_is); (case d => k_is)))
    (case xc_Gap => (refine' ⟨?a, ?b, ?c, ?d, ?e, ?f, ?g, ?h⟩; (case a => k_is); (case b => k_is); (case c => k_is); (case d => k_is); (case e => k_is); (case f => k_is); (case g => k_is); (case h => k_is)))
    (case mq_Gap => (refine' Ow.mroE_mk ?h ?m; (case h => k_is); (case m => rfl)))
    (case xt_Gap => k_is)
    (case xf_BadText => (refine' ⟨?a, ?b, ?c, ?d⟩; (case a => k_is); (case b => k_is); (case c => k_is); (case d => k_is)))
    (case xc_BadText => (refine' ⟨?a, ?b, ?c, ?d, ?e, ?f, ?g, ?h⟩; (case a => k_is); (case b => k_is); (case c => k_is); (case d => k_is); (case e => k_is); (case f => k_is); (case g => k_is); (case h => k_is)))
    (case mq_BadText => (refine' Ow.mroE_mk ?h ?m; (case h => k_is); (case m => rfl)))
    (case xt_BadText => k_is)
    (case xf_Unlike => (refine' ⟨?a, ?b, ?c, ?d⟩; (case a => k_is); (case b => k_is); (case c => k_is); (case d => k_is)))
    (case xc_Unlike => (refine' ⟨?a, ?b, ?c, ?d, ?e, ?f, ?g, ?h⟩; (case a => k_is); (case b => k_is); (case c => k_is); (case d => k_is); (case e => k_is); (case f => k_is); (case g => k_is); (case h => k_is)))
    (case mq_Unlike => (refine' Ow.mroE_mk ?h ?m; (case h => k_is); (case m => rfl)))
    (case xt_Unlike => k_is)
    (case xi_HoldError => k_is)
    (case xt_HoldError => k_is)
    (case xm_Fails_HoldError => (refine' PySem.W.exm_ref ?a ?b ?c ?d; (case a => k_is); (case b => k_is); (case c => k_is); (case d => k_is)))
    (case nd => decide)
    (case d_BadPlace_init => (refine' Pf.fnt_mk ?l ?c ?k; (case l => k_is); (case c => k_is); (case k => k_is)))
    (case d_BadSize_init => (refine' Pf.fnt_mk ?l ?c ?k; (case l => k_is); (case c => k_is); (case k => k_is)))
    (case d_BadColour_init => (refine' Pf.fnt_mk ?l ?c ?k; (case l => k_is); (case c => k_is); (case k => k_is)))
    (case d_BadPicture_init => (refine' Pf.fnt_mk ?l ?c ?k; (case l => k_is); (case c => k_is); (case k => k_is)))
    (case d_BadDeed_init => (refine' Pf.fnt_mk ?l ?c ?k; (case l => k_is); (case c => k_is); (case k => k_is)))
    (case d_BadProgram_init => (refine' Pf.fnt_mk ?l ?c ?k; (case l => k_is); (case c => k_is); (case k => k_is)))
    (case d_BadClaim_init => (refine' Pf.fnt_mk ?l ?c ?k; (case l => k_is); (case c => k_is); (case k => k_is)))
    (case d_BadClass_init => (refine' Pf.fnt_mk ?l ?c ?k; (case l => k_is); (case c => k_is); (case k => k_is)))
    (case d_NoDeed_init => (refine' Pf.fnt_mk ?l ?c ?k; (case l => k_is); (case c => k_is); (case k => k_is)))
    (case d_NoFlood_init => (refine' Pf.fnt_mk ?l ?c ?k; (case l => k_is); (case c => k_is); (case k => k_is)))
    (case d_NoClass_init => (refine' Pf.fnt_mk ?l ?c ?k; (case l => k_is); (case c => k_is); (case k => k_is)))
    (case d_NoName_init => (refine' Pf.fnt_mk ?l ?c ?k; (case l => k_is); (case c => k_is); (case k => k_is)))
    (case d_NoRow_init => (refine' Pf.fnt_mk ?l ?c ?k; (case l => k_is); (case c => k_is); (case k => k_is)))
    (case d_BadPixel_init => (refine' Pf.fnt_mk ?l ?c ?k; (case l => k_is); (case c => k_is); (case k => k_is)))
    (case d_TooMany_init => (refine' Pf.fnt_mk ?l ?c ?k; (case l => k_is); (case c => k_is); (case k => k_is)))
    (case d_Fails_init => (refine' Pf.fnt_mk ?l ?c ?k; (case l => k_is); (case c => k_is); (case k => k_is)))
    (case d_Gap_init => (refine' Pf.fnt_mk ?l ?c ?k; (case l => k_is); (case c => k_is); (case k => k_is)))
    (case d_BadText_init => (refine' Pf.fnt_mk ?l ?c ?k; (case l => k_is); (case c => k_is); (case k => k_is)))
    (case d__law_bag => (refine' Pf.fnt_mk ?l ?c ?k; (case l => k_is); (case c => k_is); (case k => k_is)))
    (case k__law_bag => k_is)
    (case d__law_draw => (refine' Pf.fnt_mk ?l ?c ?k; (case l => k_is); (case c => k_is); (case k => k_is)))
    (case k__law_draw => k_is)
    (case d__law_value => (refine' Pf.fnt_mk ?l ?c ?k; (case l => k_is); (case c => k_is); (case k => k_is)))
    (case k__law_value => k_is)
    (case d__law_same => (refine' Pf.fnt_mk ?l ?c ?k; (case l => k_is); (case c => k_is); (case k => k_is)))
    (case k__law_same => k_is)
    (case d__law_ones => (refine' Pf.fnt_mk ?l ?c ?k; (case l => k_is); (case c => k_is); (case k => k_is)))
    (case k__law_ones => k_is)
    (case d__law_field => (refine' Pf.fnt_mk ?l ?c ?k; (case l => k_is); (case c => k_is); (case k => k_is)))
    (case k__law_field => k_is)
    (case d__law_kinds => (refine' Pf.fnt_mk ?l ?c ?k; (case l => k_is); (case c => k_is); (case k => k_is)))
    (case k__law_kinds => k_is)
    (case d__law_named => (refine' Pf.fnt_mk ?l ?c ?k; (case l => k_is); (case c => k_is); (case k => k_is)))
    (case k__law_named => k_is)
    (case d__law_two_told => (refine' Pf.fnt_mk ?l ?c ?k; (case l => k_is); (case c => k_is); (case k => k_is)))
    (case k__law_two_told => k_is)
    (case d__law_caught => (refine' Pf.fnt_mk ?l ?c ?k; (case l => k_is); (case c => k_is); (case k => k_is)))
    (case k__law_caught => k_is)
    (case d_law => (refine' Pf.fnt_mk ?l ?c ?k; (case l => k_is); (case c => k_is); (case k => k_is)))
    (case k_law => k_is)
