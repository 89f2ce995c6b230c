import PyProof.Rows.All
import Wide.All
import OpenK.AllK
import Wide.FinOn
import PyProof.EqAt
import PyProof.EqKinds
import PyProof.TupleCall
import PyProof.InstNe
import KE.KOpsOwn
import HandS.Base
import HandS.Call
import HandS.List
import HandS.More
import PyProof.TwoTypesSub
import PyProof.AutoIntOps
import PyProof.StrReplace2
import HandS.Words
import HandS.Star
import HandS.IsInst
import HandS.Defaults
import HandS.Property
import HandS.OwnEq
import HandS.Lambda
import HandS.Ends
import PyProof.ReprRoads
import HandS.ExcInit
import HandS.ExcField
import HandS.CallSlots
import HandS.ForExc
import HandS.ExcIs
import KE.KExcIs
import HandS.EndTab
import HandS.MakeKwOnly
import HandS.FStr
import KE.KCallOwn
import HandS.RaiseMore
import HandS.ExcInitHot
import HandS.ExcValue
import HandS.Walk
import HandS.ForMost
import HandS.StrMore
import HandS.ClsMeth
import OpenK.KMeth
import KE.GoesMore
import HandS.Codes
import PyProof.StrBlock2
import HandS.TryMany
import HandS.Zip
import KE.GoesZip
import HandS.Deep
import HandS.TupMul
import HandS.CallLocal
import HandS.MapJoin
import HandS.DictTup
import KE.KDictDisplayH
import HandS.TupAny
import PyProof.Rows.Range3
import HandS.Small
import KE.KEqNest
import HandS.Wide
import HandS.Text
import HandS.Style
import HandS.Flow
import PySem.Challenge.RW_heldfloods_k33_boxes_at_sizes
set_option Elab.async false
set_option linter.all false
set_option maxRecDepth 100000
section
set_option maxHeartbeats 4000000
/-! Operators that an own class defines, over instances that are tracked. -/
namespace Ow
open PySem PySem.Spec PyProof.Rows L2

/-- an instance of the class at C stands at a -/
def InsAt (H : Hp) (a C : Addr) : Prop := ∃ dx fs, H a = some (.ins C dx fs)

section
variable {X : Cx} {CX : CXT} {n : Nat} {C g : Addr} {sp : Sp} {E : XK}

theorem inst_of {pins : List (Addr × Obj)} {σ : L2.St} {H : Hp} {s : Shared} {a : Addr} (I : Inv X pins σ H s) (h : InsAt H a C) : ∃ ox od, PySem.W.InstAt s.heap a ox C od := by
  obtain ⟨dx, fs, ea⟩ := h
  obtain ⟨mA, O, _⟩ := ins_get I.hok ea
  obtain ⟨od, J, _⟩ := O.look
  exact ⟨_, _, J⟩

theorem cmpbackR {Q : Value → Shared → Prop} {v : V} {u : Value} {s : Shared} (r : RelV v u) (q : Q u s) : PySem.W.CmpBack Q u s := by
  cases v <;> first
    | (cases r; exact q)
    | (obtain ⟨t, rfl⟩ := r; exact q)

/-- x op y, both instances of C -/
def rBin (C : Addr) (sp : Sp) (E : XK) : R2 := fun x y H Q => ∃ a b, x = .ref a ∧ y = .ref b ∧ InsAt H a C ∧ InsAt H b C ∧ sp [x, y] H Q E
theorem op_bin {op : Operator} (hc : PySem.W.selfFirst X.K C = true) (hs : PySem.W.findIn X.K (.ref C) (PySem.dunder op.info.2) = some (some (.ref g))) (hf : PySem.W.isFn X.K (.ref g) = true)
    (F : FnR X.prog X.w X.K X.mg X.base CX n g sp) (hr : Room n X.A) (hx : Passes CX X E) : OpR X (binaryOp op) (rBin C sp E) := by
  intro pins s σ H x y v u Q I rx ry h
  obtain ⟨a, b, rfl, rfl, ha, hb, q⟩ := h
  cases (show v = Value.ref a from rx)
  cases (show u = Value.ref b from ry)
  obtain ⟨ox, od, J⟩ := inst_of I ha
  obtain ⟨oy, od', J'⟩ := inst_of I hb
  obtain ⟨m, hF⟩ := I.fr
  refine PySem.W.binop_K (op := op) hF I.ok.mod.kin J J'.type hc hs hf ?_
  refine wpAny_mono (wpAny_call (run_fnR (us := [.ref a, .ref b]) (vs := [.ref a, .ref b]) F hr hx I (.cons rfl (.cons rfl .nil)) q)) (fun w s' z => ?_) fun _ _ x => x
  obtain ⟨z', H', I', rz, qz⟩ := z
  exact cmpbackR rz ⟨z', H', I', rz, qz⟩

/-- x op n, an instance of C and an int -/
def rBinI (C : Addr) (sp : Sp) (E : XK) : R2 := fun x y H Q => ∃ a i, x = .ref a ∧ y = .int i ∧ InsAt H a C ∧ sp [x, y] H Q E
theorem op_binI {op : Operator} {fo ro rc : Option Value} (hc : PySem.W.selfFirst X.K C = true) (hs : PySem.W.findIn X.K (.ref C) (PySem.dunder op.info.2) = some (some (.ref g))) (hf : PySem.W.isFn X.K (.ref g) = true)
    (hrr : PySem.W.findIn X.K (.ref C) (dunderR op.info.2) = some rc) (hp : rc = none ∨ ∃ g : Addr, rc = some (.ref g))
    (h1 : PySem.W.findIn X.K (.type "int") (PySem.dunder op.info.2) = some fo) (h2 : PySem.W.findIn X.K (.type "int") (dunderR op.info.2) = some ro) (hsub : PySem.W.subIn X.K (.type "int") (.ref C) = some false)
    (F : FnR X.prog X.w X.K X.mg X.base CX n g sp) (hr : Room n X.A) (hx : Passes CX X E) : OpR X (binaryOp op) (rBinI C sp E) := by
  intro pins s σ H x y v u Q I rx ry h
  obtain ⟨a, i, rfl, rfl, ha, q⟩ := h
  cases (show v = Value.ref a from rx)
  obtain ⟨t, rfl⟩ := ry
  obtain ⟨ox, od, J⟩ := inst_of I ha
  obtain ⟨m, hF⟩ := I.fr
  refine PySem.W.ksp_binT (op := op) (T := "int") hF I.ok.mod.kin J rfl hc hs hf hrr hp h1 h2 hsub ?_
  refine wpAny_mono (wpAny_call (run_fnR (us := [.ref a, .int i t]) (vs := [.ref a, .int i]) F hr hx I (.cons rfl (.cons ⟨t, rfl⟩ .nil)) q)) (fun w s' z => ?_) fun _ _ x => x
  obtain ⟨z', H', I', rz, qz⟩ := z
  exact cmpbackR rz ⟨z', H', I', rz, qz⟩

/-- ~x -/
def rUn (C : Addr) (sp : Sp) (E : XK) : V → Hp → VK → Prop := fun x H Q => ∃ a, x = .ref a ∧ InsAt H a C ∧ sp [x] H Q E
theorem un_inv_own (hs : PySem.W.findIn X.K (.ref C) "__invert__" = some (some (.ref g))) (hf : PySem.W.isFn X.K (.ref g) = true)
    (F : FnR X.prog X.w X.K X.mg X.base CX n g sp) (hr : Room n X.A) (hx : Passes CX X E) : UnR X (unaryOp .Invert) (rUn C sp E) := by
  intro pins s σ H x v Q I rx h
  obtain ⟨a, rfl, ha, q⟩ := h
  cases (show v = Value.ref a from rx)
  obtain ⟨ox, od, J⟩ := inst_of I ha
  obtain ⟨m, hF⟩ := I.fr
  refine PySem.W.ksp_inv hF I.ok.mod.kin J hs hf ?_
  exact wpAny_call (run_fnR (us := [.ref a]) (vs := [.ref a]) F hr hx I (.cons rfl .nil) q)

/-- x op y, a comparison whose def stands at g; y an instance of C too -/
theorem op_cmp {op : CmpOp} (hop : ∀ a b, compareOp op a b = richCompare op a b) (hs : PySem.W.findIn X.K (.ref C) (cmpInfo op).2.1 = some (some (.ref g))) (hf : PySem.W.isFn X.K (.ref g) = true) (hn : PySem.W.notFirst X.K C (.ref C) = true)
    (F : FnR X.prog X.w X.K X.mg X.base CX n g sp) (hr : Room n X.A) (hx : Passes CX X E) : OpR X (compareOp op) (rBin C sp E) := by
  intro pins s σ H x y v u Q I rx ry h
  obtain ⟨a, b, rfl, rfl, ha, hb, q⟩ := h
  cases (show v = Value.ref a from rx)
  cases (show u = Value.ref b from ry)
  obtain ⟨ox, od, J⟩ := inst_of I ha
  obtain ⟨oy, od', J'⟩ := inst_of I hb
  obtain ⟨m, hF⟩ := I.fr
  rw [hop]
  refine PySem.W.cmp_K (op := op) (tb := .ref C) hr.units0 hF I.ok.mod.kin J J'.type hn hs hf ?_
  refine wpAny_mono (wpAny_call (run_fnR (us := [.ref a, .ref b]) (vs := [.ref a, .ref b]) F hr hx I (.cons rfl (.cons rfl .nil)) q)) (fun w s' z => ?_) fun _ _ x => x
  obtain ⟨z', H', I', rz, qz⟩ := z
  exact cmpbackR rz ⟨z', H', I', rz, qz⟩
end
end Ow
end
section
set_option maxHeartbeats 4000000
namespace Ow
open PySem PySem.Spec PyProof.Rows L2 PySem.W

section
variable {prog : Program} {w : World} {M : Model} {A : Around} {E : Value → Shared → Prop} {s : Shared} {K : Frag} {x C L f : Addr} {h₀ : Heap} {m : Str → Option Value} {ox : Obj} {od : Option Obj} {nm : String}

theorem add_ref_at {i : Int} {t : Tok} {x C dx : Addr} : GivesAt (fun s => s.heap.get? x = some (instObj C dx)) (Builtin.«int.__add__» ⟨[.int i t, .ref x], []⟩) (.val Value.notImplemented) := by
  intro prog w A R s hx h
  obtain ⟨hp, g, d, tk, os⟩ := s
  have hl : ∀ {M : Model} {A : Around} {E : Value → Shared → Prop} {Q : Option Int → Shared → Prop}, Q none ⟨hp, g, d, tk, os⟩ → wpAny M A (asInt? (.ref x)) Q E ⟨hp, g, d, tk, os⟩ := by
    intro M A E Q q
    unfold asInt?
    exact wpAny_bind (wpAny_load hx (wpAny_pure q))
  unfold Builtin.«int.__add__»
  wp_walk using hl
  exact h
theorem int_add_ref {i : Int} {t : Tok} {x C dx : Addr} {s : Shared} {Q : Value → Shared → Prop} (hx : s.heap.get? x = some (instObj C dx)) (h : Q .notImplemented s) :
    wpAny (model prog w) A (call (.builtin "int.__add__") [.int i t, .ref x]) Q E s :=
  call_givesAt F.slot_int_add (typeIs_int s i t) F.entry_int_add (F.args_int_add_2 _ _) add_ref_at hx h
theorem int_add_own {i : Int} {t : Tok} {x C dx f fa : Addr} {cd : ClassData} {rest : List Value} {Q : Value → Shared → Prop} (X : K.In s.heap) (hx : s.heap.get? x = some (instObj C dx)) (I : InstAt s.heap x ox C od) (hcd : clsIn K C = some cd) (hm : cd.mro = .ref C :: rest)
    (ha : findIn K (.ref C) (PySem.dunder "add") = some (some (.ref fa))) (hs : findIn K (.ref C) (dunderR "add") = some (some (.ref f))) (hf : isFn K (.ref f) = true) (hsub : subIn K (.ref C) (.type "int") = some false)
    (h : wpAny (model prog w) A (call (.ref f) [.ref x, .int i t]) (PySem.W.CmpBack Q) E s) : wpAny (model prog w) A (binaryOp .Add (.int i t) (.ref x)) Q E s := by
  have one := ksp_try X I hs hf h
  have two : ∀ {Q' : Option Value → Shared → Prop}, Q' none s → wpAny (model prog w) A (tryMethod (.int i t) (PySem.dunder "add") (.ref x)) Q' E s := by
    intro Q' q
    unfold tryMethod
    exact wpAny_bind (wpAny_callSpecial?_slot (typeIs_int s i t) F.slot_int_add (int_add_ref hx (wpAny_pure q)))
  obtain ⟨hh, g, d, tt, os⟩ := s
  have L1 : Looks (model prog w) hh (typeOf (.int i t)) (.type "int") := Looks.of_pure rfl
  have L2 : Looks (model prog w) hh (typeOf (.ref x)) (.ref C) := I.type
  have L3 : Looks (model prog w) hh (fillsNumberSlot (.type "int") "add") true := Looks.of_pure F.fills_int_add
  have L4 : Looks (model prog w) hh (fillsNumberSlot (.ref C) "add") true := fills_K X hcd hm ha
  have L5 : Looks (model prog w) hh (isSubtype (.ref C) (.type "int")) false := looks_subIn X hsub
  have L7 : Looks (model prog w) hh (numberSlotInPython (.type "int") "add") false := Looks.of_pure rfl
  have hne : (Value.type "int" == Value.ref C) = false := Bool.eq_false_iff.mpr fun q => by cases beq_iff_eq.mp q
  show wpAny (model prog w) A (binaryOp .Add (.int i t) (.ref x)) Q E _
  have hi : Operator.info .Add = ("+", "add") := rfl
  simp only [binaryOp, hi]
  refine wpAny_holding (wpAny_bind ?_)
  unfold binaryOp1
  refine wpAny_bind (L1.at (wpAny_bind (L2.at (wpAny_bind (L3.at ?_)))))
  simp only [hne, Bool.false_eq_true, if_false]
  ksp_lk
  refine two ?_
  ksp_lk
  refine wpAny_mono one (fun r s' hr' => ?_) fun _ _ e => e
  obtain ⟨v, rfl, hq⟩ := hr'
  ksp_lk
  exact hq
end
end Ow
end
section
set_option maxHeartbeats 4000000
namespace Ow
open PySem PySem.Spec PyProof.Rows L2 PySem.W

section
variable {prog : Program} {w : World} {M : Model} {A : Around} {E : Value → Shared → Prop} {s : Shared} {K : Frag} {x C L f : Addr} {h₀ : Heap} {m : Str → Option Value} {ox : Obj} {od : Option Obj} {nm T : String}
/-- no += of one's own: C over object alone -/
theorem noI_own {h : Heap} {cd : ClassData} {add : Bool} (X : K.In h) (hc : clsIn K C = some cd) (hm : cd.mro = [.ref C, .type "object"]) (hs : findIn K (.ref C) (dunderI nm) = some none)
    (ho : typeLookup (.type "object") (dunderI nm) = pure none) : Looks M h (fillsInplaceSlot (.ref C) nm add) false := by
  intro A Q E s k q
  have Lm : Looks M h (mroOf (.ref C)) cd.mro := (looks_clsIn X hc).andThen (f := fun cd => pure cd.mro) .now
  have Lm' := Lm.keeps k
  obtain ⟨hh, g, d, tt, os⟩ := s
  have X' : K.In hh := X.keeps k
  have L1 : Looks M hh (typeLookup (.ref C) (dunderI nm)) none := looks_findIn X' hs
  have L2 : Looks M hh (typeLookup (.type "object") (dunderI nm)) none := Looks.of_pure ho
  unfold fillsInplaceSlot
  refine wpAny_bind (Lm'.at ?_)
  rw [hm, List.anyM_cons]
  refine wpAny_bind (wpAny_bind (L1.at ?_))
  refine wpAny_pure ?_
  simp only [Bool.false_eq_true, if_false]
  rw [List.anyM_cons]
  refine wpAny_bind (wpAny_bind (L2.at ?_))
  refine wpAny_pure ?_
  simp only [Bool.false_eq_true, if_false]
  exact wpAny_pure q

theorem iadd_own {op : Operator} {b : Value} {cd : ClassData} {fo ro rc : Option Value} {Q : Value → Shared → Prop} (X : K.In s.heap) (I : InstAt s.heap x ox C od) (hb : typeOf b = pure (.type T)) (hcd : clsIn K C = some cd) (hm : cd.mro = [.ref C, .type "object"])
    (hni : findIn K (.ref C) (dunderI op.info.2) = some none) (hno : typeLookup (.type "object") (dunderI op.info.2) = pure none)
    (hs : findIn K (.ref C) (PySem.dunder op.info.2) = some (some (.ref f))) (hf : isFn K (.ref f) = true) (hr : findIn K (.ref C) (dunderR op.info.2) = some rc) (hp : rc = none ∨ ∃ g : Addr, rc = some (.ref g))
    (h1 : findIn K (.type T) (PySem.dunder op.info.2) = some fo) (h2 : findIn K (.type T) (dunderR op.info.2) = some ro) (hsub : subIn K (.type T) (.ref C) = some false)
    (h : wpAny (model prog w) A (call (.ref f) [.ref x, b]) (PySem.W.CmpBack Q) E s) : wpAny (model prog w) A (inplaceOp op (.ref x) b) Q E s := by
  rcases hi : op.info with ⟨sym, nm'⟩
  rw [hi] at hs hr h1 h2 hni hno
  dsimp only at hs hr h1 h2 hni hno
  have one := ksp_try X I hs hf h
  obtain ⟨hh, g, d, tt, os⟩ := s
  have L0 : Looks (model prog w) hh (fillsInplaceSlot (.ref C) nm' (op == .Add)) false := noI_own X hcd hm hni hno
  have L1 : Looks (model prog w) hh (typeOf (.ref x)) (.ref C) := I.type
  have L2 : Looks (model prog w) hh (typeOf b) (.type T) := Looks.of_pure hb
  have L3 : Looks (model prog w) hh (fillsNumberSlot (.ref C) nm') true := fills_K X hcd hm hs
  have L4 : Looks (model prog w) hh (fillsNumberSlot (.type T) nm') ((fo.isSome && !isSeqSlot fo) || (ro.isSome && !isSeqSlot ro)) := ksp_fillsT X h1 h2
  have L5 : Looks (model prog w) hh (isSubtype (.type T) (.ref C)) false := looks_subIn X hsub
  have L6 : Looks (model prog w) hh (numberSlotInPython (.ref C) nm') true := ksp_inPy X hs hr hp
  have L7 : Looks (model prog w) hh (numberSlotInPython (.type T) nm') false := Looks.of_pure rfl
  have L8 : Looks (model prog w) hh (typeLookup (.type T) (dunderR nm')) ro := looks_findIn X h2
  generalize ((fo.isSome && !isSeqSlot fo) || (ro.isSome && !isSeqSlot ro)) = right at L4
  have hne : (Value.ref C == Value.type T) = false := Bool.eq_false_iff.mpr fun q => by cases beq_iff_eq.mp q
  unfold inplaceOp
  simp only [hi]
  refine wpAny_holding (wpAny_bind (L1.at (wpAny_bind (L0.at ?_))))
  simp only [Bool.false_eq_true, if_false]
  refine wpAny_bind ?_
  unfold binaryOp1
  refine wpAny_bind (L1.at (wpAny_bind (L2.at (wpAny_bind (L3.at ?_)))))
  simp only [hne, Bool.false_eq_true, if_false]
  cases right with
  | false =>
    ksp_lk
    refine wpAny_mono one (fun r s' hr' => ?_) fun _ _ e => e
    obtain ⟨v, rfl, hq⟩ := hr'
    ksp_lk
    exact hq
  | true =>
    ksp_lk
    refine wpAny_mono one (fun r s' hr' => ?_) fun _ _ e => e
    obtain ⟨v, rfl, hq⟩ := hr'
    ksp_lk
    exact hq
end
end Ow
end
section
set_option maxHeartbeats 4000000
namespace Ow
open PySem PySem.Spec PyProof.Rows L2 PySem.W

section
variable {prog : Program} {w : World} {M : Model} {A : Around} {E : Value → Shared → Prop} {s : Shared} {K : Frag} {x y C L f : Addr} {ox oy : Obj} {od od' : Option Obj}

theorem objNe_K {Q : PySem.Fin → Shared → Prop} (X : K.In s.heap) (I : InstAt s.heap x ox C od) (hs : findIn K (.ref C) "__eq__" = some (some (.ref f))) (hf : isFn K (.ref f) = true) (hu : A.units < cLine)
    (hcall : wpAny (model prog w) A (call (.ref f) [.ref x, .ref y]) (fun v s' => ∃ b, v = .bool b ∧ Q (.done (.ret (.bool (!b)))) s') E s) :
    wpAny (model prog w) A (Builtin.«object.__ne__» ⟨[.ref x, .ref y], []⟩) Q E s := by
  unfold Builtin.«object.__ne__»
  repeat (first
    | with_reducible refine wpAny_cRoomFor hu ?_
    | (refine wpAny_bind (m := callSpecialIfBound? (.ref x) (Str.ofString "__eq__") [.ref y])
        (ifBound_K X I hs hf (wpAny_mono hcall (fun r s' hr => by
          obtain ⟨b, rfl, hq⟩ := hr
          repeat (first | exact hq | exact wpAny_pure hq | exact wpAny_truthy_bool hq | (refine wpAny_bind (m := truthy (.bool _)) (wpAny_truthy_bool ?_)) | wp_step)) fun _ _ e => e)))
    | wp_step)

theorem check_K {id owner n : String} {rest : List Value} {Q : Unit → Shared → Prop} (X : K.In s.heap) (I : InstAt s.heap x ox C od) (hk : builtinKind id = some .slot) (hs : splitId id = some (owner, n))
    (ha : argsOk id ⟨.ref x :: rest, []⟩) (hob : subIn K (.ref C) (.type owner) = some true) (hq : Q () s) :
    wpAny M A (checkBuiltinCall id ⟨.ref x :: rest, []⟩) Q E s := by
  obtain ⟨h, g, d, t, os⟩ := s
  have Ls : Looks M h (isSubtype (.ref C) (.type owner)) true := looks_subIn X hob
  have hx := I.at_
  have hc := I.cls
  have X0 := X
  simp only [checkBuiltinCall, hk, hs]
  refine wpAny_bind ?_
  unfold isInstance
  repeat (first | (with_reducible refine wpAny_loadPart_at hx ?_; rw [hc]) | (with_reducible refine Ls.here ?_) | wp_step)
  cases hsig : Manifest.signature? id with
  | none => exact wpAny_pure hq
  | some sig =>
    simp only [argsOk, hsig] at ha
    have h2 : Bind.checkArgs id sig ⟨.ref x :: rest, []⟩ = pure () := ha
    show wpAny M A (Bind.checkArgs id sig ⟨.ref x :: rest, []⟩) Q E _
    rw [h2]; exact wpAny_pure hq

theorem ne_own {Q : Value → Shared → Prop} (hu : A.units + 1 < cLine) (X : K.In s.heap) (I : InstAt s.heap x ox C od) (J : InstAt s.heap y oy C od') (hne : findIn K (.ref C) "__ne__" = some (some (.builtin "object.__ne__")))
    (hs : findIn K (.ref C) "__eq__" = some (some (.ref f))) (hf : isFn K (.ref f) = true) (hob : subIn K (.ref C) (.type "object") = some true)
    (hcall : wpAny (model prog w) A.in1 (call (.ref f) [.ref x, .ref y]) (fun v s' => ∃ b, v = .bool b ∧ Q (.bool (!b)) s') E s) :
    wpAny (model prog w) A (compareOp .NotEq (.ref x) (.ref y)) Q E s := by
  have S := F.cmp_object.ne
  have one : wpAny (model prog w) A (tryCompare (.ref x) "__ne__" (.ref y)) (fun r s' => ∃ v, r = some v ∧ Q v s') E s := by
    unfold tryCompare
    refine wpAny_bind ?_
    simp only [callSpecialIfBound?, bindSpecialIfBound?]
    refine wpAny_holding (wpAny_bind (wpAny_bind (wpAny_bind (I.type.here ((looks_findIn X hne).here ?_)))))
    simp only [S.bind]
    have fin : ∀ {R : Option Value → Shared → Prop}, (∀ b s', Q (.bool (!b)) s' → R (some (.bool (!b))) s') → wpAny (model prog w) A (call (.builtin "object.__ne__") ([.ref x] ++ [.ref y]) >>= fun v => pure (some v)) R E s := by
      intro R hR
      refine wpAny_bind (wpAny_call (codeAny_call_builtin S.plain F.cmpEntry_ne (check_K X I F.cmpKind_ne F.cmpSplit_ne (F.cmpArgs_ne _ _) hob (objNe_K (A := A.in1) X I hs hf hu (wpAny_mono hcall (fun v s' hv => ?_) fun _ _ e => e)))))
      obtain ⟨b, rfl, hq⟩ := hv
      exact ⟨b, rfl, wpAny_pure (hR b _ hq)⟩
    refine wpAny_bind (wpAny_askSetting (wpAny_ite ?_))
    split
    · exact wpAny_bind (wpAny_pure (wpAny_pure (fin fun b s' hq => wpAny_pure ⟨_, rfl, hq⟩)))
    · exact wpAny_tryCatch (wpAny_bind (wpAny_pure (wpAny_pure (fin fun b s' hq => wpAny_pure ⟨_, rfl, hq⟩))))
  show wpAny (model prog w) A (richCompare .NotEq (.ref x) (.ref y)) Q E s
  unfold richCompare
  simp only [oneThing_ref]
  refine wpAny_holding (wpAny_bind (wpAny_cRoomFor (Nat.lt_of_succ_lt hu) ?_))
  refine wpAny_bind (I.type.here (wpAny_bind (J.type.here ?_)))
  rw [show (Value.ref C != Value.ref C) = false from by simp]
  simp only [Bool.false_eq_true, if_false]
  refine wpAny_bind (wpAny_pure ?_)
  simp only [Bool.false_eq_true, if_false]
  refine wpAny_bind (wpAny_mono one (fun r s' z => ?_) fun _ _ e => e)
  obtain ⟨v, rfl, hq⟩ := z
  exact wpAny_pure hq
end

section
variable {X : Cx} {CX : CXT} {n : Nat} {C g : Addr} {sp : Sp} {E : XK}
/-- x != y, both instances of C, which has == alone -/
def rNeOwn (C : Addr) (sp : Sp) (E : XK) : R2 := fun x y H Q => ∃ a b, x = .ref a ∧ y = .ref b ∧ InsAt H a C ∧ InsAt H b C ∧ sp [x, y] H (fun v H' => ∃ k, v = .bl k ∧ Q (.bl (!k)) H') E
theorem op_ne_own (hne : PySem.W.findIn X.K (.ref C) "__ne__" = some (some (.builtin "object.__ne__"))) (hs : PySem.W.findIn X.K (.ref C) "__eq__" = some (some (.ref g))) (hf : PySem.W.isFn X.K (.ref g) = true) (hob : PySem.W.subIn X.K (.ref C) (.type "object") = some true)
    (F : FnR X.prog X.w X.K X.mg X.base CX n g sp) (hr : Room (n + 1) X.A) (hx : Passes CX X E) : OpR X (compareOp .NotEq) (rNeOwn C sp E) := by
  intro pins s σ H x y v u Q I rx ry h
  obtain ⟨a, b, rfl, rfl, ha, hb, q⟩ := h
  cases (show v = Value.ref a from rx)
  cases (show u = Value.ref b from ry)
  obtain ⟨ox, od, J⟩ := inst_of I ha
  obtain ⟨oy, od', J'⟩ := inst_of I hb
  have hu : X.A.units + 1 < cLine := hu_of hr
  refine ne_own hu I.kIn J J' hne hs hf hob ?_
  refine wpAny_call ?_
  refine codeAny_mono (F X.A.in1 X.stack s H [.ref a, .ref b] [.ref a, .ref b] _ E hr.in1 I.env0.in1 (.cons rfl (.cons rfl .nil)) q) fun r s' hq => ?_
  cases r with
  | error e => exact hx pins σ H s e s' I hq
  | ok fl =>
    cases fl with
    | ret u =>
      obtain ⟨v, H', I2, rv, k, ev, qq⟩ := I.after hq
      subst ev
      cases (show u = Value.bool k from rv)
      exact ⟨k, rfl, .bl (!k), H', I2, rfl, qq⟩
    | next => exact False.elim hq
    | brk => exact False.elim hq
    | cont => exact False.elim hq
end
end Ow
end
section
set_option maxHeartbeats 4000000
namespace Ow
open PySem PySem.Spec PyProof.Rows L2 StX

section
variable {X : Cx} {CX : CXT} {n : Nat} {C g fa : Addr} {sp : Sp} {E : XK}

theorem inst_of2 {pins : List (Addr × Obj)} {σ : L2.St} {H : Hp} {s : Shared} {a : Addr} (I : Inv X pins σ H s) (h : InsAt H a C) : ∃ dx od, s.heap.get? a = some (PySem.W.instObj C dx) ∧ PySem.W.InstAt s.heap a (PySem.W.instObj C dx) C od := by
  obtain ⟨dx, fs, ea⟩ := h
  obtain ⟨mA, O, _⟩ := ins_get I.hok ea
  obtain ⟨od, J, _⟩ := O.look
  exact ⟨dx, _, J.at_, J⟩

/-- n + x: the instance's __radd__ -/
def rBinR (C : Addr) (sp : Sp) (E : XK) : R2 := fun x y H Q => ∃ a i, x = .int i ∧ y = .ref a ∧ InsAt H a C ∧ sp [y, x] H Q E
theorem op_radd (hc : PySem.W.selfFirst X.K C = true) (ha : PySem.W.findIn X.K (.ref C) (PySem.dunder "add") = some (some (.ref fa))) (hs : PySem.W.findIn X.K (.ref C) (dunderR "add") = some (some (.ref g))) (hf : PySem.W.isFn X.K (.ref g) = true)
    (hsub : PySem.W.subIn X.K (.ref C) (.type "int") = some false)
    (F : FnR X.prog X.w X.K X.mg X.base CX n g sp) (hr : Room n X.A) (hx : Passes CX X E) : OpR X (binaryOp .Add) (rBinR C sp E) := by
  intro pins s σ H x y v u Q I rx ry h
  obtain ⟨a, i, rfl, rfl, hia, q⟩ := h
  obtain ⟨t, rfl⟩ := rx
  cases (show u = Value.ref a from ry)
  obtain ⟨dx, od, hx', J⟩ := inst_of2 I hia
  obtain ⟨cd, rest, hcd, hm⟩ := PySem.W.ksp_first hc
  refine int_add_own I.kIn hx' J hcd hm ha hs hf hsub ?_
  refine wpAny_mono (wpAny_call (run_fnR (us := [.ref a, .int i t]) (vs := [.ref a, .int i]) F hr hx I (.cons rfl (.cons ⟨t, rfl⟩ .nil)) q)) (fun w s' z => ?_) fun _ _ x => x
  obtain ⟨z', H', I', rz, qz⟩ := z
  exact cmpbackR rz ⟨z', H', I', rz, qz⟩

def mro2 (K : PySem.W.Frag) (C : Addr) : Bool := (PySem.W.clsIn K C).any fun cd => cd.mro == [.ref C, .type "object"]
theorem mro2_of {K : PySem.W.Frag} {C : Addr} (h : mro2 K C = true) : ∃ cd, PySem.W.clsIn K C = some cd ∧ cd.mro = [.ref C, .type "object"] := by
  obtain ⟨cd, hcd, hm⟩ := PySem.W.any_some h
  exact ⟨cd, hcd, beq_iff_eq.mp hm⟩
theorem noI_obj_add : typeLookup (.type "object") (dunderI "add") = pure none := by rw [typeLookup_type, builtinLookup_eq_fast]; kernel_rfl
/-- x += n, the class has no __iadd__ -/
theorem iop_addI {fo ro rc : Option Value} (hc : mro2 X.K C = true) (hni : PySem.W.findIn X.K (.ref C) (dunderI "add") = some none) (hs : PySem.W.findIn X.K (.ref C) (PySem.dunder "add") = some (some (.ref g))) (hf : PySem.W.isFn X.K (.ref g) = true)
    (hrr : PySem.W.findIn X.K (.ref C) (dunderR "add") = some rc) (hp : rc = none ∨ ∃ g : Addr, rc = some (.ref g))
    (h1 : PySem.W.findIn X.K (.type "int") (PySem.dunder "add") = some fo) (h2 : PySem.W.findIn X.K (.type "int") (dunderR "add") = some ro) (hsub : PySem.W.subIn X.K (.type "int") (.ref C) = some false)
    (F : FnR X.prog X.w X.K X.mg X.base CX n g sp) (hr : Room n X.A) (hx : Passes CX X E) : OpR X (inplaceOp .Add) (rBinI C sp E) := by
  intro pins s σ H x y v u Q I rx ry h
  obtain ⟨a, i, rfl, rfl, hia, q⟩ := h
  cases (show v = Value.ref a from rx)
  obtain ⟨t, rfl⟩ := ry
  obtain ⟨ox, od, J⟩ := inst_of I hia
  obtain ⟨cd, hcd, hm⟩ := mro2_of hc
  refine iadd_own (op := .Add) (T := "int") I.kIn J rfl hcd hm hni noI_obj_add hs hf hrr hp h1 h2 hsub ?_
  refine wpAny_mono (wpAny_call (run_fnR (us := [.ref a, .int i t]) (vs := [.ref a, .int i]) F hr hx I (.cons rfl (.cons ⟨t, rfl⟩ .nil)) q)) (fun w s' z => ?_) fun _ _ x => x
  obtain ⟨z', H', I', rz, qz⟩ := z
  exact cmpbackR rz ⟨z', H', I', rz, qz⟩

/-- f(e, ..), a def of the module, by its positional promise -/
def tCallR (sp : Sp) (E : XK) (t : TA) : TE := fun σ H Q => t σ H fun vs H1 => sp vs H1 Q E
theorem pe_callR {x : Str} {f : Addr} {e : Expr} {es : List Expr} {t : TA} {p pos : Pos} (F : FnR X.prog X.w X.K X.mg X.base CX n f sp) (hr : Room n X.A) (hm : X.mg x = some (.ref f)) (hk : PySem.W.keepIn X.K (.ref f) = true) (hx : Passes CX X E)
    (ha : PA X (e :: es) t) (hg : Gl X x := by rfl) (hdb : (x == ("__debug__" : Str)) = false := by decide) (he : starEach (e :: es) X.env = (false, eval e X.env) :: starEach es X.env := by rfl) (hpl : (backTo pos (starEach es X.env)).any (·.1) = false := by rfl) :
    PE X (.Call (.Name x p) (e :: es) [] pos) (tCallR sp E t) := by
  refine ⟨fun pins s σ H Q I h => ?_⟩
  refine wpAny_Call_Name_kw (ld_glob I hg hm ?_ hdb)
  refine PySem.W.callWith_K (h₀ := X.base) I.ok.mod.kin hk (thn (ha.run pos pins s σ H _ I h) fun us s1 ⟨vs, H1, I1, r, q⟩ => ⟨I1.kIn, ?_⟩) he hpl
  exact wpAny_call (run_fnR F hr hx I1 r q)

/-- C(e, ..): a new instance, by the positional promise of __init__ -/
theorem pe_makeRR {x : Str} {e : Expr} {es : List Expr} {t : TA} {p pos : Pos} (M : Mk X.K C g) (F : FnR X.prog X.w X.K X.mg X.base CX n g sp) (hr : Room (n + 1) X.A) (hm : X.mg x = some (.ref C)) (hx : Passes CX X E) (ha : PA X (e :: es) t) (hg : Gl X x := by rfl) (hdb : (x == ("__debug__" : Str)) = false := by decide)
    (he : starEach (e :: es) X.env = (false, eval e X.env) :: starEach es X.env := by rfl) (hpl : (backTo pos (starEach es X.env)).any (·.1) = false := by rfl) : PE X (.Call (.Name x p) (e :: es) [] pos) (tMakeR C sp E t) :=
  pe_makeR M F hr hg hm hx ha hdb he hpl
end
end Ow
end
section
set_option maxHeartbeats 4000000
namespace Ow
open PySem PySem.Spec PyProof.Rows L2 StX

/-- what the walk asks of an own class -/
structure ClsF (K : PySem.W.Frag) (C : Addr) : Prop where
  cl : Cls K C
  ca : PySem.W.findIn K (.ref C) "__class__" = some (some (.builtin "object.__class__"))
  cn : PySem.W.specialIn K (.builtin "object.__class__") "__get__" = some (some (.builtin "getset_descriptor.__get__"))
  ct : PySem.W.takesIn K (.builtin "object.__class__") = some true
  cm : PySem.W.mroIn K C (.type "object") = some true
  ic : PySem.W.isClsIn K C = true
  ty : PySem.W.typeIn K (.ref C) = some (.type "type")
theorem ClsF.tyOf {K : PySem.W.Frag} {C p dx : Addr} {H : Hp} {fs : List (Str × V)} (c : ClsF K C) (h : H p = some (.ins C dx fs)) : TyX K H (.ref p) (.ref C) := .base (.ins h c.cl c.ca c.cn c.ct c.cm)
theorem kit_self {K : PySem.W.Frag} {t : Value} : PySem.W.kitOne K t t = some true := by
  unfold PySem.W.kitOne
  rw [if_pos (beq_self_eq_true t)]
/-- t is not below the own class at C -/
theorem kit_own {K : PySem.W.Frag} {C : Addr} {t : Value} {b : Bool} (c : ClsF K C) (h : PySem.W.subIn K t (.ref C) = some b) (hb : (t == Value.ref C) = false) : PySem.W.kitOne K t (.ref C) = some b := by
  unfold PySem.W.kitOne
  rw [if_neg (by rw [hb]; exact Bool.false_ne_true)]
  show (if ((PySem.W.clsIn K C).isSome && PySem.W.typeIn K (.ref C) == some (.type "type")) = true then PySem.W.subIn K t (.ref C) else none) = some b
  have h1 : (PySem.W.clsIn K C).isSome = true := c.ic
  rw [h1, c.ty]
  rw [if_pos (by rfl)]
  exact h
/-- an instance of C against a built-in type -/
theorem kit_bty {K : PySem.W.Frag} {C : Addr} {T : String} {b : Bool} (hm : PySem.W.kitMeta T = true) (h : PySem.W.subIn K (.ref C) (.type T) = some b) : PySem.W.kitOne K (.ref C) (.type T) = some b := by
  unfold PySem.W.kitOne
  rw [if_neg (by intro z; cases beq_iff_eq.mp z)]
  show (if PySem.W.kitMeta T = true then PySem.W.subIn K (.ref C) (.type T) else none) = some b
  rw [if_pos hm]
  exact h
theorem kit_int_int {K : PySem.W.Frag} : PySem.W.kitOne K (.type "int") (.type "int") = some true := kit_self
theorem kit_int_bool {K : PySem.W.Frag} : PySem.W.kitOne K (.type "int") (.type "bool") = some false := kit_ty (by decide +kernel)

section
variable {X : Cx} {CX : CXT} {k : Nat} {C p g a dx : Addr} {fs : List (Str × V)} {f : Str} {sp : Sp} {E : XK} {e : Expr} {pos : Pos} {ta : TE}
structure PropR (K : PySem.W.Frag) (C : Addr) (f : Str) (p g : Addr) : Prop where
  at_ : PySem.W.findIn K (.ref C) f = some (some (.ref p))
  get : PySem.W.specialIn K (.ref p) "__get__" = some (some (.builtin "property.__get__"))
  tak : PySem.W.takesIn K (.ref p) = some true
  rec_ : ∃ rest, PySem.W.recIn K p "property" = some (.ref g :: rest)
theorem getprop_R {pins : List (Addr × Obj)} {σ : L2.St} {H : Hp} {s : Shared} {Q : VK} {b : Bool} (I : Inv X pins σ H s) (ea : H a = some (.ins C dx fs)) (c : Cls X.K C) (hp : PropR X.K C f p g)
    (F : FnR X.prog X.w X.K X.mg X.base CX k g sp) (hr : Room (k + 1) X.A) (hx : Passes CX X.nox E) (h : sp [.ref a] H Q E) :
    wpAny (model X.prog X.w) X.A (getAttr (.ref a) f b) (EP X pins σ Q) X.xe s := by
  obtain ⟨mA, O, _, _, _, _⟩ := ins_get I.hok ea
  obtain ⟨od, J, _⟩ := O.look
  obtain ⟨rest, hrec⟩ := hp.rec_
  have I1 := I.tok (s.toks + 1)
  have hc : (PySem.W.clsIn X.K C).isSome = true := by
    obtain ⟨cd, hc, _⟩ := PySem.W.any_some c.hd
    rw [hc]
    rfl
  refine PySem.W.get_bind I.kIn J (PySem.W.plainGet_of (c.get f)).1 (PySem.W.findObj_data hc hp.at_ hp.get hp.tak) (PySem.W.plainGet_of (c.get f)).2 (wpAny_call (PySem.W.prop_get (s := { s with toks := s.toks + 1 }) I.kIn hrec ?_))
  refine codeAny_mono (F X.A.in1 X.stack { s with toks := s.toks + 1 } H [.ref a] [.ref a] Q E hr.in1 I1.env0.in1 (.cons rfl .nil) h) fun r s' hq => ?_
  cases r with
  | error er => exact False.elim (hx pins σ H { s with toks := s.toks + 1 } er s' (I1.wish _) hq)
  | ok fl =>
    cases fl with
    | ret u =>
      obtain ⟨v, H', I3, rv, q3⟩ := I1.after hq
      show wpAny _ _ (handedOut u) _ _ _
      rw [PySem.W.handedOut_of (handed_of rv)]
      exact wpAny_pure ⟨v, H', I3, rv, q3⟩
    | next => exact False.elim hq
    | brk => exact False.elim hq
    | cont => exact False.elim hq
def tPropR (C : Addr) (sp : Sp) (E : XK) (ta : TE) : TE := fun σ H Q => ta σ H fun x H1 => ∃ a dx fs, x = .ref a ∧ H1 a = some (.ins C dx fs) ∧ sp [.ref a] H1 Q E
/-- e.f, f a property -/
theorem pe_propR (he : PE X e ta) (c : Cls X.K C) (hp : PropR X.K C f p g) (F : FnR X.prog X.w X.K X.mg X.base CX k g sp) (hr : Room (k + 1) X.A) (hx : Passes CX X.nox E)
    (hab : attributeBase e f X.env (eval e X.env) = eval e X.env := by rfl) : PE X (.Attribute e f pos) (tPropR C sp E ta) := by
  refine ⟨fun pins s σ H Q I h => ?_⟩
  refine attr_of hab (thn (he.run pins s σ H _ I h) fun u s1 ⟨x, H1, I1, rx, a, dx, fs, ex, ea, q⟩ => ?_)
  subst ex
  obtain rfl : u = Value.ref a := rx
  exact getprop_R I1 ea c hp F hr hx q
end

/-- a def of the text, as the top left it: dvs its defaults -/
def FnT (K : PySem.W.Frag) (x qual : Str) (st : Stmt) (dvs : List V) (f : Addr) : Prop := ∃ fd, FunD K x qual (defArgs st) (defBody st) (defScope st) dvs [] f fd
section
variable {P : Program} {w : World} {K : PySem.W.Frag} {mg : Str → Option Value} {base : Heap} {x qual : Str} {st : Stmt} {dvs : List V} {f : Addr}
theorem FnT.kp (F : FnT K x qual st dvs f) : PySem.W.keepIn K (.ref f) = true := F.elim fun _ z => z.kp
/-- a def without defaults that lets nothing out -/
theorem FnT.ok {N ps : List Str} {k : Nat} {sp : Sp} (F : FnT K x qual st [] f) (S : FnScope N ps (defScope st))
    (hb : ∀ (kV doc pm : Value) (an : Option Addr) (cdv ct : Value) (us : List Value), us.length = ps.length → bindArgs (PySem.W.fnOf x qual (defArgs st) (defBody st) (defScope st) .none kV doc pm an cdv ct) ⟨us, []⟩ = pure (ps.zip us))
    (len : ∀ vs H Q E, sp vs H Q E → vs.length = ps.length)
    (hbody : ∀ (cdv : Value) (A : Around) (outer : List Env) (s : Shared) (H : Hp) (vs : List V) (Q : VK) (E : XK), Room k (A.deeper (envOfC qual (defScope st) s.heap.objs.size f cdv)) → sp vs H Q E →
      ∃ t, PSs (cxOf CX0 P w K mg base N qual (defScope st) f cdv A outer s H E).nox (defBody st) t ∧ t { nx := fun _ H' => Q .non H', rt := Q } (start N vs) H) : FnR P w K mg base CX0 (k + 1) f sp := by
  obtain ⟨fd, F⟩ := F
  have ok : FnOk P w K mg base CX0 (k + 1) f fd ps sp := F.ok S len fun cdv A outer s H vs Q E hr hsp => by
    obtain ⟨t, h, q⟩ := hbody cdv A outer s H vs Q E hr hsp
    exact ⟨t, h.nox, q⟩
  have b : Binds K fd ps [] := F.bindsN hb
  have r := ok.raw b .nil
  exact r.imp fun vs H Q E h => by rw [List.append_nil]; exact h
/-- .. with defaults, all of its arguments told; or the last ones filled up: j of the defaults are not used -/
theorem FnT.okD {N ps : List Str} {k n j : Nat} {sp : Sp} (F : FnT K x qual st dvs f) (S : FnScope N ps (defScope st)) (hd : dvs ≠ []) (hn : n + (dvs.length - j) = ps.length)
    (hb : ∀ (T : Addr) (kV doc pm : Value) (an : Option Addr) (cdv ct : Value) (us its : List Value), us.length = n → its.length = dvs.length →
      ∃ k, bindArgs (PySem.W.fnOf x qual (defArgs st) (defBody st) (defScope st) (.ref T) kV doc pm an cdv ct) ⟨us, []⟩ = seqItems? (.ref T) >>= k ∧ k (some its.toArray) = pure (ps.zip (us ++ its.drop j)))
    (len : ∀ vs H Q E, sp vs H Q E → vs.length = ps.length)
    (hbody : ∀ (cdv : Value) (A : Around) (outer : List Env) (s : Shared) (H : Hp) (vs : List V) (Q : VK) (E : XK), Room k (A.deeper (envOfC qual (defScope st) s.heap.objs.size f cdv)) → sp vs H Q E →
      ∃ t, PSs (cxOf CX0 P w K mg base N qual (defScope st) f cdv A outer s H E).nox (defBody st) t ∧ t { nx := fun _ H' => Q .non H', rt := Q } (start N vs) H) : FnR P w K mg base CX0 (k + 1) f (fun vs H Q E => sp (vs ++ dvs.drop j) H Q E) := by
  obtain ⟨fd, F⟩ := F
  have ok : FnOk P w K mg base CX0 (k + 1) f fd ps sp := F.ok S len fun cdv A outer s H vs Q E hr hsp => by
    obtain ⟨t, h, q⟩ := hbody cdv A outer s H vs Q E hr hsp
    exact ⟨t, h.nox, q⟩
  obtain ⟨ds, hds, b⟩ := F.binds1 n j hd hn hb
  exact ok.raw b hds
end
end Ow
end
section
set_option maxHeartbeats 4000000
namespace Ow
open PySem PySem.SeqAt
open AutoSeq1 (wpAny_loadPart')
open MeetsSeq MeetsSeq2 MeetsSeq3 SeqRoads2

section
variable {prog : Program} {w : World} {A : Around} {R : Result → Shared → Prop}
theorem ne_loopG (l b : Addr) (N : Nat) (I : Nat → Shared → Prop) (hl : GQ.ListI prog w A (fun e s' => R (.error e) s') l b N I)
    (fin : ∀ s, I N s → R (.ok (.ret (.bool false))) s) (k : Nat) :
    ∀ i : Nat, N - i = k → i ≤ N → ∀ s, I i s →
      wpAny (model prog w) A.in1 (Builtin.«list.__eq__.loop» ⟨[.ref l, .ref b, rawInt i, rawInt 3], []⟩) (GQ.FinOf prog w A R) (fun e s' => R (.error e) s') s := by
  induction k with
  | zero =>
    intro i hk hi s h
    obtain ⟨items, items2, n, n2, hl1, hb1, hs1, hs2, _⟩ := hl _ _ h
    have hi' : i = N := by omega
    have hR : R (.ok (.ret (.bool false))) s := fin s (hi' ▸ h)
    obtain ⟨hp, g, d, tk, os⟩ := s
    wp_walk using wpAny_loadPart' hl1, wpAny_loadPart' hb1
    have hi1 : items[((i : Nat) : Int).toNat]? = none := by simp; omega
    have hi2 : items2[((i : Nat) : Int).toNat]? = none := by simp; omega
    rw [hi1, hi2]
    wp_walk using wpAny_loadPart' hl1, wpAny_loadPart' hb1
    show R (.ok (.ret (.bool (items.size != items2.size)))) _
    rw [hs1, hs2]
    simpa using hR
  | succ k ih =>
    intro i hk hi s h
    obtain ⟨items, items2, n, n2, hl1, hb1, hs1, hs2, turn⟩ := hl _ _ h
    have hlt : i < items.size := by omega
    have hlt2 : i < items2.size := by omega
    have ht := turn hlt hlt2
    obtain ⟨hp, g, d, tk, os⟩ := s
    wp_walk using wpAny_loadPart' hl1, wpAny_loadPart' hb1
    have hi1 : items[((i : Nat) : Int).toNat]? = some items[i] := by simp [hlt]
    have hi2 : items2[((i : Nat) : Int).toNat]? = some items2[i] := by simp [hlt2]
    have hc : ((i : Int) + 1) = ((i + 1 : Nat) : Int) := by omega
    rw [hi1, hi2]
    refine wpAny_bind (wpAny_mono ht (fun r s2 h2 => ?_) fun _ _ x => x)
    obtain ⟨hr, h2⟩ := h2
    subst hr
    have hrec := ih (i + 1) (by omega) (by omega) s2 h2
    obtain ⟨hp2, g2, d2, tk2, os2⟩ := s2
    wp_walk
    rw [hc]
    exact ⟨plainId_quiet plain_eq_loop _, codeAny_builtin entry_eq_loop (by
      rw [Around.under_plainId plain_eq_loop _]
      exact hrec)⟩

theorem list_neG (l b : Addr) (N : Nat) (I : Nat → Shared → Prop) (hl : GQ.ListI prog w A (fun e s' => R (.error e) s') l b N I)
    (fin : ∀ s, I N s → R (.ok (.ret (.bool false))) s) {s : Shared} (h : I 0 s) :
    wpAny (model prog w) A.in1 (Builtin.«list.__ne__» ⟨[.ref l, .ref b], []⟩) (GQ.FinOf prog w A R) (fun e s' => R (.error e) s') s := by
  obtain ⟨items, items2, n, n2, hl1, hb1, hs1, hs2, _⟩ := hl _ _ h
  have hrec := ne_loopG (A := A) (R := R) l b N I hl fin _ 0 rfl (Nat.zero_le _) s h
  obtain ⟨hp, g, d, tk, os⟩ := s
  have f3 := AutoSeq1.sub_list_list
  have hne : ¬ (items.size != items2.size) = true := by simp [hs1, hs2]
  wp_walk using wpAny_loadPart' hl1, wpAny_loadPart' hb1
  exact ⟨plainId_quiet plain_eq_loop _, codeAny_builtin entry_eq_loop (by
    rw [Around.under_plainId plain_eq_loop _]
    exact hrec)⟩
theorem rn_listG {E : Value → Shared → Prop} {s : Shared} {l b : Addr} {N : Nat} {Q : Value → Shared → Prop} (hu : A.units < cLine) (I : Nat → Shared → Prop) (hl : GQ.ListI prog w A E l b N I)
    (fin : ∀ s, I N s → Q (.bool false) s) (h : I 0 s) : wpAny (model prog w) A (richCompare .NotEq (.ref l) (.ref b)) Q E s := by
  obtain ⟨items, items2, n, n2, hl1, hb1, _, _, _⟩ := hl _ _ h
  refine wpAny_richCompare_same_room (op := .NotEq) ⟨_, hl1, rfl⟩ ⟨_, hb1, rfl⟩ F.slot_list_ne (GQ.call_here F.slot_list_ne ⟨_, hl1, rfl⟩ F.entry_list_ne (F.args_list_ne_2 _ _) ?_) hu
  exact list_neG (R := wants (fun v s' => v ≠ .notImplemented ∧ Q v s') E) l b N I hl (fun s' q => ⟨(fun x => nomatch x), fin s' q⟩) h
end
end Ow
namespace Ow
open PySem PySem.Spec PyProof.Rows L2 StX
section
variable {X : Cx} {n m : Nat} {D D' : Eqv}
/-- two lists, equal item by item: != gives False -/
def rNeL (D : Eqv) : R2 := fun x y H Q => DList D x y H ∧ ∀ H', Ext H H' → Q (.bl false) H'
theorem op_neL (hD : Mon D) (h : EqG X n D) (hr : Room (n + 1) X.A) : OpR X (compareOp .NotEq) (rNeL D) := by
  intro pins s σ H x y v u Q I rx ry hq
  obtain ⟨⟨a, b, xs, ys, rfl, rfl, ha, hb, p⟩, q⟩ := hq
  cases rx
  cases ry
  show wpAny (model X.prog X.w) X.A (richCompare .NotEq (.ref a) (.ref b)) (EP X pins σ Q) X.xe s
  have sb : Sub X (n + 1) X.A := ⟨hr, rfl⟩
  refine rn_listG (N := xs.length) hr.units0 (fun _ s' => LoopI X pins σ H s') (fun i s' q => ?_) (fun s' q' => ?_) ⟨H, I, Ext.rfl'⟩
  · obtain ⟨H1, I1, e1⟩ := id q
    obtain ⟨z, its, k, r, e⟩ := I1.hok a _ (e1 _ _ ha)
    obtain ⟨z2, its2, k2, r2, e2⟩ := I1.hok b _ (e1 _ _ hb)
    refine ⟨its.toArray, its2.toArray, k, k2, e, e2, by rw [List.size_toArray, ← r.length], by rw [List.size_toArray, ← r2.length, ← p.1], fun h1 h2 => ?_⟩
    exact turnG hD h sb p r r2 i h1 h2 s' q
  · obtain ⟨H1, I1, e1⟩ := q'
    exact ⟨.bl false, H1, I1, rfl, q H1 e1⟩
/-- instances of C by their own ==, a positional promise -/
theorem eqG_insR {CX : CXT} {C f : Addr} {R : Addr → Addr → Hp → Prop} {E : XK} (F : FnR X.prog X.w X.K X.mg X.base CX n f (spEq R))
    (hs : PySem.W.findIn X.K (.ref C) "__eq__" = some (some (.ref f))) (hf : PySem.W.isFn X.K (.ref f) = true) (hx : Passes CX X E) : EqG X n (DIns C R) := by
  have rc : RcG X n (DIns C R) := by
    intro A pins s σ H x y u v sb I rx ry d
    obtain ⟨a, b, dx, dy, fs, gs, rfl, rfl, ha, hb', hr⟩ := d
    cases rx
    cases ry
    obtain ⟨mA, J, _⟩ := ins_get I.hok ha
    obtain ⟨mB, J', _⟩ := ins_get I.hok hb'
    obtain ⟨od, J, _⟩ := J.look
    obtain ⟨od', J', _⟩ := J'.look
    obtain ⟨m, hF⟩ := I.fr
    refine PySem.W.cmp_K (op := .Eq) (tb := .ref C) sb.room.units0 hF I.ok.mod.kin J J'.type (by simp [PySem.W.notFirst]) hs hf ?_
    have hsp : spEq R [.ref a, .ref b] H (fun v H' => v = .bl true ∧ Ext H H') E := ⟨a, b, rfl, hr, fun H' e => ⟨rfl, e⟩⟩
    have e0 : Env0 X.prog X.w X.K X.mg X.base A X.stack s H := by
      have e := I.env0
      exact ⟨by rw [sb.fr]; exact e.frames, e.mod, e.bs, e.bsz, e.funs, e.frf, e.hok, e.bare⟩
    have r2 : Vals [V.ref a, V.ref b] [Value.ref a, Value.ref b] := .cons rfl (.cons rfl .nil)
    refine wpAny_call (codeAny_mono (F A X.stack s H [.ref a, .ref b] [.ref a, .ref b] _ E sb.room e0 r2 hsp) fun r s' hq => ?_)
    cases r with
    | error e => exact hx pins σ H s e s' I hq
    | ok fl =>
      cases fl with
      | ret w =>
        obtain ⟨z, H', I', rz, ez, ex⟩ := I.after hq
        subst ez
        cases rz
        exact ⟨rfl, H', I', ex⟩
      | next => exact False.elim hq
      | brk => exact False.elim hq
      | cont => exact False.elim hq
  exact rc.eqG fun _ _ _ d => let ⟨a, b, _, _, _, _, hx, hy, _⟩ := d; ⟨a, b, hx, hy⟩
end
end Ow
end
section
set_option maxHeartbeats 4000000
/-! Defs that are called while nothing is being shown (repr of containers asks it), and the end of a law whose def asks it. -/
namespace Ow
open PySem PySem.Spec PyProof.Rows L2 StX

/-- a promise by positional values, of calls while no repr runs -/
def FnG (P : Program) (w : World) (K : PySem.W.Frag) (mg : Str → Option Value) (base : Heap) (CX : CXT) (k : Nat) (f : Addr) (sp : Sp) : Prop :=
  ∀ (A : Around) (outer : List Env) (s : Shared) (H : Hp) (us : List Value) (vs : List V) (Q : VK) (E : XK), Room k A → A.guards = some [] → Env0 P w K mg base A outer s H → Vals vs us → sp vs H Q E →
    codeAny (model P w) A (.call (.ref f) ⟨us, []⟩) (CR CX outer P w H s Q E) s
section
variable {P : Program} {w : World} {K : PySem.W.Frag} {mg : Str → Option Value} {base : Heap} {CX : CXT} {j k : Nat} {f : Addr} {sp sp' : Sp} {x qual : Str} {st : Stmt}
theorem FnG.mono (F : FnG P w K mg base CX j f sp) (h : j ≤ k) : FnG P w K mg base CX k f sp := fun A outer s H us vs Q E hr => F A outer s H us vs Q E (hr.mono h)
theorem FnG.imp (F : FnG P w K mg base CX k f sp) (h : ∀ vs H Q E, sp' vs H Q E → sp vs H Q E) : FnG P w K mg base CX k f sp' := fun A outer s H us vs Q E hr g e0 r hs => F A outer s H us vs Q E hr g e0 r (h _ _ _ _ hs)
theorem FnT.okG {N ps : List Str} (F : FnT K x qual st [] f) (S : FnScope N ps (defScope st))
    (hb : ∀ (kV doc pm : Value) (an : Option Addr) (cdv ct : Value) (us : List Value), us.length = ps.length → bindArgs (PySem.W.fnOf x qual (defArgs st) (defBody st) (defScope st) .none kV doc pm an cdv ct) ⟨us, []⟩ = pure (ps.zip us))
    (len : ∀ vs H Q E, sp vs H Q E → vs.length = ps.length)
    (hbody : ∀ (cdv : Value) (A : Around) (outer : List Env) (s : Shared) (H : Hp) (vs : List V) (Q : VK) (E : XK), Room k (A.deeper (envOfC qual (defScope st) s.heap.objs.size f cdv)) → A.guards = some [] → sp vs H Q E →
      ∃ t, PSs (cxOf CX0 P w K mg base N qual (defScope st) f cdv A outer s H E).nox (defBody st) t ∧ t { nx := fun _ H' => Q .non H', rt := Q } (start N vs) H) : FnG P w K mg base CX0 (k + 1) f sp := by
  obtain ⟨fd, F⟩ := F
  intro A outer s H us vs Q E hr hg e0 r hs
  have b := F.bindsN hb
  obtain ⟨oc, od, dV, kV, doc, pm, an, cdv, ct, osl, rfl, lk, hcd, _, _⟩ := F.ex
  have hv := len _ _ _ _ hs
  have hu : us.length = ps.length := r.length.symm.trans hv
  have b1 : BindsTo s (PySem.W.fnOf x qual (defArgs st) (defBody st) (defScope st) dV kV doc pm an cdv ct) ⟨us, []⟩ (ps.zip us) := by
    have := b s us (e0.mod.kin.keeps fun b o e => (e0.bs b o e).1) (by rw [List.append_nil]; exact hu)
    rw [List.append_nil] at this
    exact this
  refine LamX.run_ofS lk hcd S hr e0 b1 r hv fun hr2 => ?_
  obtain ⟨t, h, q⟩ := hbody cdv A outer s H vs Q E hr2 hg hs
  exact ⟨t, h.nox, q⟩
end
section
variable {X : Cx} {CX : CXT} {n : Nat} {sp : Sp} {E : XK}
theorem pe_callG {x : Str} {f : Addr} {e : Expr} {es : List Expr} {t : TA} {p pos : Pos} (F : FnG X.prog X.w X.K X.mg X.base CX n f sp) (hr : Room n X.A) (gd : X.A.guards = some []) (hm : X.mg x = some (.ref f)) (hk : PySem.W.keepIn X.K (.ref f) = true) (hx : Passes CX X E)
    (ha : PA X (e :: es) t) (hg : Gl X x := by rfl) (hdb : (x == ("__debug__" : Str)) = false := by decide) (he : starEach (e :: es) X.env = (false, eval e X.env) :: starEach es X.env := by rfl) (hpl : (backTo pos (starEach es X.env)).any (·.1) = false := by rfl) :
    PE X (.Call (.Name x p) (e :: es) [] pos) (tCallR sp E t) := by
  refine ⟨fun pins s σ H Q I h => ?_⟩
  refine wpAny_Call_Name_kw (ld_glob I hg hm ?_ hdb)
  refine PySem.W.callWith_K (h₀ := X.base) I.ok.mod.kin hk (thn (ha.run pos pins s σ H _ I h) fun us s1 ⟨vs, H1, I1, r, q⟩ => ⟨I1.kIn, ?_⟩) he hpl
  refine wpAny_call (codeAny_mono (F X.A X.stack s1 H1 us vs Q E hr gd I1.env0 r q) fun r s' hq => ?_)
  cases r with
  | error e => exact hx pins σ H1 s1 e s' I1 hq
  | ok fl =>
    cases fl with
    | ret u => exact I1.after hq
    | next => exact False.elim hq
    | brk => exact False.elim hq
    | cont => exact False.elim hq

/-- repr of data: its text -/
def rReprD (K : PySem.W.Frag) : List V → Hp → VK → Prop := fun xs H Q => ∃ (x : V) (d : PyData), xs = [x] ∧ Dp K H x d ∧ d.showable = true ∧ d.hasDict = false ∧ d.depth ≤ 8 ∧ d.shown.length ≤ sizeLine ∧ Q (.str d.shown) H
theorem call_reprD (gd : X.A.guards = some []) (hu : X.A.units + 64 < cLine) : CallR X (.builtin "repr") (rReprD X.K) := by
  intro pins s σ H xs us Q I r h
  obtain ⟨x, d, rfl, hd, hs, hnd, hdp, hsz, q⟩ := h
  obtain ⟨u, rfl, ru⟩ := vals1 r
  have fin : ∀ (h' : Heap) (tk : Nat) (u : Tok), (∀ b o, s.heap.get? b = some o → h'.get? b = some o) → EP X pins σ Q (.str d.shown u) { s with heap := h', toks := tk } := fun h' tk u k => ⟨.str d.shown, H, I.kept (t' := tk) k, ⟨u, rfl⟩, q⟩
  cases hd with
  | non => cases ru; exact PySem.P.repr_of_none (fin s.heap _ _ fun _ _ e => e)
  | bl b => cases ru; exact PySem.P.repr_of_bool (by cases b <;> exact fin s.heap _ _ fun _ _ e => e)
  | int i =>
    obtain ⟨t, rfl⟩ := ru
    have hi : i.natAbs.log2 < 1920 := of_decide_eq_true hs
    exact PySem.P.repr_of_int hi (fin s.heap _ _ fun _ _ e => e)
  | str z => obtain ⟨t, rfl⟩ := ru; exact PySem.P.repr_of_str (fin s.heap _ _ fun _ _ e => e) hsz
  | @lst a zs ds hq ha =>
    cases ru
    obtain ⟨as, rd⟩ := Dp.reads I _ _ _ (.lst hq ha) rfl
    exact repr_of_reads' rd hs (PyData.noDict_hsm hnd) gd (by omega) (fun _ _ e => e) (fun h' u tk k => fin h' tk u k) hsz
  | @tup a zs ds hq ha =>
    cases ru
    obtain ⟨as, rd⟩ := Dp.reads I _ _ _ (.tup hq ha) rfl
    exact repr_of_reads' rd hs (PyData.noDict_hsm hnd) gd (by omega) (fun _ _ e => e) (fun h' u tk k => fin h' tk u k) hsz
end

/-! ### the end of a law whose def wants to know that nothing is being shown -/
section
variable {P : Program} {w : World} {K : PySem.W.Frag} {mg mb : Str → Option Value} {k : Nat} {fa a : Addr} {sp : Sp} {s1 : Shared} {vs : List Value} {ns : List Int}
/-- the call, from one abstract heap that tracks the script alone, or nothing -/
theorem end_from (KX : K.In s1.heap) (hns : s1.heap.Ns mainGlobals mg) (hb : s1.heap.Ns builtinsNs mb) (hbb : ∀ x : Str, x ≠ "__name__" → mb x = bootBuiltins x) (hlim : s1.heap.NoLimit) (hg : s1.gens = #[]) (hr : Room k callerA)
    (F : ∀ base : Heap, K.In base → base.Ns mainGlobals mg → FnG P w K mg base CX0 k fa sp) {H : Hp} (hO : Only H) (hok : HOk P w H s1.heap) (dom : ∀ b u, H b = some u → K.lookup b = none ∧ ∃ o items n, s1.heap.get? b = some o ∧ o.data = .seq items n)
    (hsp : sp [.ref a] H (fun v _ => v = .bl true) fun _ _ _ => False) :
    codeAny (model P w) callerA (.call (.ref fa) ⟨[.ref a], []⟩) (fun r s' => r = .ok (.ret (.bool true)) ∧ OldK s1.heap s'.heap ∧ s'.os = s1.os ∧ AllBare s'.gens) s1 := by
  let base := hidT s1.heap H
  have dicts : ∀ {b : Addr} {o : Obj} {es : Array DictEntry} {ep : Nat}, s1.heap.get? b = some o → o.data = .dict es ep → base.get? b = some o := fun {b o es ep} e d => by
    refine hidT_get e ?_
    cases q : H b with
    | none => rfl
    | some u =>
      obtain ⟨_, o2, items, n, e2, d2⟩ := dom b u q
      rw [e2] at e
      cases e
      rw [d2] at d
      cases d
  have names : ∀ {b : Addr} {m : Str → Option Value}, s1.heap.Ns b m → base.Ns b m := fun z => by
    obtain ⟨o, es, ep, e, d, r⟩ := z
    exact ⟨o, es, ep, dicts e d, d, r⟩
  have hK : K.In base := fun b o e => by
    refine hidT_get (KX b o e) ?_
    cases q : H b with
    | none => rfl
    | some u =>
      have z := (dom b u q).1
      rw [e] at z
      cases z
  have lim : base.NoLimit := by
    obtain ⟨m, h1, h2⟩ := hlim
    exact ⟨m, names h1, h2⟩
  have e0 : Env0 P w K mg base callerA [] s1 H :=
    { frames := rfl, mod := ⟨hK, names hns, ⟨mb, names hb, hbb⟩, lim⟩, bs := fun b o e => of_hidT e, bsz := Nat.le_of_eq (hidT_size _ _), funs := trivial, frf := fun b hb => (List.not_mem_nil hb).elim, hok := hok, bare := .of_eq hg }
  refine codeAny_mono (F base hK (names hns) callerA [] s1 H [.ref a] [.ref a] _ _ hr rfl e0 (.cons rfl .nil) hsp) fun r s' h => ?_
  cases r with
  | error e => exact False.elim h
  | ok fl =>
    cases fl with
    | ret u =>
      obtain ⟨v, H2, os, bare, un, ok2, rv, q⟩ := h
      subst q
      cases rv
      refine ⟨rfl, OldK.of_keep fun b o e => ?_, os, bare⟩
      cases q : H b with
      | none => exact un.keep b o e q (fun z => List.not_mem_nil z) (fun z => List.not_mem_nil z)
      | some u =>
        rcases hO b with z | ⟨ob, xs, z⟩
        · rw [q] at z
          cases z
        · have e1 := (hok b _ z).1
          have e2 := (ok2 b _ (un.frzs b ob _ z)).1
          rw [e] at e1
          cases e1
          exact e2
    | next => exact False.elim h
    | brk => exact False.elim h
    | cont => exact False.elim h
theorem end_callG (KX : K.In s1.heap) (hns : s1.heap.Ns mainGlobals mg) (hb : s1.heap.Ns builtinsNs mb) (hbb : ∀ x : Str, x ≠ "__name__" → mb x = bootBuiltins x) (hlim : s1.heap.NoLimit) (hg : s1.gens = #[]) (hr : Room k callerA)
    (ha : s1.heap.get? a = some { cls := .type "list", data := .seq vs.toArray }) (hi : IntsAre vs ns) (hl : ns.length ≤ sizeLine) (F : ∀ base : Heap, K.In base → base.Ns mainGlobals mg → FnG P w K mg base CX0 k fa sp)
    (hsp : ∀ H : Hp, Only H → SqL K H a (ns.map V.int) → sp [.ref a] H (fun v _ => v = .bl true) fun _ _ _ => False) :
    codeAny (model P w) callerA (.call (.ref fa) ⟨[.ref a], []⟩) (fun r s' => r = .ok (.ret (.bool true)) ∧ OldK s1.heap s'.heap ∧ s'.os = s1.os ∧ AllBare s'.gens) s1 := by
  have rv := vals_ints hi
  have hl2 : (ns.map V.int).length ≤ sizeLine := by rw [List.length_map]; exact hl
  cases hk : K.lookup a with
  | some o =>
    have e := KX a o hk
    rw [ha] at e
    cases e
    refine end_from KX hns hb hbb hlim hg hr F (H := fun _ => none) (fun _ => .inl rfl) (fun b u z => by cases z) (fun b u z => by cases z) (hsp _ (fun _ => .inl rfl) ?_)
    exact .inr ⟨_, vs.toArray, _, hk, rfl, rfl, rfl, by rw [List.size_toArray, hi.length]; exact hl, by simpa using rv⟩
  | none =>
    let o : Obj := { cls := .type "list", data := .seq vs.toArray }
    let H : Hp := fun b => if b = a then some (.frz o (.lst (ns.map V.int))) else none
    have H1 : H a = some (.frz o (.lst (ns.map V.int))) := if_pos rfl
    have H0 : ∀ b u, H b = some u → b = a ∧ u = .frz o (.lst (ns.map V.int)) := fun b u z => by
      by_cases e : b = a
      · subst e
        rw [H1] at z
        cases z
        exact ⟨rfl, rfl⟩
      · have z0 : H b = none := if_neg e
        rw [z0] at z
        cases z
    have hO : Only H := fun b => by
      by_cases e : b = a
      · subst e; exact .inr ⟨_, _, H1⟩
      · exact .inl (if_neg e)
    refine end_from KX hns hb hbb hlim hg hr F (H := H) hO (fun b u z => ?_) (fun b u z => ?_) (hsp _ hO (.inl (.inr ⟨_, H1⟩)))
    · obtain ⟨rfl, rfl⟩ := H0 b u z
      exact ⟨ha, hl2, vs, _, rv, ha⟩
    · obtain ⟨rfl, rfl⟩ := H0 b u z
      exact ⟨hk, _, _, _, ha, rfl⟩
end
theorem walk_ofG {l : PySem.W.OpenLaw} {n k : Nat} {q : Program} {loose : List Str} {XP : (Str → Option Value) → Heap → Prop} {YP : World → Heap → Prop} {d : DefRec} {K : Params → PySem.W.Frag} {sp : World → Sp}
    (hn : l.most = some n) (hn2 : n ≤ sizeLine) (hdf : d.params.defaults = []) (hr : Room k callerA) (hY : ∀ (w : World) (h : Heap), YP w h → (K w.params).In h)
    (F : ∀ (w : World) (mg : Str → Option Value) (fa : Addr) (h : Heap), (K w.params).In h → h.Ns mainGlobals mg → mg d.name = some (.ref fa) →
      ∀ base : Heap, (K w.params).In base → base.Ns mainGlobals mg → FnG l.prog w (K w.params) mg base CX0 k fa (sp w))
    (hsp : ∀ (w : World) (H : Hp) (a : Addr) (ns : List Int), ns.length ≤ n → Only H → SqL (K w.params) H a (ns.map V.int) → sp w [.ref a] H (fun v _ => v = .bl true) fun _ _ _ => False) :
    PySem.W.WalkO q loose XP YP l.row.toRowW d [] (fun f vs => PySem.call f vs) := by
  refine Att.attach_call hn hdf fun w s0 s1 mg mb fa o pm cd doc a vs ns G Y ho hd hcd hmg hobj hints hlen hg => ?_
  have KX := hY w _ Y
  exact end_callG KX G.T.g G.T.b G.T.builtins G.T.nolimit hg hr hobj hints (Nat.le_trans hlen hn2) (F w mg fa _ KX G.T.g hmg) fun H hO hS => hsp w H a ns hlen hO hS
end Ow
end
section
set_option maxHeartbeats 4000000
/-! Own errors with a def of their own that keeps the fields: raise C(e), raise C(e, e'). -/
namespace Ow
open PySem PySem.Spec PyProof.Rows L2 StX
section
variable {P : Program} {w : World} {K : PySem.W.Frag} {mg : Str → Option Value} {base : Heap} {x qual : Str} {st : Stmt} {f : Addr}
/-- a def without defaults that may let errors out -/
theorem FnT.okX {N ps : List Str} {k : Nat} {sp : Sp} (F : FnT K x qual st [] f) (S : FnScope N ps (defScope st))
    (hb : ∀ (kV doc pm : Value) (an : Option Addr) (cdv ct : Value) (us : List Value), us.length = ps.length → bindArgs (PySem.W.fnOf x qual (defArgs st) (defBody st) (defScope st) .none kV doc pm an cdv ct) ⟨us, []⟩ = pure (ps.zip us))
    (len : ∀ vs H Q E, sp vs H Q E → vs.length = ps.length)
    (hbody : ∀ (cdv : Value) (A : Around) (outer : List Env) (s : Shared) (H : Hp) (vs : List V) (Q : VK) (E : XK), Room k (A.deeper (envOfC qual (defScope st) s.heap.objs.size f cdv)) → sp vs H Q E →
      ∃ t, PSs (cxOf (CX P w) P w K mg base N qual (defScope st) f cdv A outer s H E) (defBody st) t ∧ t { nx := fun _ H' => Q .non H', rt := Q } (start N vs) H) : FnR P w K mg base (CX P w) (k + 1) f sp := by
  obtain ⟨fd, F⟩ := F
  have ok : FnOk P w K mg base (CX P w) (k + 1) f fd ps sp := F.ok S len hbody
  have b : Binds K fd ps [] := F.bindsN hb
  exact (ok.raw b .nil).imp fun vs H Q E h => by rw [List.append_nil]; exact h
/-- .. with defaults -/
theorem FnT.okDX {N ps : List Str} {k n j : Nat} {sp : Sp} {dvs : List V} (F : FnT K x qual st dvs f) (S : FnScope N ps (defScope st)) (hd : dvs ≠ []) (hn : n + (dvs.length - j) = ps.length)
    (hb : ∀ (T : Addr) (kV doc pm : Value) (an : Option Addr) (cdv ct : Value) (us its : List Value), us.length = n → its.length = dvs.length →
      ∃ k, bindArgs (PySem.W.fnOf x qual (defArgs st) (defBody st) (defScope st) (.ref T) kV doc pm an cdv ct) ⟨us, []⟩ = seqItems? (.ref T) >>= k ∧ k (some its.toArray) = pure (ps.zip (us ++ its.drop j)))
    (len : ∀ vs H Q E, sp vs H Q E → vs.length = ps.length)
    (hbody : ∀ (cdv : Value) (A : Around) (outer : List Env) (s : Shared) (H : Hp) (vs : List V) (Q : VK) (E : XK), Room k (A.deeper (envOfC qual (defScope st) s.heap.objs.size f cdv)) → sp vs H Q E →
      ∃ t, PSs (cxOf (CX P w) P w K mg base N qual (defScope st) f cdv A outer s H E) (defBody st) t ∧ t { nx := fun _ H' => Q .non H', rt := Q } (start N vs) H) : FnR P w K mg base (CX P w) (k + 1) f (fun vs H Q E => sp (vs ++ dvs.drop j) H Q E) := by
  obtain ⟨fd, F⟩ := F
  have ok : FnOk P w K mg base (CX P w) (k + 1) f fd ps sp := F.ok S len hbody
  obtain ⟨ds, hds, b⟩ := F.binds1 n j hd hn hb
  exact ok.raw b hds
/-- an own error's class, whose __init__ stands at g -/
structure ErrF (K : PySem.W.Frag) (C g : Addr) : Prop where
  ox : OexC K C
  iC : PySem.W.findIn K (.ref C) "__init__" = some (some (.ref g))
  tI : PySem.W.typeIn K (.ref g) = some (.type "function")
/-- __init__(self, v): self.f = v -/
def spErr1 (C : Addr) (n : Str) : Sp := fun vs H Q _ => ∃ (a : Addr) (v : V), vs = [.ref a, v] ∧ H a = some (exo a C none) ∧ ∀ dx, H dx = none → dx ≠ a → Q .non (upd (upd H dx (exd dx [(n, v)])) a (exo a C (some dx)))
/-- __init__(self, v, u): self.f = v; self.g = u -/
def spErr2 (C : Addr) (n m : Str) : Sp := fun vs H Q _ => ∃ (a : Addr) (v u : V), vs = [.ref a, v, u] ∧ H a = some (exo a C none) ∧ ∀ dx, H dx = none → dx ≠ a → Q .non (upd (upd H dx (exd dx [(m, u), (n, v)])) a (exo a C (some dx)))
theorem raise_heap {H : Hp} {a d : Addr} {C : Addr} {fs : List (Str × V)} (ha : H a = none) (hne : d ≠ a) :
    upd (del (upd (upd (upd H a (exo a C none)) d (exd d fs)) a (exo a C (some d))) a) d (.xd fs) = upd H d (.xd fs) := by
  funext b
  by_cases e : b = d
  · subst e; rw [upd_same, upd_same]
  · rw [upd_ne e, upd_ne e]
    by_cases e2 : b = a
    · subst e2
      rw [ha]
      exact if_pos rfl
    · show (if b = a then none else _) = _
      rw [if_neg e2, upd_ne e2, upd_ne e, upd_ne e2]
/-- what making such an error asks: the reading of pmk_oex, its fields told -/
theorem err1_made {Q : XK} {H1 : Hp} {v : V} {C : Addr} {n : Str} (k : ∀ d, H1 d = none → Q (.ref C) (some d) (upd H1 d (.xd [(n, v)]))) :
    [v].length ≤ 1000 ∧ ∀ a, H1 a = none → spErr1 C n (.ref a :: ([v] ++ [])) (upd H1 a (exo a C none)) (fun u H2 => u = .non ∧ ∃ (d : Addr) (fs : List (Str × V)), H2 a = some (exo a C (some d)) ∧ H2 d = some (exd d fs) ∧ H1 d = none ∧ Q (.ref C) (some d) (upd (del H2 a) d (.xd fs))) (fun _ _ _ => False) := by
  refine ⟨Nat.le_of_ble_eq_true rfl, fun a ha => ⟨a, v, rfl, upd_same, fun dx hdx ne => ⟨rfl, dx, _, upd_same, by rw [upd_ne ne]; exact upd_same, by rw [upd_ne ne] at hdx; exact hdx, ?_⟩⟩⟩
  rw [raise_heap ha ne]
  refine k dx ?_
  rw [upd_ne ne] at hdx
  exact hdx
theorem err2_made {Q : XK} {H1 : Hp} {v u : V} {C : Addr} {n m : Str} (k : ∀ d, H1 d = none → Q (.ref C) (some d) (upd H1 d (.xd [(m, u), (n, v)]))) :
    [v, u].length ≤ 1000 ∧ ∀ a, H1 a = none → spErr2 C n m (.ref a :: ([v, u] ++ [])) (upd H1 a (exo a C none)) (fun u H2 => u = .non ∧ ∃ (d : Addr) (fs : List (Str × V)), H2 a = some (exo a C (some d)) ∧ H2 d = some (exd d fs) ∧ H1 d = none ∧ Q (.ref C) (some d) (upd (del H2 a) d (.xd fs))) (fun _ _ _ => False) := by
  refine ⟨Nat.le_of_ble_eq_true rfl, fun a ha => ⟨a, v, u, rfl, upd_same, fun dx hdx ne => ⟨rfl, dx, _, upd_same, by rw [upd_ne ne]; exact upd_same, by rw [upd_ne ne] at hdx; exact hdx, ?_⟩⟩⟩
  rw [raise_heap ha ne]
  refine k dx ?_
  rw [upd_ne ne] at hdx
  exact hdx
/-- a def without defaults that lets nothing out: its promise by binds, for makings of errors -/
theorem FnT.okB {N ps : List Str} {k : Nat} {sp : Sp} (F : FnT K x qual st [] f) (S : FnScope N ps (defScope st))
    (hb : ∀ (kV doc pm : Value) (an : Option Addr) (cdv ct : Value) (us : List Value), us.length = ps.length → bindArgs (PySem.W.fnOf x qual (defArgs st) (defBody st) (defScope st) .none kV doc pm an cdv ct) ⟨us, []⟩ = pure (ps.zip us))
    (len : ∀ vs H Q E, sp vs H Q E → vs.length = ps.length)
    (hbody : ∀ (cdv : Value) (A : Around) (outer : List Env) (s : Shared) (H : Hp) (vs : List V) (Q : VK) (E : XK), Room k (A.deeper (envOfC qual (defScope st) s.heap.objs.size f cdv)) → sp vs H Q E →
      ∃ t, PSs (cxOf CX0 P w K mg base N qual (defScope st) f cdv A outer s H E).nox (defBody st) t ∧ t { nx := fun _ H' => Q .non H', rt := Q } (start N vs) H) : ∃ fd, FnOk P w K mg base CX0 (k + 1) f fd ps sp ∧ Binds K fd ps [] := by
  obtain ⟨fd, F⟩ := F
  exact ⟨fd, F.ok S len fun cdv A outer s H vs Q E hr hsp => by
    obtain ⟨t, h, q⟩ := hbody cdv A outer s H vs Q E hr hsp
    exact ⟨t, h.nox, q⟩, F.bindsN hb⟩
/-- v is no integer (a bool is none) -/
def NoInt (K : PySem.W.Frag) (H : Hp) (v : V) : Prop := (∃ b, v = .bl b) ∨ ∃ T : String, TyX K H v (.type T) ∧ PySem.W.kitOne K (.type T) (.type "int") = some false
theorem kit_bool_int {K : PySem.W.Frag} : PySem.W.kitOne K (.type "bool") (.type "int") = some true := kit_ty (by decide +kernel)
theorem NoInt.non {H : Hp} : NoInt K H .non := .inr ⟨_, .base .non, kit_ty (by decide +kernel)⟩
theorem NoInt.bl {H : Hp} {b : Bool} : NoInt K H (.bl b) := .inl ⟨b, rfl⟩
theorem NoInt.str {H : Hp} {z : Str} : NoInt K H (.str z) := .inr ⟨_, .base (.str z), kit_ty (by decide +kernel)⟩
theorem NoInt.lst {H : Hp} {l : Addr} {xs : List V} (h : H l = some (.lst xs)) : NoInt K H (.ref l) := .inr ⟨_, .base (.lst h), kit_ty (by decide +kernel)⟩
theorem NoInt.tup {H : Hp} {l : Addr} {xs : List V} (h : H l = some (.tup xs)) : NoInt K H (.ref l) := .inr ⟨_, .base (.tup h), kit_ty (by decide +kernel)⟩
theorem NoInt.dict {H : Hp} {l : Addr} {kvs : List (Key × V)} (h : H l = some (.dK kvs)) : NoInt K H (.ref l) := .inr ⟨_, .base (.dK h), kit_ty (by decide +kernel)⟩
/-- is_int of any value -/
def spIntV (K : PySem.W.Frag) : Sp := fun vs H Q _ => ∃ v, vs = [v] ∧ ((∃ i : Int, v = .int i ∧ Q (.bl true) H) ∨ (NoInt K H v ∧ Q (.bl false) H))
/-- the error of the class at B lets out, with one field -/
def Out1 (B : Addr) (n : Str) (H : Hp) (E : XK) (v : V) : Prop := ∀ d, H d = none → E (.ref B) (some d) (upd H d (.xd [(n, v)]))
theorem TyOf.same {H H' : Hp} {v : V} {t : Value} (h : TyOf K H v t) (m : ∀ b o, H b = some o → H' b = some o) : TyOf K H' v t := by
  cases h with
  | non => exact .non
  | bl x => exact .bl x
  | int i => exact .int i
  | str x => exact .str x
  | flt x => exact .flt x
  | lst h => exact .lst (m _ _ h)
  | frz h => exact .frz (m _ _ h)
  | tup h => exact .tup (m _ _ h)
  | dK h => exact .dK (m _ _ h)
  | dT h => exact .dT (m _ _ h)
  | ins h c a b d e => exact .ins (m _ _ h) c a b d e
theorem TyX.same {H H' : Hp} {v : V} {t : Value} (h : TyX K H v t) (m : ∀ b o, H b = some o → H' b = some o) : TyX K H' v t := by
  cases h with
  | base h => exact .base (TyOf.same h m)
  | byt b => exact .byt b
  | set h => exact .set (m _ _ h)
  | kList h c => exact .kList h c
  | kTuple h c => exact .kTuple h c
  | kDict h c => exact .kDict h c
  | fTuple h => exact .fTuple (m _ _ h)
  | fDict h => exact .fDict (m _ _ h)
theorem NoInt.same {H H' : Hp} {v : V} (h : NoInt K H v) (m : ∀ b o, H b = some o → H' b = some o) : NoInt K H' v := by
  rcases h with h | ⟨t, h, q⟩
  · exact .inl h
  · exact .inr ⟨t, TyX.same h m, q⟩
/-- .. from a heap that has grown -/
def OutS (B : Addr) (n : Str) (H : Hp) (E : XK) (v : V) : Prop := ∀ H', (∀ b o, H b = some o → H' b = some o) → Out1 B n H' E v
end
/-- what a callee lets out leaves the def -/
theorem passUp {X : Cx} {E : XK} (tk : Takes X fun cls d _ H => E cls d H) : Passes (CX X.prog X.w) X E := fun pins σ H s e s' I h => passAt tk σ pins H s e s' I h
end Ow
end
section
set_option maxHeartbeats 4000000
/-! isinstance of a caught own error that keeps fields; what a def that tries its argument tells. -/
namespace Ow
open PySem PySem.Spec PyProof.Rows L2 StX
section
variable {X : Cx} {a : Addr} {oe : Obj} {cls : Value} {d : Option Addr} {pn : List (Addr × Obj)}
/-- isinstance(error, T): error the caught one, with its fields at dd -/
def rIsEX (K : PySem.W.Frag) (a : Addr) (cls : Value) (d : Option Addr) : List V → Hp → VK → Prop := fun xs H Q => ∃ (c : V) (cv : Value) (b : Bool) (D dd : Addr) (fs : List (Str × V)),
  xs = [.ref a, c] ∧ cls = .ref D ∧ ExcC K D ∧ (PySem.W.clsIn K D).isSome = true ∧ d = some dd ∧ H dd = some (.xd fs) ∧ (∀ u, RelV c u → u = cv) ∧ PySem.W.kitOne K (.ref D) cv = some b ∧ Q (.bl b) H
theorem call_isEX (hz : Zc cls d oe) (hf : ∃ vs, oe.data = .fields vs) : CallR (X.suite a ((a, oe) :: pn)) (.builtin "isinstance") (rIsEX X.K a cls d) := by
  intro pins s σ H xs us Q I r h
  obtain ⟨c, cv, b, D, dd, fs, rfl, rfl, C, hci, rfl, hdd, hcv, hk, q⟩ := h
  cases r with
  | cons rx r2 =>
    cases r2 with
    | cons rc r3 =>
      cases r3
      cases rx
      cases hcv _ rc
      obtain ⟨hget, _⟩ := I.pin (a, oe) (List.mem_append.mpr (.inl List.mem_cons_self))
      obtain ⟨vs, hv⟩ := hf
      obtain ⟨z1, z2⟩ := hz
      obtain ⟨od, hod⟩ : ∃ o, s.heap.get? dd = some o := by
        have := I.hok dd _ hdd
        obtain ⟨mA, ⟨o, _, _, e, _⟩, _⟩ := this
        exact ⟨o, e⟩
      have J : PySem.W.InstAt s.heap a oe D (some od) := ⟨hget, z1, by unfold PySem.W.notCls; rw [hv], by rw [z2]; exact hod⟩
      refine PySem.W.kia_one (PySem.W.kitx_exc (x := a) (ox := oe) (od := some od) hci C.hg C.hk C.hs C.ha C.hn C.ht C.hm) I.kIn J hk (fun z => by cases z) fun tk => ?_
      exact ⟨.bl b, H, I.kept fun _ _ e => e, rfl, q⟩
end
/-- return (z, ask()), ask a handed lambda that may raise -/
theorem ret_told {X : Cx} {f c' : Addr} {q z : Str} {tl : XK → Hp → VK → Prop} {W : WX} {n : Str} {j ct : Nat} {p0 p1 p2 pt ps : Pos}
    (act : ∀ E : XK, (∀ cls d σ' H', E cls d H' → W cls d σ' H') → PE X (.Call (.Name n p1) [] [] p2) (fun σZ HZ Q => σZ[0]? = some (some (.ref f)) ∧ HZ c' = some (LamX.CodeO c' q) ∧ tl E HZ Q)) :
    PSs X [.Return (some (.Tuple [.Constant (.str z) j p0, .Call (.Name n p1) [] [] p2] ct pt)) ps] (fun D σ H => ∃ Ech : XK, (∀ cls d σ' H', Ech cls d H' → W cls d σ' H') ∧ σ[0]? = some (some (.ref f)) ∧ H c' = some (LamX.CodeO c' q) ∧
      tl Ech H (fun v H1 => [V.str z, v].length ≤ sizeLine ∧ ∀ p, H1 p = none → D.rt (.ref p) (upd H1 p (.tup [.str z, v])))) := by
  refine ⟨fun pins s' σ H' D I ⟨Ech, hW, h1, h2, h3⟩ => ?_⟩
  exact (pss_one (ps_ret (pe_tup (pa_cons pe_str (pa_cons (act Ech hW) pa_nil))))).run pins s' σ H' D I ⟨h1, h2, h3⟩
/-- as many slots as names stand at each statement -/
theorem pss_len {X : Cx} {b : List Stmt} {t : TS} (n : Nat) (hn : X.N.length = n) (h : PSs X b t) : PSs X b (fun D σ H => σ.length = n → t D σ H) := ⟨fun pins s σ H D I q => h.run pins s σ H D I (q (I.len.trans hn))⟩
/-- an own class against another one -/
theorem kit_err {K : PySem.W.Frag} {C : Addr} {t : Value} {b : Bool} (hi : (PySem.W.clsIn K C).isSome = true) (ht : PySem.W.typeIn K (.ref C) = some (.type "type")) (h : PySem.W.subIn K t (.ref C) = some b) (hb : (t == Value.ref C) = false) : PySem.W.kitOne K t (.ref C) = some b := by
  unfold PySem.W.kitOne
  rw [if_neg (by rw [hb]; exact Bool.false_ne_true)]
  show (if ((PySem.W.clsIn K C).isSome && PySem.W.typeIn K (.ref C) == some (.type "type")) = true then PySem.W.subIn K t (.ref C) else none) = some b
  rw [hi, ht]
  rw [if_pos (by rfl)]
  exact h
end Ow
end
section
set_option maxHeartbeats 4000000
/-! A comparison of an own instance with a value of another kind. -/
namespace Ow
open PySem PySem.Spec PyProof.Rows L2 StX
section
variable {X : Cx} {CX : CXT} {n : Nat} {C g : Addr} {sp : Sp} {E : XK}
/-- x op y: x an instance of C, y of the type t, that is not below C -/
def rBinT (K : PySem.W.Frag) (C : Addr) (sp : Sp) (E : XK) : R2 := fun x y H Q => ∃ (a : Addr) (t : Value), x = .ref a ∧ InsAt H a C ∧ TyX K H y t ∧ PySem.W.notFirst K C t = true ∧ sp [x, y] H Q E
theorem op_cmpT {op : CmpOp} (hop : ∀ a b, compareOp op a b = richCompare op a b) (hs : PySem.W.findIn X.K (.ref C) (cmpInfo op).2.1 = some (some (.ref g))) (hf : PySem.W.isFn X.K (.ref g) = true)
    (F : FnR X.prog X.w X.K X.mg X.base CX n g sp) (hr : Room n X.A) (hx : Passes CX X E) : OpR X (compareOp op) (rBinT X.K C sp E) := by
  intro pins s σ H x y v u Q I rx ry h
  obtain ⟨a, t, rfl, ha, ht, hn, q⟩ := h
  cases (show v = Value.ref a from rx)
  obtain ⟨ox, od, J⟩ := inst_of I ha
  obtain ⟨m, hF⟩ := I.fr
  obtain ⟨Pk, k, hk, _⟩ := kit_of I ry ht
  rw [hop]
  refine PySem.W.cmp_K (op := op) (tb := t) hr.units0 hF I.ok.mod.kin J (k.ty _ _ I.kIn hk) hn hs hf ?_
  refine wpAny_mono (wpAny_call (run_fnR (us := [.ref a, u]) (vs := [.ref a, y]) F hr hx I (.cons rfl (.cons ry .nil)) q)) (fun w s' z => ?_) fun _ _ x => x
  obtain ⟨z', H', I', rz, qz⟩ := z
  exact cmpbackR rz ⟨z', H', I', rz, qz⟩
theorem notFirst_of {K : PySem.W.Frag} {T : String} (h : PySem.W.subIn K (.type T) (.ref C) = some false) : PySem.W.notFirst K C (.type T) = true := by
  unfold PySem.W.notFirst
  rw [h]
  simp
end
end Ow
end
section
set_option maxHeartbeats 4000000
/-! A law whose def hands lambdas over: its code is told, and the code's table. -/
namespace Ow
open PySem PySem.Spec PyProof.Rows L2 StX
section
variable {P : Program} {w : World} {K : PySem.W.Frag} {mg : Str → Option Value} {base : Heap} {x qual : Str} {st : Stmt} {f c : Addr}
/-- a def of the text without defaults, its code at c -/
def FnC (K : PySem.W.Frag) (x qual : Str) (st : Stmt) (f c : Addr) : Prop := ∃ (oc : Value) (od an : Option Addr) (kV doc pm ct : Value) (osl : Array (Option Value)),
  K.lookup f = some ⟨oc, od, .func (PySem.W.fnOf x qual (defArgs st) (defBody st) (defScope st) .none kV doc pm an (.ref c) ct), osl⟩ ∧ PySem.W.codeIn K (.ref c) qual = true
theorem FnC.mk {oc : Value} {od an : Option Addr} {kV doc pm ct : Value} {osl : Array (Option Value)} (l : K.lookup f = some ⟨oc, od, .func (PySem.W.fnOf x qual (defArgs st) (defBody st) (defScope st) .none kV doc pm an (.ref c) ct), osl⟩) (h : PySem.W.codeIn K (.ref c) qual = true) : FnC K x qual st f c := ⟨oc, od, an, kV, doc, pm, ct, osl, l, h⟩
theorem FnC.ok {N ps : List Str} (F : FnC K x qual st f c) (S : FnScope N ps (defScope st))
    (hb : ∀ (kV doc pm : Value) (an : Option Addr) (cdv ct : Value) (us : List Value), us.length = ps.length → bindArgs (PySem.W.fnOf x qual (defArgs st) (defBody st) (defScope st) .none kV doc pm an cdv ct) ⟨us, []⟩ = pure (ps.zip us)) :
    ∃ fd : FuncData, (∀ (s : Shared) (us : List Value), us.length = ps.length → BindsTo s fd ⟨us, []⟩ (ps.zip us)) ∧ ∀ (P : Program) (w : World) (mg : Str → Option Value) (base : Heap) (k : Nat) (sp : Sp), (∀ vs H Q E, sp vs H Q E → vs.length = ps.length) →
      (∀ (A : Around) (outer : List Env) (s : Shared) (H : Hp) (vs : List V) (Q : VK) (E : XK), Room k (A.deeper (envOfC qual (defScope st) s.heap.objs.size f (.ref c))) → sp vs H Q E →
        ∃ t, PSs (cxOf CX0 P w K mg base N qual (defScope st) f (.ref c) A outer s H E).nox (defBody st) t ∧ t { nx := fun _ H' => Q .non H', rt := Q } (start N vs) H) → FnOk P w K mg base CX0 (k + 1) f fd ps sp := by
  obtain ⟨oc, od, an, kV, doc, pm, ct, osl, lk, hcd⟩ := F
  refine ⟨_, fun s us hu => BindsTo.of_eq (hb kV doc pm an (.ref c) ct us hu), fun P w mg base k sp len hbody => ⟨len, fun A outer s H args us vs Q E hr e0 b r hs => ?_⟩⟩
  refine LamX.run_ofS lk hcd S hr e0 b r (len _ _ _ _ hs) fun hr2 => ?_
  obtain ⟨t, h, q⟩ := hbody A outer s H vs Q E hr2 hs
  exact ⟨t, h.nox, q⟩
/-- a code object, its table at T -/
theorem codeHd_mk {h : Heap} {T : Addr} {od : Option Addr} {vs : Array Value} {osl : Array (Option Value)} {file : Str} {tf : Tok} {flags text : Int} {tg tt : Tok} {inF : Bool} (X : K.In h) (l : K.lookup c = some ⟨.type "code", od, .fields vs, osl⟩)
    (e1 : vs[11]? = some (.ref T)) (e2 : vs.getD 11 .none = .ref T) (e3 : vs.getD 18 .none = .str file tf) (e4 : vs.getD 7 .none = .int flags tg) (e5 : vs.getD 9 .none = .bool inF) (e6 : vs.getD 10 .none = .int text tt) (ne : c ≠ T) : PySem.W.CodeHd h c T :=
  ⟨_, vs, file, tf, flags, tg, inF, text, tt, X _ _ l, rfl, rfl, e1, e2, e3, e4, e5, e6, ne⟩
end
/-- a table is not of the written part -/
theorem km_none {K : Params → PySem.W.Frag} {as ts : List Addr} {e : ∀ P, as = (K P).map fun x => x.1} {w : World} {h : Heap} (_ : (PySem.W.kmHook K as e ts).says w h) {T : Addr} (n : as.contains T = false) : List.lookup T (K w.params) = none := by
  rw [List.lookup_eq_none_iff]
  intro p hp
  have m : p.1 ∈ as := by rw [e w.params]; exact List.mem_map.mpr ⟨p, hp, rfl⟩
  refine bne_iff_ne.mpr fun q => ?_
  rw [← q] at m
  have := List.contains_iff_mem.mpr m
  rw [n] at this
  cases this
end Ow
end
section
set_option maxHeartbeats 4000000
/-! A def with defaults and without keyword-only parameters, called by keywords. -/
namespace Ow
open PySem PySem.Spec PyProof.Rows L2 StX
section
variable {K : PySem.W.Frag} {x qual : Str} {params : Arguments} {body : List Stmt} {scope : PySem.Scope} {dvs : List V} {kws : List (Str × V)} {f : Addr} {fd : FuncData} {ps : List Str}
/-- n arguments by place, ks by keyword; g puts the defaults in -/
theorem kbnD (F : FunD K x qual params body scope dvs kws f fd) (n : Nat) (ks : List Str) (g : {α : Type} → List α → List α → List α → List α) (hd : dvs ≠ [])
    (hg : ∀ {vs ds zs : List V} {us its ws : List Value}, Vals vs us → Vals ds its → Vals zs ws → Vals (g vs ds zs) (g us its ws))
    (h : ∀ (T : Addr) (kV doc pm : Value) (an : Option Addr) (cdv ct : Value) (us its ws : List Value), us.length = n → its.length = dvs.length → ws.length = ks.length →
      ∃ k, bindArgs (PySem.W.fnOf x qual params body scope (.ref T) kV doc pm an cdv ct) ⟨us, ks.zip ws⟩ = seqItems? (.ref T) >>= k ∧ k (some its.toArray) = pure (ps.zip (g us its ws))) :
    ∃ its, KBn K fd ps n ks (fun us ws => g us its ws) fun vs zs => g vs dvs zs := by
  obtain ⟨oc, od, dV, kV, doc, pm, an, cdv, ct, osl, rfl, lk, hcd, hD, hK⟩ := F.ex
  rcases hD with ⟨e, _⟩ | ⟨_, T, o, its, m, rfl, lT, oT, rT⟩
  · exact absurd e hd
  refine ⟨its, ⟨fun s us ws X hu hw => ?_, fun r1 r2 => hg r1 rT r2⟩⟩
  obtain ⟨k, e1, e2⟩ := h T kV doc pm an cdv ct us its ws hu rT.length.symm hw
  exact BindsTo.of_looks fun M => by
    rw [e1]
    exact looks_items X lT oT (PySem.W.Looks.of_pure e2)
end
section
variable {X : Cx} {CX : CXT} {k : Nat} {f : Addr} {fd : FuncData} {ps ks : List Str} {sp : Sp} {E : XK} {x : Str} {p pos : Pos} {kws : List Keyword} {tk : TA} {g : List Value → List Value → List Value} {gV : List V → List V → List V}
/-- f(k=e, ..): by keywords alone -/
def tCallKO (m : Nat) (sp : Sp) (gV : List V → List V → List V) (E : XK) (tk : TA) : TE := fun σ H Q => tk σ H fun zs H2 => zs.length = m ∧ sp (gV [] zs) H2 Q E
theorem pe_callKO (F : FnOk X.prog X.w X.K X.mg X.base CX k f fd ps sp) (hr : Room k X.A) (hg : Gl X x) (hm : X.mg x = some (.ref f)) (hk : PySem.W.keepIn X.K (.ref f) = true) (hb : KBn X.K fd ps 0 ks g gV) (hx : Passes CX X E) (hkw : PK X kws tk)
    (hall : ((backToKw pos (keywordEach kws X.env)).all fun x => x.1.isSome) = true := by rfl) (hks : List.filterMap (fun x => x.1) (backToKw pos (keywordEach kws X.env)) = ks := by rfl) (hdb : (x == Str.ofString "__debug__") = false := by decide)
    (hpl : (((backTo pos (starEach [] X.env)).any fun x => x.1) || (backToKw pos (keywordEach kws X.env)).any fun x => x.1.isNone) = false := by rfl) :
    PE X (.Call (.Name x p) [] kws pos) (tCallKO ks.length sp gV E tk) := by
  refine ⟨fun pins s σ H Q I h => ?_⟩
  refine wpAny_Call_Name_kw (ld_glob I hg hm ?_ hdb)
  refine PySem.W.callWith_KW0 I.ok.mod.kin hk hall (thn (hkw.run pos pins s σ H _ I h) fun ws s2 z => ?_) hpl
  obtain ⟨zs, H2, I2, rz, l2, q2⟩ := z
  refine ⟨I2.kIn, ?_⟩
  rw [hks]
  exact run_fnN (us := []) (vs := []) F hr hb hx I2 .nil rz rfl l2 q2
end
end Ow
end
section
set_option maxHeartbeats 4000000
/-! `x in o`, `x not in o` and `str(o)` where o is an instance of an own class that defines them. -/
namespace Ow
open PySem PySem.Spec PyProof.Rows L2

theorem unlessNone_fn {K : PySem.W.Frag} {M : Model} {A : Around} {E : Value → Shared → Prop} {s : Shared} {x C f : Addr} {ox : Obj} {od : Option Obj} {name : Str} {args : List Value} {refuse : Sem Value} {Q : Option Value → Shared → Prop}
    (X : K.In s.heap) (I : PySem.W.InstAt s.heap x ox C od) (hs : PySem.W.findIn K (.ref C) name = some (some (.ref f))) (hf : PySem.W.typeIn K (.ref f) = some (.type "function"))
    (h : wpAny M A (call (.ref f) (.ref x :: args)) (fun v => Q (some v)) E s) : wpAny M A (callSpecialUnlessNone? (.ref x) name args refuse) Q E s :=
  wpAny_bind (wpAny_bind (I.type.here ((PySem.W.looks_findIn X hs).here (wpAny_holding (wpAny_bind ((PySem.W.bind_fn X _ hf).here (wpAny_bind (wpAny_mono h (fun _ _ z => wpAny_pure z) fun _ _ z => z))))))))

theorem contains_own {K : PySem.W.Frag} {M : Model} {A : Around} {E : Value → Shared → Prop} {s : Shared} {x C f : Addr} {ox : Obj} {od : Option Obj} {v : Value} {Q : Bool → Shared → Prop}
    (X : K.In s.heap) (I : PySem.W.InstAt s.heap x ox C od) (hs : PySem.W.findIn K (.ref C) "__contains__" = some (some (.ref f))) (hf : PySem.W.isFn K (.ref f) = true)
    (h : wpAny M A (call (.ref f) [.ref x, v]) (fun r s' => ∃ b, r = .bool b ∧ Q b s') E s) : wpAny M A (contains (.ref x) v) Q E s := by
  unfold contains
  refine wpAny_holding ?_
  refine wpAny_bind (m := specialOf (.ref x) "__contains__") (wpAny_bind (I.type.here ((PySem.W.looks_findIn X hs).here ?_)))
  dsimp only
  rw [if_neg (show ¬ (some (Value.ref f) == some Value.none) = true from fun z => by cases z)]
  refine wpAny_bind (m := callSpecialUnlessNone? (.ref x) (Str.ofString "__contains__") [v] _) (unlessNone_fn X I hs (beq_iff_eq.mp hf) (wpAny_mono h (fun r s' z => ?_) fun _ _ z => z))
  obtain ⟨b, rfl, q⟩ := z
  exact wpAny_truthy_bool q

section
variable {X : Cx} {CX : CXT} {n : Nat} {C g : Addr} {sp : Sp} {E : XK}
/-- x in o, o an instance of C -/
def rInO (C : Addr) (sp : Sp) (E : XK) (f : Bool → Bool) : R2 := fun x y H Q => ∃ a, y = .ref a ∧ InsAt H a C ∧ sp [y, x] H (fun v H' => ∃ b, v = .bl b ∧ Q (.bl (f b)) H') E
theorem op_inO (hs : PySem.W.findIn X.K (.ref C) "__contains__" = some (some (.ref g))) (hf : PySem.W.isFn X.K (.ref g) = true)
    (F : FnR X.prog X.w X.K X.mg X.base CX n g sp) (hr : Room n X.A) (hx : Passes CX X E) : OpR X (compareOp .In) (rInO C sp E id) := by
  intro pins s σ H x y v u Q I rx ry h
  obtain ⟨a, rfl, ha, q⟩ := h
  cases (show u = Value.ref a from ry)
  obtain ⟨ox, od, J⟩ := inst_of I ha
  obtain ⟨m, hF⟩ := I.fr
  refine wpAny_bind (contains_own (I.ok.mod.kin.keeps hF.keep) J hs hf ?_)
  refine wpAny_mono (wpAny_call (run_fnR (us := [.ref a, v]) (vs := [.ref a, x]) F hr hx I (.cons rfl (.cons rx .nil)) q)) (fun w s' z => ?_) fun _ _ x => x
  obtain ⟨z', H', I', rz, b, rfl, qz⟩ := z
  exact ⟨b, rz, wpAny_pure ⟨.bl b, H', I', rfl, qz⟩⟩
theorem op_notInO (hs : PySem.W.findIn X.K (.ref C) "__contains__" = some (some (.ref g))) (hf : PySem.W.isFn X.K (.ref g) = true)
    (F : FnR X.prog X.w X.K X.mg X.base CX n g sp) (hr : Room n X.A) (hx : Passes CX X E) : OpR X (compareOp .NotIn) (rInO C sp E fun b => !b) := by
  intro pins s σ H x y v u Q I rx ry h
  obtain ⟨a, rfl, ha, q⟩ := h
  cases (show u = Value.ref a from ry)
  obtain ⟨ox, od, J⟩ := inst_of I ha
  obtain ⟨m, hF⟩ := I.fr
  refine wpAny_bind (contains_own (I.ok.mod.kin.keeps hF.keep) J hs hf ?_)
  refine wpAny_mono (wpAny_call (run_fnR (us := [.ref a, v]) (vs := [.ref a, x]) F hr hx I (.cons rfl (.cons rx .nil)) q)) (fun w s' z => ?_) fun _ _ x => x
  obtain ⟨z', H', I', rz, b, rfl, qz⟩ := z
  exact ⟨b, rz, wpAny_pure ⟨.bl (!b), H', I', rfl, qz⟩⟩
/-- a callee runs further down than the body -/
theorem run_fnRS {pins : List (Addr × Obj)} {σ : L2.St} {H : Hp} {s : Shared} {A : Around} {Q : VK} {us : List Value} {vs : List V} (F : FnR X.prog X.w X.K X.mg X.base CX n g sp) (hr : Room n A) (hfr : A.frames = X.A.frames) (hx : Passes CX X E) (I : Inv X pins σ H s) (r : Vals vs us) (h : sp vs H Q E) :
    codeAny (model X.prog X.w) A (.call (.ref g) ⟨us, []⟩) (fun r s' => match r with | .ok (.ret v) => EP X pins σ Q v s' | .ok _ => False | .error e => X.xe e s') s := by
  have e0 : Env0 X.prog X.w X.K X.mg X.base A X.stack s H := by
    have e := I.env0
    exact ⟨by rw [hfr]; exact e.frames, e.mod, e.bs, e.bsz, e.funs, e.frf, e.hok, e.bare⟩
  refine codeAny_mono (F A X.stack s H us vs Q E hr e0 r h) fun r s' hq => ?_
  cases r with
  | error e => exact hx pins σ H s e s' I hq
  | ok fl =>
    cases fl with
    | ret u => exact I.after hq
    | next => exact False.elim hq
    | brk => exact False.elim hq
    | cont => exact False.elim hq
/-- str(o), o an instance of C that has a __str__ -/
def rStrO (C : Addr) (sp : Sp) (E : XK) : List V → Hp → VK → Prop := fun xs H Q => ∃ a, xs = [.ref a] ∧ InsAt H a C ∧ sp [.ref a] H (fun v H' => ∃ t, v = .str t ∧ Q (.str t) H') E
theorem call_strO (hs : PySem.W.findIn X.K (.ref C) "__str__" = some (some (.ref g))) (hf : PySem.W.isFn X.K (.ref g) = true)
    (F : FnR X.prog X.w X.K X.mg X.base CX n g sp) (hr : Room (n + 2) X.A) (hx : Passes CX X E) : CallR X (.type "str") (rStrO C sp E) := by
  intro pins s σ H xs us Q I r h
  obtain ⟨a, rfl, ha, q⟩ := h
  obtain ⟨u, rfl, ru⟩ := vals1 r
  cases (show u = Value.ref a from ru)
  obtain ⟨ox, od, J⟩ := inst_of I ha
  obtain ⟨m, hF⟩ := I.fr
  refine PySem.W.kso_call hr.in1.in1.units0 (I.ok.mod.kin.keeps hF.keep) J hs hf ?_
  refine wpAny_mono (wpAny_call (run_fnRS (us := [.ref a]) (vs := [.ref a]) F hr.in1.in1 rfl hx I (.cons rfl .nil) q)) (fun w s' z => ?_) fun _ _ x => x
  obtain ⟨z', H', I', rz, t, rfl, qz⟩ := z
  obtain ⟨tk, rfl⟩ := rz
  exact ⟨.str t, H', I', ⟨tk, rfl⟩, qz⟩
end
end Ow
end
section
set_option maxHeartbeats 4000000
/-! The end of a law whose def hands lambdas over and asks repr of containers: nothing is being shown, and the codes' tables are told. -/
namespace Ow
open PySem PySem.Spec PyProof.Rows L2 StX
section
variable {P : Program} {w : World} {K : PySem.W.Frag} {mg mb : Str → Option Value} {k : Nat} {fa a c T : Addr} {sp : Sp} {s1 : Shared} {vs : List Value} {ns : List Int}
/-- a table that is still empty -/
abbrev tab0 : Obj := { cls := .none, data := .fields #[] }
/-- what stands in the abstract heap at the begin: the table, and perhaps the script -/
structure Begin (K : PySem.W.Frag) (h : Heap) (T : Addr) (H : Hp) : Prop where
  tab : H T = some (.tbl #[])
  rest : ∀ b, b ≠ T → H b = none ∨ ∃ o xs items n, H b = some (.frz o (.lst xs)) ∧ K.lookup b = none ∧ h.get? b = some o ∧ o.data = .seq items n
theorem end_fromT (KX : K.In s1.heap) (hns : s1.heap.Ns mainGlobals mg) (hb : s1.heap.Ns builtinsNs mb) (hbb : ∀ x : Str, x ≠ "__name__" → mb x = bootBuiltins x) (hlim : s1.heap.NoLimit) (hg : s1.gens = #[]) (hr : Room k callerA)
    (eT : s1.heap.get? T = some tab0) (nT : K.lookup T = none) (cT : PySem.W.CodeHd s1.heap c T)
    (main : ∃ (m : Addr) (o : Obj), mg "__builtins__" = some (.ref m) ∧ m ≠ builtinsNs ∧ s1.heap.get? m = some o ∧ o.cls = .type "module" ∧ o.dict = some builtinsNs ∧ o.data = .plain)
    (F : ∀ base : Heap, K.In base → base.Ns mainGlobals mg → LamX.TabB base mg c T → FnG P w K mg base CX0 k fa sp) {H : Hp} (B : Begin K s1.heap T H) (hok : HOk P w H s1.heap)
    (hsp : sp [.ref a] H (fun v _ => v = .bl true) fun _ _ _ => False) :
    codeAny (model P w) callerA (.call (.ref fa) ⟨[.ref a], []⟩) (fun r s' => r = .ok (.ret (.bool true)) ∧ OldK s1.heap s'.heap ∧ s'.os = s1.os ∧ AllBare s'.gens) s1 := by
  let base := hidT s1.heap H
  have free : ∀ {b : Addr} {o : Obj}, s1.heap.get? b = some o → (∀ items n, o.data ≠ .seq items n) → o.data ≠ .fields #[] → base.get? b = some o := fun {b o} e d1 d2 => by
    refine hidT_get e ?_
    by_cases q : b = T
    · rw [q, eT] at e
      cases e
      exact (d2 rfl).elim
    · rcases B.rest b q with z | ⟨o2, xs, items, n, _, _, e2, z⟩
      · exact z
      · rw [e] at e2
        cases e2
        exact (d1 _ _ z).elim
  have names : ∀ {b : Addr} {m : Str → Option Value}, s1.heap.Ns b m → base.Ns b m := fun z => by
    obtain ⟨o, es, ep, e, d, r⟩ := z
    exact ⟨o, es, ep, free e (fun _ _ y => by rw [d] at y; cases y) (fun y => by rw [d] at y; cases y), d, r⟩
  have hK : K.In base := fun b o e => by
    refine hidT_get (KX b o e) ?_
    by_cases q : b = T
    · rw [q, nT] at e
      cases e
    · rcases B.rest b q with z | ⟨o2, xs, items, n, _, z, _⟩
      · exact z
      · rw [e] at z
        cases z
  have lim : base.NoLimit := by
    obtain ⟨m, h1, h2⟩ := hlim
    exact ⟨m, names h1, h2⟩
  have TB : LamX.TabB base mg c T := by
    refine ⟨?_, ?_, fun z => ?_⟩
    · obtain ⟨o, us, file, tf, flags, tg, inF, text, tt, e1, p1, p2, p3, p4, p5, p6, p7, p8, p9⟩ := cT
      exact ⟨o, us, file, tf, flags, tg, inF, text, tt, free e1 (fun _ _ y => by rw [p2] at y; cases y) (fun y => by rw [p2] at y; cases y; simp at p3), p1, p2, p3, p4, p5, p6, p7, p8, p9⟩
    · obtain ⟨m, o, q1, q2, q3, q4, q5, q6⟩ := main
      refine ⟨m, o, q1, q2, fun y => ?_, fun y => ?_, free q3 (fun _ _ y => by rw [q6] at y; cases y) (fun y => by rw [q6] at y; cases y), q4, q5, q6⟩
      · obtain ⟨og, es, ep, e, d, _⟩ := hns
        rw [y, e] at q3
        cases q3
        rw [q6] at d
        cases d
      · rw [y, eT] at q3
        cases q3
        cases q6
    · obtain ⟨og, es, ep, e, d, _⟩ := hns
      rw [z, eT] at e
      cases e
      cases d
  have e0 : Env0 P w K mg base callerA [] s1 H :=
    { frames := rfl, mod := ⟨hK, names hns, ⟨mb, names hb, hbb⟩, lim⟩, bs := fun b o e => of_hidT e, bsz := Nat.le_of_eq (hidT_size _ _), funs := trivial, frf := fun b hb => (List.not_mem_nil hb).elim, hok := hok, bare := .of_eq hg }
  refine codeAny_mono (F base hK (names hns) TB callerA [] s1 H [.ref a] [.ref a] _ _ hr rfl e0 (.cons rfl .nil) hsp) fun r s' h => ?_
  cases r with
  | error e => exact False.elim h
  | ok fl =>
    cases fl with
    | next => exact False.elim h
    | brk => exact False.elim h
    | cont => exact False.elim h
    | ret u =>
      obtain ⟨v, H2, os, bare, un, ok2, rv, q⟩ := h
      subst q
      cases rv
      have still : ∀ b o, b ≠ T → s1.heap.get? b = some o → s'.heap.get? b = some o := fun b o nb e => by
        rcases B.rest b nb with z | ⟨o2, xs, items, n, z, _⟩
        · exact un.keep b o e z (fun y => List.not_mem_nil y) (fun y => List.not_mem_nil y)
        · have e1 := (hok b _ z).1
          have e2 := (ok2 b _ (un.frzs b o2 _ z)).1
          rw [e] at e1
          cases e1
          exact e2
      obtain ⟨more, z⟩ := un.tbls T #[] B.tab
      have wide := ok2 T _ z
      refine ⟨rfl, ⟨fun b o e => ?_, fun b o e => ?_⟩, os, bare⟩
      · by_cases q : b = T
        · subst q
          rw [eT] at e
          cases e
          exact .inr (.inl ⟨(cT.tab eT).isCodeTable, rfl, #[], _, rfl, by rw [Array.empty_append]; exact wide⟩)
        · exact .inl (still b o q e)
      · by_cases q : b = T
        · subst q
          exact ⟨_, wide⟩
        · exact ⟨o, still b o q e⟩
theorem end_callT (KX : K.In s1.heap) (hns : s1.heap.Ns mainGlobals mg) (hb : s1.heap.Ns builtinsNs mb) (hbb : ∀ x : Str, x ≠ "__name__" → mb x = bootBuiltins x) (hlim : s1.heap.NoLimit) (hg : s1.gens = #[]) (hr : Room k callerA)
    (eT : s1.heap.get? T = some tab0) (nT : K.lookup T = none) (cT : PySem.W.CodeHd s1.heap c T)
    (main : ∃ (m : Addr) (o : Obj), mg "__builtins__" = some (.ref m) ∧ m ≠ builtinsNs ∧ s1.heap.get? m = some o ∧ o.cls = .type "module" ∧ o.dict = some builtinsNs ∧ o.data = .plain)
    (ha : s1.heap.get? a = some { cls := .type "list", data := .seq vs.toArray }) (hi : IntsAre vs ns) (hl : ns.length ≤ sizeLine) (F : ∀ base : Heap, K.In base → base.Ns mainGlobals mg → LamX.TabB base mg c T → FnG P w K mg base CX0 k fa sp)
    (hsp : ∀ H : Hp, H T = some (.tbl #[]) → SqL K H a (ns.map V.int) → sp [.ref a] H (fun v _ => v = .bl true) fun _ _ _ => False) :
    codeAny (model P w) callerA (.call (.ref fa) ⟨[.ref a], []⟩) (fun r s' => r = .ok (.ret (.bool true)) ∧ OldK s1.heap s'.heap ∧ s'.os = s1.os ∧ AllBare s'.gens) s1 := by
  have rv := vals_ints hi
  have hl2 : (ns.map V.int).length ≤ sizeLine := by rw [List.length_map]; exact hl
  have naT : a ≠ T := fun z => by
    rw [z, eT] at ha
    cases ha
  cases hk : K.lookup a with
  | some o =>
    have e := KX a o hk
    rw [ha] at e
    cases e
    let H : Hp := fun b => if b = T then some (.tbl #[]) else none
    have HT : H T = some (.tbl #[]) := if_pos rfl
    have HN : ∀ b, b ≠ T → H b = none := fun b n => if_neg n
    refine end_fromT KX hns hb hbb hlim hg hr eT nT cT main F (H := H) ⟨HT, fun b n => .inl (HN b n)⟩ (fun b u z => ?_) (hsp H HT ?_)
    · by_cases q : b = T
      · subst q
        rw [HT] at z
        cases z
        exact eT
      · rw [HN b q] at z
        cases z
    · exact .inr ⟨_, vs.toArray, _, hk, rfl, rfl, rfl, by rw [List.size_toArray, hi.length]; exact hl, by simpa using rv⟩
  | none =>
    let o : Obj := { cls := .type "list", data := .seq vs.toArray }
    let H : Hp := fun b => if b = a then some (.frz o (.lst (ns.map V.int))) else if b = T then some (.tbl #[]) else none
    have HA : H a = some (.frz o (.lst (ns.map V.int))) := if_pos rfl
    have HT : H T = some (.tbl #[]) := by show (if T = a then _ else _) = _; rw [if_neg (Ne.symm naT), if_pos rfl]
    have HN : ∀ b, b ≠ a → b ≠ T → H b = none := fun b n n2 => by show (if b = a then _ else _) = _; rw [if_neg n, if_neg n2]
    refine end_fromT KX hns hb hbb hlim hg hr eT nT cT main F (H := H) ⟨HT, fun b n => ?_⟩ (fun b u z => ?_) (hsp H HT (.inl (.inr ⟨_, HA⟩)))
    · by_cases q : b = a
      · subst q
        exact .inr ⟨o, _, _, _, HA, hk, ha, rfl⟩
      · exact .inl (HN b q n)
    · by_cases q : b = a
      · subst q
        rw [HA] at z
        cases z
        exact ⟨ha, hl2, vs, _, rv, ha⟩
      · by_cases q2 : b = T
        · subst q2
          rw [HT] at z
          cases z
          exact eT
        · rw [HN b q q2] at z
          cases z
end
/-- what is to be known of the law's promise at the head's heap -/
def LawT (l : PySem.W.OpenLaw) (w : World) (K : PySem.W.Frag) (k n : Nat) (mg : Str → Option Value) (fa : Addr) (h : Heap) : Prop :=
  ∃ (c T : Addr) (sp : Sp), h.get? T = some tab0 ∧ K.lookup T = none ∧ PySem.W.CodeHd h c T ∧
    (∀ (H : Hp) (a : Addr) (ns : List Int), ns.length ≤ n → H T = some (.tbl #[]) → SqL K H a (ns.map V.int) → sp [.ref a] H (fun v _ => v = .bl true) fun _ _ _ => False) ∧
    ∀ base : Heap, K.In base → base.Ns mainGlobals mg → LamX.TabB base mg c T → FnG l.prog w K mg base CX0 k fa sp
theorem walk_ofTG {l : PySem.W.OpenLaw} {n k : Nat} {q : Program} {loose : List Str} {XP : (Str → Option Value) → Heap → Prop} {YP : World → Heap → Prop} {d : DefRec} {K : Params → PySem.W.Frag}
    (hn : l.most = some n) (hn2 : n ≤ sizeLine) (hdf : d.params.defaults = []) (hr : Room k callerA) (hY : ∀ (w : World) (h : Heap), YP w h → (K w.params).In h)
    (F : ∀ (w : World) (mg : Str → Option Value) (fa : Addr) (h : Heap), YP w h → (K w.params).In h → h.Ns mainGlobals mg → mg d.name = some (.ref fa) → LawT l w (K w.params) k n mg fa h) :
    PySem.W.WalkO q loose XP YP l.row.toRowW d [] (fun f vs => PySem.call f vs) := by
  refine Att.attach_call hn hdf fun w s0 s1 mg mb fa o pm cd doc a vs ns G Y ho hd hcd hmg hobj hints hlen hg => ?_
  have KX := hY w _ Y
  obtain ⟨c, T, sp, eT, nT, cT, hsp, hF⟩ := F w mg fa _ Y KX G.T.g hmg
  exact end_callT KX G.T.g G.T.b G.T.builtins G.T.nolimit hg hr eT nT cT G.T.bmain hobj hints (Nat.le_trans hlen hn2) hF fun H hH hS => hsp H a ns hlen hH hS
end Ow
end
section
set_option maxHeartbeats 4000000
/-! A law's def, its code told, called while nothing is being shown; what stays when a lambda is made. -/
namespace Ow
open PySem PySem.Spec PyProof.Rows L2 StX
section
variable {P : Program} {w : World} {K : PySem.W.Frag} {mg : Str → Option Value} {base : Heap} {x qual : Str} {st : Stmt} {f c : Addr}
theorem FnC.okG {N ps : List Str} {k : Nat} {sp : Sp} (F : FnC K x qual st f c) (S : FnScope N ps (defScope st))
    (hb : ∀ (kV doc pm : Value) (an : Option Addr) (cdv ct : Value) (us : List Value), us.length = ps.length → bindArgs (PySem.W.fnOf x qual (defArgs st) (defBody st) (defScope st) .none kV doc pm an cdv ct) ⟨us, []⟩ = pure (ps.zip us))
    (len : ∀ vs H Q E, sp vs H Q E → vs.length = ps.length)
    (hbody : ∀ (A : Around) (outer : List Env) (s : Shared) (H : Hp) (vs : List V) (Q : VK) (E : XK), Room k (A.deeper (envOfC qual (defScope st) s.heap.objs.size f (.ref c))) → A.guards = some [] → sp vs H Q E →
      ∃ t, PSs (cxOf CX0 P w K mg base N qual (defScope st) f (.ref c) A outer s H E).nox (defBody st) t ∧ t { nx := fun _ H' => Q .non H', rt := Q } (start N vs) H) : FnG P w K mg base CX0 (k + 1) f sp := by
  obtain ⟨oc, od, an, kV, doc, pm, ct, osl, lk, hcd⟩ := F
  intro A outer s H us vs Q E hr hg e0 r hs
  have hv := len _ _ _ _ hs
  refine LamX.run_ofS lk hcd S hr e0 (BindsTo.of_eq (hb kV doc pm an (.ref c) ct us (r.length.symm.trans hv))) r hv fun hr2 => ?_
  obtain ⟨t, h, q⟩ := hbody A outer s H vs Q E hr2 hg hs
  exact ⟨t, h.nox, q⟩
end
section
variable {K : PySem.W.Frag} {H H' : Hp} {v : V} {t : Value}
theorem TyOf.extN (h : TyOf K H v t) (m : LamX.ExtN H H') : TyOf K H' v t := by
  cases h with
  | non => exact .non
  | bl x => exact .bl x
  | int i => exact .int i
  | str x => exact .str x
  | flt x => exact .flt x
  | lst h => exact .lst (m _ _ h fun _ z => by cases z)
  | frz h => exact .frz (m _ _ h fun _ z => by cases z)
  | tup h => exact .tup (m _ _ h fun _ z => by cases z)
  | dK h => exact .dK (m _ _ h fun _ z => by cases z)
  | dT h => exact .dT (m _ _ h fun _ z => by cases z)
  | ins h c a b d e => exact .ins (m _ _ h fun _ z => by cases z) c a b d e
theorem TyX.extN (h : TyX K H v t) (m : LamX.ExtN H H') : TyX K H' v t := by
  cases h with
  | base h => exact .base (TyOf.extN h m)
  | byt b => exact .byt b
  | set h => exact .set (m _ _ h fun _ z => by cases z)
  | kList h c => exact .kList h c
  | kTuple h c => exact .kTuple h c
  | kDict h c => exact .kDict h c
  | fTuple h => exact .fTuple (m _ _ h fun _ z => by cases z)
  | fDict h => exact .fDict (m _ _ h fun _ z => by cases z)
theorem NoInt.extN (h : NoInt K H v) (m : LamX.ExtN H H') : NoInt K H' v := by
  rcases h with h | ⟨t, h, q⟩
  · exact .inl h
  · exact .inr ⟨t, TyX.extN h m, q⟩
end
end Ow
end
section
set_option maxHeartbeats 4000000
/-! A def with defaults: its promise as FnOk, by place and by keywords. -/
namespace Ow
open PySem PySem.Spec PyProof.Rows L2 StX
section
variable {P : Program} {w : World} {K : PySem.W.Frag} {mg : Str → Option Value} {base : Heap} {CX : CXT} {x qual : Str} {params : Arguments} {body : List Stmt} {scope : PySem.Scope} {dvs : List V} {f : Addr} {fd : FuncData} {ps : List Str} {k : Nat} {sp : Sp}
/-- n arguments by place, the defaults behind the first j fill up -/
theorem posR (F : FunD K x qual params body scope dvs [] f fd) (ok : FnOk P w K mg base CX k f fd ps sp) (n j : Nat) (hd : dvs ≠ []) (hn : n + (dvs.length - j) = ps.length)
    (hb : ∀ (T : Addr) (kV doc pm : Value) (an : Option Addr) (cdv ct : Value) (us its : List Value), us.length = n → its.length = dvs.length →
      ∃ k, bindArgs (PySem.W.fnOf x qual params body scope (.ref T) kV doc pm an cdv ct) ⟨us, []⟩ = seqItems? (.ref T) >>= k ∧ k (some its.toArray) = pure (ps.zip (us ++ its.drop j))) : FnR P w K mg base CX k f (fun vs H Q E => sp (vs ++ dvs.drop j) H Q E) := by
  obtain ⟨ds, hds, b⟩ := F.binds1 n j hd hn hb
  exact ok.raw b hds
end
end Ow
end
section
set_option maxHeartbeats 4000000
/-! An instance called by keywords alone; a def without defaults called by keywords; a def called without arguments. -/
namespace Ow
open PySem PySem.Spec PyProof.Rows L2 StX
section
variable {K : PySem.W.Frag} {x qual : Str} {params : Arguments} {body : List Stmt} {scope : PySem.Scope} {f : Addr} {fd : FuncData} {ps ks : List Str} {n : Nat} {g : List Value → List Value → List Value} {gV : List V → List V → List V}
/-- keywords at a def without defaults -/
theorem kbn0 (F : FunD K x qual params body scope [] [] f fd) (hrel : ∀ {vs zs : List V} {us ws : List Value}, Vals vs us → Vals zs ws → Vals (gV vs zs) (g us ws))
    (hb : ∀ (kV doc pm : Value) (an : Option Addr) (cdv ct : Value) (us ws : List Value), us.length = n → ws.length = ks.length → bindArgs (PySem.W.fnOf x qual params body scope .none kV doc pm an cdv ct) ⟨us, ks.zip ws⟩ = pure (ps.zip (g us ws))) : KBn K fd ps n ks g gV := by
  obtain ⟨oc, od, dV, kV, doc, pm, an, cdv, ct, osl, rfl, lk, hcd, hD, hK⟩ := F.ex
  rcases hD with ⟨_, rfl⟩ | ⟨e, _⟩
  · exact ⟨fun s us ws _ hu hw => BindsTo.of_eq (hb kV doc pm an cdv ct us ws hu hw), hrel⟩
  · exact absurd rfl e
end
theorem callKW_of {M : Model} {A : Around} {E : Value → Shared → Prop} {s : Shared} {a : Addr} {p : Pos} {Q : Value → Shared → Prop} {as : List (Bool × Sem Value)} {kws : List (Option Str × Sem Value)} (np : (as.any (·.1) || kws.any (·.1.isNone)) = false)
    (h : wpAny M A (evalArgs (.ref a) true as kws) (fun z s1 => (∃ C ox od, PySem.W.InstAt s1.heap a ox C od ∧ ox.data = .plain) ∧ wpAny M A (call (.ref a) z.pos z.kw) Q E s1) E s) : wpAny M A (callWith p (.ref a) [] as kws) Q E s := by
  unfold callWith
  refine wpAny_bind (wpAny_holding (wpAny_mono h (fun z s1 y => wpAny_bind (wpAny_standAt ?_)) fun _ _ e => e))
  obtain ⟨⟨C, ox, od, J, hd⟩, y⟩ := y
  simp only [np]
  refine wpAny_bind ((PySem.W.kco_keeper (M := M) J hd).here ?_)
  exact wpAny_bind (wpAny_mono (wpAny_operateT y) (fun r s2 hr => wpAny_bind (wpAny_holding (wpAny_point (wpAny_pure hr)))) fun _ _ e => e)
section
variable {X : Cx} {CX : CXT} {k n : Nat} {f C : Addr} {fd : FuncData} {ps ks : List Str} {sp : Sp} {E : XK} {x : Str} {p pos : Pos} {fe : Expr} {kws : List Keyword} {tf : TE} {tk : TA} {g : List Value → List Value → List Value} {gV : List V → List V → List V}
/-- o(k=e, ..): o an expression that gives an instance of C -/
def tCallOK (X : Cx) (C : Addr) (m : Nat) (sp : Sp) (gV : List V → List V → List V) (E : XK) (tf : TE) (tk : TA) : TE := fun σ H Q => tf σ H fun y H1 => ∃ a, y = V.ref a ∧ tk σ H1 fun zs H2 => zs.length = m ∧ InsC X H2 a C ∧ sp (gV [V.ref a] zs) H2 Q E
theorem pe_callOK (hf : PE X fe tf) (c : CallO X.K C f) (F : FnOk X.prog X.w X.K X.mg X.base CX k f fd ps sp) (hr : Room k X.A) (hb : KBn X.K fd ps 1 ks g gV) (hx : Passes CX X E) (hkw : PK X kws tk)
    (ht : eval (.Call fe [] kws pos) X.env = (do callWith pos (← eval fe X.env) [] (backTo pos (starEach [] X.env)) (backToKw pos (keywordEach kws X.env))) := by rfl)
    (hall : ((backToKw pos (keywordEach kws X.env)).all fun x => x.1.isSome) = true := by rfl) (hks : List.filterMap (fun x => x.1) (backToKw pos (keywordEach kws X.env)) = ks := by rfl)
    (hpl : (((backTo pos (starEach [] X.env)).any fun x => x.1) || (backToKw pos (keywordEach kws X.env)).any fun x => x.1.isNone) = false := by rfl) : PE X (.Call fe [] kws pos) (tCallOK X C ks.length sp gV E tf tk) := by
  refine ⟨fun pins s σ H Q I h => ?_⟩
  rw [ht]
  refine wpAny_bind (thn (hf.run pins s σ H _ I h) fun u s1 ⟨y, H1, I1, ry, a, ey, q⟩ => ?_)
  subst ey
  obtain rfl : u = Value.ref a := ry
  refine callKW_of hpl (evalArgs_kw2_nil hall (thn (hkw.run pos pins s1 σ H1 _ I1 q) fun ws s2 ⟨zs, H2, I2, rz, l2, hi, q2⟩ => ?_))
  obtain ⟨ox, od, J, hd⟩ := insC_at I2 hi
  refine ⟨⟨C, ox, od, J, hd⟩, ?_⟩
  rw [hks]
  have r1 : Vals [V.ref a] [Value.ref a] := .cons rfl .nil
  refine wpAny_call (PySem.W.kco_code I2.kIn J hd c.at_ c.fn c.fi (codeAny_mono (F.run X.A X.stack s2 H2 ⟨[.ref a], ks.zip ws⟩ (g [.ref a] ws) (gV [.ref a] zs) Q E hr I2.env0 (hb.to s2 [.ref a] ws I2.kIn rfl (rz.length.symm.trans l2)) (hb.rel r1 rz) q2) fun r s' hq => ?_))
  cases r with
  | error e => exact hx pins σ H2 s2 e s' I2 hq
  | ok fl =>
    cases fl with
    | ret u => exact I2.after hq
    | next => exact False.elim hq
    | brk => exact False.elim hq
    | cont => exact False.elim hq
/-- o(e, ..), told without the context (for a lambda's body) -/
def tCallOI (C : Addr) (sp : Sp) (E : XK) (tf : TE) (t : TA) : TE := fun σ H Q => tf σ H fun y H1 => ∃ a, y = V.ref a ∧ t σ H1 fun vs H2 => InsAt H2 a C ∧ sp (V.ref a :: vs) H2 Q E
theorem pe_callOI {g : Addr} {e : Expr} {es : List Expr} {t : TA} (hf : PE X fe tf) (c : CallO X.K C g) (F : FnR X.prog X.w X.K X.mg X.base CX k g sp) (hr : Room k X.A) (hx : Passes CX X E) (ha : PA X (e :: es) t)
    (ht : eval (.Call fe (e :: es) [] pos) X.env = (do callWith pos (← eval fe X.env) [] (backTo pos (starEach (e :: es) X.env)) (backToKw pos (keywordEach [] X.env))) := by rfl)
    (he : starEach (e :: es) X.env = (false, eval e X.env) :: starEach es X.env := by rfl) (hpl : (backTo pos (starEach es X.env)).any (·.1) = false := by rfl) : PE X (.Call fe (e :: es) [] pos) (tCallOI C sp E tf t) := by
  constructor
  intro pins s σ H Q I h
  rw [ht]
  refine wpAny_bind (thn (hf.run pins s σ H _ I h) fun u s1 z => ?_)
  obtain ⟨y, H1, I1, ry, a, rfl, q⟩ := z
  obtain rfl : u = Value.ref a := ry
  refine callO_with (thn (ha.run pos pins s1 σ H1 _ I1 q) fun us s2 z => ?_) he hpl
  obtain ⟨vs, H2, I2, r, ⟨dx, fs, hi⟩, q2⟩ := z
  have hc : InsC X H2 a C := .inr ⟨dx, fs, hi⟩
  obtain ⟨ox, od, J, hd⟩ := insC_at I2 hc
  exact ⟨⟨C, ox, od, J, hd⟩, run_callO c F hr hx I2 hc r q2⟩
end
end Ow
end
section
set_option maxHeartbeats 4000000
/-! Own errors as values: made, by place or by keywords, their fields read, their classes asked. -/
namespace PySem
namespace OwX
open Builtin Builtin.ObjectAttr HandSPX
section
variable {M : Model} {A : Around} {E : Value → Shared → Prop} {h : Heap} {g : Array GenState} {d : Drawn} {t : Nat} {os : OsState}
variable {nm q : Str} {C N : Addr} {bs bm bmB : List Value} {hdct : Bool} {sn : List Str} {sub : List Value} {ab : Bool} {col : Option Bool} {dd : Option Addr} {k0 k1 k2 k3 k5 : Option Value} {B newId initId : String}
theorem check_new_kw (F : ExcBaseFacts B newId initId bmB) (hT : ∀ X : String, bm.contains (.type X) = bmB.contains (.type X)) {rest : List Value} {kw : List (Str × Value)} {Q : Unit → Shared → Prop}
    (hC : h.get? C = some (excClassObj nm q C N bs bm hdct sn sub ab col dd k0 k1 k2 k3 k5 newId)) (hq : Q () ⟨h, g, d, t, os⟩) : wpAny M A (checkBuiltinCall newId ⟨.ref C :: rest, kw⟩) Q E ⟨h, g, d, t, os⟩ := by
  have hcont : (Value.ref C :: bm).contains (.type B) = true := by rw [List.contains_cons, hT, F.hasB, Bool.or_true]
  have hstar := F.noStar
  simp only [checkBuiltinCall, F.newKind, F.newSplit, F.newRow]
  repeat (first | refine wpAny_loadPart_at hC ?_ | (refine wpAny_isSubtype_exc hC ?_; rw [hcont]) | refine wpAny_staticBase_exc hC ?_ | refine wpAny_madeBy_exc hC ?_ | simp only [bne_self_eq_false, Bool.false_eq_true, if_false] | wp_step)
  exact hq
end
section
variable {prog : Program} {w : World} {A : Around} {E : Value → Shared → Prop} {R : Result → Shared → Prop} {h : Heap} {g : Array GenState} {d : Drawn} {t : Nat} {os : OsState}
variable {nm q : Str} {C N : Addr} {bs bm bmB : List Value} {hdct : Bool} {sn : List Str} {sub : List Value} {ab : Bool} {col : Option Bool} {dd : Option Addr} {k0 k1 k2 k3 k5 : Option Value} {B newId initId : String}
theorem new_kw (F : ExcBaseFacts B newId initId bmB) (hT : ∀ X : String, bm.contains (.type X) = bmB.contains (.type X)) {rest : List Value} {kw : List (Str × Value)}
    (hC : h.get? C = some (excClassObj nm q C N bs bm hdct sn sub ab col dd k0 k1 k2 k3 k5 newId))
    (hq : R (.ok (.ret (.ref (h.objs.size + 1)))) ⟨(h.push { cls := .type "tuple", data := .seq rest.toArray }).push
      { cls := .ref C, data := .fields #[.ref h.objs.size, .none, .none, .none, .bool false, .none] }, g, d, t, os⟩) (hrest : rest.length ≤ sizeLine) :
    codeAny (model prog w) A (.builtin newId ⟨.ref C :: rest, kw⟩) R ⟨h, g, d, t, os⟩ := by
  have hends := F.ends
  have hcB : (Value.ref C :: bm).contains (.type B) = true := by rw [List.contains_cons, hT, F.hasB, Bool.or_true]
  have hcA : (Value.ref C :: bm).contains (.type "AttributeError") = false := by rw [List.contains_cons, hT, F.noAttr]; rfl
  have hcN : (Value.ref C :: bm).contains (.type "NameError") = false := by rw [List.contains_cons, hT, F.noName]; rfl
  refine codeAny_builtinAt F.entry ?_
  unfold Builtin.«BaseException.__new__»
  refine wpAt_bind ?_
  show wpAt _ _ _ (stack >>= _) _ _ _
  refine wpAt_bind (wpAt_stack fun p below => wpAt_of_wpAny ?_)
  wp_walk
  refine wpAt_of_wpAny ?_
  rw [F.owner]
  repeat (first | with_reducible refine wpAny_madeHere_exc F.canon hC ?_ | with_reducible refine wpAny_loadPart_at hC ?_ | (with_reducible refine wpAny_isSubtype_exc hC ?_; first | rw [hcB] | rw [hcA] | rw [hcN]) | wp_step)
  show R _ _
  rw [Heap.size_push]
  exact hq
theorem type_call_kw (F : ExcBaseFacts B newId initId bmB) (hT : ∀ X : String, bm.contains (.type X) = bmB.contains (.type X)) {rest : List Value} {kw : List (Str × Value)} {fI : Addr} {Q : Fin → Shared → Prop}
    (hC : h.get? C = some (excClassObj nm q C N bs bm hdct sn sub ab col dd k0 k1 k2 k3 k5 newId))
    (hi : W.Looks (model prog w) h (typeLookup (.ref C) "__init__") (some (.ref fI))) (hb : ∀ self, W.Looks (model prog w) h (bindSpecial (.ref fI) self) (.ref fI, [self])) (hrest : rest.length ≤ sizeLine)
    (hq : codeAny (model prog w) A (.call (.ref fI) ⟨.ref (h.objs.size + 1) :: rest, kw⟩)
      (fun r s' => match r with | .ok (.ret v) => v = .none ∧ Q (.done (.ret (.ref (h.objs.size + 1)))) s' | .ok _ => False | .error e => E e s')
      ⟨(h.push (W.kdv_tup rest)).push (excO C h.objs.size), g, d, t, os⟩) :
    wpAny (model prog w) A (Builtin.«type.__call__» ⟨.ref C :: rest, kw⟩) Q E ⟨h, g, d, t, os⟩ := by
  repeat (first | with_reducible refine wpAny_loadPart_at hC ?_ | with_reducible refine wpAny_madeBy_exc hC ?_ | wp_step)
  refine codeAny_call_builtin_code (Code.quiet_builtin _ F.quiet) (check_new_kw F hT hC ?_)
  refine new_kw F hT hC ?_ hrest
  show wpAny _ _ _ _ _ _
  have k : ∀ b o, h.get? b = some o → ((h.push (W.kdv_tup rest)).push (excO C h.objs.size)).get? b = some o := fun b o e => Heap.get?_push_of_some _ (Heap.get?_push_of_some _ e)
  have hC₁ := k _ _ hC
  have hget : ((h.push (W.kdv_tup rest)).push (excO C h.objs.size)).get? (h.objs.size + 1) = some (excO C h.objs.size) := by heap_get
  have hcC : (Value.ref C :: bm).contains (.ref C) = true := by simp
  have i1 := hi.keeps k
  have b1 := (hb (.ref (h.objs.size + 1))).keeps k
  unfold isInstance
  repeat (first | with_reducible refine wpAny_loadPart_at hget ?_ | (with_reducible refine wpAny_isSubtype_exc hC₁ ?_; rw [hcC]) | wp_step)
  show wpAny _ _ (typeLookup (.ref C) _) _ _ _
  refine i1.at ?_
  refine wpAny_holding (wpAny_bind (b1.at ?_))
  refine wpAny_bind (wpAny_call (codeAny_mono hq fun r s' z => ?_))
  rcases r with e | (v | _ | _ | _) <;> first | exact z | exact z.elim | skip
  obtain ⟨rfl, z⟩ := z
  first
    | exact wpAny_pure (wpAny_pure z)
    | (wp_walk; exact z)
theorem call_kw (F : ExcBaseFacts B newId initId bmB) (hT : ∀ X : String, bm.contains (.type X) = bmB.contains (.type X)) {rest : List Value} {kw : List (Str × Value)} {fI : Addr}
    (hC : h.get? C = some (excClassObj nm q C N bs bm hdct sn sub ab col dd k0 k1 k2 k3 k5 newId))
    (hi : W.Looks (model prog w) h (typeLookup (.ref C) "__init__") (some (.ref fI))) (hb : ∀ self, W.Looks (model prog w) h (bindSpecial (.ref fI) self) (.ref fI, [self])) (hrest : rest.length ≤ sizeLine)
    (hq : codeAny (model prog w) (A.under (.builtin "type.__call__" ⟨.ref C :: rest, kw⟩)) (.call (.ref fI) ⟨.ref (h.objs.size + 1) :: rest, kw⟩) (W.InitBack (h.objs.size + 1) R)
      ⟨(h.push (W.kdv_tup rest)).push (excO C h.objs.size), g, d, t, os⟩) :
    codeAny (model prog w) A (.call (.ref C) ⟨rest, kw⟩) R ⟨h, g, d, t, os⟩ := by
  have f1 := tc_lookup
  have f2 := tc_bind (.ref C)
  have hTy : (⟨h, g, d, t, os⟩ : Shared).TypeIs (.ref C) "type" := ⟨_, hC, rfl⟩
  refine codeAny_of_tree ?_
  show wpAny _ _ (callAny (.ref C) _) _ _ _
  repeat (any_goals (first | assumption | with_reducible refine wpAny_loadPart_at hC ?_ | wp_step))
  refine ⟨rfl, ?_⟩
  refine codeAny_call_builtin_at (Code.quiet_builtin _ (by decide +kernel)) entry_typeCall (wpAny_check_type_call_sub hC (type_call_kw F hT hC hi hb hrest ?_))
  refine codeAny_mono hq fun r s' z => ?_
  rcases r with e | (v | _ | _ | _) <;> exact z
end
end OwX
end PySem
namespace Ow
open PySem PySem.Spec PyProof.Rows L2 StX
section
variable {X : Cx} {CX : CXT} {x : Str} {C fI : Addr} {k n : Nat} {fd : FuncData} {ps ks : List Str} {sp : Sp} {ds : List Value} {dvs : List V} {E : XK} {p pos : Pos} {e : Expr} {es : List Expr} {kws : List Keyword} {ta tk : TA} {g : List Value → List Value → List Value} {gV : List V → List V → List V}
/-- C(e, ..): a new error, then its __init__; the error is the value -/
def tOex (C : Addr) (sp : Sp) (ta : TA) : TE := fun σ H Q => ta σ H fun vs H1 => vs.length ≤ 1000 ∧ ∀ a, H1 a = none → sp (.ref a :: vs) (upd H1 a (exo a C none)) (fun u H2 => u = .non ∧ Q (.ref a) H2) (fun _ _ _ => False)
theorem pe_oex (T : OexC X.K C) (iC : PySem.W.findIn X.K (.ref C) "__init__" = some (some (.ref fI))) (tI : PySem.W.typeIn X.K (.ref fI) = some (.type "function"))
    (F1 : FnR X.prog X.w X.K X.mg X.base CX (k + 1) fI sp) (hr : Room (k + 2) X.A) (hx : Passes CX X (fun _ _ _ => False)) (hg : Gl X x) (hm : X.mg x = some (.ref C)) (ha : PA X (e :: es) ta)
    (hdb : (x == ("__debug__" : Str)) = false := by decide) (he : starEach (e :: es) X.env = (false, eval e X.env) :: starEach es X.env := by rfl) (hpl : (backTo pos (starEach es X.env)).any (·.1) = false := by rfl) :
    PE X (.Call (.Name x p) (e :: es) [] pos) (tOex C sp ta) := by
  refine ⟨fun pins s σ H Q I h => ?_⟩
  obtain ⟨nm, q, N, bs, bm, sn, sub, ab, col, dd, k0, k1, k2, k3, k5, hC, hbm⟩ := T.cls
  refine wpAny_Call_Name_kw (ld_glob I hg hm ?_ hdb)
  refine PySem.W.callWith_K (h₀ := X.base) I.ok.mod.kin T.kC (thn (ha.run pos pins s σ H _ I h) fun us s1 ⟨vs, H1, I1, r1, hz, q1⟩ => ⟨I1.kIn, ?_⟩) he hpl
  show wpAny _ _ (call (.ref C) us) _ _ _
  obtain ⟨hp, g, dr, tk, os⟩ := s1
  have hsz : hp.objs.size ≤ hp.objs.size + 1 := Nat.le_succ _
  have hn : H1 (hp.objs.size + 1) = none := I1.hok.fresh hsz
  have hq := q1 (hp.objs.size + 1) hn
  have kk : ∀ b o, hp.get? b = some o → ((hp.push (PySem.W.kdv_tup us)).push (PySem.HandSPX.excO C hp.objs.size)).get? b = some o := fun b o e => Heap.get?_push_of_some _ (Heap.get?_push_of_some _ e)
  have hget : ((hp.push (PySem.W.kdv_tup us)).push (PySem.HandSPX.excO C hp.objs.size)).get? (hp.objs.size + 1) = some (PySem.HandSPX.excO C hp.objs.size) := by heap_get
  have I2 : Inv X pins σ (upd H1 (hp.objs.size + 1) (exo (hp.objs.size + 1) C none)) ⟨(hp.push (PySem.W.kdv_tup us)).push (PySem.HandSPX.excO C hp.objs.size), g, dr, tk, os⟩ :=
    I1.laid (t' := tk) (a := hp.objs.size + 1) (o := exo (hp.objs.size + 1) C none) (h' := (hp.push (PySem.W.kdv_tup us)).push (PySem.HandSPX.excO C hp.objs.size)) kk hsz (exo_ok hget)
  have r2 : Vals (V.ref (hp.objs.size + 1) :: vs) (Value.ref (hp.objs.size + 1) :: us) := .cons rfl r1
  have hus : us.length ≤ sizeLine := by
    rw [← Paired.length r1, sizeLine_eq]
    omega
  refine wpAny_call (PySem.HandSPX.call_own F.excBase_ValueError (fun Y => PySem.HandSPX.refsVE_contains Y bm hbm) (I1.kIn _ _ hC) (PySem.W.looks_findIn I1.kIn iC) (fun self => PySem.W.bind_fn I1.kIn self tI) hus
    (codeAny_mono (F1 _ X.stack _ _ (Value.ref (hp.objs.size + 1) :: us) _ _ (fun _ _ _ => False) (hr.make C us []) (I2.env0.make C us []) r2 hq) fun r s' hq' => ?_))
  cases r with
  | error er => exact hx pins σ _ _ er s' I2 hq'
  | ok fl =>
    cases fl with
    | ret u =>
      obtain ⟨v, H', I3, rv, ev, q3⟩ := I2.after hq'
      subst ev
      exact ⟨rv, V.ref (hp.objs.size + 1), H', I3, rfl, q3⟩
    | next => exact False.elim hq'
    | brk => exact False.elim hq'
    | cont => exact False.elim hq'
/-- C(k=e, ..): by keywords alone -/
def tOexK (C : Addr) (m : Nat) (gV : List V → List V → List V) (sp : Sp) (tk : TA) : TE := fun σ H Q => tk σ H fun zs H1 => zs.length = m ∧ ∀ a, H1 a = none → sp (gV [.ref a] zs) (upd H1 a (exo a C none)) (fun u H2 => u = .non ∧ Q (.ref a) H2) (fun _ _ _ => False)
theorem pe_oexK (T : OexC X.K C) (iC : PySem.W.findIn X.K (.ref C) "__init__" = some (some (.ref fI))) (tI : PySem.W.typeIn X.K (.ref fI) = some (.type "function"))
    (F1 : FnOk X.prog X.w X.K X.mg X.base CX k fI fd ps sp) (hr : Room (k + 1) X.A) (hb : KBn X.K fd ps 1 ks g gV) (hx : Passes CX X (fun _ _ _ => False)) (hg : Gl X x) (hm : X.mg x = some (.ref C)) (hkw : PK X kws tk)
    (hall : (backToKw pos (keywordEach kws X.env)).all (·.1.isSome) = true := by rfl) (hks : (backToKw pos (keywordEach kws X.env)).filterMap (·.1) = ks := by rfl) (hdb : (x == ("__debug__" : Str)) = false := by decide)
    (hpl : ((backTo pos (starEach [] X.env)).any (·.1) || (backToKw pos (keywordEach kws X.env)).any (·.1.isNone)) = false := by rfl) :
    PE X (.Call (.Name x p) [] kws pos) (tOexK C ks.length gV sp tk) := by
  refine ⟨fun pins s σ H Q I h => ?_⟩
  obtain ⟨nm, q, N, bs, bm, sn, sub, ab, col, dd, k0, k1, k2, k3, k5, hC, hbm⟩ := T.cls
  refine wpAny_Call_Name_kw (ld_glob I hg hm ?_ hdb)
  refine PySem.W.callWith_KW0 (h₀ := X.base) I.ok.mod.kin T.kC hall (thn (hkw.run pos pins s σ H _ I h) fun ws s1 ⟨zs, H1, I1, rz, l2, q1⟩ => ⟨I1.kIn, ?_⟩) hpl
  rw [hks]
  show wpAny _ _ (call (.ref C) [] (ks.zip ws)) _ _ _
  obtain ⟨hp, g0, dr, tk, os⟩ := s1
  have hsz : hp.objs.size ≤ hp.objs.size + 1 := Nat.le_succ _
  have hn : H1 (hp.objs.size + 1) = none := I1.hok.fresh hsz
  have hq := q1 (hp.objs.size + 1) hn
  have kk : ∀ b o, hp.get? b = some o → ((hp.push (PySem.W.kdv_tup [])).push (PySem.HandSPX.excO C hp.objs.size)).get? b = some o := fun b o e => Heap.get?_push_of_some _ (Heap.get?_push_of_some _ e)
  have hget : ((hp.push (PySem.W.kdv_tup [])).push (PySem.HandSPX.excO C hp.objs.size)).get? (hp.objs.size + 1) = some (PySem.HandSPX.excO C hp.objs.size) := by heap_get
  have I2 : Inv X pins σ (upd H1 (hp.objs.size + 1) (exo (hp.objs.size + 1) C none)) ⟨(hp.push (PySem.W.kdv_tup [])).push (PySem.HandSPX.excO C hp.objs.size), g0, dr, tk, os⟩ :=
    I1.laid (t' := tk) (a := hp.objs.size + 1) (o := exo (hp.objs.size + 1) C none) (h' := (hp.push (PySem.W.kdv_tup [])).push (PySem.HandSPX.excO C hp.objs.size)) kk hsz (exo_ok hget)
  have r1 : Vals [V.ref (hp.objs.size + 1)] [Value.ref (hp.objs.size + 1)] := .cons rfl .nil
  refine wpAny_call (PySem.OwX.call_kw F.excBase_ValueError (fun Y => PySem.HandSPX.refsVE_contains Y bm hbm) (I1.kIn _ _ hC) (PySem.W.looks_findIn I1.kIn iC) (fun self => PySem.W.bind_fn I1.kIn self tI) (Nat.zero_le _)
    (codeAny_mono (F1.run _ X.stack _ _ ⟨[Value.ref (hp.objs.size + 1)], ks.zip ws⟩ (g [Value.ref (hp.objs.size + 1)] ws) _ _ (fun _ _ _ => False) (hr.make C [] (ks.zip ws)) (I2.env0.make C [] (ks.zip ws)) (hb.to _ [Value.ref (hp.objs.size + 1)] ws I2.kIn rfl (rz.length.symm.trans l2)) (hb.rel r1 rz) hq) fun r s' hq' => ?_))
  cases r with
  | error er => exact hx pins σ _ _ er s' I2 hq'
  | ok fl =>
    cases fl with
    | ret u =>
      obtain ⟨v, H', I3, rv, ev, q3⟩ := I2.after hq'
      subst ev
      exact ⟨rv, V.ref (hp.objs.size + 1), H', I3, rfl, q3⟩
    | next => exact False.elim hq'
    | brk => exact False.elim hq'
    | cont => exact False.elim hq'
/-- o.f, o an own error that keeps fields -/
def tXfV (K : PySem.W.Frag) (n : Str) (te : TE) : TE := fun σ H Q => te σ H fun y H1 => ∃ (a C dd : Addr) (fs : List (Str × V)) (v : V), y = .ref a ∧ XfC K C ∧ PySem.W.findIn K (.ref C) n = some none ∧ H1 a = some (exo a C (some dd)) ∧ H1 dd = some (exd dd fs) ∧ fs.lookup n = some v ∧ Q v H1
theorem pe_xfV {te : TE} {n : Str} (he : PE X e te) (hb : attributeBase e n X.env (eval e X.env) = eval e X.env := by rfl) : PE X (.Attribute e n pos) (tXfV X.K n te) := by
  refine ⟨fun pins s σ H Q I h => ?_⟩
  refine attr_of hb (thn (he.run pins s σ H _ I h) fun u s1 hh => ?_)
  obtain ⟨y, H1, I1, ry, a, C, dd, fs, v, ey, T, hno, ea, ed, l, q⟩ := hh
  subst ey
  obtain rfl : u = Value.ref a := ry
  obtain ⟨t1, ha⟩ := exo_at I1.hok ea
  obtain ⟨mA, hns, hr⟩ := exd_at I1.hok ed
  obtain ⟨od, ho, hl⟩ := lookIn_ns hns
  obtain ⟨u, hu, ru⟩ := RelO.some_of (v := v) (o := mA n) (by rw [← l]; exact hr n)
  have J : PySem.W.InstAt s1.heap a _ C (some od) := ⟨ha, rfl, rfl, ho⟩
  exact HandSPX.exc_get I1.kIn J T.ga T.gg T.exC (PySem.W.findObj_own T.hdC hno rfl (by rw [hl, hu])) (handed_of ru) ⟨v, H1, I1.tok _, ru, q⟩
/-- isinstance(o, T), o an own error with or without fields -/
def rIsXV (K : PySem.W.Frag) : List V → Hp → VK → Prop := fun xs H Q => ∃ (a C : Addr) (d : Option Addr) (c : V) (cv : Value) (b : Bool), xs = [.ref a, c] ∧ H a = some (exo a C d) ∧ (∀ dd, d = some dd → ∃ fs, H dd = some (exd dd fs)) ∧ ExcC K C ∧ (PySem.W.clsIn K C).isSome = true ∧ (∀ u, RelV c u → u = cv) ∧ PySem.W.kitOne K (.ref C) cv = some b ∧ Q (.bl b) H
theorem call_isXV : CallR X (.builtin "isinstance") (rIsXV X.K) := by
  intro pins s σ H xs us Q I r h
  obtain ⟨a, C, d, c, cv, b, rfl, ea, ed, T, hci, hcv, hk, q⟩ := h
  cases r with
  | cons rx r2 =>
    cases r2 with
    | cons rc r3 =>
      cases r3
      cases rx
      cases hcv _ rc
      obtain ⟨t1, ha⟩ := exo_at I.hok ea
      have J : ∃ od, PySem.W.InstAt s.heap a ({ cls := .ref C, dict := d, data := .fields #[.ref t1, .none, .none, .none, .bool false, .none] } : Obj) C od := by
        cases d with
        | none => exact ⟨none, ha, rfl, rfl, True.intro⟩
        | some dd =>
          obtain ⟨fs, hd⟩ := ed dd rfl
          obtain ⟨mA, hns, hr⟩ := exd_at I.hok hd
          obtain ⟨od, ho, hl⟩ := lookIn_ns hns
          exact ⟨some od, ha, rfl, rfl, ho⟩
      obtain ⟨od, J⟩ := J
      refine PySem.W.kia_one (PySem.W.kitx_exc (x := a) (od := od) hci T.hg T.hk T.hs T.ha T.hn T.ht T.hm) I.kIn J hk (fun z => by cases z) fun tk => ?_
      exact ⟨.bl b, H, I.kept fun _ _ e => e, rfl, q⟩
end
end Ow
end
section
set_option maxHeartbeats 4000000
/-! repr of data with dicts, where the table of modules is known to stand. -/
namespace Ow
open PySem PySem.Spec PyProof.Rows L2 StX
def keyD : Key → PyData
  | .inl i => .int i
  | .inr x => .str x
mutual
inductive Dq (K : PySem.W.Frag) (H : Hp) : V → PyData → Prop
  | non : Dq K H .non .none
  | bl (b : Bool) : Dq K H (.bl b) (.bool b)
  | int (i : Int) : Dq K H (.int i) (.int i)
  | str (x : Str) : Dq K H (.str x) (.str x)
  | lst {a : Addr} {xs : List V} {ds : List PyData} : SqL K H a xs → DqAll K H xs ds → Dq K H (.ref a) (.list ds)
  | tup {a : Addr} {xs : List V} {ds : List PyData} : SqT K H a xs → DqAll K H xs ds → Dq K H (.ref a) (.tuple ds)
  | dic {a : Addr} {kvs : List (Key × V)} {ds : List (PyData × PyData)} : H a = some (.dK kvs) → DqPs K H kvs ds → Dq K H (.ref a) (.dict ds)
inductive DqAll (K : PySem.W.Frag) (H : Hp) : List V → List PyData → Prop
  | nil : DqAll K H [] []
  | cons {v : V} {vs : List V} {d : PyData} {ds : List PyData} : Dq K H v d → DqAll K H vs ds → DqAll K H (v :: vs) (d :: ds)
inductive DqPs (K : PySem.W.Frag) (H : Hp) : List (Key × V) → List (PyData × PyData) → Prop
  | nil : DqPs K H [] []
  | cons {k : Key} {v : V} {vs : List (Key × V)} {d : PyData} {ds : List (PyData × PyData)} : Dq K H v d → DqPs K H vs ds → DqPs K H ((k, v) :: vs) ((keyD k, d) :: ds)
end
/-- the table of modules stands in the base -/
def SysB (base : Heap) : Prop := ∃ m, base.Ns sysModules m
section
variable {X : Cx} {pins : List (Addr × Obj)} {σ : L2.St} {H : Hp} {s : Shared}
theorem SysB.lst {a : Addr} {its : Array Value} {n : Nat} {o : Obj} (S : SysB X.base) (I : Inv X pins σ H s) (h : s.heap.get? a = some o) (hd : o.data = .seq its n) : sysModules ≠ a := fun e => by
  obtain ⟨m, ob, es, ep, e1, e2, _⟩ := S
  have z := (I.env0.bs _ _ e1).1
  rw [e, h] at z
  cases z
  rw [hd] at e2
  cases e2
theorem key_reads {h : Heap} {k : Key} {v : Value} (e : keyIs k v = true) : Reads h v (keyD k) [] := by
  rcases keyIs_shape e with ⟨i, t, rfl, rfl⟩ | ⟨x, t, rfl, rfl⟩
  · exact Reads.int i t
  · exact Reads.str x t
mutual
theorem Dq.reads (I : Inv X pins σ H s) : ∀ (d : PyData) (v : V) (u : Value), Dq X.K H v d → RelV v u → ∃ as, Reads s.heap u d as ∧ (SysB X.base → sysModules ∉ as)
  | .none, _, _, h, r => by
    cases h
    cases r
    exact ⟨_, Reads.none, fun _ => List.not_mem_nil⟩
  | .bool b, _, _, h, r => by
    cases h
    cases r
    exact ⟨_, Reads.bool b, fun _ => List.not_mem_nil⟩
  | .int i, _, _, h, r => by
    cases h
    obtain ⟨t, rfl⟩ := r
    exact ⟨_, Reads.int i t, fun _ => List.not_mem_nil⟩
  | .str x, _, _, h, r => by
    cases h
    obtain ⟨t, rfl⟩ := r
    exact ⟨_, Reads.str x t, fun _ => List.not_mem_nil⟩
  | .list ds, _, _, h, r => by
    cases h with
    | lst hs ha =>
      cases r
      obtain ⟨its, rv, ⟨o, n, ho, hc, _, hd⟩, _⟩ := I.list hs
      obtain ⟨as, hr, hq⟩ := Dq.readsAll I ds _ its ha rv
      exact ⟨_, Reads.list ho hc hd hr, fun S z => by
        rcases List.mem_cons.mp z with e | e
        · exact S.lst I ho hd e
        · exact hq S e⟩
  | .tuple ds, _, _, h, r => by
    cases h with
    | tup hs ha =>
      cases r
      obtain ⟨its, rv, ⟨o, ho, hc, n, hd⟩, _⟩ := I.tuple hs
      obtain ⟨as, hr, hq⟩ := Dq.readsAll I ds _ its ha rv
      exact ⟨_, Reads.tuple ho hc hd hr, hq⟩
  | .dict ds, _, _, h, r => by
    cases h with
    | dic hs ha =>
      cases r
      obtain ⟨hlen, ns, vs, rv, o, es, ep, ho, hc, hd, _, hp, _⟩ := I.hok _ _ hs
      obtain ⟨as, bs, h1, h2, h3⟩ := Dq.readsPs I ds _ vs es.toList ha rv hp
      refine ⟨_, Reads.dict ho hc.1 hd h1 h2, fun S z => ?_⟩
      rcases List.mem_append.mp z with e | e
      · rcases List.mem_cons.mp e with e | e
        · rw [← e] at ns
          exact absurd ns (by decide)
        · exact (h3 S).1 e
      · exact (h3 S).2 e
theorem Dq.readsAll (I : Inv X pins σ H s) : ∀ (ds : List PyData) (vs : List V) (us : List Value), DqAll X.K H vs ds → Vals vs us → ∃ as, ReadsAll s.heap us ds as ∧ (SysB X.base → sysModules ∉ as)
  | [], _, _, h, r => by
    cases h
    cases r
    exact ⟨_, ReadsAll.nil, fun _ => List.not_mem_nil⟩
  | d :: ds, _, _, h, r => by
    cases h with
    | cons h1 h2 =>
      cases r with
      | cons r1 r2 =>
        obtain ⟨as, q1, s1⟩ := Dq.reads I d _ _ h1 r1
        obtain ⟨bs, q2, s2⟩ := Dq.readsAll I ds _ _ h2 r2
        exact ⟨_, ReadsAll.cons q1 q2, fun S z => (List.mem_append.mp z).elim (s1 S) (s2 S)⟩
theorem Dq.readsPs (I : Inv X pins σ H s) : ∀ (ds : List (PyData × PyData)) (kvs : List (Key × V)) (vs : List (Key × Value)) (es : List DictEntry), DqPs X.K H kvs ds → KV kvs vs → Pairs (mixKind X.prog X.w) es vs →
    ∃ as bs, ReadsAll s.heap (es.map (·.key)) (ds.map (·.1)) as ∧ ReadsAll s.heap (es.map (·.val)) (ds.map (·.2)) bs ∧ (SysB X.base → sysModules ∉ as ∧ sysModules ∉ bs)
  | [], _, _, _, h, r, p => by
    cases h
    cases r
    cases p
    exact ⟨_, _, ReadsAll.nil, ReadsAll.nil, fun _ => ⟨List.not_mem_nil, List.not_mem_nil⟩⟩
  | (kd, d) :: ds, _, _, _, h, r, p => by
    cases h with
    | cons h1 h2 =>
      cases r with
      | cons r1 r2 =>
        cases p with
        | cons p1 p2 p3 =>
          obtain ⟨e1, rv⟩ := r1
          obtain ⟨bs, q2, s2⟩ := Dq.reads I d _ _ h1 rv
          obtain ⟨as', bs', q3, q4, s3⟩ := Dq.readsPs I ds _ _ _ h2 r2 p3
          subst e1
          rw [← p2] at q2
          refine ⟨_, _, ReadsAll.cons (key_reads p1) q3, ReadsAll.cons q2 q4, fun S => ⟨?_, fun z => ?_⟩⟩
          · exact (s3 S).1
          · exact (List.mem_append.mp z).elim (s2 S) (s3 S).2
end
end
section
variable {X : Cx} {CX : CXT} {n : Nat} {sp : Sp} {E : XK}
/-- repr of data, dicts too: its text -/
def rReprQ (K : PySem.W.Frag) : List V → Hp → VK → Prop := fun xs H Q => ∃ (x : V) (d : PyData), xs = [x] ∧ Dq K H x d ∧ d.showable = true ∧ d.depth ≤ 8 ∧ d.shown.length ≤ sizeLine ∧ Q (.str d.shown) H
theorem call_reprQ (sb : SysB X.base) (gd : X.A.guards = some []) (hu : X.A.units + 64 < cLine) : CallR X (.builtin "repr") (rReprQ X.K) := by
  intro pins s σ H xs us Q I r h
  obtain ⟨x, d, rfl, hd, hs, hdp, hsz, q⟩ := h
  obtain ⟨u, rfl, ru⟩ := vals1 r
  have fin : ∀ (h' : Heap) (tk : Nat) (u : Tok), (∀ b o, s.heap.get? b = some o → h'.get? b = some o) → EP X pins σ Q (.str d.shown u) { s with heap := h', toks := tk } := fun h' tk u k => ⟨.str d.shown, H, I.kept (t' := tk) k, ⟨u, rfl⟩, q⟩
  obtain ⟨as, rd, ns⟩ := Dq.reads I _ _ _ hd ru
  cases hd with
  | non => cases ru; exact PySem.P.repr_of_none (fin s.heap _ _ fun _ _ e => e)
  | bl b => cases ru; exact PySem.P.repr_of_bool (by cases b <;> exact fin s.heap _ _ fun _ _ e => e)
  | int i =>
    obtain ⟨t, rfl⟩ := ru
    have hi : i.natAbs.log2 < 1920 := of_decide_eq_true hs
    exact PySem.P.repr_of_int hi (fin s.heap _ _ fun _ _ e => e)
  | str z => obtain ⟨t, rfl⟩ := ru; exact PySem.P.repr_of_str (fin s.heap _ _ fun _ _ e => e) hsz
  | lst hq ha =>
    cases ru
    exact repr_of_reads' rd hs (fun _ => ns sb) gd (by omega) (fun _ _ e => e) (fun h' u tk k => fin h' tk u k) hsz
  | tup hq ha =>
    cases ru
    exact repr_of_reads' rd hs (fun _ => ns sb) gd (by omega) (fun _ _ e => e) (fun h' u tk k => fin h' tk u k) hsz
  | dic hq ha =>
    cases ru
    exact repr_of_reads' rd hs (fun _ => ns sb) gd (by omega) (fun _ _ e => e) (fun h' u tk k => fin h' tk u k) hsz
end
end Ow
end
section
set_option maxHeartbeats 4000000
namespace Ow
open PySem PySem.Spec PyProof.Rows L2 StX
/-! ### the end of a law whose def wants to know that nothing is being shown -/
section
variable {P : Program} {w : World} {K : PySem.W.Frag} {mg mb : Str → Option Value} {k : Nat} {fa a : Addr} {sp : Sp} {s1 : Shared} {vs : List Value} {ns : List Int}
/-- the call, from one abstract heap that tracks the script alone, or nothing -/
theorem end_fromB (KX : K.In s1.heap) (hns : s1.heap.Ns mainGlobals mg) (hb : s1.heap.Ns builtinsNs mb) (hbb : ∀ x : Str, x ≠ "__name__" → mb x = bootBuiltins x) (hlim : s1.heap.NoLimit) (hsy : SysB s1.heap) (hg : s1.gens = #[]) (hr : Room k callerA)
    (F : ∀ base : Heap, K.In base → base.Ns mainGlobals mg → SysB base → FnG P w K mg base CX0 k fa sp) {H : Hp} (hO : Only H) (hok : HOk P w H s1.heap) (dom : ∀ b u, H b = some u → K.lookup b = none ∧ ∃ o items n, s1.heap.get? b = some o ∧ o.data = .seq items n)
    (hsp : sp [.ref a] H (fun v _ => v = .bl true) fun _ _ _ => False) :
    codeAny (model P w) callerA (.call (.ref fa) ⟨[.ref a], []⟩) (fun r s' => r = .ok (.ret (.bool true)) ∧ OldK s1.heap s'.heap ∧ s'.os = s1.os ∧ AllBare s'.gens) s1 := by
  let base := hidT s1.heap H
  have dicts : ∀ {b : Addr} {o : Obj} {es : Array DictEntry} {ep : Nat}, s1.heap.get? b = some o → o.data = .dict es ep → base.get? b = some o := fun {b o es ep} e d => by
    refine hidT_get e ?_
    cases q : H b with
    | none => rfl
    | some u =>
      obtain ⟨_, o2, items, n, e2, d2⟩ := dom b u q
      rw [e2] at e
      cases e
      rw [d2] at d
      cases d
  have names : ∀ {b : Addr} {m : Str → Option Value}, s1.heap.Ns b m → base.Ns b m := fun z => by
    obtain ⟨o, es, ep, e, d, r⟩ := z
    exact ⟨o, es, ep, dicts e d, d, r⟩
  have hK : K.In base := fun b o e => by
    refine hidT_get (KX b o e) ?_
    cases q : H b with
    | none => rfl
    | some u =>
      have z := (dom b u q).1
      rw [e] at z
      cases z
  have lim : base.NoLimit := by
    obtain ⟨m, h1, h2⟩ := hlim
    exact ⟨m, names h1, h2⟩
  have e0 : Env0 P w K mg base callerA [] s1 H :=
    { frames := rfl, mod := ⟨hK, names hns, ⟨mb, names hb, hbb⟩, lim⟩, bs := fun b o e => of_hidT e, bsz := Nat.le_of_eq (hidT_size _ _), funs := trivial, frf := fun b hb => (List.not_mem_nil hb).elim, hok := hok, bare := .of_eq hg }
  refine codeAny_mono (F base hK (names hns) (let ⟨m, z⟩ := hsy; ⟨m, names z⟩) callerA [] s1 H [.ref a] [.ref a] _ _ hr rfl e0 (.cons rfl .nil) hsp) fun r s' h => ?_
  cases r with
  | error e => exact False.elim h
  | ok fl =>
    cases fl with
    | ret u =>
      obtain ⟨v, H2, os, bare, un, ok2, rv, q⟩ := h
      subst q
      cases rv
      refine ⟨rfl, OldK.of_keep fun b o e => ?_, os, bare⟩
      cases q : H b with
      | none => exact un.keep b o e q (fun z => List.not_mem_nil z) (fun z => List.not_mem_nil z)
      | some u =>
        rcases hO b with z | ⟨ob, xs, z⟩
        · rw [q] at z
          cases z
        · have e1 := (hok b _ z).1
          have e2 := (ok2 b _ (un.frzs b ob _ z)).1
          rw [e] at e1
          cases e1
          exact e2
    | next => exact False.elim h
    | brk => exact False.elim h
    | cont => exact False.elim h
theorem end_callGB (KX : K.In s1.heap) (hns : s1.heap.Ns mainGlobals mg) (hb : s1.heap.Ns builtinsNs mb) (hbb : ∀ x : Str, x ≠ "__name__" → mb x = bootBuiltins x) (hlim : s1.heap.NoLimit) (hsy : SysB s1.heap) (hg : s1.gens = #[]) (hr : Room k callerA)
    (ha : s1.heap.get? a = some { cls := .type "list", data := .seq vs.toArray }) (hi : IntsAre vs ns) (hl : ns.length ≤ sizeLine) (F : ∀ base : Heap, K.In base → base.Ns mainGlobals mg → SysB base → FnG P w K mg base CX0 k fa sp)
    (hsp : ∀ H : Hp, Only H → SqL K H a (ns.map V.int) → sp [.ref a] H (fun v _ => v = .bl true) fun _ _ _ => False) :
    codeAny (model P w) callerA (.call (.ref fa) ⟨[.ref a], []⟩) (fun r s' => r = .ok (.ret (.bool true)) ∧ OldK s1.heap s'.heap ∧ s'.os = s1.os ∧ AllBare s'.gens) s1 := by
  have rv := vals_ints hi
  have hl2 : (ns.map V.int).length ≤ sizeLine := by rw [List.length_map]; exact hl
  cases hk : K.lookup a with
  | some o =>
    have e := KX a o hk
    rw [ha] at e
    cases e
    refine end_fromB KX hns hb hbb hlim hsy hg hr F (H := fun _ => none) (fun _ => .inl rfl) (fun b u z => by cases z) (fun b u z => by cases z) (hsp _ (fun _ => .inl rfl) ?_)
    exact .inr ⟨_, vs.toArray, _, hk, rfl, rfl, rfl, by rw [List.size_toArray, hi.length]; exact hl, by simpa using rv⟩
  | none =>
    let o : Obj := { cls := .type "list", data := .seq vs.toArray }
    let H : Hp := fun b => if b = a then some (.frz o (.lst (ns.map V.int))) else none
    have H1 : H a = some (.frz o (.lst (ns.map V.int))) := if_pos rfl
    have H0 : ∀ b u, H b = some u → b = a ∧ u = .frz o (.lst (ns.map V.int)) := fun b u z => by
      by_cases e : b = a
      · subst e
        rw [H1] at z
        cases z
        exact ⟨rfl, rfl⟩
      · have z0 : H b = none := if_neg e
        rw [z0] at z
        cases z
    have hO : Only H := fun b => by
      by_cases e : b = a
      · subst e; exact .inr ⟨_, _, H1⟩
      · exact .inl (if_neg e)
    refine end_fromB KX hns hb hbb hlim hsy hg hr F (H := H) hO (fun b u z => ?_) (fun b u z => ?_) (hsp _ hO (.inl (.inr ⟨_, H1⟩)))
    · obtain ⟨rfl, rfl⟩ := H0 b u z
      exact ⟨ha, hl2, vs, _, rv, ha⟩
    · obtain ⟨rfl, rfl⟩ := H0 b u z
      exact ⟨hk, _, _, _, ha, rfl⟩
end
theorem walk_ofGB {l : PySem.W.OpenLaw} {n k : Nat} {q : Program} {loose : List Str} {XP : (Str → Option Value) → Heap → Prop} {YP : World → Heap → Prop} {d : DefRec} {K : Params → PySem.W.Frag} {sp : World → Sp}
    (hi : importsNone q = true) (hn : l.most = some n) (hn2 : n ≤ sizeLine) (hdf : d.params.defaults = []) (hr : Room k callerA) (hY : ∀ (w : World) (h : Heap), YP w h → (K w.params).In h)
    (F : ∀ (w : World) (mg : Str → Option Value) (fa : Addr) (h : Heap), (K w.params).In h → h.Ns mainGlobals mg → mg d.name = some (.ref fa) →
      ∀ base : Heap, (K w.params).In base → base.Ns mainGlobals mg → SysB base → FnG l.prog w (K w.params) mg base CX0 k fa (sp w))
    (hsp : ∀ (w : World) (H : Hp) (a : Addr) (ns : List Int), ns.length ≤ n → Only H → SqL (K w.params) H a (ns.map V.int) → sp w [.ref a] H (fun v _ => v = .bl true) fun _ _ _ => False) :
    PySem.W.WalkO q loose XP YP l.row.toRowW d [] (fun f vs => PySem.call f vs) := by
  refine Att.attach_call hn hdf fun w s0 s1 mg mb fa o pm cd doc a vs ns G Y ho hd hcd hmg hobj hints hlen hg => ?_
  have KX := hY w _ Y
  exact end_callGB KX G.T.g G.T.b G.T.builtins G.T.nolimit (let ⟨m, z, _⟩ := (G.T.seer hi).mods; ⟨m, z⟩) hg hr hobj hints (Nat.le_trans hlen hn2) (F w mg fa _ KX G.T.g hmg) fun H hO hS => hsp w H a ns hlen hO hS
end Ow
end
section
set_option maxHeartbeats 4000000
/-! Own errors as values: what holds of one, classes told by the order of their bases, readings of the makings. -/
namespace Ow
open PySem PySem.Spec PyProof.Rows L2 StX
/-- the class's order of bases: itself, the package's base, ValueError, .. -/
def mroE (K : PySem.W.Frag) (C B : Addr) : Bool := match PySem.W.clsIn K C with
  | some cd => cd.mro == [.ref C, .ref B, .type "ValueError", .type "Exception", .type "BaseException", .type "object"]
  | none => false
theorem mroE_mk {K : PySem.W.Frag} {C B : Addr} {cd : PySem.ClassData} (h : PySem.W.clsIn K C = some cd) (m : (cd.mro == [.ref C, .ref B, .type "ValueError", .type "Exception", .type "BaseException", .type "object"]) = true) : mroE K C B = true := by
  unfold mroE
  rw [h]
  exact m
theorem mroE_sub {K : PySem.W.Frag} {C B : Addr} (h : mroE K C B = true) (t : Value) : PySem.W.subIn K (.ref C) t = some (([.ref C, .ref B, .type "ValueError", .type "Exception", .type "BaseException", .type "object"] : List Value).contains t) := by
  unfold mroE at h
  show PySem.W.mroIn K C t = _
  unfold PySem.W.mroIn
  cases e : PySem.W.clsIn K C with
  | none => rw [e] at h; cases h
  | some cd =>
    rw [e] at h
    have q := beq_iff_eq.mp h
    show (if cd.mro.isEmpty then none else some (cd.mro.contains t)) = _
    rw [q]
    rfl
theorem mroE_some {K : PySem.W.Frag} {C B : Addr} (h : mroE K C B = true) : (PySem.W.clsIn K C).isSome = true := by
  unfold mroE at h
  cases e : PySem.W.clsIn K C with
  | none => rw [e] at h; cases h
  | some cd => rfl
/-- isinstance of an own error: its class, the base, a class beside it, ValueError -/
theorem kitE {K : PySem.W.Frag} {C B D : Addr} (h : mroE K C B = true) (i : (PySem.W.clsIn K D).isSome = true) (t : PySem.W.typeIn K (.ref D) = Option.some (.type "type")) (ne : D ≠ C) (nb : D ≠ B) : PySem.W.kitOne K (.ref C) (.ref D) = Option.some false := by
  refine kit_err i t ?_ (beq_eq_false_iff_ne.mpr fun z => ne (by cases z; rfl))
  rw [mroE_sub h]
  simp [ne, nb]
theorem kitEB {K : PySem.W.Frag} {C B : Addr} (h : mroE K C B = true) (i : (PySem.W.clsIn K B).isSome = true) (t : PySem.W.typeIn K (.ref B) = Option.some (.type "type")) (ne : C ≠ B) : PySem.W.kitOne K (.ref C) (.ref B) = Option.some true := by
  refine kit_err i t ?_ (beq_eq_false_iff_ne.mpr fun z => ne (by cases z; rfl))
  rw [mroE_sub h]
  simp
theorem kitEV {K : PySem.W.Frag} {C B : Addr} (h : mroE K C B = true) : PySem.W.kitOne K (.ref C) (.type "ValueError") = Option.some true := by
  unfold PySem.W.kitOne
  rw [if_neg (by simp)]
  show PySem.W.subIn K (.ref C) (.type "ValueError") = _
  rw [mroE_sub h]
  simp
/-- an own error with these fields -/
def EO (H : Hp) (e C : Addr) (fs : List (Str × V)) : Prop := ∃ d, H e = some (exo e C (some d)) ∧ H d = some (exd d fs)
theorem EO.same {H H' : Hp} {e C : Addr} {fs : List (Str × V)} (x : EO H e C fs) (s : ∀ b o, H b = some o → H' b = some o) : EO H' e C fs := by
  obtain ⟨d, h1, h2⟩ := x
  exact ⟨d, s _ _ h1, s _ _ h2⟩
theorem made_keeps {H : Hp} {e d : Addr} {C : Addr} {fs : List (Str × V)} (ha : H e = none) (hd : H d = none) (ne : d ≠ e) :
    (∀ b o, H b = some o → upd (upd (upd H e (exo e C none)) d (exd d fs)) e (exo e C (some d)) b = some o) ∧ EO (upd (upd (upd H e (exo e C none)) d (exd d fs)) e (exo e C (some d))) e C fs := by
  refine ⟨fun b o q => ?_, d, upd_same, by rw [upd_ne ne]; exact upd_same⟩
  have n1 : b ≠ e := ne_of_none q ha
  have n2 : b ≠ d := ne_of_none q hd
  rw [upd_ne n1, upd_ne n2, upd_ne n1]
  exact q
section
variable {H : Hp} {C : Addr} {n m : Str} {v u : V} {Q : VK}
theorem oex1 (k : ∀ (e : Addr) (H' : Hp), (∀ b o, H b = some o → H' b = some o) → EO H' e C [(n, v)] → Q (.ref e) H') :
    [v].length ≤ 1000 ∧ ∀ a, H a = none → spErr1 C n (.ref a :: [v]) (upd H a (exo a C none)) (fun z H2 => z = .non ∧ Q (.ref a) H2) (fun _ _ _ => False) := by
  refine ⟨Nat.le_of_ble_eq_true rfl, fun a ha => ⟨a, v, rfl, upd_same, fun d hd ne => ⟨rfl, ?_⟩⟩⟩
  rw [upd_ne ne] at hd
  exact k a _ (made_keeps ha hd ne).1 (made_keeps ha hd ne).2
theorem oex2 (k : ∀ (e : Addr) (H' : Hp), (∀ b o, H b = some o → H' b = some o) → EO H' e C [(m, u), (n, v)] → Q (.ref e) H') :
    [v, u].length ≤ 1000 ∧ ∀ a, H a = none → spErr2 C n m (.ref a :: [v, u]) (upd H a (exo a C none)) (fun z H2 => z = .non ∧ Q (.ref a) H2) (fun _ _ _ => False) := by
  refine ⟨Nat.le_of_ble_eq_true rfl, fun a ha => ⟨a, v, u, rfl, upd_same, fun d hd ne => ⟨rfl, ?_⟩⟩⟩
  rw [upd_ne ne] at hd
  exact k a _ (made_keeps ha hd ne).1 (made_keeps ha hd ne).2
/-- by keywords, the other way round -/
theorem oexK2 {gV : List V → List V → List V} (hg : ∀ a, gV [V.ref a] [u, v] = [.ref a, v, u]) (k : ∀ (e : Addr) (H' : Hp), (∀ b o, H b = some o → H' b = some o) → EO H' e C [(m, u), (n, v)] → Q (.ref e) H') :
    [u, v].length = 2 ∧ ∀ a, H a = none → spErr2 C n m (gV [.ref a] [u, v]) (upd H a (exo a C none)) (fun z H2 => z = .non ∧ Q (.ref a) H2) (fun _ _ _ => False) := by
  refine ⟨rfl, fun a ha => ?_⟩
  rw [hg]
  exact (oex2 k).2 a ha
end
end Ow
end
section
set_option maxHeartbeats 4000000
/-! An own error without a def of its own, made of nothing, as a value. -/
namespace Ow
open PySem PySem.Spec PyProof.Rows L2 StX
theorem pe_exc0 {X : Cx} {C : Addr} {bmB : List Value} {B newId initId : String} {x : Str} {p pos : Pos} (F : ExcBaseFacts B newId initId bmB) (q : PySem.W.excIn X.K C bmB newId = true) (gC : X.mg x = some (.ref C)) (kC : PySem.W.keepIn X.K (.ref C) = true) (hg : Gl X x)
    (hdb : (x == ("__debug__" : Str)) = false := by decide) : PE X (.Call (.Name x p) [] [] pos) (fun σ H Q => ∀ a, H a = none → Q (.ref a) (upd H a (exo a C none))) := by
  refine ⟨fun pins s σ H Q I h => ?_⟩
  refine wpAny_Call_Name_kw (ld_glob I hg gC ?_ hdb)
  refine PySem.W.callWith_K0 I.kIn kC ?_
  obtain ⟨bm, N, nm, qn, bs, hdct, sn, sub, ab, col, dd, k0, k1, k2, k3, k5, mN, hC, hN, hni, T⟩ := exc_obj I.kIn q
  obtain ⟨hp, g, dr, tk, os⟩ := s
  refine wpAny_call_exc_subT F T hC hN hni (fun h' a hm => ?_) (by show 0 ≤ sizeLine; exact Nat.zero_le _)
  have hn : H a = none := I.hok.gone hm.new
  obtain ⟨t, ht, _, _⟩ := hm.there
  exact ⟨.ref a, upd H a (exo a C none), I.laidN hm.keeps hm.new hn (exo_ok ht), rfl, h a hn⟩
end Ow
end
section
set_option maxHeartbeats 4000000
/-! New objects and comprehensions said once more, so that what is wanted behind them can be read off (the readings unfolded by simp). -/
namespace Ow
open PySem PySem.Spec PyProof.Rows L2 StX
/-- p is a new object o, all else stays -/
structure Fresh (H H' : Hp) (p : Addr) (o : HO) : Prop where
  same : Same H H'
  at_ : H' p = some o
  new : H p = none
theorem Fresh.get {H H' : Hp} {p : Addr} {o : HO} (f : Fresh H H' p o) {b : Addr} {u : HO} (h : H b = some u) : H' b = some u := f.same _ _ h
theorem Fresh.ne {H H' : Hp} {p : Addr} {o : HO} (f : Fresh H H' p o) {b : Addr} {u : HO} (h : H b = some u) : b ≠ p := fun e => by
  rw [e, f.new] at h
  cases h
def kN (o : HO) (Q : VK) : Hp → Prop := fun H => ∀ p, H p = none → Q (.ref p) (upd H p o)
def kNew (f : List V → HO) (Q : VK) : List V → Hp → Prop := fun xs H => xs.length ≤ sizeLine ∧ kN (f xs) Q H
theorem fresh_upd {H : Hp} {p : Addr} {o : HO} (h : H p = none) : Fresh H (upd H p o) p o := ⟨fun b u e => by rw [upd_ne (ne_of_none e h)]; exact e, upd_same, h⟩
theorem kN.mk {o : HO} {Q : VK} {H : Hp} (k : ∀ p H', Fresh H H' p o → Q (.ref p) H') : kN o Q H := fun p h => k p _ (fresh_upd h)
theorem kNew.mk {f : List V → HO} {Q : VK} {xs : List V} {H : Hp} (hs : xs.length ≤ sizeLine) (k : ∀ p H', Fresh H H' p (f xs) → Q (.ref p) H') : kNew f Q xs H := ⟨hs, kN.mk k⟩
theorem tLst_k (t : TA) : tLst t = fun σ H Q => t σ H (kNew .lst Q) := rfl
theorem tTup_k (t : TA) : tTup t = fun σ H Q => t σ H (kNew .tup Q) := rfl
theorem rNewStrs_k (ys : List Str) : rNewStrs ys = fun H Q => kN (.lst (ys.map V.str)) Q H := rfl
theorem rCat_k : rCat = fun x y H Q => ∃ l b xs zs, x = .ref l ∧ y = .ref b ∧ H l = some (.lst xs) ∧ H b = some (.lst zs) ∧ xs.length + zs.length ≤ sizeLine ∧ kN (.lst (xs ++ zs)) Q H := rfl
theorem rRep_k : rRep = fun x y H Q => ∃ l k xs, x = .ref l ∧ y = .int k ∧ H l = some (.lst xs) ∧ -(2 ^ 63) ≤ k ∧ k < 2 ^ 63 ∧ xs.length * k.toNat ≤ sizeLine ∧ kN (.lst (List.replicate k.toNat xs).flatten) Q H := rfl
theorem rSlL_k (K : PySem.W.Frag) : rSlL K = fun x lo hi H Q => ∃ a xs, x = .ref a ∧ SqL K H a xs ∧ kN (.lst (cutV xs lo hi)) Q H := rfl
/-- a list is changed -/
def kPut (l : Addr) (o : HO) (Q : VK) : Hp → Prop := fun H => Q .non (upd H l o)
structure Put (H H' : Hp) (l : Addr) (o : HO) : Prop where
  at_ : H' l = some o
  else_ : ∀ b, b ≠ l → H' b = H b
theorem kPut.mk {l : Addr} {o : HO} {Q : VK} {H : Hp} (k : ∀ H', Put H H' l o → Q .non H') : kPut l o Q H := k _ ⟨upd_same, fun b n => upd_ne n⟩
theorem Put.get {H H' : Hp} {l : Addr} {o : HO} (f : Put H H' l o) {b : Addr} {u : HO} (n : b ≠ l) (h : H b = some u) : H' b = some u := (f.else_ b n).trans h
theorem rAppend_k : rAppend = fun x vs H Q => ∃ l xs y, x = .ref l ∧ vs = [y] ∧ H l = some (.lst xs) ∧ xs.length < sizeLine ∧ kPut l (.lst (xs ++ [y])) Q H := rfl
section
variable {X : Cx}
def rListOf (K : PySem.W.Frag) : List V → Hp → VK → Prop := fun xs H Q => ∃ p ys, xs = [.ref p] ∧ (SqL K H p ys ∨ SqT K H p ys) ∧ kN (.lst ys) Q H
theorem call_listK : CallR X (.type "list") (rListOf X.K) := call_list_of
def rTupOf (K : PySem.W.Frag) : List V → Hp → VK → Prop := fun xs H Q => ∃ p ys, xs = [.ref p] ∧ ((SqL K H p ys ∧ kN (.tup ys) Q H) ∨ (SqT K H p ys ∧ Q (.ref p) H))
theorem call_tupleK : CallR X (.type "tuple") (rTupOf X.K) := call_tuple_of
def rLenSeq (K : PySem.W.Frag) : List V → Hp → VK → Prop := fun xs H Q => ∃ p ys, xs = [.ref p] ∧ (SqL K H p ys ∨ SqT K H p ys) ∧ Q (.int ys.length) H
theorem call_lenK : CallR X (.builtin "len") (rLenSeq X.K) := call_len_seq
end
/-! ### comprehensions whose elements only make new objects -/
def kLc (J : It) (g : TG) (tt : TT) (te : TE) (vs : List Nat) (σ : L2.St) (Q : VK) (H1 : Hp) : Prop := ∀ D, H1 D = none → ∃ W : Nat → Nat → Hp → Prop, (∃ m, W 0 m (upd H1 D (.lst []))) ∧ ∀ i m H, W i m H →
  (J.stop i H ∧ Q (.ref D) H) ∨ (J.go i H ∧ ∃ Nx : Hp → Prop, (∀ H', Nx H' → ∃ m', m' < m ∧ W (i + 1) m' H') ∧ ∀ x H', J.yld i H x H' → g x (wipe σ vs) H' fun σ2 H2 => wipe σ2 vs = wipe σ vs ∧ tt σ2 H2 fun b H3 =>
    if b = true then te σ2 H3 fun y H4 => ∃ acc, H4 D = some (.lst acc) ∧ acc.length < sizeLine ∧ Nx (upd H4 D (.lst (acc ++ [y]))) else Nx H3)
theorem tLc_k (wi : TI) (g : TG) (tt : TT) (te : TE) (vs : List Nat) : tLc wi g tt te vs = fun σ H Q => wi σ H fun J H1 => kLc J g tt te vs σ Q H1 := rfl
/-- within the comprehension: H1 as it was ahead of it, the new list at D -/
structure LcIn (H1 H : Hp) (D : Addr) (acc : List V) : Prop where
  same : Same H1 H
  at_ : H D = some (.lst acc)
  new : H1 D = none
def kApp (D : Addr) (N : Hp → Prop) : VK := fun y H4 => ∃ acc, H4 D = some (.lst acc) ∧ acc.length < sizeLine ∧ N (upd H4 D (.lst (acc ++ [y])))
theorem kApp.mk {H1 H H4 : Hp} {D : Addr} {acc acc' : List V} {y : V} (c : LcIn H1 H D acc) (s : Same H H4) (hl : acc.length < sizeLine) (h : acc ++ [y] = acc') : kApp D (fun H' => LcIn H1 H' D acc') y H4 := by
  refine ⟨acc, s _ _ c.at_, hl, ⟨fun b u e => ?_, by rw [upd_same, h], c.new⟩⟩
  rw [upd_ne (ne_of_none e c.new)]
  exact s _ _ (c.same _ _ e)
theorem kLc.all {J : It} {n : Nat} {G : Hp → Prop} {Y : Nat → Hp → V → Hp → Prop} (w : Walk J n G Y) {g : TG} {tt : TT} {te : TE} {vs : List Nat} {σ : L2.St} {Q : VK} {H1 : Hp} (outs : Nat → List V) (h0 : outs 0 = []) (hG : ∀ H, Same H1 H → G H)
    (hs : ∀ D i x H H', i < n → LcIn H1 H D (outs i) → Y i H x H' → g x (wipe σ vs) H' fun σ2 H2 => wipe σ2 vs = wipe σ vs ∧ tt σ2 H2 fun b H3 => if b = true then te σ2 H3 (kApp D fun H' => LcIn H1 H' D (outs (i + 1))) else LcIn H1 H3 D (outs (i + 1)))
    (hd : ∀ D H', Fresh H1 H' D (.lst (outs n)) → Q (.ref D) H') : kLc J g tt te vs σ Q H1 := fun D hD =>
  lc_it w (fun i H => LcIn H1 H D (outs i)) ⟨(fresh_upd hD).same, by rw [h0]; exact upd_same, hD⟩ (fun i H _ c => hG H c.same) (fun i x H H' hi c y => hs D i x H H' hi c y) fun H c => hd D H ⟨c.same, c.at_, c.new⟩
theorem kLc.map {J : It} {n : Nat} {G : Hp → Prop} {Y : Nat → Hp → V → Hp → Prop} (w : Walk J n G Y) {g : TG} {tt : TT} {te : TE} {vs : List Nat} {σ : L2.St} {Q : VK} {H1 : Hp} (out : List V) (hn : out.length = n) (hG : ∀ H, Same H1 H → G H)
    (hs : ∀ D i x H H', i < n → LcIn H1 H D (out.take i) → Y i H x H' → g x (wipe σ vs) H' fun σ2 H2 => wipe σ2 vs = wipe σ vs ∧ tt σ2 H2 fun b H3 => if b = true then te σ2 H3 (kApp D fun H' => LcIn H1 H' D (out.take (i + 1))) else LcIn H1 H3 D (out.take (i + 1)))
    (hd : ∀ D H', Fresh H1 H' D (.lst out) → Q (.ref D) H') : kLc J g tt te vs σ Q H1 :=
  kLc.all w (fun i => out.take i) (by simp) hG hs fun D H' f => hd D H' (by rw [← hn, List.take_length] at f; exact f)
theorem kApp.at {H1 H H4 : Hp} {D : Addr} {out : List V} {i : Nat} {y : V} (c : LcIn H1 H D (out.take i)) (s : Same H H4) (hl : out.length ≤ sizeLine) (h : out[i]? = some y) : kApp D (fun H' => LcIn H1 H' D (out.take (i + 1))) y H4 := by
  have hi : i < out.length := by
    by_cases q : i < out.length
    · exact q
    · rw [List.getElem?_eq_none (by omega)] at h
      cases h
  refine kApp.mk c s (by rw [List.length_take]; omega) ?_
  rw [List.take_add_one, h]
  rfl
def kFor (J : It) (g : TG) (tb : TS) : TS := fun D σ H => ∃ W : Nat → Nat → L2.St → Hp → Prop, (∃ m, W 0 m σ H) ∧ ∀ i m σ H, W i m σ H →
  (J.stop i H ∧ D.nx σ H) ∨ (J.go i H ∧ ∃ N : L2.St → Hp → Prop, (∀ σ' H', N σ' H' → ∃ m', m' < m ∧ W (i + 1) m' σ' H') ∧ ∀ x H', J.yld i H x H' → g x σ H' fun σ2 H2 => tb { D with nx := N, ct := N, bk := D.nx } σ2 H2)
theorem tFor_k (wi : TI) (g : TG) (tb : TS) : tFor wi g tb = fun D σ H => wi σ H fun J H1 => kFor J g tb D σ H1 := rfl
theorem kFor.it {J : It} {n : Nat} {G : Hp → Prop} {Y : Nat → Hp → V → Hp → Prop} (w : Walk J n G Y) {g : TG} {tb : TS} {D : Ends} {σ : L2.St} {H : Hp} (Pv : Nat → L2.St → Hp → Prop) (h0 : Pv 0 σ H) (hG : ∀ i σ H, i ≤ n → Pv i σ H → G H)
    (hs : ∀ i x σ H H', i < n → Pv i σ H → Y i H x H' → g x σ H' fun σ2 H2 => tb { D with nx := Pv (i + 1), ct := Pv (i + 1), bk := D.nx } σ2 H2) (hd : ∀ σ H, Pv n σ H → D.nx σ H) : kFor J g tb D σ H := for_it w Pv h0 hG hs hd
theorem Same.tup {K : PySem.W.Frag} {H H' : Hp} {a : Addr} {xs : List V} (e : Same H H') (h : SqT K H a xs) : SqT K H' a xs := by
  rcases h with (h | ⟨o, h⟩) | h
  · exact .inl (.inl (e _ _ h))
  · exact .inl (.inr ⟨o, e _ _ h⟩)
  · exact .inr h
/-! ### a new instance -/
def kMake (C : Addr) (sp : Sp) (E : XK) (Q : VK) : List V → Hp → Prop := fun vs H1 => ∀ x dx, H1 x = none → H1 dx = none → dx ≠ x → sp (.ref x :: vs) (upd (upd H1 dx (.own x)) x (.ins C dx [])) (fun v H2 => v = .non ∧ Q (.ref x) H2) E
theorem kMake.mk {C : Addr} {sp : Sp} {E : XK} {Q : VK} {vs : List V} {H : Hp} (k : ∀ x dx H1, Same H H1 → H x = none → H1 x = some (.ins C dx []) → (∀ o, Same H (upd H1 x o)) → sp (.ref x :: vs) H1 (fun v H2 => v = .non ∧ Q (.ref x) H2) E) : kMake C sp E Q vs H := fun x dx nx nd ne => by
  have s : ∀ o, Same H (upd (upd H dx (.own x)) x o) := fun o b u e => by rw [upd_ne (ne_of_none e nx), upd_ne (ne_of_none e nd)]; exact e
  exact k x dx _ (s _) nx upd_same fun o => by rw [upd_upd]; exact s o
theorem tMakeR_k (C : Addr) (sp : Sp) (E : XK) (t : TA) : tMakeR C sp E t = fun σ H Q => t σ H (kMake C sp E Q) := rfl
theorem tDNewK_k : tDNewK = fun _ H Q => kN (.dK []) Q H := rfl
/-- a list is changed by a store -/
def kPutS (l : Addr) (o : HO) (Q : Hp → Prop) : Hp → Prop := fun H => Q (upd H l o)
theorem kPutS.mk {l : Addr} {o : HO} {Q : Hp → Prop} {H : Hp} (k : ∀ H', Put H H' l o → Q H') : kPutS l o Q H := k _ ⟨upd_same, fun b n => upd_ne n⟩
theorem rSetL_k : rSetL = fun o i v H Q => ∃ p xs k j, o = .ref p ∧ i = .int k ∧ H p = some (.lst xs) ∧ ixN xs.length k = some j ∧ kPutS p (.lst (xs.set j v)) Q H := rfl
def kMakeG (C : Addr) (sp : Sp) (gV : List V → List V → List V) (E : XK) (Q : VK) (vs zs : List V) : Hp → Prop := fun H2 => ∀ x dx, H2 x = none → H2 dx = none → dx ≠ x → sp (gV (.ref x :: vs) zs) (upd (upd H2 dx (.own x)) x (.ins C dx [])) (fun v H3 => v = .non ∧ Q (.ref x) H3) E
theorem kMakeG.mk {C : Addr} {sp : Sp} {gV : List V → List V → List V} {E : XK} {Q : VK} {vs zs us : List V} {H : Hp} (e : ∀ x, gV (.ref x :: vs) zs = .ref x :: us) (k : kMake C sp E Q us H) : kMakeG C sp gV E Q vs zs H := fun x dx nx nd ne => by
  rw [e x]
  exact k x dx nx nd ne
theorem tMakeK_k (C : Addr) (n m : Nat) (sp : Sp) (gV : List V → List V → List V) (E : XK) (t tk : TA) : tMakeK C n m sp gV E t tk = fun σ H Q => t σ H fun vs H1 => tk σ H1 fun zs H2 => vs.length = n ∧ zs.length = m ∧ kMakeG C sp gV E Q vs zs H2 := rfl
theorem cx_K {CX : CXT} {P : Program} {w : World} {K : PySem.W.Frag} {mg : Str → Option Value} {base : Heap} {N : List Str} {q : Str} {sc : Scope} {f : Addr} {cdv : Value} {A : Around} {outer : List Env} {s : Shared} {H : Hp} {E : XK} : (cxOf CX P w K mg base N q sc f cdv A outer s H E).K = K := rfl
theorem nox_K {X : Cx} : X.nox.K = X.K := rfl
end Ow
end
section
set_option maxHeartbeats 4000000
/-! o[i] and o[i] = v by an own def; static methods called off a class. -/
namespace Ow
open PySem PySem.Spec PyProof.Rows L2 StX
section
variable {X : Cx} {CX : CXT} {n : Nat} {C g : Addr} {sp : Sp} {E : XK}
def rGetO (C : Addr) (sp : Sp) (E : XK) : R2 := fun x y H Q => ∃ a, x = .ref a ∧ InsAt H a C ∧ sp [x, y] H Q E
theorem pe_subO {o i : Expr} {to ti : TE} {pos : Pos} (hs : PySem.W.findIn X.K (.ref C) "__getitem__" = some (some (.ref g))) (hf : PySem.W.isFn X.K (.ref g) = true) (hfn : PySem.W.fnIn X.K g = true)
    (F : FnR X.prog X.w X.K X.mg X.base CX n g sp) (hr : Room (n + 1) X.A) (hx : Passes CX X E) (ha : PE X o to) (hb : PE X i ti)
    (hsl : ∀ (x : Addr) (u : Value), subscripted i true (.ref x) u = runValue (.builtin "lifetime.subscript" ⟨[.ref x, u], []⟩) := by intro _ _; with_unfolding_all rfl) : PE X (.Subscript o i pos) (tOp (rGetO C sp E) to ti) := by
  refine ⟨fun pins s σ H Q I h => ?_⟩
  refine Subscript_ (binT ha hb I h fun v u s2 x y H2 I2 rx ry q => ?_)
  obtain ⟨a, rfl, hi, q⟩ := q
  obtain rfl : v = Value.ref a := rx
  obtain ⟨ox, od, J⟩ := inst_of I2 hi
  obtain ⟨m, hF⟩ := I2.fr
  refine PySem.W.sub_K hF I2.ok.mod.kin J hs hfn hf ?_ (hsl a u)
  exact wpAny_call (run_fnRS (us := [.ref a, u]) (vs := [.ref a, y]) F hr.in1 rfl hx I2 (.cons rfl (.cons ry .nil)) q)
def rSetO (C : Addr) (sp : Sp) (E : XK) : V → V → V → Hp → (Hp → Prop) → Prop := fun o i v H Q => ∃ a, o = .ref a ∧ InsAt H a C ∧ sp [o, i, v] H (fun _ H' => Q H') E
theorem set_own (hq : PySem.W.noSeq X.K C = true) (hs : PySem.W.findIn X.K (.ref C) "__setitem__" = some (some (.ref g))) (hf : PySem.W.isFn X.K (.ref g) = true)
    (F : FnR X.prog X.w X.K X.mg X.base CX n g sp) (hr : Room n X.A) (hx : Passes CX X E) : PSet X (rSetO C sp E) := by
  intro pins s σ H o i v ov iv u Q I ro ri rv h
  obtain ⟨a, rfl, ha, q⟩ := h
  cases (show ov = Value.ref a from ro)
  obtain ⟨ox, od, J⟩ := inst_of I ha
  obtain ⟨m, hF⟩ := I.fr
  refine PySem.W.ksp_setItem hF I.ok.mod.kin J hq hs hf ?_
  refine wpAny_mono (wpAny_call (run_fnR (us := [.ref a, iv, u]) (vs := [.ref a, i, v]) F hr hx I (.cons rfl (.cons ri (.cons rv .nil))) q)) (fun w s' z => ?_) fun _ _ x => x
  obtain ⟨z', H', I', rz, qz⟩ := z
  exact ⟨H', I', qz⟩
/-- C.m is a static method: its record at p, its def at g -/
structure SMet (K : PySem.W.Frag) (C : Addr) (mc : Value) (m : Str) (p g : Addr) : Prop where
  at_ : PySem.W.findCls K (.ref C) mc m = some (.get (.builtin "staticmethod.__get__") (.ref p) .none (.ref C))
  rc : ∃ rest, PySem.W.recIn K p "staticmethod" = some (.ref g :: rest)
  kp : PySem.W.keepIn K (.ref g) = true
end
section
variable {X : Cx} {pins : List (Addr × Obj)} {σ : L2.St} {H : Hp} {s : Shared} {C p g : Addr} {mc : Value} {m : Str} {A : Around} {E : Value → Shared → Prop}
theorem getsm_ok {b : Bool} {Q : Value → Shared → Prop} (I : Inv X pins σ H s) (r : ClX.CRead X.K C mc) (k : SMet X.K C mc m p g)
    (h : ∀ s', Inv X pins σ H s' → Q (.ref g) s') : wpAny (model X.prog X.w) A (getAttr (.ref C) m b) Q E s := by
  obtain ⟨rest, hp⟩ := k.rc
  refine PySem.W.cls_bind I.kIn r.rd k.at_ ?_
  refine wpAny_call (PySem.W.sm_get (s := { s with toks := s.toks + 1 }) I.kIn hp (PySem.W.handed_on rfl ?_))
  exact h _ (I.tok _)
theorem getmethsm_ok {pl : Sem Bool} {Q : Value × List Value → Shared → Prop} (I : Inv X pins σ H s) (r : ClX.CRead X.K C mc) (k : SMet X.K C mc m p g)
    (h : ∀ s', Inv X pins σ H s' → Q (.ref g, []) s') : wpAny (model X.prog X.w) A (getMethod (.ref C) m pl) Q E s :=
  PySem.W.method_cls I.kIn r.ga (getsm_ok I r k h)
end
section
variable {X : Cx} {CX : CXT} {k : Nat} {C p g : Addr} {mc : Value} {sp : Sp} {E : XK} {o e : Expr} {es : List Expr} {m : Str} {pos apos : Pos} {ta : TE} {t : TA} {pl : Sem Bool}
def tSMeth (C : Addr) (sp : Sp) (E : XK) (ta : TE) (t : TA) : TE := fun σ H Q => ta σ H fun x H1 => x = .ref C ∧ t σ H1 fun vs H2 => sp vs H2 Q E
theorem pe_smeth (he : PE X o ta) (r : ClX.CRead X.K C mc) (c : SMet X.K C mc m p g) (F : FnR X.prog X.w X.K X.mg X.base CX k g sp) (hr : Room k X.A) (hx : Passes CX X E) (ha : PA X (e :: es) t)
    (hst : starEach (e :: es) X.env = (false, eval e X.env) :: starEach es X.env := by rfl) (hpl : (backTo pos (starEach es X.env)).any (·.1) = false := by rfl)
    (ht : eval (.Call (.Attribute o m apos) (e :: es) [] pos) X.env = (do
      let ov ← eval o X.env
      standAt apos.atName
      let (f, first) ← holding [ov] (getMethod ov m pl)
      callWith pos f first (backTo pos (starEach (e :: es) X.env)) (backToKw pos (keywordEach [] X.env))) := by rfl) :
    PE X (.Call (.Attribute o m apos) (e :: es) [] pos) (tSMeth C sp E ta t) := by
  refine ⟨fun pins s σ H Q I h => ?_⟩
  refine PySem.W.methodCall_KW (pl := pl) (thn (he.run pins s σ H _ I h) fun u s1 ⟨x, H1, I1, rx, ex, q⟩ => ?_) ht
  subst ex
  obtain rfl : u = Value.ref C := rx
  refine getmethsm_ok I1 r c fun s2 I2 => ?_
  refine PySem.W.callWith_K (h₀ := X.base) I.ok.mod.kin c.kp (thn (ha.run pos pins s2 σ H1 _ I2 q) fun us s3 ⟨vs, H2, I3, rv, q2⟩ => ⟨I3.kIn, ?_⟩) hst hpl
  refine wpAny_mono (wpAny_call (run_fnR F hr hx I3 rv q2)) (fun w s' z => z) fun _ _ x => x
/-- by keywords alone -/
def tSMethK (C : Addr) (n : Nat) (sp : Sp) (gV : List V → List V → List V) (E : XK) (ta : TE) (tk : TA) : TE := fun σ H Q => ta σ H fun x H1 => x = .ref C ∧ tk σ H1 fun zs H2 => zs.length = n ∧ sp (gV [] zs) H2 Q E
theorem pe_smethK {kws : List Keyword} {fd : FuncData} {ps ks : List Str} {tk : TA} {gl : List Value → List Value → List Value} {gV : List V → List V → List V} (he : PE X o ta) (r : ClX.CRead X.K C mc) (c : SMet X.K C mc m p g)
    (F : FnOk X.prog X.w X.K X.mg X.base CX k g fd ps sp) (hr : Room k X.A) (hb : KBn X.K fd ps 0 ks gl gV) (hx : Passes CX X E) (hkw : PK X kws tk)
    (hall : (backToKw pos (keywordEach kws X.env)).all (·.1.isSome) = true := by rfl) (hks : (backToKw pos (keywordEach kws X.env)).filterMap (·.1) = ks := by rfl)
    (hpl : ((backTo pos (starEach [] X.env)).any (·.1) || (backToKw pos (keywordEach kws X.env)).any (·.1.isNone)) = false := by rfl)
    (ht : eval (.Call (.Attribute o m apos) [] kws pos) X.env = (do
      let ov ← eval o X.env
      standAt apos.atName
      let (f, first) ← holding [ov] (getMethod ov m pl)
      callWith pos f first (backTo pos (starEach [] X.env)) (backToKw pos (keywordEach kws X.env))) := by rfl) :
    PE X (.Call (.Attribute o m apos) [] kws pos) (tSMethK C ks.length sp gV E ta tk) := by
  refine ⟨fun pins s σ H Q I h => ?_⟩
  refine PySem.W.methodCall_KW (pl := pl) (thn (he.run pins s σ H _ I h) fun u s1 ⟨x, H1, I1, rx, ex, q⟩ => ?_) ht
  subst ex
  obtain rfl : u = Value.ref C := rx
  refine getmethsm_ok I1 r c fun s2 I2 => ?_
  refine PySem.W.callWith_KW0 (h₀ := X.base) I.ok.mod.kin c.kp hall ?_ hpl
  refine thn (hkw.run pos pins s2 σ H1 _ I2 q) fun ws s3 ⟨zs, H3, I3, rz, l2, q2⟩ => ⟨I3.kIn, ?_⟩
  rw [hks]
  refine wpAny_call (codeAny_mono (F.run X.A X.stack s3 H3 ⟨[], ks.zip ws⟩ (gl [] ws) (gV [] zs) Q E hr I3.env0 (hb.to s3 [] ws I3.kIn rfl (rz.length.symm.trans l2)) (hb.rel .nil rz) q2) fun r s' hq => ?_)
  cases r with
  | error e => exact hx pins σ H3 s3 e s' I3 hq
  | ok fl =>
    cases fl with
    | ret u => exact I3.after hq
    | next => exact False.elim hq
    | brk => exact False.elim hq
    | cont => exact False.elim hq
end
end Ow
end
section
set_option maxHeartbeats 4000000
/-! enumerate(tuple). -/
namespace Ow
open PySem PySem.Spec PyProof.Rows L2 StX
/-- the tuple at a as it stands at each turn, each item in a new pair -/
def IteT (K : PySem.W.Frag) (a : Addr) : It :=
  ⟨fun i H => ∃ (xs : List V) (x : V), SqT K H a xs ∧ xs[i]? = some x, fun i H v H' => ∃ T x, v = .ref T ∧ H T = none ∧ H' = upd H T (.tup [.int (i : Nat), x]) ∧ ∀ xs, SqT K H a xs → xs[i]? = some x, fun i H => ∃ xs : List V, SqT K H a xs ∧ xs.length ≤ i⟩
theorem cls_ne {h : Heap} {a b : Addr} {oa ob : Obj} {ca cb : String} (ha : h.get? a = some oa) (hb : h.get? b = some ob) (ea : oa.cls = .type ca) (eb : ob.cls = .type cb) (d : ca ≠ cb) : a ≠ b := fun e => by
  subst e
  rw [ha] at hb
  cases hb
  rw [ea] at eb
  exact d (Value.type.inj eb)
theorem enum_doneT {prog : Program} {w : World} {A : Around} {E : Value → Shared → Prop} {s : Shared} {e it a : Addr} {i : Nat} {ys : Array Value} {old : Value} {Q : Option Value → Shared → Prop} (hh : A.in1.handled = none)
    (he : IsEnum s.heap e it i old) (ht : s.heap.IsTupleIter it a i) (hy : s.heap.IsTuple a ys) (hx : ys[i]? = none) (k : ∀ h', Heap.ExtBut it s.heap h' → Q none { s with heap := h' }) : wpAny (model prog w) A (pyNext (.ref e)) Q E s := by
  have ty : s.TypeIs (.ref e) "enumerate" := ⟨_, he, rfl⟩
  unfold pyNext
  refine wpAny_bind (wpAny_attempt (wpAny_callSpecial?_slot (name := Str.ofString "__next__") ty F.slot_enumerate_next (wpAny_call_entry F.slot_enumerate_next ty F.entry_enumerate_next ?_ (F.args_enumerate_next_1 _))))
  show wpAny _ _ (field (.ref e) 2 >>= _) _ _ _
  refine wpAny_bind (wpAny_field he rfl (x := .ref it) rfl (wpAny_bind (wpAny_nextOf_tuple_end hh ht hy hx fun h' x h1 h2 => ?_)))
  obtain ⟨o, ho, hc⟩ := h2
  exact wpAny_bind (wpAny_isInstance (T := "StopIteration") (b := true) ⟨o, ho, hc⟩ isSubtype_stop (wpAny_pure (k _ h1)))
theorem turn_enumT {P : Program} {w : World} {K : PySem.W.Frag} {elts : List Expr} {kk : Nat} {tpos : Pos} (a e it : Addr) :
    Turn P w K (.Tuple elts kk tpos) (IteT K a) [e, it] e (fun i h => (∃ old, IsEnum h e it ((i : Nat) : Int) old) ∧ h.IsTupleIter it a i ∧ e ≠ it) where
  mem := by simp
  obj := fun i h st b hb => by
    obtain ⟨⟨old, he⟩, ⟨o, ho, hc, hd⟩, _⟩ := st
    have e' : b = e ∨ b = it := by simpa using hb
    rcases e' with z | z
    · rw [z]; exact ⟨_, he, fun v q => nomatch q⟩
    · rw [z]; exact ⟨o, ho, fun v q => by rw [hd] at q; cases q⟩
  keep := fun i h h' st k => let ⟨⟨old, he⟩, hi, hne⟩ := st; ⟨⟨old, k e (by simp) _ he⟩, hi.at fun o q => k it (by simp) o q, hne⟩
  item := by
    intro X hP hw hK hc i pins s σ H E I hf st hg
    subst hP hw hK
    obtain ⟨⟨old, he⟩, hit, hne⟩ := st
    obtain ⟨xs, x, hq, hx⟩ := hg
    obtain ⟨its, rv, p, hz⟩ := I.tuple hq
    obtain ⟨u, hu, ru⟩ := rv.get hx
    have hel : e < s.heap.objs.size := Heap.lt_size he
    have hil : it < s.heap.objs.size := by obtain ⟨_, q, _⟩ := hit; exact Heap.lt_size q
    have hai : a ≠ it := by
      obtain ⟨o1, h1, c1, _⟩ := p
      obtain ⟨o2, h2, c2, _⟩ := hit
      exact cls_ne h1 h2 c1 c2 (by decide)
    have hea : e ≠ a := by
      obtain ⟨o1, h1, c1, _⟩ := p
      exact cls_ne he h1 rfl c1 (by decide)
    have hlt : i < its.toArray.size := by
      have := rv.length
      have h3 : i < xs.length := by
        by_cases y : i < xs.length
        · exact y
        · rw [List.getElem?_eq_none (by omega)] at hx
          cases hx
      rw [List.size_toArray]
      omega
    refine wpAny_pyNext_enum_itemD (Draws.tuple (A := X.A.in1) (I.ok.hd hc) it a hai its.toArray) he ⟨hit, p⟩ hlt hne (by simp [hne, hea]) fun x2 h' tk hP ho hit2 hT hsz hk => ?_
    obtain ⟨hit', _⟩ := hit2
    have hxu : x2 = u := by
      have h5 : its[i]? = some x2 := by simpa using hP
      rw [hu] at h5
      exact (Option.some.inj h5).symm
    subst hxu
    refine ⟨_, rfl, wpAny_letOwnedTupleGo_enum (s := { s with heap := h', toks := tk + 1 }) ho fun h'' he' sb => ?_⟩
    have hT2 : h''.get? s.heap.objs.size = some { cls := .type "tuple", data := .seq #[.int i tk, x2] } := (sb.2 _ (Nat.ne_of_gt hel)).trans hT
    have new : ObjOk X.prog X.w (upd H s.heap.objs.size (.tup [.int (i : Nat), x])) h'' s.heap.objs.size (.tup [.int (i : Nat), x]) :=
      ⟨by show 2 ≤ sizeLine; decide, [.int i tk, x2], .cons ⟨_, rfl⟩ (.cons ru .nil), ⟨_, hT2, rfl, _, rfl⟩⟩
    have I1 : Inv X pins σ (upd H s.heap.objs.size (.tup [.int (i : Nat), x])) { s with heap := h'', toks := tk + 1 } :=
      I.turnedNew (ch := [e, it]) (fun b ob hb q => (sb.2 b (fun z => hb (by simp [z]))).trans (hk b ob (fun z => hb (by simp [z])) (fun z => hb (by simp [z])) q)) hf (Nat.le_refl _) new
    refine ⟨.ref s.heap.objs.size, _, I1, rfl, ⟨_, x, rfl, I.hok.fresh (Nat.le_refl _), rfl, fun ys hy => by rw [I.tuple_inj hy hq]; exact hx⟩, ⟨⟨x2, ?_⟩, hit'.at fun o q => (sb.2 it (Ne.symm hne)).trans q, hne⟩, fun b hb => ?_⟩
    · have e1 : ((i + 1 : Nat) : Int) = (i : Int) + 1 := by omega
      rw [e1]; exact he'
    · have hb' : b < s.heap.objs.size := by
        have e' : b = e ∨ b = it := by simpa using hb
        rcases e' with z | z
        · rw [z]; exact hel
        · rw [z]; exact hil
      rw [upd_ne (Nat.ne_of_lt hb')]
      exact (hf b hb).1
  done := by
    intro X hP hw hK hc i pins s σ H E I hf st hg
    subst hP hw hK
    obtain ⟨⟨old, he⟩, hit, hne⟩ := st
    obtain ⟨xs, hq, hx⟩ := hg
    obtain ⟨its, rv, p, hz⟩ := I.tuple hq
    obtain ⟨f0, f1, f2, f3, f4, f5⟩ := hf it (by simp)
    have hl := rv.length
    exact enum_doneT (I.ok.hd hc) he hit p (by simp; omega) fun h' eb => ⟨rfl, I.turned (t' := s.toks) (fun b o hb q => eb b o hb q) f0 f1 f3 f4 f5⟩
  self := fun A i s Q E st h => let ⟨⟨_, he⟩, _⟩ := st; wpAny_pyIter_enum he h
theorem meets_enumT (a : Addr) (ys : Array Value) :
    Meets (Builtin.«enumerate.__new__» ⟨[.type "enumerate", .ref a], []⟩) (fun _ R s => s.heap.IsTuple a ys ∧
      R (.ok (.ret (.ref (s.heap.push { cls := .type "tuple_iterator", data := .fields #[.ref a, .int 0 0] }).objs.size)))
        { s with heap := (s.heap.push { cls := .type "tuple_iterator", data := .fields #[.ref a, .int 0 0] }).push { cls := .type "enumerate", data := .fields #[.none, .bool false, .ref s.heap.objs.size, rawInt 0, .none, .none] } }) :=
  .of_wp fun prog w A R s h => by
    obtain ⟨hp, g, d, tk, os⟩ := s
    obtain ⟨hl, h⟩ := h
    have hsub := sub_enumerate
    have q1 : ∀ {A' : Around} {E : Value → Shared → Prop} {Q : Value → Shared → Prop}, Q (.ref hp.objs.size) ⟨hp.push { cls := .type "tuple_iterator", data := .fields #[.ref a, .int 0 0] }, g, d, tk, os⟩ → wpAny (model prog w) A' (pyIter (.ref a)) Q E ⟨hp, g, d, tk, os⟩ :=
      fun q => wpAny_pyIter_tuple (s := ⟨hp, g, d, tk, os⟩) hl q
    wp_walk using q1
    refine wpAny_stack_any fun st => wpAny_pure ?_
    split
    · rename_i c _ _ _ _ _
      cases (c == Value.type "enumerate")
      · wp_walk using q1
        exact ⟨_, rfl, h⟩
      · wp_walk using q1
        exact ⟨_, rfl, h⟩
    · wp_walk using q1
      exact ⟨_, rfl, h⟩
theorem call_enumT {prog : Program} {w : World} {A : Around} {E : Value → Shared → Prop} {s : Shared} {a : Addr} {ys : Array Value} {Q : Value → Shared → Prop} (hy : s.heap.IsTuple a ys)
    (k : ∀ h', IsEnum h' (s.heap.objs.size + 1) s.heap.objs.size 0 .none → h'.IsTupleIter s.heap.objs.size a 0 → (∀ b o, s.heap.get? b = some o → h'.get? b = some o) → Q (.ref (s.heap.objs.size + 1)) { s with heap := h' }) :
    wpAny (model prog w) A (call (.type "enumerate") [.ref a]) Q E s := by
  refine callType_new F.called_enumerate (by decide) (F.typeCall_enumerate_1 _) (F.newCall_enumerate_1 _) (fun obj => F.args_object_init_2 obj _) F.entry_enumerate_new (meets_enumT a ys) ⟨hy, ?_⟩
  have hz : (s.heap.push { cls := .type "tuple_iterator", data := .fields #[.ref a, .int 0 0] }).objs.size = s.heap.objs.size + 1 := Heap.size_push ..
  have e1 : ((s.heap.push { cls := .type "tuple_iterator", data := .fields #[.ref a, .int 0 0] }).push { cls := .type "enumerate", data := .fields #[.none, .bool false, .ref s.heap.objs.size, rawInt 0, .none, .none] }).get? (s.heap.objs.size + 1) = some { cls := .type "enumerate", data := .fields #[.none, .bool false, .ref s.heap.objs.size, rawInt 0, .none, .none] } := by
    rw [← hz]
    exact Heap.get?_push_size _ rfl
  have e2 : ((s.heap.push { cls := .type "tuple_iterator", data := .fields #[.ref a, .int 0 0] }).push { cls := .type "enumerate", data := .fields #[.none, .bool false, .ref s.heap.objs.size, rawInt 0, .none, .none] }).get? s.heap.objs.size = some { cls := .type "tuple_iterator", data := .fields #[.ref a, .int 0 0] } := Heap.get?_push_of_some _ (Heap.get?_push_size _ rfl)
  show _ ∧ _
  rw [hz]
  exact ⟨⟨_, e1, rfl⟩, k _ e1 ⟨_, e2, rfl, rfl⟩ fun b o e => Heap.get?_push_of_some _ (Heap.get?_push_of_some _ e)⟩
def iEnumT (K : PySem.W.Frag) (ta : TA) : TI := fun σ H R => ta σ H fun vs H1 => ∃ a xs, vs = [.ref a] ∧ ((SqL K H1 a xs ∧ R (Ite K a) H1) ∨ (SqT K H1 a xs ∧ R (IteT K a) H1))
theorem pi_enumT {X : Cx} {e : Expr} {ta : TA} {p pos tpos : Pos} {elts : List Expr} {kk : Nat} (hg : Gl X "enumerate") (hm : X.mg "enumerate" = none) (ha : PA X [e] ta) (hs : starEach [e] X.env = [(false, eval e X.env)] := by rfl) :
    PI X (.Tuple elts kk tpos) (.Call (.Name "enumerate" p) [e] [] pos) (iEnumT X.K ta) := by
  refine ⟨fun pins s σ H R I h => ?_⟩
  refine Call_ (ld_blt I hg hm boot_enumerate (PyProof.Rows.callWith_type1 (thn (ha.run pos pins s σ H _ I h) fun us s1 ⟨vs, H1, I1, r1, q1⟩ => ?_) hs rfl))
  obtain ⟨a, xs, ex, q⟩ := q1
  subst ex
  obtain ⟨u, rfl, ru⟩ := vals1 r1
  obtain rfl : u = Value.ref a := ru
  have fp : ∀ b ∈ [s1.heap.objs.size + 1, s1.heap.objs.size], FpOk X pins H1 b := fun b hb => by
    have hle : s1.heap.objs.size ≤ b := by
      simp only [List.mem_cons, List.not_mem_nil, or_false] at hb
      omega
    exact I1.fpOk hle (I1.hok.fresh hle)
  rcases q with ⟨hq, q⟩ | ⟨hq, q⟩
  · obtain ⟨its, rv, p', hz⟩ := I1.list hq
    refine call_enumerate_list p'.isList fun h' he hit hsz hk => wpAny_pyIter_enum he ?_
    exact ⟨s1.heap.objs.size + 1, _, _, _, H1, rfl, I1.kept (t' := s1.toks) hk, turn_enum a (s1.heap.objs.size + 1) s1.heap.objs.size, ⟨⟨.none, he⟩, hit, Nat.succ_ne_self _⟩, fp, q⟩
  · obtain ⟨its, rv, p', hz⟩ := I1.tuple hq
    refine call_enumT p' fun h' he hit hk => wpAny_pyIter_enum he ?_
    exact ⟨s1.heap.objs.size + 1, _, _, _, H1, rfl, I1.kept (t' := s1.toks) hk, turn_enumT a (s1.heap.objs.size + 1) s1.heap.objs.size, ⟨⟨.none, he⟩, hit, Nat.succ_ne_self _⟩, fp, q⟩
theorem walk_enumT {K : PySem.W.Frag} {a : Addr} {xs : List V} : Walk (IteT K a) xs.length (fun H => SqT K H a xs) (YPair (fun i => some (.int (i : Nat))) (fun i => xs[i]?)) := by
  refine ⟨fun i _ hi q => ⟨xs, xs[i], q, by simp [hi]⟩, fun _ q => ⟨xs, q, Nat.le_refl _⟩, fun i H v H' _ q y => ?_⟩
  obtain ⟨T, x, h1, h2, h3, h4⟩ := y
  exact ⟨T, .int (i : Nat), x, h1, h2, h3, rfl, h4 xs q⟩
/-- text * int -/
def rMulS : R2 := fun x y H Q => ∃ z n, x = .str z ∧ y = .int n ∧ MulOk z n ∧ Q (.str (Txt.mul z n)) H
theorem op_mulS {X : Cx} : OpR X (binaryOp .Mult) rMulS := by
  intro pins s σ H x y v u Q I rx ry h
  obtain ⟨z, n, rfl, rfl, ok, q⟩ := h
  obtain ⟨t, rfl⟩ := rx
  obtain ⟨t', rfl⟩ := ry
  exact SB.mul ok fun t2 k => ⟨.str (Txt.mul z n), H, I.tok _, ⟨t2, rfl⟩, q⟩
theorem fold_one (d : Nat) : ∀ (m : Nat) (acc : List Nat), (List.replicate m #[d]).foldl (fun a b => a ++ b) acc.toArray = (acc ++ List.replicate m d).toArray
  | 0, acc => by simp
  | m + 1, acc => by
    rw [List.replicate_succ, List.foldl_cons, List.append_toArray, fold_one d m (acc ++ [d]), List.replicate_succ, List.append_assoc]
    rfl
theorem mul_one (d : Nat) {n : Int} (h : 1 ≤ n) : Txt.mul (SX.S [d]) n = SX.S (List.replicate n.toNat d) := by
  unfold Txt.mul
  rw [if_neg (by omega)]
  by_cases e : n = 1
  · subst e
    rfl
  · rw [if_neg (by
      rw [SX.S_len]
      simp [e])]
    have := fold_one d n.toNat []
    exact congrArg Str.mk this
theorem mulOk_one (d : Nat) {n : Int} (h : 1 ≤ n) (h2 : n ≤ 100000) : MulOk (SX.S [d]) n := by
  refine ⟨?_, fun _ _ => ?_, fun _ _ => ?_⟩
  · rw [Bool.or_eq_false_iff]
    exact ⟨decide_eq_false (by omega), decide_eq_false (by omega)⟩
  · rw [SX.S_len]
    have : (1 : Int) ≤ (2 ^ 63 - 1) / n := Int.le_ediv_of_mul_le (by omega) (by omega)
    intro z
    have z : (1 : Int) > (2 ^ 63 - 1) / n := z
    omega
  · rw [SX.S_len]
    show Builtin.Str.tooLong (1 * n.toNat) = false
    exact decide_eq_false (Nat.not_lt.mpr (Nat.le_trans (show 1 * n.toNat ≤ 100000 by omega) (by decide +kernel)))
theorem vals_rev {vs : List V} {us : List Value} (r : Vals vs us) : Vals vs.reverse us.reverse := by
  induction r with
  | nil => exact .nil
  | cons h t ih =>
    rw [List.reverse_cons, List.reverse_cons]
    exact ih.append (.cons h .nil)
/-- a def's promise by binds, with the def itself (for calls by keywords) -/
theorem FnT.okF {P : Program} {w : World} {K : PySem.W.Frag} {mg : Str → Option Value} {base : Heap} {x qual : Str} {st : Stmt} {dvs : List V} {f : Addr} {N ps : List Str} {k : Nat} {sp : Sp} (F : FnT K x qual st dvs f) (S : FnScope N ps (defScope st)) (len : ∀ vs H Q E, sp vs H Q E → vs.length = ps.length)
    (hbody : ∀ (cdv : Value) (A : Around) (outer : List Env) (s : Shared) (H : Hp) (vs : List V) (Q : VK) (E : XK), Room k (A.deeper (envOfC qual (defScope st) s.heap.objs.size f cdv)) → sp vs H Q E →
      ∃ t, PSs (cxOf CX0 P w K mg base N qual (defScope st) f cdv A outer s H E).nox (defBody st) t ∧ t { nx := fun _ H' => Q .non H', rt := Q } (L2.start N vs) H) :
    ∃ fd, FnOk P w K mg base CX0 (k + 1) f fd ps sp ∧ FunD K x qual (defArgs st) (defBody st) (defScope st) dvs [] f fd := by
  obtain ⟨fd, F⟩ := F
  exact ⟨fd, F.ok S len fun cdv A outer s H vs Q E hr hsp => by
    obtain ⟨t, h, q⟩ := hbody cdv A outer s H vs Q E hr hsp
    exact ⟨t, h.nox, q⟩, F⟩
end Ow
end
section
namespace Ow
open PySem PySem.Spec PyProof.Rows L2
/-- a static method's facts, of pieces that k_is finds -/
theorem smet_mk {K : PySem.W.Frag} {C p g : Addr} {m : Str} {ta : Value} {rest : List Value}
    (h1 : PySem.W.findIn K (.ref C) m = some (some (.ref p)))
    (h2 : PySem.W.findIn K (.type "type") m = some none)
    (h3 : PySem.W.typeIn K (.ref p) = some ta)
    (h4 : PySem.W.bareKinds.contains ta = false)
    (h5 : PySem.W.specialIn K (.ref p) "__get__" = some (some (.builtin "staticmethod.__get__")))
    (h6 : PySem.W.recIn K p "staticmethod" = some (.ref g :: rest)) (h7 : PySem.W.keepIn K (.ref g) = true) :
    SMet K C (.type "type") m p g := by
  refine ⟨?_, ⟨_, h6⟩, h7⟩
  unfold PySem.W.findCls
  simp only [h2, h1, h3, h4, h5, Option.bind, Builtin.heldUnderItsOwnName]
  rfl
end Ow
end
section
namespace Ow
open PySem PySem.Spec PyProof.Rows L2
/-- a suite that names what was caught: slot i holds it, and is empty behind the suite -/
def asTS (i : Nat) (ts : Addr → Value → Option Addr → TS) : Addr → Value → Option Addr → TS := fun a cls d D σ H =>
  ts a cls d { nx := fun σ' H' => D.nx (σ'.set i none) H', rt := D.rt, bk := fun σ' H' => D.bk (σ'.set i none) H', ct := fun σ' H' => D.ct (σ'.set i none) H' } (σ.set i (some (.ref a))) H
/-- clauses of a try, each with a class by its name, with or without a name for what is caught -/
inductive HdsM (X : Cx) : List ExceptHandler → List (Value × (Addr → Value → Option Addr → TS)) → Prop
  | nil : HdsM X [] []
  | plain {x : Str} {c : Value} {ts : Addr → Value → Option Addr → TS} {b₀ : Stmt} {suite : List Stmt} {np pos' : Pos} {hds : List ExceptHandler} {l : List (Value × (Addr → Value → Option Addr → TS))} (hc : Names X x c)
      (hsu : ∀ (a : Addr) (oe : Obj) (cls : Value) (d : Option Addr) (pn : List (Addr × Obj)), Zc cls d oe → (∃ vs, oe.data = .fields vs) → PSs (X.suite a ((a, oe) :: pn)) (b₀ :: suite) (ts a cls d)) (r : HdsM X hds l) :
      HdsM X (.ExceptHandler (some (.Name x np)) none (b₀ :: suite) pos' :: hds) ((c, ts) :: l)
  | named {x n : Str} {i : Nat} {c : Value} {ts : Addr → Value → Option Addr → TS} {b₀ : Stmt} {suite : List Stmt} {np pos' : Pos} {hds : List ExceptHandler} {l : List (Value × (Addr → Value → Option Addr → TS))} (hi : X.N[i]? = some n) (hln : X.env.kindOf n = some .local) (hc : Names X x c)
      (hsu : ∀ (a : Addr) (oe : Obj) (cls : Value) (d : Option Addr) (pn : List (Addr × Obj)), Zc cls d oe → (∃ vs, oe.data = .fields vs) → PSs (X.suite a ((a, oe) :: pn)) (b₀ :: suite) (ts a cls d)) (r : HdsM X hds l) :
      HdsM X (.ExceptHandler (some (.Name x np)) (some n) (b₀ :: suite) pos' :: hds) ((c, asTS i ts) :: l)
set_option maxHeartbeats 4000000
/-- try with any row of clauses, some with `as` -/
theorem ps_try_mix {X : Cx} {body : List Stmt} {h₀ : ExceptHandler} {hds : List ExceptHandler} {l : List (Value × (Addr → Value → Option Addr → TS))} {pos : Pos} {tb : WX → TS} {Wout : WX} (hs : X.stack = X.env :: X.outer) (hf : X.env.frame = some X.env.locals) (hN : X.N.Nodup) (tk : Takes X Wout)
    (hb : ∀ (W : WX) (pn : List (Addr × Obj)) (xe : Value → Shared → Prop), Takes (X.tr pn xe) W → PassesOwn (model X.prog X.w) X.A X.env xe → PSs (X.tr pn xe) body (tb W)) (hh : HdsM X (h₀ :: hds) l) :
    PS X (.Try body (h₀ :: hds) [] [] pos) (fun D σ H => tb (wMany X.K Wout D l) D σ H) := by
  refine ⟨fun pins s σ H D I h => ?_⟩
  have ok := I.ok
  have hfr : X.A.frames = some (X.env :: X.outer) := by rw [ok.frames, hs]
  refine wpAny_Try_except (wpAny_mono ((hb (wMany X.K Wout D l) (X.pn ++ pins) (fun e s₁ => wpAny (model X.prog X.w) X.A (noteFrame e X.env) (fun _ s₂ => wpAny (model X.prog X.w) X.A (setFlight e none) (fun _ s₃ => wpAny (model X.prog X.w) X.A (handleBy e X.env (h₀ :: hds)) (SP X pins D) X.xe s₃) X.xe s₂) X.xe s₁) ?_ PassesOwn.looking).run [] s σ H D (Inv.toTry I _) h) (fun f s1 hsp => ?_) fun e s1 he => he)
  · intro u s' xx
    obtain ⟨a, B, sI, pins', σ', H', cls, d, rfl, J', nb, up, sky, na, os, ag, w⟩ := xx
    have J := Inv.ofTry J' ok
    have sky' : Sky B (X.env :: X.outer) a (Zc cls d) X.env.locals s'.heap := by rw [← hs]; exact sky
    refine Sky.land Zc.steady hfr hf sky' fun h3 fl3 up3 => ?_
    have J3 := Inv.landed (s' := { heap := h3, gens := s'.gens, drawn := s'.drawn, toks := s'.toks, os := s'.os }) J nb fl3.left (Heap.UpToSlots.trans up up3) os ag
    obtain ⟨oe3, vs3, he3, hz3, hd3⟩ := HandSPX.FlyingZ.there fl3
    have nfr : ¬ a ∈ List.filterMap (fun x : Env => x.frame) (X.env :: X.outer) := fun hm => by
      obtain ⟨_, o', e', hnf⟩ := Heap.FunFrames.mem fl3.right.right.left hm
      have e2 := e'.symm.trans he3
      cases e2
      exact hnf _ hd3
    have nL : a ≠ X.env.locals := fun z => nfr (List.mem_filterMap.mpr ⟨X.env, List.mem_cons_self .., by rw [hf, z]⟩)
    have nF : ¬ a ∈ X.fs := fun hm => by
      obtain ⟨e, he, q⟩ := List.mem_filterMap.mp hm
      exact nfr (List.mem_filterMap.mpr ⟨e, List.mem_cons_of_mem _ he, q⟩)
    have S3 := Inv.suite J3 he3 hd3 na nL nF
    clear h hb
    have key : ∀ (hds' : List ExceptHandler) (l' : List (Value × (Addr → Value → Option Addr → TS))), HdsM X hds' l' → wMany X.K Wout D l' cls d σ' H' → wpAny (model X.prog X.w) X.A (handleBy (.ref a) X.env hds') (SP X pins D) X.xe { heap := h3, gens := s'.gens, drawn := s'.drawn, toks := s'.toks, os := s'.os } := by
      intro hds' l' hk
      have LT : W.Looks (model X.prog X.w) h3 (typeOf (Value.ref a)) cls := fun A Q E s k q => wpAny_typeOf_ref (k a oe3 he3) (by rw [hz3.left]; exact q)
      have test : ∀ {x : Str} {c : Value} {np : Pos} {Q : Value → Shared → Prop} {E : Value → Shared → Prop}, Names X x c → Q c { heap := h3, gens := s'.gens, drawn := s'.drawn, toks := s'.toks, os := s'.os } →
          wpAny (model X.prog X.w) (X.A.mark (some (.ref a))) (eval (.Name x np) X.env) Q E { heap := h3, gens := s'.gens, drawn := s'.drawn, toks := s'.toks, os := s'.os } := by
        intro x c np Q E hc q
        obtain ⟨hg, hdbg, hm | ⟨hm, hv, hnn⟩⟩ := hc
        · exact ld_glob (X := X.suite a _) S3 hg hm q hdbg
        · exact ld_blt (X := X.suite a _) S3 hg hm hv q hnn hdbg
      induction hk with
      | nil =>
        intro w
        refine wpAny_handleBy_nil ?_
        have fl := fl3
        obtain ⟨k1, k2, k3, oe, vs, T, oT, ts', he, hz, hd, h1, hr⟩ := fl3
        unfold PySem.passOn
        refine wpAny_bind (wpAny_field he hd h1 ?_)
        rw [if_neg (by simp)]
        refine wpAny_bind ?_
        rw [hf]
        exact HandSPX.setFlight_upZ fl fun h4 hh4 up4 => wpAny_throw (tk _ _ ⟨a, B, sI, pins, σ', H', cls, d, rfl, J, nb, (up.trans up3).trans up4, .inr (.inr (by rw [hs]; exact hh4)), na, os, ag, w⟩)
      | plain hc hsu r ih =>
        intro w
        obtain ⟨b, hb1, hyes, hno⟩ := w
        refine wpAny_handleBy_cons (codeAny_handlers_test (test hc (W.Looks.here (W.exm_one (Inv.kIn J3) LT hb1) ?_))) (fun q => by cases q)
        cases b with
        | false => exact ih (hno rfl)
        | true =>
          refine codeAny_handlers_suite (HandSPX.lands_againZ fl3 fun h4 fl4 up4 => ?_)
          have J4 := Inv.landed (s' := { heap := h4, gens := s'.gens, drawn := s'.drawn, toks := s'.toks, os := s'.os }) J nb fl4.left (Heap.UpToSlots.trans (Heap.UpToSlots.trans up up3) up4) os ag
          obtain ⟨oe4, vs4, he4, hz4, hd4⟩ := HandSPX.FlyingZ.there fl4
          have S4 := Inv.suite J4 he4 hd4 na nL nF
          refine wpAny_mono ((hsu a oe4 cls d (X.pn ++ pins) hz4 ⟨vs4, hd4⟩).run [] _ σ' H' D S4 (hyes rfl a na)) (fun f s6 hsp => ?_) fun _ _ z => False.elim z
          cases f with
          | next => obtain ⟨σ6, H6, S6, q6⟩ := hsp; exact ⟨σ6, H6, Inv.unsuite S6 ok, q6⟩
          | brk => obtain ⟨σ6, H6, S6, q6⟩ := hsp; exact ⟨σ6, H6, Inv.unsuite S6 ok, q6⟩
          | cont => obtain ⟨σ6, H6, S6, q6⟩ := hsp; exact ⟨σ6, H6, Inv.unsuite S6 ok, q6⟩
          | ret u => obtain ⟨v6, σ6, H6, S6, r6, q6⟩ := hsp; exact ⟨v6, σ6, H6, Inv.unsuite S6 ok, r6, q6⟩
      | named hi hln hc hsu r ih =>
        intro w
        obtain ⟨b, hb1, hyes, hno⟩ := w
        refine wpAny_handleBy_cons (codeAny_handlers_test (test hc (W.Looks.here (W.exm_one (Inv.kIn J3) LT hb1) ?_))) (fun q => by cases q)
        cases b with
        | false => exact ih (hno rfl)
        | true =>
          refine codeAny_handlers_suite_as (HandSPX.lands_againZ fl3 fun h4 fl4 up4 => ?_)
          have J4 := Inv.landed (s' := { heap := h4, gens := s'.gens, drawn := s'.drawn, toks := s'.toks, os := s'.os }) J nb fl4.left (Heap.UpToSlots.trans (Heap.UpToSlots.trans up up3) up4) os ag
          obtain ⟨oe4, vs4, he4, hz4, hd4⟩ := HandSPX.FlyingZ.there fl4
          have S4 := Inv.suite J4 he4 hd4 na nL nF
          refine store_ok (X := X.suite a ((a, oe4) :: (X.pn ++ pins))) (v := .ref a) S4 hN hi (Or.inl hln) rfl (fun s5 S5 => ?_) (Or.inr hln)
          refine wpAny_mono ((hsu a oe4 cls d (X.pn ++ pins) hz4 ⟨vs4, hd4⟩).run [] s5 _ H' _ S5 (hyes rfl a na)) (fun f s6 hsp => ?_) fun _ _ z => False.elim z
          cases f with
          | next => obtain ⟨σ6, H6, S6, q6⟩ := hsp; exact gone_ok (Inv.unsuite S6 ok) hN hi hln fun s7 J7 => ⟨_, H6, J7, q6⟩
          | brk => obtain ⟨σ6, H6, S6, q6⟩ := hsp; exact gone_ok (Inv.unsuite S6 ok) hN hi hln fun s7 J7 => ⟨_, H6, J7, q6⟩
          | cont => obtain ⟨σ6, H6, S6, q6⟩ := hsp; exact gone_ok (Inv.unsuite S6 ok) hN hi hln fun s7 J7 => ⟨_, H6, J7, q6⟩
          | ret u => obtain ⟨v6, σ6, H6, S6, r6, q6⟩ := hsp; exact gone_ok (Inv.unsuite S6 ok) hN hi hln fun s7 J7 => ⟨v6, _, H6, J7, r6, q6⟩
    exact key _ _ hh w
  · cases f with
    | next => obtain ⟨σ', H', J', q⟩ := hsp; exact wpAny_execs_nil ⟨σ', H', Inv.ofTry J' ok, q⟩
    | brk => obtain ⟨σ', H', J', q⟩ := hsp; exact ⟨σ', H', Inv.ofTry J' ok, q⟩
    | cont => obtain ⟨σ', H', J', q⟩ := hsp; exact ⟨σ', H', Inv.ofTry J' ok, q⟩
    | ret u => obtain ⟨v, σ', H', J', r, q⟩ := hsp; exact ⟨v, σ', H', Inv.ofTry J' ok, r, q⟩
end Ow
end
section
set_option maxHeartbeats 4000000
/-! The same for a law that shows dicts, too: the table of modules is told. -/
namespace Ow
open PySem PySem.Spec PyProof.Rows L2 StX
section
variable {P : Program} {w : World} {K : PySem.W.Frag} {mg mb : Str → Option Value} {k : Nat} {fa a c T : Addr} {sp : Sp} {s1 : Shared} {vs : List Value} {ns : List Int}
theorem end_fromTB (KX : K.In s1.heap) (hns : s1.heap.Ns mainGlobals mg) (hb : s1.heap.Ns builtinsNs mb) (hbb : ∀ x : Str, x ≠ "__name__" → mb x = bootBuiltins x) (hlim : s1.heap.NoLimit) (hsy : SysB s1.heap) (hg : s1.gens = #[]) (hr : Room k callerA)
    (eT : s1.heap.get? T = some tab0) (nT : K.lookup T = none) (cT : PySem.W.CodeHd s1.heap c T)
    (main : ∃ (m : Addr) (o : Obj), mg "__builtins__" = some (.ref m) ∧ m ≠ builtinsNs ∧ s1.heap.get? m = some o ∧ o.cls = .type "module" ∧ o.dict = some builtinsNs ∧ o.data = .plain)
    (F : ∀ base : Heap, K.In base → base.Ns mainGlobals mg → LamX.TabB base mg c T → SysB base → FnG P w K mg base CX0 k fa sp) {H : Hp} (B : Begin K s1.heap T H) (hok : HOk P w H s1.heap)
    (hsp : sp [.ref a] H (fun v _ => v = .bl true) fun _ _ _ => False) :
    codeAny (model P w) callerA (.call (.ref fa) ⟨[.ref a], []⟩) (fun r s' => r = .ok (.ret (.bool true)) ∧ OldK s1.heap s'.heap ∧ s'.os = s1.os ∧ AllBare s'.gens) s1 := by
  let base := hidT s1.heap H
  have free : ∀ {b : Addr} {o : Obj}, s1.heap.get? b = some o → (∀ items n, o.data ≠ .seq items n) → o.data ≠ .fields #[] → base.get? b = some o := fun {b o} e d1 d2 => by
    refine hidT_get e ?_
    by_cases q : b = T
    · rw [q, eT] at e
      cases e
      exact (d2 rfl).elim
    · rcases B.rest b q with z | ⟨o2, xs, items, n, _, _, e2, z⟩
      · exact z
      · rw [e] at e2
        cases e2
        exact (d1 _ _ z).elim
  have names : ∀ {b : Addr} {m : Str → Option Value}, s1.heap.Ns b m → base.Ns b m := fun z => by
    obtain ⟨o, es, ep, e, d, r⟩ := z
    exact ⟨o, es, ep, free e (fun _ _ y => by rw [d] at y; cases y) (fun y => by rw [d] at y; cases y), d, r⟩
  have hK : K.In base := fun b o e => by
    refine hidT_get (KX b o e) ?_
    by_cases q : b = T
    · rw [q, nT] at e
      cases e
    · rcases B.rest b q with z | ⟨o2, xs, items, n, _, z, _⟩
      · exact z
      · rw [e] at z
        cases z
  have lim : base.NoLimit := by
    obtain ⟨m, h1, h2⟩ := hlim
    exact ⟨m, names h1, h2⟩
  have TB : LamX.TabB base mg c T := by
    refine ⟨?_, ?_, fun z => ?_⟩
    · obtain ⟨o, us, file, tf, flags, tg, inF, text, tt, e1, p1, p2, p3, p4, p5, p6, p7, p8, p9⟩ := cT
      exact ⟨o, us, file, tf, flags, tg, inF, text, tt, free e1 (fun _ _ y => by rw [p2] at y; cases y) (fun y => by rw [p2] at y; cases y; simp at p3), p1, p2, p3, p4, p5, p6, p7, p8, p9⟩
    · obtain ⟨m, o, q1, q2, q3, q4, q5, q6⟩ := main
      refine ⟨m, o, q1, q2, fun y => ?_, fun y => ?_, free q3 (fun _ _ y => by rw [q6] at y; cases y) (fun y => by rw [q6] at y; cases y), q4, q5, q6⟩
      · obtain ⟨og, es, ep, e, d, _⟩ := hns
        rw [y, e] at q3
        cases q3
        rw [q6] at d
        cases d
      · rw [y, eT] at q3
        cases q3
        cases q6
    · obtain ⟨og, es, ep, e, d, _⟩ := hns
      rw [z, eT] at e
      cases e
      cases d
  have e0 : Env0 P w K mg base callerA [] s1 H :=
    { frames := rfl, mod := ⟨hK, names hns, ⟨mb, names hb, hbb⟩, lim⟩, bs := fun b o e => of_hidT e, bsz := Nat.le_of_eq (hidT_size _ _), funs := trivial, frf := fun b hb => (List.not_mem_nil hb).elim, hok := hok, bare := .of_eq hg }
  refine codeAny_mono (F base hK (names hns) TB (let ⟨m, z⟩ := hsy; ⟨m, names z⟩) callerA [] s1 H [.ref a] [.ref a] _ _ hr rfl e0 (.cons rfl .nil) hsp) fun r s' h => ?_
  cases r with
  | error e => exact False.elim h
  | ok fl =>
    cases fl with
    | next => exact False.elim h
    | brk => exact False.elim h
    | cont => exact False.elim h
    | ret u =>
      obtain ⟨v, H2, os, bare, un, ok2, rv, q⟩ := h
      subst q
      cases rv
      have still : ∀ b o, b ≠ T → s1.heap.get? b = some o → s'.heap.get? b = some o := fun b o nb e => by
        rcases B.rest b nb with z | ⟨o2, xs, items, n, z, _⟩
        · exact un.keep b o e z (fun y => List.not_mem_nil y) (fun y => List.not_mem_nil y)
        · have e1 := (hok b _ z).1
          have e2 := (ok2 b _ (un.frzs b o2 _ z)).1
          rw [e] at e1
          cases e1
          exact e2
      obtain ⟨more, z⟩ := un.tbls T #[] B.tab
      have wide := ok2 T _ z
      refine ⟨rfl, ⟨fun b o e => ?_, fun b o e => ?_⟩, os, bare⟩
      · by_cases q : b = T
        · subst q
          rw [eT] at e
          cases e
          exact .inr (.inl ⟨(cT.tab eT).isCodeTable, rfl, #[], _, rfl, by rw [Array.empty_append]; exact wide⟩)
        · exact .inl (still b o q e)
      · by_cases q : b = T
        · subst q
          exact ⟨_, wide⟩
        · exact ⟨o, still b o q e⟩
theorem end_callTB (KX : K.In s1.heap) (hns : s1.heap.Ns mainGlobals mg) (hb : s1.heap.Ns builtinsNs mb) (hbb : ∀ x : Str, x ≠ "__name__" → mb x = bootBuiltins x) (hlim : s1.heap.NoLimit) (hsy : SysB s1.heap) (hg : s1.gens = #[]) (hr : Room k callerA)
    (eT : s1.heap.get? T = some tab0) (nT : K.lookup T = none) (cT : PySem.W.CodeHd s1.heap c T)
    (main : ∃ (m : Addr) (o : Obj), mg "__builtins__" = some (.ref m) ∧ m ≠ builtinsNs ∧ s1.heap.get? m = some o ∧ o.cls = .type "module" ∧ o.dict = some builtinsNs ∧ o.data = .plain)
    (ha : s1.heap.get? a = some { cls := .type "list", data := .seq vs.toArray }) (hi : IntsAre vs ns) (hl : ns.length ≤ sizeLine) (F : ∀ base : Heap, K.In base → base.Ns mainGlobals mg → LamX.TabB base mg c T → SysB base → FnG P w K mg base CX0 k fa sp)
    (hsp : ∀ H : Hp, H T = some (.tbl #[]) → SqL K H a (ns.map V.int) → sp [.ref a] H (fun v _ => v = .bl true) fun _ _ _ => False) :
    codeAny (model P w) callerA (.call (.ref fa) ⟨[.ref a], []⟩) (fun r s' => r = .ok (.ret (.bool true)) ∧ OldK s1.heap s'.heap ∧ s'.os = s1.os ∧ AllBare s'.gens) s1 := by
  have rv := vals_ints hi
  have hl2 : (ns.map V.int).length ≤ sizeLine := by rw [List.length_map]; exact hl
  have naT : a ≠ T := fun z => by
    rw [z, eT] at ha
    cases ha
  cases hk : K.lookup a with
  | some o =>
    have e := KX a o hk
    rw [ha] at e
    cases e
    let H : Hp := fun b => if b = T then some (.tbl #[]) else none
    have HT : H T = some (.tbl #[]) := if_pos rfl
    have HN : ∀ b, b ≠ T → H b = none := fun b n => if_neg n
    refine end_fromTB KX hns hb hbb hlim hsy hg hr eT nT cT main F (H := H) ⟨HT, fun b n => .inl (HN b n)⟩ (fun b u z => ?_) (hsp H HT ?_)
    · by_cases q : b = T
      · subst q
        rw [HT] at z
        cases z
        exact eT
      · rw [HN b q] at z
        cases z
    · exact .inr ⟨_, vs.toArray, _, hk, rfl, rfl, rfl, by rw [List.size_toArray, hi.length]; exact hl, by simpa using rv⟩
  | none =>
    let o : Obj := { cls := .type "list", data := .seq vs.toArray }
    let H : Hp := fun b => if b = a then some (.frz o (.lst (ns.map V.int))) else if b = T then some (.tbl #[]) else none
    have HA : H a = some (.frz o (.lst (ns.map V.int))) := if_pos rfl
    have HT : H T = some (.tbl #[]) := by show (if T = a then _ else _) = _; rw [if_neg (Ne.symm naT), if_pos rfl]
    have HN : ∀ b, b ≠ a → b ≠ T → H b = none := fun b n n2 => by show (if b = a then _ else _) = _; rw [if_neg n, if_neg n2]
    refine end_fromTB KX hns hb hbb hlim hsy hg hr eT nT cT main F (H := H) ⟨HT, fun b n => ?_⟩ (fun b u z => ?_) (hsp H HT (.inl (.inr ⟨_, HA⟩)))
    · by_cases q : b = a
      · subst q
        exact .inr ⟨o, _, _, _, HA, hk, ha, rfl⟩
      · exact .inl (HN b q n)
    · by_cases q : b = a
      · subst q
        rw [HA] at z
        cases z
        exact ⟨ha, hl2, vs, _, rv, ha⟩
      · by_cases q2 : b = T
        · subst q2
          rw [HT] at z
          cases z
          exact eT
        · rw [HN b q q2] at z
          cases z
end
/-- what is to be known of the law's promise at the head's heap -/
def LawTB (l : PySem.W.OpenLaw) (w : World) (K : PySem.W.Frag) (k n : Nat) (mg : Str → Option Value) (fa : Addr) (h : Heap) : Prop :=
  ∃ (c T : Addr) (sp : Sp), h.get? T = some tab0 ∧ K.lookup T = none ∧ PySem.W.CodeHd h c T ∧
    (∀ (H : Hp) (a : Addr) (ns : List Int), ns.length ≤ n → H T = some (.tbl #[]) → SqL K H a (ns.map V.int) → sp [.ref a] H (fun v _ => v = .bl true) fun _ _ _ => False) ∧
    ∀ base : Heap, K.In base → base.Ns mainGlobals mg → LamX.TabB base mg c T → SysB base → FnG l.prog w K mg base CX0 k fa sp
theorem walk_ofTGB {l : PySem.W.OpenLaw} {n k : Nat} {q : Program} {loose : List Str} {XP : (Str → Option Value) → Heap → Prop} {YP : World → Heap → Prop} {d : DefRec} {K : Params → PySem.W.Frag}
    (hi : importsNone q = true) (hn : l.most = some n) (hn2 : n ≤ sizeLine) (hdf : d.params.defaults = []) (hr : Room k callerA) (hY : ∀ (w : World) (h : Heap), YP w h → (K w.params).In h)
    (F : ∀ (w : World) (mg : Str → Option Value) (fa : Addr) (h : Heap), YP w h → (K w.params).In h → h.Ns mainGlobals mg → mg d.name = some (.ref fa) → LawTB l w (K w.params) k n mg fa h) :
    PySem.W.WalkO q loose XP YP l.row.toRowW d [] (fun f vs => PySem.call f vs) := by
  refine Att.attach_call hn hdf fun w s0 s1 mg mb fa o pm cd doc a vs ns G Y ho hd hcd hmg hobj hints hlen hg => ?_
  have KX := hY w _ Y
  obtain ⟨c, T, sp, eT, nT, cT, hsp, hF⟩ := F w mg fa _ Y KX G.T.g hmg
  exact end_callTB KX G.T.g G.T.b G.T.builtins G.T.nolimit (let ⟨m, z, _⟩ := (G.T.seer hi).mods; ⟨m, z⟩) hg hr eT nT cT G.T.bmain hobj hints (Nat.le_trans hlen hn2) hF fun H hH hS => hsp H a ns hlen hH hS
end Ow
end
section
set_option maxHeartbeats 4000000
namespace Ow
open PySem PySem.Spec PyProof.Rows L2
section
variable {X : Cx} {CX : CXT} {k : Nat} {C g : Addr} {sp : Sp} {E : XK} {o : Expr} {m : Str} {pos apos : Pos} {ta : TE} {pl : Sem Bool}
/-- o.m(k=e, ..): an instance's method, by keywords alone -/
def tMethK (C : Addr) (m : Str) (n : Nat) (sp : Sp) (gV : List V → List V → List V) (E : XK) (ta : TE) (tk : TA) : TE := fun σ H Q => ta σ H fun x H1 => ∃ a dx fs, x = .ref a ∧ H1 a = some (.ins C dx fs) ∧ fs.lookup m = none ∧ tk σ H1 fun zs H2 => zs.length = n ∧ sp (gV [x] zs) H2 Q E
theorem pe_methK {kws : List Keyword} {fd : FuncData} {ps ks : List Str} {tk : TA} {gl : List Value → List Value → List Value} {gV : List V → List V → List V} (he : PE X o ta) (c : Cls X.K C) (hm : Meth X.K C m g)
    (F : FnOk X.prog X.w X.K X.mg X.base CX k g fd ps sp) (hr : Room k X.A) (hb : KBn X.K fd ps 1 ks gl gV) (hx : Passes CX X E) (hkw : PK X kws tk)
    (hall : (backToKw pos (keywordEach kws X.env)).all (·.1.isSome) = true := by rfl) (hks : (backToKw pos (keywordEach kws X.env)).filterMap (·.1) = ks := by rfl)
    (hpl : ((backTo pos (starEach [] X.env)).any (·.1) || (backToKw pos (keywordEach kws X.env)).any (·.1.isNone)) = false := by rfl)
    (ht : eval (.Call (.Attribute o m apos) [] kws pos) X.env = (do
      let ov ← eval o X.env
      standAt apos.atName
      let (f, first) ← holding [ov] (getMethod ov m pl)
      callWith pos f first (backTo pos (starEach [] X.env)) (backToKw pos (keywordEach kws X.env))) := by rfl) :
    PE X (.Call (.Attribute o m apos) [] kws pos) (tMethK C m ks.length sp gV E ta tk) := by
  refine ⟨fun pins s σ H Q I h => ?_⟩
  refine PySem.W.methodCall_KW (pl := pl) (thn (he.run pins s σ H _ I h) fun u s1 ⟨x, H1, I1, rx, a, dx, fs, ex, ea, l, q⟩ => ?_) ht
  subst ex
  obtain rfl : u = Value.ref a := rx
  refine getmeth_ok I1 ea c hm l ?_
  refine PySem.W.callWith_KW0 (h₀ := X.base) I.ok.mod.kin hm.kp hall ?_ hpl
  refine thn (hkw.run pos pins s1 σ H1 _ I1 q) fun ws s3 ⟨zs, H3, I3, rz, l2, q2⟩ => ⟨I3.kIn, ?_⟩
  rw [hks]
  have r1 : Vals [V.ref a] [Value.ref a] := .cons rfl .nil
  refine wpAny_call (codeAny_mono (F.run X.A X.stack s3 H3 ⟨[.ref a], ks.zip ws⟩ (gl [.ref a] ws) (gV [.ref a] zs) Q E hr I3.env0 (hb.to s3 [.ref a] ws I3.kIn rfl (rz.length.symm.trans l2)) (hb.rel r1 rz) q2) fun r s' hq => ?_)
  cases r with
  | error e => exact hx pins σ H3 s3 e s' I3 hq
  | ok fl =>
    cases fl with
    | ret u => exact I3.after hq
    | next => exact False.elim hq
    | brk => exact False.elim hq
    | cont => exact False.elim hq
end
end Ow
end
section
set_option maxHeartbeats 4000000
/-! range(a, b) for any two integers. -/
namespace Ow
open PySem PySem.Spec PyProof.Rows L2
theorem long_self {prog : Program} {w : World} {A : Around} {E : Value → Shared → Prop} {s : Shared} {it : Addr} {x left step : Int} {Q : Value → Shared → Prop} (hit : IsLongIter s.heap it x left step) (h : Q (.ref it) s) : wpAny (model prog w) A (pyIter (.ref it)) Q E s := by
  have hT : s.TypeIs (.ref it) "longrange_iterator" := ⟨_, hit, rfl⟩
  refine wpAny_pyIter_slot hT F.slot_longrange_iterator_iter (wpAny_call_entry F.slot_longrange_iterator_iter hT F.entry_longrange_iterator_iter ?_ (F.args_longrange_iterator_iter_1 (.ref it)))
  exact wpAny_pure ⟨.ref it, rfl, "longrange_iterator", .builtin "longrange_iterator.__next__", hT, F.slot_longrange_iterator_next.lookup, h⟩
theorem turn_long {P : Program} {w : World} {K : PySem.W.Frag} {tg : Expr} (it : Addr) (lo : Int) (n : Nat) : Turn P w K tg (Itr lo n) [it] it fun i h => i ≤ n ∧ IsLongIter h it (lo + (i : Nat) * 1) ((n : Int) - (i : Nat)) 1 where
  mem := by simp
  obj := fun i h st b hb => by
    have e : b = it := by simpa using hb
    subst e
    exact ⟨_, st.2, fun v z => by cases z⟩
  keep := fun i h h' st k => ⟨st.1, k it (by simp) _ st.2⟩
  item := by
    intro X hP hw hK hc i pins s σ H E I hf st hg
    subst hP hw
    obtain ⟨f0, f1, f2, f3, f4, f5⟩ := hf it (by simp)
    have W := Walks.longrange (prog := X.prog) (w := X.w) (I.ok.hd hc) it lo 1 n
    have hlt : i < n := hg
    refine W.item i s _ E hlt st.2 fun v h' tk hv st' kk => ?_
    obtain ⟨t, rfl⟩ := hv
    have I1 := I.turned (t' := tk) (h' := h') (it := it) (fun b o hb e => kk b o (by simpa using hb) e) f0 f1 f3 f4 f5
    refine ⟨.int (lo + (i : Nat) * 1) t, rfl, go_of st' rfl rfl (by decide) ?_⟩
    exact ⟨.int (lo + (i : Nat)), H, I1, ⟨t, by rw [Int.mul_one]⟩, ⟨rfl, rfl⟩, ⟨hlt, st'⟩, fun b hb => (hf b hb).1⟩
  done := by
    intro X hP hw hK hc i pins s σ H E I hf st hg
    subst hP hw
    obtain ⟨f0, f1, f2, f3, f4, f5⟩ := hf it (by simp)
    have W := Walks.longrange (prog := X.prog) (w := X.w) (I.ok.hd hc) it lo 1 n
    have hle : n ≤ i := hg
    obtain ⟨h1, h2⟩ := st
    have e : i = n := by omega
    subst e
    exact W.done s _ E h2 fun h' tk kk => ⟨rfl, I.turned (fun b o hb e => kk b o (by simpa using hb) e) f0 f1 f3 f4 f5⟩
  self := fun A i s Q E st h => long_self st.2 h
theorem size_nat (i j : Int) : Builtin.Range.rangeSize i j 1 = ((j - i).toNat : Int) := by
  rw [rangeSize_one]
  split <;> omega
def iRng2L (ta : TA) : TI := fun σ H R => ta σ H fun vs H1 => ∃ i j : Int, vs = [.int i, .int j] ∧ R (Itr i (j - i).toNat) H1
theorem pi_range2L {X : Cx} {tg a b : Expr} {ta : TA} {p pos : Pos} (hg : Gl X "range") (hm : X.mg "range" = none) (ha : PA X [a, b] ta) (hs : starEach [a, b] X.env = [(false, eval a X.env), (false, eval b X.env)] := by rfl) (hs2 : starEach [b] X.env = [(false, eval b X.env)] := by rfl) :
    PI X tg (.Call (.Name "range" p) [a, b] [] pos) (iRng2L ta) := by
  refine ⟨fun pins s σ H R I h => ?_⟩
  refine Call_ (ld_blt I hg hm boot_range (PyProof.Rows.callWith_type1 (thn (ha.run pos pins s σ H _ I h) fun us s1 ⟨vs, H1, I1, r1, i, j, ex, q⟩ => ?_) (by rw [hs, hs2]) (by rw [hs2]; rfl)))
  subst ex
  obtain ⟨u, u2, rfl, ru, ru2⟩ := vals2 r1
  obtain ⟨t, rfl⟩ := ru
  obtain ⟨t', rfl⟩ := ru2
  refine call_range_2 ?_
  have I2 := I1.kept (h' := s1.heap.push { cls := .type "range", data := .fields #[.int i t, .int j t', .int 1 s1.toks] }) (t' := s1.toks + 1) fun b o e => Heap.get?_push_of_some _ e
  have new := IsRange.new s1.heap i j 1 t t' s1.toks
  cases hz : Builtin.Range.small i j 1 with
  | true =>
    refine wpAny_pyIter_range new hz ?_
    rw [size_nat]
    refine pi_one I2 _ (turn_range _ i _) ?_ q
    have e := Heap.get?_push_size (s1.heap.push { cls := .type "range", data := .fields #[.int i t, .int j t', .int 1 s1.toks] }) (o := { cls := .type "range_iterator", data := .fields #[rawInt i, rawInt ((j - i).toNat : Int), rawInt 1] }) rfl
    simpa using e
  | false =>
    refine wpAny_pyIter_longrange new hz ?_
    rw [size_nat]
    refine pi_one I2 _ (turn_long _ i _) ?_ q
    have e := Heap.get?_push_size (s1.heap.push { cls := .type "range", data := .fields #[.int i t, .int j t', .int 1 s1.toks] }) (o := { cls := .type "longrange_iterator", data := .fields #[rawInt i, rawInt ((j - i).toNat : Int), rawInt 1] }) rfl
    exact ⟨Nat.zero_le _, by simpa using e⟩
end Ow
end
section
set_option maxHeartbeats 4000000
/-! The end of a law of which several defs hand lambdas over: a table for each of them. -/
namespace Ow
open PySem PySem.Spec PyProof.Rows L2 StX
section
variable {P : Program} {w : World} {K : PySem.W.Frag} {mg mb : Str → Option Value} {k : Nat} {fa a : Addr} {TL : List (Addr × Addr)} {sp : Sp} {s1 : Shared} {vs : List Value} {ns : List Int}
/-- what is known of the codes' tables ahead of the call -/
structure TabsAt (K : PySem.W.Frag) (h : Heap) (TL : List (Addr × Addr)) : Prop where
  at_ : ∀ p ∈ TL, h.get? p.2 = some tab0
  no : ∀ p ∈ TL, K.lookup p.2 = none
  cd : ∀ p ∈ TL, PySem.W.CodeHd h p.1 p.2
/-- what stands in the abstract heap at the begin: the tables, and perhaps the script -/
structure BeginL (K : PySem.W.Frag) (h : Heap) (TL : List (Addr × Addr)) (H : Hp) : Prop where
  tab : ∀ p ∈ TL, H p.2 = some (.tbl #[])
  rest : ∀ b, (∀ p ∈ TL, b ≠ p.2) → H b = none ∨ ∃ o xs items n, H b = some (.frz o (.lst xs)) ∧ K.lookup b = none ∧ h.get? b = some o ∧ o.data = .seq items n
theorem end_fromL (KX : K.In s1.heap) (hns : s1.heap.Ns mainGlobals mg) (hb : s1.heap.Ns builtinsNs mb) (hbb : ∀ x : Str, x ≠ "__name__" → mb x = bootBuiltins x) (hlim : s1.heap.NoLimit) (hsy : SysB s1.heap) (hg : s1.gens = #[]) (hr : Room k callerA)
    (tt : TabsAt K s1.heap TL)
    (main : ∃ (m : Addr) (o : Obj), mg "__builtins__" = some (.ref m) ∧ m ≠ builtinsNs ∧ s1.heap.get? m = some o ∧ o.cls = .type "module" ∧ o.dict = some builtinsNs ∧ o.data = .plain)
    (F : ∀ base : Heap, K.In base → base.Ns mainGlobals mg → (∀ p ∈ TL, LamX.TabB base mg p.1 p.2) → SysB base → FnG P w K mg base CX0 k fa sp) {H : Hp} (B : BeginL K s1.heap TL H) (hok : HOk P w H s1.heap)
    (hsp : sp [.ref a] H (fun v _ => v = .bl true) fun _ _ _ => False) :
    codeAny (model P w) callerA (.call (.ref fa) ⟨[.ref a], []⟩) (fun r s' => r = .ok (.ret (.bool true)) ∧ OldK s1.heap s'.heap ∧ s'.os = s1.os ∧ AllBare s'.gens) s1 := by
  let base := hidT s1.heap H
  have free : ∀ {b : Addr} {o : Obj}, s1.heap.get? b = some o → (∀ items n, o.data ≠ .seq items n) → o.data ≠ .fields #[] → base.get? b = some o := fun {b o} e d1 d2 => by
    refine hidT_get e ?_
    by_cases q : ∃ p ∈ TL, b = p.2
    · obtain ⟨p, hp, rfl⟩ := q
      rw [tt.at_ p hp] at e
      cases e
      exact (d2 rfl).elim
    · rcases B.rest b (fun p hp z => q ⟨p, hp, z⟩) with z | ⟨o2, xs, items, n, _, _, e2, z⟩
      · exact z
      · rw [e] at e2
        cases e2
        exact (d1 _ _ z).elim
  have names : ∀ {b : Addr} {m : Str → Option Value}, s1.heap.Ns b m → base.Ns b m := fun z => by
    obtain ⟨o, es, ep, e, d, r⟩ := z
    exact ⟨o, es, ep, free e (fun _ _ y => by rw [d] at y; cases y) (fun y => by rw [d] at y; cases y), d, r⟩
  have hK : K.In base := fun b o e => by
    refine hidT_get (KX b o e) ?_
    by_cases q : ∃ p ∈ TL, b = p.2
    · obtain ⟨p, hp, rfl⟩ := q
      rw [tt.no p hp] at e
      cases e
    · rcases B.rest b (fun p hp z => q ⟨p, hp, z⟩) with z | ⟨o2, xs, items, n, _, z, _⟩
      · exact z
      · rw [e] at z
        cases z
  have lim : base.NoLimit := by
    obtain ⟨m, h1, h2⟩ := hlim
    exact ⟨m, names h1, h2⟩
  have TB : ∀ p ∈ TL, LamX.TabB base mg p.1 p.2 := fun p hp => by
    have eT := tt.at_ p hp
    refine ⟨?_, ?_, fun z => ?_⟩
    · obtain ⟨o, us, file, tf, flags, tg, inF, text, tx, e1, p1, p2, p3, p4, p5, p6, p7, p8, p9⟩ := tt.cd p hp
      exact ⟨o, us, file, tf, flags, tg, inF, text, tx, free e1 (fun _ _ y => by rw [p2] at y; cases y) (fun y => by rw [p2] at y; cases y; simp at p3), p1, p2, p3, p4, p5, p6, p7, p8, p9⟩
    · obtain ⟨m, o, q1, q2, q3, q4, q5, q6⟩ := main
      refine ⟨m, o, q1, q2, fun y => ?_, fun y => ?_, free q3 (fun _ _ y => by rw [q6] at y; cases y) (fun y => by rw [q6] at y; cases y), q4, q5, q6⟩
      · obtain ⟨og, es, ep, e, d, _⟩ := hns
        rw [y, e] at q3
        cases q3
        rw [q6] at d
        cases d
      · rw [y, eT] at q3
        cases q3
        cases q6
    · obtain ⟨og, es, ep, e, d, _⟩ := hns
      rw [z, eT] at e
      cases e
      cases d
  have e0 : Env0 P w K mg base callerA [] s1 H :=
    { frames := rfl, mod := ⟨hK, names hns, ⟨mb, names hb, hbb⟩, lim⟩, bs := fun b o e => of_hidT e, bsz := Nat.le_of_eq (hidT_size _ _), funs := trivial, frf := fun b hb => (List.not_mem_nil hb).elim, hok := hok, bare := .of_eq hg }
  refine codeAny_mono (F base hK (names hns) TB (let ⟨m, z⟩ := hsy; ⟨m, names z⟩) callerA [] s1 H [.ref a] [.ref a] _ _ hr rfl e0 (.cons rfl .nil) hsp) fun r s' h => ?_
  cases r with
  | error e => exact False.elim h
  | ok fl =>
    cases fl with
    | next => exact False.elim h
    | brk => exact False.elim h
    | cont => exact False.elim h
    | ret u =>
      obtain ⟨v, H2, os, bare, un, ok2, rv, q⟩ := h
      subst q
      cases rv
      have still : ∀ b o, (∀ p ∈ TL, b ≠ p.2) → s1.heap.get? b = some o → s'.heap.get? b = some o := fun b o nb e => by
        rcases B.rest b nb with z | ⟨o2, xs, items, n, z, _⟩
        · exact un.keep b o e z (fun y => List.not_mem_nil y) (fun y => List.not_mem_nil y)
        · have e1 := (hok b _ z).1
          have e2 := (ok2 b _ (un.frzs b o2 _ z)).1
          rw [e] at e1
          cases e1
          exact e2
      refine ⟨rfl, ⟨fun b o e => ?_, fun b o e => ?_⟩, os, bare⟩
      · by_cases q : ∃ p ∈ TL, b = p.2
        · obtain ⟨p, hp, rfl⟩ := q
          obtain ⟨more, z⟩ := un.tbls p.2 #[] (B.tab p hp)
          have wide := ok2 p.2 _ z
          have eT := tt.at_ p hp
          rw [eT] at e
          cases e
          exact .inr (.inl ⟨((tt.cd p hp).tab eT).isCodeTable, rfl, #[], _, rfl, by rw [Array.empty_append]; exact wide⟩)
        · exact .inl (still b o (fun p hp z => q ⟨p, hp, z⟩) e)
      · by_cases q : ∃ p ∈ TL, b = p.2
        · obtain ⟨p, hp, rfl⟩ := q
          obtain ⟨more, z⟩ := un.tbls p.2 #[] (B.tab p hp)
          exact ⟨_, ok2 p.2 _ z⟩
        · exact ⟨o, still b o (fun p hp z => q ⟨p, hp, z⟩) e⟩
theorem end_callL (KX : K.In s1.heap) (hns : s1.heap.Ns mainGlobals mg) (hb : s1.heap.Ns builtinsNs mb) (hbb : ∀ x : Str, x ≠ "__name__" → mb x = bootBuiltins x) (hlim : s1.heap.NoLimit) (hsy : SysB s1.heap) (hg : s1.gens = #[]) (hr : Room k callerA)
    (tt : TabsAt K s1.heap TL)
    (main : ∃ (m : Addr) (o : Obj), mg "__builtins__" = some (.ref m) ∧ m ≠ builtinsNs ∧ s1.heap.get? m = some o ∧ o.cls = .type "module" ∧ o.dict = some builtinsNs ∧ o.data = .plain)
    (ha : s1.heap.get? a = some { cls := .type "list", data := .seq vs.toArray }) (hi : IntsAre vs ns) (hl : ns.length ≤ sizeLine) (F : ∀ base : Heap, K.In base → base.Ns mainGlobals mg → (∀ p ∈ TL, LamX.TabB base mg p.1 p.2) → SysB base → FnG P w K mg base CX0 k fa sp)
    (hsp : ∀ H : Hp, (∀ p ∈ TL, H p.2 = some (.tbl #[])) → SqL K H a (ns.map V.int) → sp [.ref a] H (fun v _ => v = .bl true) fun _ _ _ => False) :
    codeAny (model P w) callerA (.call (.ref fa) ⟨[.ref a], []⟩) (fun r s' => r = .ok (.ret (.bool true)) ∧ OldK s1.heap s'.heap ∧ s'.os = s1.os ∧ AllBare s'.gens) s1 := by
  have rv := vals_ints hi
  have hl2 : (ns.map V.int).length ≤ sizeLine := by rw [List.length_map]; exact hl
  have naT : ∀ p ∈ TL, a ≠ p.2 := fun p hp z => by
    rw [z, tt.at_ p hp] at ha
    cases ha
  cases hk : K.lookup a with
  | some o =>
    have e := KX a o hk
    rw [ha] at e
    cases e
    let H : Hp := fun b => if b ∈ TL.map Prod.snd then some (.tbl #[]) else none
    have HT : ∀ p ∈ TL, H p.2 = some (.tbl #[]) := fun p hp => if_pos (List.mem_map_of_mem hp)
    have HN : ∀ b, (∀ p ∈ TL, b ≠ p.2) → H b = none := fun b n => if_neg fun z => by
      obtain ⟨p, hp, e⟩ := List.mem_map.mp z
      exact n p hp e.symm
    refine end_fromL KX hns hb hbb hlim hsy hg hr tt main F (H := H) ⟨HT, fun b n => .inl (HN b n)⟩ (fun b u z => ?_) (hsp H HT ?_)
    · by_cases q : ∃ p ∈ TL, b = p.2
      · obtain ⟨p, hp, rfl⟩ := q
        rw [HT p hp] at z
        cases z
        exact tt.at_ p hp
      · rw [HN b fun p hp y => q ⟨p, hp, y⟩] at z
        cases z
    · exact .inr ⟨_, vs.toArray, _, hk, rfl, rfl, rfl, by rw [List.size_toArray, hi.length]; exact hl, by simpa using rv⟩
  | none =>
    let o : Obj := { cls := .type "list", data := .seq vs.toArray }
    let H : Hp := fun b => if b = a then some (.frz o (.lst (ns.map V.int))) else if b ∈ TL.map Prod.snd then some (.tbl #[]) else none
    have HA : H a = some (.frz o (.lst (ns.map V.int))) := if_pos rfl
    have HT : ∀ p ∈ TL, H p.2 = some (.tbl #[]) := fun p hp => by show (if p.2 = a then _ else _) = _; rw [if_neg (Ne.symm (naT p hp)), if_pos (List.mem_map_of_mem hp)]
    have HN : ∀ b, b ≠ a → (∀ p ∈ TL, b ≠ p.2) → H b = none := fun b n n2 => by
      show (if b = a then _ else _) = _
      rw [if_neg n, if_neg fun z => by
        obtain ⟨p, hp, e⟩ := List.mem_map.mp z
        exact n2 p hp e.symm]
    refine end_fromL KX hns hb hbb hlim hsy hg hr tt main F (H := H) ⟨HT, fun b n => ?_⟩ (fun b u z => ?_) (hsp H HT (.inl (.inr ⟨_, HA⟩)))
    · by_cases q : b = a
      · subst q
        exact .inr ⟨o, _, _, _, HA, hk, ha, rfl⟩
      · exact .inl (HN b q n)
    · by_cases q : b = a
      · subst q
        rw [HA] at z
        cases z
        exact ⟨ha, hl2, vs, _, rv, ha⟩
      · by_cases q2 : ∃ p ∈ TL, b = p.2
        · obtain ⟨p, hp, rfl⟩ := q2
          rw [HT p hp] at z
          cases z
          exact tt.at_ p hp
        · rw [HN b q fun p hp y => q2 ⟨p, hp, y⟩] at z
          cases z
end
/-- what is to be known of the law's promise at the head's heap -/
def LawTL (l : PySem.W.OpenLaw) (w : World) (K : PySem.W.Frag) (k n : Nat) (mg : Str → Option Value) (fa : Addr) (h : Heap) : Prop :=
  ∃ (TL : List (Addr × Addr)) (sp : Sp), TabsAt K h TL ∧
    (∀ (H : Hp) (a : Addr) (ns : List Int), ns.length ≤ n → (∀ p ∈ TL, H p.2 = some (.tbl #[])) → SqL K H a (ns.map V.int) → sp [.ref a] H (fun v _ => v = .bl true) fun _ _ _ => False) ∧
    ∀ base : Heap, K.In base → base.Ns mainGlobals mg → (∀ p ∈ TL, LamX.TabB base mg p.1 p.2) → SysB base → FnG l.prog w K mg base CX0 k fa sp
theorem walk_ofTL {l : PySem.W.OpenLaw} {n k : Nat} {q : Program} {loose : List Str} {XP : (Str → Option Value) → Heap → Prop} {YP : World → Heap → Prop} {d : DefRec} {K : Params → PySem.W.Frag}
    (hi : importsNone q = true) (hn : l.most = some n) (hn2 : n ≤ sizeLine) (hdf : d.params.defaults = []) (hr : Room k callerA) (hY : ∀ (w : World) (h : Heap), YP w h → (K w.params).In h)
    (F : ∀ (w : World) (mg : Str → Option Value) (fa : Addr) (h : Heap), YP w h → (K w.params).In h → h.Ns mainGlobals mg → mg d.name = some (.ref fa) → LawTL l w (K w.params) k n mg fa h) :
    PySem.W.WalkO q loose XP YP l.row.toRowW d [] (fun f vs => PySem.call f vs) := by
  refine Att.attach_call hn hdf fun w s0 s1 mg mb fa o pm cd doc a vs ns G Y ho hd hcd hmg hobj hints hlen hg => ?_
  have KX := hY w _ Y
  obtain ⟨TL, sp, tt, hsp, hF⟩ := F w mg fa _ Y KX G.T.g hmg
  exact end_callL KX G.T.g G.T.b G.T.builtins G.T.nolimit (let ⟨m, z, _⟩ := (G.T.seer hi).mods; ⟨m, z⟩) hg hr tt G.T.bmain hobj hints (Nat.le_trans hlen hn2) hF fun H hH hS => hsp H a ns hlen hH hS
end Ow
end
section
set_option maxHeartbeats 4000000
/-! zip of two or three texts. -/
namespace Ow
open PySem PySem.Spec PyProof.Rows L2
/-- a walk whose items are new tuples with a known content -/
def ItZ (n : Nat) (f : Nat → List V) : It := ⟨fun i _ => i < n, fun i H v H' => ∃ T, v = .ref T ∧ H T = none ∧ H' = upd H T (.tup (f i)), fun i _ => n ≤ i⟩
theorem turn_walksT {P : Program} {w : World} {K : PySem.W.Frag} {elts : List Expr} {kk : Nat} {tpos : Pos} {I : Addr} {fp wr : List Addr} {n : Nat} {Pt : Nat → Array Value → Prop} {St : Nat → Heap → Prop} {Mid : Nat → Addr → Heap → Prop} {f : Nat → List V}
    (W : ∀ A : Around, A.in1.handled = none → WalksT P w A I fp wr n Pt St Mid) (hI : I ∈ fp) (hob : ∀ i h, St i h → ∀ b ∈ fp, ∃ o, h.get? b = some o ∧ ∀ v, o.data ≠ .cell v)
    (hPt : ∀ i vals, Pt i vals → Vals (f i) vals.toList ∧ (f i).length ≤ sizeLine) (hself : ∀ (A : Around) (i : Nat) (s : Shared) (Q E : Value → Shared → Prop), St i s.heap → Q (.ref I) s → wpAny (model P w) A (pyIter (.ref I)) Q E s) :
    Turn P w K (.Tuple elts kk tpos) (ItZ n f) fp I (fun i h => i ≤ n ∧ St i h) where
  mem := hI
  obj := fun i h st b hb => hob i h st.2 b hb
  keep := fun i h h' st k => by
    have W0 := W { callerA with handled := none } rfl
    exact ⟨st.1, W0.frame i h h' st.2 k⟩
  item := by
    intro X hP hw hK hc i pins s σ H E J hf st hg
    subst hP hw
    have W1 := W X.A (J.ok.hd hc)
    have hlt : i < n := hg
    have hlive : ∀ b ∈ fp, b < s.heap.objs.size := fun b hb => by
      obtain ⟨o, ho, _⟩ := hob i _ st.2 b hb
      exact Heap.lt_size ho
    refine W1.item i s _ E hlt st.2 fun T vals h' tk hp hT ht mid kk1 => ?_
    refine ⟨.ref T, rfl, W1.go elts kk tpos i T _ _ E mid fun h'' st'' kk2 => ?_⟩
    have nw : ∀ b, b ∉ fp → b ∉ wr := fun b hb z => hb (W1.sub b z)
    obtain ⟨rv, hl⟩ := hPt i vals hp
    obtain ⟨oT, h1, h2, h3, h4⟩ := ht
    have ht2 : h''.get? T = some oT := kk2 T oT (W1.apart i T _ mid) h1
    have new : ObjOk X.prog X.w (upd H T (.tup (f i))) h'' T (.tup (f i)) := ⟨hl, vals.toList, rv, ⟨oT, ht2, h2, h3, by simpa using h4⟩⟩
    have J1 : Inv X pins σ (upd H T (.tup (f i))) { s with heap := h'', toks := tk } :=
      J.turnedNew (ch := fp) (fun b o hb q => kk2 b o (nw b hb) (kk1 b o (nw b hb) q)) hf hT new
    exact ⟨.ref T, _, J1, rfl, ⟨T, rfl, J.hok.fresh hT, rfl⟩, ⟨hlt, st''⟩, fun b hb => by
      rw [upd_ne (Nat.ne_of_lt (Nat.lt_of_lt_of_le (hlive b hb) hT))]
      exact (hf b hb).1⟩
  done := by
    intro X hP hw hK hc i pins s σ H E J hf st hg
    subst hP hw
    have W1 := W X.A (J.ok.hd hc)
    have hle : n ≤ i := hg
    obtain ⟨h1, h2⟩ := st
    have e : i = n := by omega
    subst e
    exact W1.done s _ E h2 fun h' tk kk => ⟨rfl, J.turnedL (ch := fp) (fun b o hb q => kk b o (fun z => hb (W1.sub b z)) q) hf⟩
  self := fun A i s Q E st h => hself A i s Q E st.2 h
/-- the signs of texts at an index -/
def sgn (x : Str) (i : Nat) : V := .str ⟨#[x.cps.toList.getD i 0]⟩
def iZipS (ta : TA) : TI := fun σ H R => ta σ H fun vs H1 => ∃ x y : Str, vs = [.str x, .str y] ∧ R (ItZ (min x.cps.size y.cps.size) fun i => [sgn x i, sgn y i]) H1
def iZipS3 (ta : TA) : TI := fun σ H R => ta σ H fun vs H1 => ∃ x y z : Str, vs = [.str x, .str y, .str z] ∧ R (ItZ (min (min x.cps.size y.cps.size) z.cps.size) fun i => [sgn x i, sgn y i, sgn z i]) H1
theorem sgn_rel {x : Str} {i : Nat} {v : Value} (h : ∃ c u, x.cps[i]? = some c ∧ v = .str ⟨#[c]⟩ u) : RelV (sgn x i) v := by
  obtain ⟨c, u, h1, rfl⟩ := h
  refine ⟨u, ?_⟩
  have e : x.cps.toList.getD i 0 = c := by rw [List.getD_eq_getElem?_getD, Array.getElem?_toList, h1]; rfl
  rw [e]
theorem stri_ob {h : Heap} {a : Addr} {ty : String} {x : Str} {t : Tok} {i : Nat} (e : h.IsStrIter a ty x t i) : ∃ o, h.get? a = some o ∧ ∀ v, o.data ≠ .cell v := by
  obtain ⟨o, h1, _, h3⟩ := e
  exact ⟨o, h1, fun v z => by rw [h3] at z; cases z⟩
theorem pi_zipS {X : Cx} {e e2 : Expr} {ta : TA} {p pos tpos : Pos} {elts : List Expr} {kk : Nat} (hg : Gl X "zip") (hm : X.mg "zip" = none) (ha : PA X [e, e2] ta) (hs : starEach [e, e2] X.env = [(false, eval e X.env), (false, eval e2 X.env)] := by rfl) (hs2 : starEach [e2] X.env = [(false, eval e2 X.env)] := by rfl) :
    PI X (.Tuple elts kk tpos) (.Call (.Name "zip" p) [e, e2] [] pos) (iZipS ta) := by
  refine ⟨fun pins s σ H R I h => ?_⟩
  refine Call_ (ld_blt I hg hm boot_zip (PyProof.Rows.callWith_type1 (thn (ha.run pos pins s σ H _ I h) fun us s1 ⟨vs, H1, I1, r1, x, y, ex, q⟩ => ?_) (by rw [hs, hs2]) (by rw [hs2]; rfl)))
  subst ex
  obtain ⟨u, u2, rfl, ⟨t1, rfl⟩, ⟨t2, rfl⟩⟩ := vals2 r1
  refine zip_begins2 (begins_text x t1) (begins_text y t2) trivial trivial fun h' hz hTI hTO h1 h2 hsz hk => wpAny_pyIter_zip hz ?_
  have sep : ZipSep2 (s1.heap.objs.size + 4) (s1.heap.objs.size + 2) (s1.heap.objs.size + 3) s1.heap.objs.size (s1.heap.objs.size + 1) [s1.heap.objs.size] [s1.heap.objs.size + 1] := by
    constructor <;> simp <;> omega
  have fp : ∀ b ∈ ((s1.heap.objs.size + 4) :: (s1.heap.objs.size + 2) :: (s1.heap.objs.size + 3) :: ([s1.heap.objs.size] ++ [s1.heap.objs.size + 1])), FpOk X pins H1 b := fun b hb => by
    have hle : s1.heap.objs.size ≤ b := by
      simp only [List.mem_cons, List.mem_append, List.not_mem_nil, or_false] at hb
      omega
    exact I1.fpOk hle (I1.hok.fresh hle)
  refine ⟨s1.heap.objs.size + 4, _, _, _, H1, rfl, I1.kept (t' := s1.toks) hk, turn_walksT (f := fun i => [sgn x i, sgn y i]) (fun A hA => WalksT.zipD2 sep (Draws.text hA s1.heap.objs.size x t1) (Draws.text hA (s1.heap.objs.size + 1) y t2)) (by simp) (fun i h st b hb => ?_) (fun i vals hp => ?_) (fun A i s Q E st hq => wpAny_pyIter_zip st.1 hq), ⟨Nat.zero_le _, hz, hTI, ⟨_, _, hTO⟩, ⟨_, h1, rfl, rfl⟩, ⟨_, h2, rfl, rfl⟩⟩, fp, q⟩
  · obtain ⟨g1, g2, ⟨a1, a2, g3⟩, g4, g5⟩ := st
    simp only [List.mem_cons, List.mem_append, List.not_mem_nil, or_false] at hb
    rcases hb with rfl | rfl | rfl | rfl | rfl
    · exact ⟨_, g1, fun v z => by cases z⟩
    · exact ⟨_, g2, fun v z => by cases z⟩
    · exact ⟨_, g3, fun v z => by cases z⟩
    · exact stri_ob g4
    · exact stri_ob g5
  · obtain ⟨x1, x2, p1, p2, rfl⟩ := hp
    exact ⟨.cons (sgn_rel p1) (.cons (sgn_rel p2) .nil), by show 2 ≤ sizeLine; decide⟩
theorem pi_zipS3 {X : Cx} {e e2 e3 : Expr} {ta : TA} {p pos tpos : Pos} {elts : List Expr} {kk : Nat} (hg : Gl X "zip") (hm : X.mg "zip" = none) (ha : PA X [e, e2, e3] ta) (hs : starEach [e, e2, e3] X.env = [(false, eval e X.env), (false, eval e2 X.env), (false, eval e3 X.env)] := by rfl) (hs2 : starEach [e2, e3] X.env = [(false, eval e2 X.env), (false, eval e3 X.env)] := by rfl) :
    PI X (.Tuple elts kk tpos) (.Call (.Name "zip" p) [e, e2, e3] [] pos) (iZipS3 ta) := by
  refine ⟨fun pins s σ H R I h => ?_⟩
  refine Call_ (ld_blt I hg hm boot_zip (PyProof.Rows.callWith_type1 (thn (ha.run pos pins s σ H _ I h) fun us s1 ⟨vs, H1, I1, r1, x, y, zz, ex, q⟩ => ?_) (by rw [hs, hs2]) (by rw [hs2]; rfl)))
  subst ex
  obtain ⟨u, us2, rfl, ⟨t1, rfl⟩, r2⟩ : ∃ u us2, us = u :: us2 ∧ RelV (.str x) u ∧ Vals [.str y, .str zz] us2 := by
    cases r1 with
    | cons a b => exact ⟨_, _, rfl, a, b⟩
  obtain ⟨u2, u3, rfl, ⟨t2, rfl⟩, ⟨t3, rfl⟩⟩ := vals2 r2
  refine zip_begins3 (begins_text x t1) (begins_text y t2) (begins_text zz t3) trivial trivial trivial fun h' hz hTI hTO h1 h2 h3 hsz hk => wpAny_pyIter_zip hz ?_
  have sep : ZipSep3 (s1.heap.objs.size + 5) (s1.heap.objs.size + 3) (s1.heap.objs.size + 4) s1.heap.objs.size (s1.heap.objs.size + 1) (s1.heap.objs.size + 2) [s1.heap.objs.size] [s1.heap.objs.size + 1] [s1.heap.objs.size + 2] := by
    constructor <;> simp <;> omega
  have fp : ∀ b ∈ ((s1.heap.objs.size + 5) :: (s1.heap.objs.size + 3) :: (s1.heap.objs.size + 4) :: ([s1.heap.objs.size] ++ [s1.heap.objs.size + 1] ++ [s1.heap.objs.size + 2])), FpOk X pins H1 b := fun b hb => by
    have hle : s1.heap.objs.size ≤ b := by
      simp only [List.mem_cons, List.mem_append, List.not_mem_nil, or_false] at hb
      omega
    exact I1.fpOk hle (I1.hok.fresh hle)
  refine ⟨s1.heap.objs.size + 5, _, _, _, H1, rfl, I1.kept (t' := s1.toks) hk, turn_walksT (f := fun i => [sgn x i, sgn y i, sgn zz i]) (fun A hA => WalksT.zipD3 sep (Draws.text hA s1.heap.objs.size x t1) (Draws.text hA (s1.heap.objs.size + 1) y t2) (Draws.text hA (s1.heap.objs.size + 2) zz t3)) (by simp) (fun i h st b hb => ?_) (fun i vals hp => ?_) (fun A i s Q E st hq => wpAny_pyIter_zip st.1 hq), ⟨Nat.zero_le _, hz, hTI, ⟨_, _, _, hTO⟩, ⟨_, h1, rfl, rfl⟩, ⟨_, h2, rfl, rfl⟩, ⟨_, h3, rfl, rfl⟩⟩, fp, q⟩
  · obtain ⟨g1, g2, ⟨a1, a2, a3, g3⟩, g4, g5, g6⟩ := st
    simp only [List.mem_cons, List.mem_append, List.not_mem_nil, or_false] at hb
    rcases hb with rfl | rfl | rfl | (rfl | rfl) | rfl
    · exact ⟨_, g1, fun v z => by cases z⟩
    · exact ⟨_, g2, fun v z => by cases z⟩
    · exact ⟨_, g3, fun v z => by cases z⟩
    · exact stri_ob g4
    · exact stri_ob g5
    · exact stri_ob g6
  · obtain ⟨x1, x2, x3, p1, p2, p3, rfl⟩ := hp
    exact ⟨.cons (sgn_rel p1) (.cons (sgn_rel p2) (.cons (sgn_rel p3) .nil)), by show 3 ≤ sizeLine; decide⟩
/-- as a walk -/
theorem walk_Z {n : Nat} {f : Nat → List V} : Walk (ItZ n f) n (fun _ => True) (fun i H v H' => ∃ T, v = .ref T ∧ H T = none ∧ H' = upd H T (.tup (f i))) := by
  refine ⟨fun i _ hi _ => hi, fun _ _ => Nat.le_refl _, fun i H v H' _ _ y => y⟩
end Ow
end
section
set_option maxHeartbeats 4000000
/-! list(zip(a, b)), a and b tuples. -/
namespace Ow
open PySem PySem.Spec PyProof.Rows L2
section
variable {prog : Program} {w : World} {A : Around} {E : Value → Shared → Prop} {s : Shared} {z TI TO i1 i2 : Addr} {fp1 fp2 : List Addr} {n1 n2 i : Nat} {P1 P2 : Nat → Value → Prop} {St1 St2 : Nat → Heap → Prop} {Q : Value → Shared → Prop}
/-- a zip whose last pair is kept by someone -/
def IsZipH (h : Heap) (z TI TO : Addr) (T : Addr) (b : Bool) : Prop := h.get? z = some { cls := .type "zip", data := .fields #[rawInt (T : Nat), .bool b, .bool false, .ref TI, .ref TO] }
theorem zip_notfree {T : Addr} {b : Bool} {oT : Obj} {K' : Bool → Shared → Prop} (hz : IsZipH s.heap z TI TO T b) (hT : s.heap.get? T = some oT) (k : ∀ h', IsZipH h' z TI TO T true → Heap.SameBut z s.heap h' → K' false { s with heap := h' }) :
    wpAny (model prog w) A (Builtin.SmallTypes.ownedTupleIsFree (.ref z)) K' E s := by
  obtain ⟨hp, g, d, tk0, os⟩ := s
  show wpAny _ _ (field (.ref z) 0 >>= _) _ _ _
  refine wpAny_bind (wpAny_field hz rfl rfl ?_)
  show wpAny _ _ (loadIfAlive T >>= _) _ _ _
  refine wpAny_bind (W.kdx_alive hT ?_)
  show wpAny _ _ (field (.ref z) 1 >>= _) _ _ _
  refine wpAny_bind (wpAny_field hz rfl rfl ?_)
  cases b with
  | true => exact wpAny_pure (k hp hz ⟨rfl, fun _ _ => rfl⟩)
  | false =>
    show wpAny _ _ (setField (.ref z) 1 (.bool true) >>= _) _ _ _
    exact wpAny_bind (wpAny_setField_rec hz (by show 1 < 5; decide) fun g0 hz0 hs0 => wpAny_pure (k g0 hz0 hs0))
theorem zip2_held (S : ZipSep2 z TI TO i1 i2 fp1 fp2) (D1 : Draws prog w A i1 fp1 n1 P1 St1) (D2 : Draws prog w A i2 fp2 n2 P2 St2) {T : Addr} {b : Bool} {oT : Obj} (hz : IsZipH s.heap z TI TO T b) (hT : s.heap.get? T = some oT) (hTI : IsTupOf2 s.heap TI (.ref i1) (.ref i2)) (st1 : St1 i s.heap) (st2 : St2 i s.heap) (lt1 : i < n1) (lt2 : i < n2)
    (hQ : ∀ (x1 x2 : Value) (h' : Heap) (tk : Nat), P1 i x1 → P2 i x2 → IsZipH h' z TI TO T true → St1 (i + 1) h' → St2 (i + 1) h' → IsTupOf2 h' s.heap.objs.size x1 x2 → h'.objs.size = s.heap.objs.size + 1 → (∀ (c : Addr) (o : Obj), c ≠ z → c ≠ i1 → c ≠ i2 → s.heap.get? c = some o → h'.get? c = some o) → Q (.ref s.heap.objs.size) { s with heap := h', toks := tk }) :
    wpAny (model prog w) A (Builtin.«zip.__next__» { pos := [Value.ref z] }) (fun fin s' => ∃ v, fin = Fin.done (Flow.ret v) ∧ Q v s') E s := by
  obtain ⟨hp, g, d, tk0, os⟩ := s
  show wpAny _ _ (field (.ref z) 2 >>= _) _ _ _
  refine wpAny_bind (wpAny_field hz rfl rfl ?_)
  refine wpAny_bind (wpAny_field hz rfl rfl ?_)
  refine wpAny_bind (wpAny_seqItems hTI rfl ?_)
  show wpAny _ _ (Builtin.SmallTypes.ownedTupleIsFree (.ref z) >>= _) _ _ _
  refine wpAny_bind (zip_notfree hz hT fun g0 hz0 hs0 => ?_)
  simp only [Bool.false_eq_true, if_false]
  refine wpAny_bind ?_
  rw [← Array.forIn_toList]
  simp only [List.forIn_cons, List.forIn_nil]
  refine wpAny_bind ?_
  refine wpAny_bind (wpAny_holding ?_)
  show wpAny _ _ (Builtin.SmallTypes.nextOf (.ref i1) >>= _) _ _ _
  refine wpAny_bind (D1.item i _ _ _ lt1 (D1.over st1 hs0 S.zf1) fun x1 p1 tk1 hx1 sn1 hp1 => ?_)
  refine wpAny_pure (wpAny_pure (wpAny_bind (wpAny_bind (wpAny_holding ?_))))
  show wpAny _ _ (Builtin.SmallTypes.nextOf (.ref i2) >>= _) _ _ _
  refine wpAny_bind (D2.item i _ _ _ lt2 (D2.over (D2.over st2 hs0 S.zf2) hp1 S.sep1_2) fun x2 p2 tk2 hx2 sn2 hp2 => ?_)
  refine wpAny_pure (wpAny_pure (wpAny_pure ?_))
  show wpAny _ _ (newTuple [x1, x2] >>= _) _ _ _
  refine wpAny_bind (wpAny_newTuple ?_ (by show 2 ≤ sizeLine; decide))
  have hsz : p2.objs.size = hp.objs.size := by rw [hp2.1, hp1.1, hs0.1]
  have zi1 : z ≠ i1 := fun e => S.zf1 (e ▸ S.mem1)
  have zi2 : z ≠ i2 := fun e => S.zf2 (e ▸ S.mem2)
  have hz2 : p2.get? z = some { cls := .type "zip", data := .fields #[rawInt (T : Nat), .bool true, .bool false, .ref TI, .ref TO] } := hp2.extBut z _ zi2 (hp1.extBut z _ zi1 hz0)
  have j1 := D1.over sn1 hp2 S.sep2_1
  refine wpAny_pure ⟨.ref p2.objs.size, rfl, ?_⟩
  have q := hQ x1 x2 (p2.push { cls := .type "tuple", data := .seq #[x1, x2] }) tk2 hx1 hx2 (Heap.get?_push_of_some _ hz2) (D1.frame (i + 1) p2 _ j1 fun b hb o e => Heap.get?_push_of_some _ e) (D2.frame (i + 1) p2 _ sn2 fun b hb o e => Heap.get?_push_of_some _ e)
    (by show (p2.push _).get? hp.objs.size = _; rw [← hsz]; exact Heap.get?_push_size _ rfl) (by rw [Heap.size_push, hsz]) (fun c o c0 c1 c2 e => Heap.get?_push_of_some _ (hp2.extBut c o c2 (hp1.extBut c o c1 (hs0.extBut c o c0 e))))
  rw [show (Value.ref p2.objs.size) = Value.ref hp.objs.size from by rw [hsz]]
  exact q
theorem zip2_held_end (S : ZipSep2 z TI TO i1 i2 fp1 fp2) (D1 : Draws prog w A i1 fp1 n1 P1 St1) {T : Addr} {b : Bool} {oT : Obj} {R : PySem.Fin → Shared → Prop} (hz : IsZipH s.heap z TI TO T b) (hT : s.heap.get? T = some oT) (hTI : IsTupOf2 s.heap TI (.ref i1) (.ref i2)) (st1 : St1 n1 s.heap)
    (hE : ∀ (h' : Heap) (e : Addr), (∀ (c : Addr) (o : Obj), c ≠ z → c ≠ i1 → s.heap.get? c = some o → h'.get? c = some o) → (∃ o, h'.get? e = some o ∧ o.cls = .type "StopIteration") → E (.ref e) { s with heap := h' }) :
    wpAny (model prog w) A (Builtin.«zip.__next__» { pos := [Value.ref z] }) R E s := by
  obtain ⟨hp, g, d, tk0, os⟩ := s
  show wpAny _ _ (field (.ref z) 2 >>= _) _ _ _
  refine wpAny_bind (wpAny_field hz rfl rfl ?_)
  refine wpAny_bind (wpAny_field hz rfl rfl ?_)
  refine wpAny_bind (wpAny_seqItems hTI rfl ?_)
  show wpAny _ _ (Builtin.SmallTypes.ownedTupleIsFree (.ref z) >>= _) _ _ _
  refine wpAny_bind (zip_notfree hz hT fun g0 hz0 hs0 => ?_)
  simp only [Bool.false_eq_true, if_false]
  refine wpAny_bind ?_
  rw [← Array.forIn_toList]
  simp only [List.forIn_cons, List.forIn_nil]
  refine wpAny_bind ?_
  refine wpAny_bind (wpAny_holding ?_)
  show wpAny _ _ (Builtin.SmallTypes.nextOf (.ref i1) >>= _) _ _ _
  exact wpAny_bind (D1.done _ _ _ (D1.over st1 hs0 S.zf1) fun h' e x h2 => hE h' e (fun c o c0 c1 q => x c o c1 (hs0.extBut c o c0 q)) h2)
end
section
variable {prog : Program} {w : World} {A : Around} {E : Value → Shared → Prop} {s : Shared} {z TI TO i1 i2 : Addr} {fp1 fp2 : List Addr} {n1 n2 i : Nat} {P1 P2 : Nat → Value → Prop} {St1 St2 : Nat → Heap → Prop} {Q : Option Value → Shared → Prop}
theorem pyNext_held (S : ZipSep2 z TI TO i1 i2 fp1 fp2) (D1 : Draws prog w A.in1 i1 fp1 n1 P1 St1) (D2 : Draws prog w A.in1 i2 fp2 n2 P2 St2) {T : Addr} {b : Bool} {oT : Obj} (hz : IsZipH s.heap z TI TO T b) (hT : s.heap.get? T = some oT) (hTI : IsTupOf2 s.heap TI (.ref i1) (.ref i2)) (st1 : St1 i s.heap) (st2 : St2 i s.heap) (lt1 : i < n1) (lt2 : i < n2)
    (hQ : ∀ (x1 x2 : Value) (h' : Heap) (tk : Nat), P1 i x1 → P2 i x2 → IsZipH h' z TI TO T true → St1 (i + 1) h' → St2 (i + 1) h' → IsTupOf2 h' s.heap.objs.size x1 x2 → h'.objs.size = s.heap.objs.size + 1 → (∀ (c : Addr) (o : Obj), c ≠ z → c ≠ i1 → c ≠ i2 → s.heap.get? c = some o → h'.get? c = some o) → Q (some (.ref s.heap.objs.size)) { s with heap := h', toks := tk }) :
    wpAny (model prog w) A (pyNext (.ref z)) Q E s := by
  have ty : s.TypeIs (.ref z) "zip" := ⟨_, hz, rfl⟩
  unfold pyNext
  refine wpAny_bind (wpAny_attempt (wpAny_callSpecial?_slot (name := Str.ofString "__next__") ty F.slot_zip_next (wpAny_call_entry F.slot_zip_next ty F.entry_zip_next ?_ (F.args_zip_next_1 _))))
  refine zip2_held S D1 D2 hz hT hTI st1 st2 lt1 lt2 fun x1 x2 h' tk p1 p2 z1 s1 s2 t1 t2 t3 => ?_
  exact wpAny_pure (hQ x1 x2 h' tk p1 p2 z1 s1 s2 t1 t2 t3)
theorem pyNext_held_end (hh : A.in1.handled = none) (S : ZipSep2 z TI TO i1 i2 fp1 fp2) (D1 : Draws prog w A.in1 i1 fp1 n1 P1 St1) {T : Addr} {b : Bool} {oT : Obj} (hz : IsZipH s.heap z TI TO T b) (hT : s.heap.get? T = some oT) (hTI : IsTupOf2 s.heap TI (.ref i1) (.ref i2)) (st1 : St1 n1 s.heap)
    (hQ : ∀ (h' : Heap), (∀ (c : Addr) (o : Obj), c ≠ z → c ≠ i1 → s.heap.get? c = some o → h'.get? c = some o) → Q none { s with heap := h' }) :
    wpAny (model prog w) A (pyNext (.ref z)) Q E s := by
  have ty : s.TypeIs (.ref z) "zip" := ⟨_, hz, rfl⟩
  unfold pyNext
  refine wpAny_bind (wpAny_attempt (wpAny_callSpecial?_slot (name := Str.ofString "__next__") ty F.slot_zip_next (wpAny_call_entry F.slot_zip_next ty F.entry_zip_next ?_ (F.args_zip_next_1 _))))
  refine zip2_held_end S D1 hz hT hTI st1 fun h' e x hc => ?_
  obtain ⟨o, ho, hc⟩ := hc
  exact wpAny_bind (wpAny_isInstance (T := "StopIteration") (b := true) ⟨o, ho, hc⟩ isSubtype_stop (wpAny_pure (hQ h' x)))
end
end Ow
end
section
set_option maxHeartbeats 4000000
namespace Ow
open PySem PySem.Spec PyProof.Rows L2
section
variable {prog : Program} {w : World} {A : Around} {z TI TO i1 i2 t1 t2 : Addr} {xs ys : Array Value}
/-- a list at S that is being filled with the pairs of a zip: so far those at Ts -/
structure Fill (h0 : Heap) (z TI TO i1 i2 t1 t2 S : Addr) (xs ys : Array Value) (i : Nat) (Ts : List Addr) (h : Heap) : Prop where
  len : Ts.length = i
  lst : ∃ c, h.get? S = some { cls := .type "list", data := .seq (Ts.map Value.ref).toArray c }
  zip : (i = 0 ∧ IsZip h z TI TO .none ∧ ∃ a1 a2, IsTupOf2 h TO a1 a2) ∨ ∃ T b, T ∈ Ts ∧ IsZipH h z TI TO T b
  ti : IsTupOf2 h TI (.ref i1) (.ref i2)
  s1 : h.IsTupleIter i1 t1 i ∧ h.IsTuple t1 xs
  s2 : h.IsTupleIter i2 t2 i ∧ h.IsTuple t2 ys
  at_ : ∀ (j : Nat) (T : Addr), Ts[j]? = some T → ∃ x y, xs[j]? = some x ∧ ys[j]? = some y ∧ IsTupOf2 h T x y
  new : ∀ T ∈ Ts, h0.objs.size ≤ T
  nd : Ts.Nodup
  keep : ∀ b o, h0.get? b = some o → b ≠ z → b ≠ TO → b ≠ i1 → b ≠ i2 → b ≠ S → h.get? b = some o
  size : h0.objs.size ≤ h.objs.size
  lt : ∀ T ∈ Ts, T < h.objs.size
/-- the list is full -/
structure Filled (h0 : Heap) (z TO i1 i2 S : Addr) (xs ys : Array Value) (n : Nat) (Ts : List Addr) (h : Heap) : Prop where
  len : Ts.length = n
  lst : ∃ c, h.get? S = some { cls := .type "list", data := .seq (Ts.map Value.ref).toArray c }
  at_ : ∀ (j : Nat) (T : Addr), Ts[j]? = some T → ∃ x y, xs[j]? = some x ∧ ys[j]? = some y ∧ IsTupOf2 h T x y
  new : ∀ T ∈ Ts, h0.objs.size ≤ T
  nd : Ts.Nodup
  keep : ∀ b o, h0.get? b = some o → b ≠ z → b ≠ TO → b ≠ i1 → b ≠ i2 → b ≠ S → h.get? b = some o
/-- how the parts of a zip stand to each other and to the list -/
structure Parts (h0 : Heap) (z TI TO i1 i2 t1 t2 S : Addr) : Prop where
  sep : ZipSep2 z TI TO i1 i2 [i1, t1] [i2, t2]
  n1 : t1 ≠ i1
  n2 : t2 ≠ i2
  sz : z ≠ S ∧ TI ≠ S ∧ TO ≠ S ∧ i1 ≠ S ∧ i2 ≠ S ∧ t1 ≠ S ∧ t2 ≠ S
  old : z < h0.objs.size ∧ TI < h0.objs.size ∧ TO < h0.objs.size ∧ i1 < h0.objs.size ∧ i2 < h0.objs.size ∧ S < h0.objs.size
theorem Fill.step {h0 h h' : Heap} {S : Addr} {i T : Nat} {Ts : List Addr} {x y : Value} {c : Nat} (J : Fill h0 z TI TO i1 i2 t1 t2 S xs ys i Ts h) (Pt : Parts h0 z TI TO i1 i2 t1 t2 S)
    (hx : xs[i]? = some x) (hy : ys[i]? = some y) (hT : T = h.objs.size) (hz : ∃ T0 b, T0 ∈ Ts ++ [T] ∧ IsZipH h' z TI TO T0 b) (s1 : h'.IsTupleIter i1 t1 (i + 1) ∧ h'.IsTuple t1 xs) (s2 : h'.IsTupleIter i2 t2 (i + 1) ∧ h'.IsTuple t2 ys)
    (ht : IsTupOf2 h' T x y) (hs : h'.objs.size = h.objs.size + 1) (hk : ∀ (c : Addr) (o : Obj), c ≠ z → c ≠ TO → c ≠ i1 → c ≠ i2 → c ≠ S → h.get? c = some o → h'.get? c = some o)
    (hl : h'.get? S = some { cls := .type "list", data := .seq ((Ts ++ [T]).map Value.ref).toArray c }) :
    Fill h0 z TI TO i1 i2 t1 t2 S xs ys (i + 1) (Ts ++ [T]) h' := by
  obtain ⟨o1, o2, o3, o4, o5, o6⟩ := Pt.old
  have big : ∀ T0 ∈ Ts, T0 ≠ z ∧ T0 ≠ TO ∧ T0 ≠ i1 ∧ T0 ≠ i2 ∧ T0 ≠ S := fun T0 hm => by
    have := J.new T0 hm
    exact ⟨Nat.ne_of_gt (Nat.lt_of_lt_of_le o1 this), Nat.ne_of_gt (Nat.lt_of_lt_of_le o3 this), Nat.ne_of_gt (Nat.lt_of_lt_of_le o4 this), Nat.ne_of_gt (Nat.lt_of_lt_of_le o5 this), Nat.ne_of_gt (Nat.lt_of_lt_of_le o6 this)⟩
  refine ⟨by rw [List.length_append, J.len]; rfl, ⟨c, hl⟩, .inr hz, ?_, s1, s2, fun j T0 hj => ?_, fun T0 hm => ?_, ?_, fun b o e a1 a2 a3 a4 a5 => hk b o a1 a2 a3 a4 a5 (J.keep b o e a1 a2 a3 a4 a5), by have := J.size; omega, fun T0 hm => ?_⟩
  · exact hk TI _ Pt.sep.TIz Pt.sep.TITO Pt.sep.TIi1 Pt.sep.TIi2 Pt.sz.2.1 J.ti
  · by_cases hlt : j < Ts.length
    · rw [List.getElem?_append_left hlt] at hj
      obtain ⟨x0, y0, e1, e2, e3⟩ := J.at_ j T0 hj
      obtain ⟨b1, b2, b3, b4, b5⟩ := big T0 (List.mem_of_getElem? hj)
      exact ⟨x0, y0, e1, e2, hk T0 _ b1 b2 b3 b4 b5 e3⟩
    · rw [List.getElem?_append_right (by omega)] at hj
      have hj0 : j - Ts.length = 0 := by
        by_cases q : j - Ts.length = 0
        · exact q
        · rw [List.getElem?_eq_none (by simp; omega)] at hj
          cases hj
      rw [hj0] at hj
      cases hj
      have e : j = i := by have := J.len; omega
      subst e
      exact ⟨x, y, hx, hy, ht⟩
  · rcases List.mem_append.mp hm with h1 | h1
    · exact J.new T0 h1
    · rw [List.mem_singleton.mp h1, hT]
      exact J.size
  · refine List.nodup_append.mpr ⟨J.nd, by simp, fun a ha b hb e => ?_⟩
    rw [List.mem_singleton.mp hb, hT] at e
    exact absurd e (Nat.ne_of_lt (J.lt a ha))
  · rcases List.mem_append.mp hm with h1 | h1
    · exact Nat.lt_of_lt_of_le (J.lt T0 h1) (by rw [hs]; exact Nat.le_succ _)
    · rw [List.mem_singleton.mp h1, hT, hs]
      exact Nat.lt_succ_self _
/-- the loop that fills the list -/
theorem extend_zip {R : Result → Shared → Prop} {h0 : Heap} {S : Addr} {res : Value} {n : Nat} (hh : A.handled = none) (Pt : Parts h0 z TI TO i1 i2 t1 t2 S) (n1 : xs.size = n) (n2 : ys.size = n) (n0 : 0 < n) (hn : n ≤ sizeLine) (g : Array GenState) (d : Drawn) (os : OsState)
    (hR : ∀ (Ts : List Addr) (h' : Heap) (tk : Nat), Filled h0 z TO i1 i2 S xs ys n Ts h' → R (.ok (.ret res)) { heap := h', gens := g, drawn := d, toks := tk, os := os }) :
    ∀ (k i : Nat) (h : Heap) (tk : Nat) (Ts : List Addr), n - i = k → i ≤ n → Fill h0 z TI TO i1 i2 t1 t2 S xs ys i Ts h → codeAny (model prog w) A (.builtin "list.extend.loop" ⟨[.ref S, .ref z, res], []⟩) R { heap := h, gens := g, drawn := d, toks := tk, os := os }
  | 0, i, h, tk, Ts, hk, hi, J => by
    have e : i = n := by omega
    subst e
    obtain ⟨T0, b, hm, hz⟩ : ∃ T b, T ∈ Ts ∧ IsZipH h z TI TO T b := by
      rcases J.zip with ⟨q, _⟩ | q
      · omega
      · exact q
    obtain ⟨j, hj⟩ := List.getElem?_of_mem hm
    obtain ⟨x0, y0, _, _, e3⟩ := J.at_ j T0 hj
    have D1 := Draws.tuple (prog := prog) (w := w) (A := A.in1.in1) hh i1 t1 Pt.n1 xs
    have D2 := Draws.tuple (prog := prog) (w := w) (A := A.in1.in1) hh i2 t2 Pt.n2 ys
    obtain ⟨c, hS⟩ := J.lst
    refine codeAny_builtin F.entry_extend_loop ?_
    rw [Around.under_plainId F.plain_extend_loop _]
    show wpAny _ _ (pyNext (.ref z) >>= _) _ _ _
    refine wpAny_bind (pyNext_held_end (s := { heap := h, gens := g, drawn := d, toks := tk, os := os }) hh Pt.sep D1 hz e3 J.ti (by rw [n1]; exact J.s1) fun h' x => ?_)
    have keepAll : ∀ b o, h.get? b = some o → b ≠ z → b ≠ i1 → h'.get? b = some o := fun b o e a1 a2 => x b o a1 a2 e
    refine wpAny_pure (hR Ts h' tk ?_)
    obtain ⟨o1, o2, o3, o4, o5, o6⟩ := Pt.old
    refine ⟨J.len, ⟨c, keepAll S _ hS (Ne.symm Pt.sz.1) (Ne.symm Pt.sz.2.2.2.1)⟩, fun j T hj => ?_, J.new, J.nd, fun b o e a1 a2 a3 a4 a5 => keepAll b o (J.keep b o e a1 a2 a3 a4 a5) a1 a3⟩
    obtain ⟨x1, y1, q1, q2, q3⟩ := J.at_ j T hj
    have := J.new T (List.mem_of_getElem? hj)
    exact ⟨x1, y1, q1, q2, keepAll T _ q3 (Nat.ne_of_gt (Nat.lt_of_lt_of_le o1 this)) (Nat.ne_of_gt (Nat.lt_of_lt_of_le o4 this))⟩
  | k + 1, i, h, tk, Ts, hk, hi, J => by
    have hlt : i < n := by omega
    obtain ⟨c, hS⟩ := J.lst
    refine codeAny_builtin F.entry_extend_loop ?_
    rw [Around.under_plainId F.plain_extend_loop _]
    show wpAny _ _ (pyNext (.ref z) >>= _) _ _ _
    have D1 := Draws.tuple (prog := prog) (w := w) (A := A.in1.in1) hh i1 t1 Pt.n1 xs
    have D2 := Draws.tuple (prog := prog) (w := w) (A := A.in1.in1) hh i2 t2 Pt.n2 ys
    have next : ∀ (x1 x2 : Value) (h' : Heap) (tk' : Nat), xs[i]? = some x1 → ys[i]? = some x2 → (∃ T0 b, T0 ∈ Ts ++ [h.objs.size] ∧ IsZipH h' z TI TO T0 b) → (h'.IsTupleIter i1 t1 (i + 1) ∧ h'.IsTuple t1 xs) → (h'.IsTupleIter i2 t2 (i + 1) ∧ h'.IsTuple t2 ys) → IsTupOf2 h' h.objs.size x1 x2 → h'.objs.size = h.objs.size + 1 →
        (∀ (c : Addr) (o : Obj), c ≠ z → c ≠ TO → c ≠ i1 → c ≠ i2 → h.get? c = some o → h'.get? c = some o) →
        wpAny (model prog w) A.in1 (do
          Builtin.List.listUpdate (.ref S) fun x_1 => x_1.push (.ref h.objs.size)
          again (Code.builtin "list.extend.loop" ⟨[.ref S, .ref z, res], []⟩)) (fun fin s' => match fin with
          | Fin.done f => R (.ok f) s'
          | Fin.again c' => c'.quiet = true ∧ codeAny (model prog w) A c' R s') (fun e s' => R (.error e) s') { heap := h', gens := g, drawn := d, toks := tk', os := os } := by
      intro x1 x2 h' tk' p1 p2 hz s1 s2 ht hs hk
      have hS' := hk S _ (Ne.symm Pt.sz.1) (Ne.symm Pt.sz.2.2.1) (Ne.symm Pt.sz.2.2.2.1) (Ne.symm Pt.sz.2.2.2.2.1) hS
      refine wpAny_bind (wpAny_updateSeq hS' rfl (wpAny_pure ⟨plainId_quiet F.plain_extend_loop _, ?_⟩) ?_ ?_)
      · have up := fun (b : Addr) (o : Obj) (hb : b ≠ S) (e : h'.get? b = some o) => (Heap.get?_update_other h' (Obj.mapSeq fun x => x.push (.ref h.objs.size)) (Ne.symm hb)).trans e
        refine extend_zip hh Pt n1 n2 n0 hn g d os hR k (i + 1) _ tk' (Ts ++ [h.objs.size]) (by omega) hlt ?_
        have st1 := D1.frame (i + 1) h' (h'.update S (Obj.mapSeq fun x => x.push (.ref h.objs.size))) s1 fun b hb o e => up b o (by
          rcases List.mem_cons.mp hb with rfl | hb
          · exact Pt.sz.2.2.2.1
          · rw [List.mem_singleton.mp hb]; exact Pt.sz.2.2.2.2.2.1) e
        have st2 := D2.frame (i + 1) h' (h'.update S (Obj.mapSeq fun x => x.push (.ref h.objs.size))) s2 fun b hb o e => up b o (by
          rcases List.mem_cons.mp hb with rfl | hb
          · exact Pt.sz.2.2.2.2.1
          · rw [List.mem_singleton.mp hb]; exact Pt.sz.2.2.2.2.2.2) e
        obtain ⟨T0, b, hm, hz⟩ := hz
        have nS : h.objs.size ≠ S := Nat.ne_of_gt (Nat.lt_of_lt_of_le Pt.old.2.2.2.2.2 J.size)
        have hl := Heap.get?_update_self (Obj.mapSeq fun x => x.push (.ref h.objs.size)) hS' rfl
        refine J.step (c := c + 1) Pt p1 p2 rfl ⟨T0, b, hm, up z _ Pt.sz.1 hz⟩ st1 st2 (up _ _ nS ht) (by rw [Heap.size_update]; exact hs) (fun c o c0 c1 c2 c3 c4 e => up c o c4 (hk c o c0 c1 c2 c3 e)) (hl.trans ?_)
        unfold Obj.mapSeq
        simp
      · rw [List.size_toArray, List.length_map, J.len]
        exact Nat.le_trans hi hn
      · rw [Array.size_push, List.size_toArray, List.length_map, J.len]
        exact Nat.succ_le_succ (Nat.le_trans hi hn)
    rcases J.zip with ⟨rfl, hz, a1, a2, hTO⟩ | ⟨T0, b, hm, hz⟩
    · refine wpAny_bind (wpAny_pyNext_zipD2_item (s := { heap := h, gens := g, drawn := d, toks := tk, os := os }) Pt.sep D1 D2 hz J.ti hTO J.s1 J.s2 (by omega) (by omega) fun x1 x2 h' tk' p1 p2 z1 t1' s1 s2 ht hs hk => ?_)
      exact next x1 x2 h' tk' p1 p2 ⟨h.objs.size, false, List.mem_append.mpr (.inr (List.mem_singleton.mpr rfl)), z1⟩ s1 s2 ht hs hk
    · obtain ⟨j, hj⟩ := List.getElem?_of_mem hm
      obtain ⟨x0, y0, _, _, e3⟩ := J.at_ j T0 hj
      refine wpAny_bind (pyNext_held (s := { heap := h, gens := g, drawn := d, toks := tk, os := os }) Pt.sep D1 D2 hz e3 J.ti J.s1 J.s2 (by omega) (by omega) fun x1 x2 h' tk' p1 p2 z1 s1 s2 ht hs hk => ?_)
      exact next x1 x2 h' tk' p1 p2 ⟨T0, true, List.mem_append.mpr (.inl hm), z1⟩ s1 s2 ht hs fun c o c0 c1 c2 c3 e => hk c o c0 c2 c3 e
end
end Ow
end
section
set_option maxHeartbeats 4000000
namespace Ow
open PySem PySem.Spec PyProof.Rows L2
theorem zip_no_len : typeLookup (Value.type "zip") (Str.ofString "__len__") = pure none := by with_unfolding_all rfl
theorem zip_no_hint : typeLookup (Value.type "zip") (Str.ofString "__length_hint__") = pure none := by with_unfolding_all rfl
section
variable {prog : Program} {w : World} {A : Around} {z TI TO i1 i2 t1 t2 : Addr} {xs ys : Array Value}
theorem extendWith_zip {R : Result → Shared → Prop} {h0 : Heap} {S : Addr} {res : Value} {n : Nat} (hh : A.handled = none) (Pt : Parts h0 z TI TO i1 i2 t1 t2 S) (n1 : xs.size = n) (n2 : ys.size = n) (n0 : 0 < n) (hn : n ≤ sizeLine) (g : Array GenState) (d : Drawn) (os : OsState)
    (hR : ∀ (Ts : List Addr) (h' : Heap) (tk : Nat), Filled h0 z TO i1 i2 S xs ys n Ts h' → R (.ok (.ret res)) { heap := h', gens := g, drawn := d, toks := tk, os := os }) (h : Heap) (tk : Nat) (J : Fill h0 z TI TO i1 i2 t1 t2 S xs ys 0 [] h) :
    wpAny (model prog w) A.in1 (Builtin.List.listExtendWith (.ref S) (.ref z) res) (fun fin s' => match fin with
      | Fin.done f => R (.ok f) s'
      | Fin.again c' => c'.quiet = true ∧ codeAny (model prog w) A c' R s') (fun e s' => R (.error e) s') { heap := h, gens := g, drawn := d, toks := tk, os := os } := by
  have hz : IsZip h z TI TO .none := by
    rcases J.zip with ⟨_, q, _⟩ | ⟨T, b, hm, _⟩
    · exact q
    · cases hm
  have ty : ({ heap := h, gens := g, drawn := d, toks := tk, os := os } : Shared).TypeIs (.ref z) "zip" := ⟨_, hz, rfl⟩
  unfold Builtin.List.listExtendWith
  refine wpAny_bind (wpAny_typeOf ty ?_)
  have e1 : (Builtin.List.listSameRef (.ref S) (.ref z) || Value.type "zip" == Value.type "list" || Value.type "zip" == Value.type "tuple") = false := by
    have q : Builtin.List.listSameRef (.ref S) (.ref z) = false := by
      show (S == z) = false
      exact beq_false_of_ne (Ne.symm Pt.sz.1)
    rw [q]
    decide
  rw [if_neg (by rw [e1]; exact Bool.false_ne_true)]
  refine wpAny_bind (wpAny_pyIter_zip hz ?_)
  refine wpAny_bind (wpAny_holding ?_)
  show wpAny _ _ (specialOf (.ref z) (Str.ofString "__len__") >>= _) _ _ _
  refine wpAny_bind (wpAny_specialOf ty zip_no_len ?_)
  show wpAny _ _ (specialOf (.ref z) (Str.ofString "__length_hint__") >>= _) _ _ _
  refine wpAny_bind (wpAny_specialOf ty zip_no_hint (wpAny_pure ?_))
  rw [if_pos (by rfl)]
  refine wpAny_bind (wpAny_rule (wpAny_bind ?_))
  obtain ⟨c, hS⟩ := J.lst
  show wpAny _ _ (updateSeq S (fun x => x.push .none) >>= fun _ => updateSeq S (fun x => x.pop)) _ _ _
  have hS2 := Heap.get?_update_self (Obj.mapSeq fun x => x.push .none) hS rfl
  refine wpAny_bind (wpAny_updateSeq hS rfl ?_ (by show 0 ≤ sizeLine; decide) (by show 1 ≤ sizeLine + 1; decide))
  refine wpAny_updateSeq hS2 rfl ?_ (by show 1 ≤ sizeLine; decide) (by show 0 ≤ sizeLine + 1; decide)
  have hS3 := Heap.get?_update_self (Obj.mapSeq fun x => x.pop) hS2 rfl
  have up : ∀ (b : Addr) (o : Obj), b ≠ S → h.get? b = some o → ((h.update S (Obj.mapSeq fun x => x.push .none)).update S (Obj.mapSeq fun x => x.pop)).get? b = some o := fun b o hb e =>
    (Heap.get?_update_other _ _ (Ne.symm hb)).trans ((Heap.get?_update_other h _ (Ne.symm hb)).trans e)
  have D1 := Draws.tuple (prog := prog) (w := w) (A := A.in1.in1) hh i1 t1 Pt.n1 xs
  have D2 := Draws.tuple (prog := prog) (w := w) (A := A.in1.in1) hh i2 t2 Pt.n2 ys
  obtain ⟨a1, a2, hTO⟩ : ∃ a1 a2, IsTupOf2 h TO a1 a2 := by
    rcases J.zip with ⟨_, _, q⟩ | ⟨T, b, hm, _⟩
    · exact q
    · cases hm
  have J2 : Fill h0 z TI TO i1 i2 t1 t2 S xs ys 0 [] ((h.update S (Obj.mapSeq fun x => x.push .none)).update S (Obj.mapSeq fun x => x.pop)) :=
    { len := rfl
      lst := ⟨_, hS3⟩
      zip := .inl ⟨rfl, up z _ Pt.sz.1 hz, a1, a2, up TO _ Pt.sz.2.2.1 hTO⟩
      ti := up TI _ Pt.sz.2.1 J.ti
      s1 := D1.frame 0 h _ J.s1 fun b hb o e => up b o (by
          rcases List.mem_cons.mp hb with rfl | hb
          · exact Pt.sz.2.2.2.1
          · rw [List.mem_singleton.mp hb]; exact Pt.sz.2.2.2.2.2.1) e
      s2 := D2.frame 0 h _ J.s2 fun b hb o e => up b o (by
          rcases List.mem_cons.mp hb with rfl | hb
          · exact Pt.sz.2.2.2.2.1
          · rw [List.mem_singleton.mp hb]; exact Pt.sz.2.2.2.2.2.2) e
      at_ := fun j T hj => by cases hj
      new := fun T hm => by cases hm
      nd := .nil
      keep := fun b o e b1 b2 b3 b4 b5 => up b o b5 (J.keep b o e b1 b2 b3 b4 b5)
      size := by rw [Heap.size_update, Heap.size_update]; exact J.size
      lt := fun T hm => by cases hm }
  exact wpAny_pure ⟨plainId_quiet F.plain_extend_loop _, extend_zip hh Pt n1 n2 n0 hn g d os hR n 0 _ tk [] (by omega) (Nat.zero_le _) J2⟩
/-- list(z), z a zip of two tuples of one length that has not begun -/
theorem call_list_zip {E : Value → Shared → Prop} {Q : Value → Shared → Prop} {s : Shared} {n : Nat} {a1 a2 : Value} (hh : A.handled = none) (sep : ZipSep2 z TI TO i1 i2 [i1, t1] [i2, t2]) (m1 : t1 ≠ i1) (m2 : t2 ≠ i2) (n1 : xs.size = n) (n2 : ys.size = n) (n0 : 0 < n) (hn : n ≤ sizeLine)
    (hz : IsZip s.heap z TI TO .none) (hTI : IsTupOf2 s.heap TI (.ref i1) (.ref i2)) (hTO : IsTupOf2 s.heap TO a1 a2) (s1 : s.heap.IsTupleIter i1 t1 0 ∧ s.heap.IsTuple t1 xs) (s2 : s.heap.IsTupleIter i2 t2 0 ∧ s.heap.IsTuple t2 ys)
    (hQ : ∀ (Ts : List Addr) (h' : Heap) (tk : Nat), Filled (s.heap.push { cls := .type "list", data := .seq #[] }) z TO i1 i2 s.heap.objs.size xs ys n Ts h' → Q (.ref s.heap.objs.size) { s with heap := h', toks := tk }) :
    wpAny (model prog w) A (call (.type "list") [.ref z]) Q E s := by
  obtain ⟨hp, g, d, tk, os⟩ := s
  refine callType_codes (Q₁ := fun obj s1 => obj = .ref hp.objs.size ∧ s1 = { heap := hp.push { cls := .type "list", data := .seq #[] }, gens := g, drawn := d, toks := tk, os := os }) F.called_list (F.typeCall_list_1 (.ref z)) F.entry_list_init (code_list_new (.ref z) ⟨rfl, rfl⟩) fun obj s₁ h₁ => ?_
  obtain ⟨rfl, rfl⟩ := h₁
  have hS := Heap.get?_push_size hp (o := { cls := .type "list", data := .seq #[] }) rfl
  refine ⟨⟨_, hS, rfl⟩, F.args_list_init_2 _ _, ?_⟩
  show wpAny _ _ (Builtin.List.listItems (.ref hp.objs.size) >>= _) _ _ _
  refine wpAny_bind ?_
  show wpAny _ _ (seqItems? (.ref hp.objs.size) >>= _) _ _ _
  refine wpAny_bind (wpAny_seqItems hS rfl (wpAny_pure ?_))
  refine wpAny_bind (wpAny_updateSeq hS rfl ?_ (by show 0 ≤ sizeLine; decide) (by show 0 ≤ sizeLine + 1; decide))
  refine wpAny_bind (wpAny_letGo ?_)
  have l1 : z < hp.objs.size := Heap.lt_size hz
  have l2 : TI < hp.objs.size := Heap.lt_size hTI
  have l3 : TO < hp.objs.size := Heap.lt_size hTO
  have l4 : i1 < hp.objs.size := by obtain ⟨⟨o, q, _⟩, _⟩ := s1; exact Heap.lt_size q
  have l5 : i2 < hp.objs.size := by obtain ⟨⟨o, q, _⟩, _⟩ := s2; exact Heap.lt_size q
  have l6 : t1 < hp.objs.size := by obtain ⟨_, o, q, _⟩ := s1; exact Heap.lt_size q
  have l7 : t2 < hp.objs.size := by obtain ⟨_, o, q, _⟩ := s2; exact Heap.lt_size q
  have sp : (hp.push { cls := .type "list", data := .seq #[] }).objs.size = hp.objs.size + 1 := Heap.size_push ..
  have Pt : Parts (hp.push { cls := .type "list", data := .seq #[] }) z TI TO i1 i2 t1 t2 hp.objs.size :=
    ⟨sep, m1, m2, ⟨Nat.ne_of_lt l1, Nat.ne_of_lt l2, Nat.ne_of_lt l3, Nat.ne_of_lt l4, Nat.ne_of_lt l5, Nat.ne_of_lt l6, Nat.ne_of_lt l7⟩, by
      rw [sp]
      exact ⟨Nat.lt_succ_of_lt l1, Nat.lt_succ_of_lt l2, Nat.lt_succ_of_lt l3, Nat.lt_succ_of_lt l4, Nat.lt_succ_of_lt l5, Nat.lt_succ_self _⟩⟩
  have up : ∀ (b : Addr) (o : Obj), b ≠ hp.objs.size → hp.get? b = some o → ((hp.push { cls := .type "list", data := .seq #[] }).update hp.objs.size (Obj.mapSeq fun x => #[])).get? b = some o := fun b o hb e =>
    (Heap.get?_update_other _ _ (Ne.symm hb)).trans (Heap.get?_push_of_some _ e)
  have D1 := Draws.tuple (prog := prog) (w := w) (A := A.in1.in1) hh i1 t1 m1 xs
  have D2 := Draws.tuple (prog := prog) (w := w) (A := A.in1.in1) hh i2 t2 m2 ys
  have hS2 := Heap.get?_update_self (Obj.mapSeq fun x => #[]) hS rfl
  have J : Fill (hp.push { cls := .type "list", data := .seq #[] }) z TI TO i1 i2 t1 t2 hp.objs.size xs ys 0 [] ((hp.push { cls := .type "list", data := .seq #[] }).update hp.objs.size (Obj.mapSeq fun x => #[])) :=
    { len := rfl
      lst := ⟨_, hS2⟩
      zip := .inl ⟨rfl, up z _ (Nat.ne_of_lt l1) hz, a1, a2, up TO _ (Nat.ne_of_lt l3) hTO⟩
      ti := up TI _ (Nat.ne_of_lt l2) hTI
      s1 := D1.frame 0 hp _ s1 fun b hb o e => up b o (by
          rcases List.mem_cons.mp hb with rfl | hb
          · exact Nat.ne_of_lt l4
          · rw [List.mem_singleton.mp hb]; exact Nat.ne_of_lt l6) e
      s2 := D2.frame 0 hp _ s2 fun b hb o e => up b o (by
          rcases List.mem_cons.mp hb with rfl | hb
          · exact Nat.ne_of_lt l5
          · rw [List.mem_singleton.mp hb]; exact Nat.ne_of_lt l7) e
      at_ := fun j T hj => by cases hj
      new := fun T hm => by cases hm
      nd := .nil
      keep := fun b o e b1 b2 b3 b4 b5 => (Heap.get?_update_other _ _ (Ne.symm b5)).trans e
      size := by rw [Heap.size_update]; exact Nat.le_refl _
      lt := fun T hm => by cases hm }
  exact extendWith_zip (A := A.in1) hh Pt n1 n2 n0 hn g d os (fun Ts h' tk' q => ⟨rfl, hQ Ts h' tk' q⟩) _ tk J
end
end Ow
end
section
set_option maxHeartbeats 4000000
namespace Ow
open PySem PySem.Spec PyProof.Rows L2
/-- tuples of two laid at addresses -/
def layT (f : Nat → List V) : List Addr → Nat → Hp → Hp
  | [], _, H => H
  | T :: r, i, H => layT f r (i + 1) (upd H T (.tup (f i)))
theorem layT_else (f : Nat → List V) : ∀ (Ts : List Addr) (i : Nat) (H : Hp) (b : Addr), b ∉ Ts → layT f Ts i H b = H b
  | [], _, _, _, _ => rfl
  | T :: r, i, H, b, h => by
    have h1 : b ≠ T := fun e => h (by rw [e]; exact List.mem_cons_self)
    have h2 : b ∉ r := fun e => h (List.mem_cons_of_mem _ e)
    show layT f r (i + 1) (upd H T (.tup (f i))) b = H b
    rw [layT_else f r (i + 1) _ b h2, upd_ne h1]
theorem layT_at (f : Nat → List V) : ∀ (Ts : List Addr) (i : Nat) (H : Hp) (j : Nat) (T : Addr), Ts.Nodup → Ts[j]? = some T → layT f Ts i H T = some (.tup (f (i + j)))
  | [], _, _, _, _, _, h => by cases h
  | T0 :: r, i, H, 0, T, nd, h => by
    have e : T0 = T := by simpa using h
    rw [← e]
    show layT f r (i + 1) (upd H T0 (.tup (f i))) T0 = _
    rw [layT_else f r (i + 1) _ T0 (List.nodup_cons.mp nd).1, upd_same]
    rfl
  | T0 :: r, i, H, j + 1, T, nd, h => by
    show layT f r (i + 1) (upd H T0 (.tup (f i))) T = _
    rw [layT_at f r (i + 1) _ j T (List.nodup_cons.mp nd).2 (by simpa using h)]
    have e : i + 1 + j = i + (j + 1) := by omega
    rw [e]
theorem hok_layT {P : Program} {w : World} {h : Heap} (f : Nat → List V) : ∀ (Ts : List Addr) (i : Nat) (H : Hp), HOk P w H h → Ts.Nodup → (∀ T ∈ Ts, H T = none) → (∀ (j : Nat) (T : Addr), Ts[j]? = some T → ∀ H', ObjOk P w H' h T (.tup (f (i + j)))) → HOk P w (layT f Ts i H) h
  | [], _, _, k, _, _, _ => k
  | T :: r, i, H, k, nd, hn, ho => by
    obtain ⟨n1, n2⟩ := List.nodup_cons.mp nd
    refine hok_layT f r (i + 1) _ (HOk.laidN k (fun _ _ e => e) (hn T List.mem_cons_self) (ho 0 T rfl _)) n2 (fun T' hT' => ?_) fun j T' hj H' => ?_
    · rw [upd_ne (fun e => n1 (by rw [← e]; exact hT'))]
      exact hn T' (List.mem_cons_of_mem _ hT')
    · have := ho (j + 1) T' (by simpa using hj) H'
      have e : i + 1 + j = i + (j + 1) := by omega
      rw [e]
      exact this
theorem vals_refs : ∀ Ts : List Addr, Vals (Ts.map V.ref) (Ts.map Value.ref)
  | [] => .nil
  | T :: r => .cons rfl (vals_refs r)
/-- behind list(zip(a, b)) -/
structure Zipped (H H' : Hp) (S : Addr) (xs ys : List V) : Prop where
  same : Same H H'
  new : H S = none
  at_ : ∃ Ts : List Addr, H' S = some (.lst (Ts.map V.ref)) ∧ Ts.length = xs.length ∧ ∀ (j : Nat) (T : Addr), Ts[j]? = some T → ∃ x y, xs[j]? = some x ∧ ys[j]? = some y ∧ H' T = some (.tup [x, y])
def tListZip (K : PySem.W.Frag) (ta : TA) : TE := fun σ H Q => ta σ H fun vs H1 => ∃ a b xs ys, vs = [.ref a, .ref b] ∧ SqT K H1 a xs ∧ SqT K H1 b ys ∧ xs.length = ys.length ∧ 0 < xs.length ∧ ∀ S H', Zipped H1 H' S xs ys → Q (.ref S) H'
theorem pe_listzip {X : Cx} {e e2 : Expr} {ta : TA} {p p2 pos pos2 : Pos} (hc : X.calm = true) (hgl : Gl X "list") (hml : X.mg "list" = none) (hg : Gl X "zip") (hm : X.mg "zip" = none) (ha : PA X [e, e2] ta)
    (hs : starEach [e, e2] X.env = [(false, eval e X.env), (false, eval e2 X.env)] := by rfl) (hs2 : starEach [e2] X.env = [(false, eval e2 X.env)] := by rfl) :
    PE X (.Call (.Name "list" p) [.Call (.Name "zip" p2) [e, e2] [] pos2] [] pos) (tListZip X.K ta) := by
  refine ⟨fun pins s σ H Q I h => ?_⟩
  refine Call_ (ld_blt I hgl hml boot_list (PyProof.Rows.callWith_type1 ?_ (by rfl) (by rfl)))
  show wpAny _ _ (spliced ((false, eval (.Call (.Name "zip" p2) [e, e2] [] pos2) X.env) :: [])) _ _ _
  refine Calls.spliced_cons ?_
  refine Call_ (ld_blt I hg hm boot_zip (PyProof.Rows.callWith_type1 (thn (ha.run pos2 pins s σ H _ I h) fun us s1 ⟨vs, H1, I1, r1, a, b, xs, ys, ex, hq1, hq2, hl, h0, q⟩ => ?_) (by rw [hs, hs2]) (by rw [hs2]; rfl)))
  subst ex
  obtain ⟨u, u2, rfl, ru, ru2⟩ := vals2 r1
  obtain rfl : u = Value.ref a := ru
  obtain rfl : u2 = Value.ref b := ru2
  obtain ⟨its1, rv1, p1, z1⟩ := I1.tuple hq1
  obtain ⟨its2, rv2, p2', z2⟩ := I1.tuple hq2
  have big1 : a < s1.heap.objs.size := by obtain ⟨o, q, _⟩ := p1; exact Heap.lt_size q
  have big2 : b < s1.heap.objs.size := by obtain ⟨o, q, _⟩ := p2'; exact Heap.lt_size q
  refine zip_begins2 (begins_tuple a its1.toArray) (begins_tuple b its2.toArray) ?_ ?_ fun h' hz hTI hTO g1 g2 hsz hk => Calls.spliced_nil ?_
  · exact p1
  · exact p2'
  have sep : ZipSep2 (s1.heap.objs.size + 4) (s1.heap.objs.size + 2) (s1.heap.objs.size + 3) s1.heap.objs.size (s1.heap.objs.size + 1) [s1.heap.objs.size, a] [s1.heap.objs.size + 1, b] := by
    have ne1 : ∀ k, s1.heap.objs.size + k ≠ a := fun k => Nat.ne_of_gt (Nat.lt_of_lt_of_le big1 (Nat.le_add_right _ _))
    have ne2 : ∀ k, s1.heap.objs.size + k ≠ b := fun k => Nat.ne_of_gt (Nat.lt_of_lt_of_le big2 (Nat.le_add_right _ _))
    have two : ∀ {x y z : Addr}, x ≠ y → x ≠ z → x ∉ [y, z] := fun h1 h2 h => by
      rcases List.mem_cons.mp h with h | h
      · exact h1 h
      · exact h2 (List.mem_singleton.mp h)
    have lt2 : ∀ (k m : Nat), k ≠ m → s1.heap.objs.size + k ≠ s1.heap.objs.size + m := fun k m h e => h (Nat.add_left_cancel e)
    exact ⟨lt2 2 4 (by decide), lt2 3 4 (by decide), lt2 2 3 (by decide), lt2 2 0 (by decide), List.mem_cons_self, two (lt2 4 0 (by decide)) (ne1 4), two (lt2 3 0 (by decide)) (ne1 3), lt2 2 1 (by decide), List.mem_cons_self, two (lt2 4 1 (by decide)) (ne2 4), two (lt2 3 1 (by decide)) (ne2 3), two (lt2 0 1 (by decide)) (ne2 0), two (lt2 1 0 (by decide)) (ne1 1)⟩
  have n1 : its1.toArray.size = xs.length := by rw [List.size_toArray, rv1.length]
  have n2 : its2.toArray.size = xs.length := by rw [List.size_toArray, ← rv2.length, hl]
  have tk : ∀ {c : Addr} {its : Array Value}, s1.heap.IsTuple c its → h'.IsTuple c its := fun z => by
    obtain ⟨o, e1, e2⟩ := z
    exact ⟨o, hk _ o e1, e2⟩
  refine call_list_zip (I1.ok.hd hc) sep (Nat.ne_of_lt big1) (Nat.ne_of_lt (Nat.lt_succ_of_lt big2)) n1 n2 h0 z1 hz hTI hTO ⟨⟨_, g1, rfl, rfl⟩, tk p1⟩ ⟨⟨_, g2, rfl, rfl⟩, tk p2'⟩ fun Ts h'' tk' J => ?_
  have sp : (h'.push { cls := .type "list", data := .seq #[] }).objs.size = s1.heap.objs.size + 6 := by rw [Heap.size_push, hsz]
  have hS0 : h'.objs.size = s1.heap.objs.size + 5 := hsz
  have kp : ∀ (c : Addr) (o : Obj), s1.heap.get? c = some o → h''.get? c = some o := fun c o e => by
    have l : c < s1.heap.objs.size := Heap.lt_size e
    exact J.keep c o (Heap.get?_push_of_some _ (hk c o e)) (Nat.ne_of_lt (Nat.lt_of_lt_of_le l (by omega))) (Nat.ne_of_lt (Nat.lt_of_lt_of_le l (by omega))) (Nat.ne_of_lt (Nat.lt_of_lt_of_le l (by omega))) (Nat.ne_of_lt (Nat.lt_of_lt_of_le l (by omega))) (Nat.ne_of_lt (Nat.lt_of_lt_of_le l (by show s1.heap.objs.size ≤ h'.objs.size; omega)))
  have tnew : ∀ T ∈ Ts, s1.heap.objs.size + 6 ≤ T := fun T hT => by have := J.new T hT; rw [sp] at this; exact this
  have dom : ∀ (c : Addr) (o : HO), H1 c = some o → c < s1.heap.objs.size := fun c o e => by
    by_cases q : c < s1.heap.objs.size
    · exact q
    · rw [I1.hok.fresh (Nat.le_of_not_lt q)] at e
      cases e
  let f : Nat → List V := fun j => [xs.getD j .non, ys.getD j .non]
  have oldT : ∀ c, c < s1.heap.objs.size → layT f Ts 0 H1 c = H1 c := fun c l => layT_else f Ts 0 H1 c fun z => Nat.not_lt.mpr (tnew c z) (Nat.lt_of_lt_of_le l (Nat.le_add_right _ _))
  have old : ∀ c, c < s1.heap.objs.size → upd (layT f Ts 0 H1) h'.objs.size (.lst (Ts.map V.ref)) c = H1 c := fun c l => by
    rw [upd_ne (Nat.ne_of_lt (Nat.lt_of_lt_of_le l (by omega))), oldT c l]
  have pair : ∀ (j : Nat) (T : Addr), Ts[j]? = some T → ∃ x y, xs[j]? = some x ∧ ys[j]? = some y ∧ ∃ u v, IsTupOf2 h'' T u v ∧ RelV x u ∧ RelV y v := fun j T hj => by
    obtain ⟨u, v, e1, e2, e3⟩ := J.at_ j T hj
    have hlt : j < Ts.length := by
      by_cases q : j < Ts.length
      · exact q
      · rw [List.getElem?_eq_none (by omega)] at hj
        cases hj
    have hx : j < xs.length := by rw [← J.len]; exact hlt
    obtain ⟨u', w1, r1⟩ := rv1.get (List.getElem?_eq_getElem hx)
    obtain ⟨v', w2, r2⟩ := rv2.get (List.getElem?_eq_getElem (show j < ys.length by omega))
    rw [List.getElem?_toArray, w1] at e1
    rw [List.getElem?_toArray, w2] at e2
    cases e1
    cases e2
    exact ⟨_, _, List.getElem?_eq_getElem hx, List.getElem?_eq_getElem (by omega), _, _, e3, r1, r2⟩
  have okT : HOk X.prog X.w (layT f Ts 0 H1) h'' := by
    refine hok_layT f Ts 0 H1 (I1.hok.kept kp) J.nd (fun T hT => I1.hok.fresh (Nat.le_trans (Nat.le_add_right _ _) (tnew T hT))) fun j T hj H'' => ?_
    obtain ⟨x, y, e1, e2, u, v, e3, r1, r2⟩ := pair j T hj
    have ef : f (0 + j) = [x, y] := by
      show [xs.getD (0 + j) .non, ys.getD (0 + j) .non] = _
      rw [Nat.zero_add, List.getD_eq_getElem?_getD, List.getD_eq_getElem?_getD, e1, e2]
      rfl
    rw [ef]
    exact ⟨by show 2 ≤ sizeLine; decide, [u, v], .cons r1 (.cons r2 .nil), ⟨_, e3, rfl, _, rfl⟩⟩
  obtain ⟨cL, hL⟩ := J.lst
  have ok2 : HOk X.prog X.w (upd (layT f Ts 0 H1) h'.objs.size (.lst (Ts.map V.ref))) h'' := by
    refine HOk.laidN okT (fun _ _ e => e) ?_ ?_
    · rw [layT_else f Ts 0 H1 _ (fun z => by have := tnew _ z; omega)]
      exact I1.hok.fresh (by omega)
    · exact ⟨by rw [List.length_map, J.len]; exact z1, Ts.map Value.ref, _, vals_refs Ts, hL⟩
  have I2 := I1.un (t' := tk') (h' := h'') (H' := upd (layT f Ts 0 H1) h'.objs.size (.lst (Ts.map V.ref)))
    ⟨fun c o e _ _ _ => kp c o e, fun c o e _ _ _ => ⟨o.slots, kp c o e⟩, fun c o e n _ => by rw [old c (Heap.lt_size e)]; exact n, fun c o e _ => ⟨o, kp c o e⟩, fun c zs e => by rw [old c (dom c _ e)]; exact e, fun c o u e => by rw [old c (dom c _ e)]; exact e, fun c ps e => ⟨#[], by rw [old c (dom c _ e), Array.append_empty]; exact e⟩⟩ ok2
  refine ⟨.ref h'.objs.size, _, I2, rfl, q _ _ ⟨fun c o e => by rw [old c (dom c o e)]; exact e, I1.hok.fresh (by omega), Ts, upd_same, J.len, fun j T hj => ?_⟩⟩
  obtain ⟨x, y, e1, e2, u, v, e3, r1, r2⟩ := pair j T hj
  refine ⟨x, y, e1, e2, ?_⟩
  have hT := tnew T (List.mem_of_getElem? hj)
  rw [upd_ne (Nat.ne_of_gt (Nat.lt_of_lt_of_le (show h'.objs.size < s1.heap.objs.size + 6 by omega) hT)), layT_at f Ts 0 H1 j T J.nd hj]
  show some (HO.tup [xs.getD (0 + j) .non, ys.getD (0 + j) .non]) = _
  rw [Nat.zero_add, List.getD_eq_getElem?_getD, List.getD_eq_getElem?_getD, e1, e2]
  rfl
end Ow
end
section
set_option maxHeartbeats 4000000
/-! raise X(), X an own error without a def of its own. -/
namespace Ow
open PySem PySem.Spec PyProof.Rows L2 StX
theorem pmk_own0 {X : Cx} {C : Addr} {bmB : List Value} {B newId initId : String} {x : Str} {p pos : Pos} (F : ExcBaseFacts B newId initId bmB) (q : PySem.W.excIn X.K C bmB newId = true) (gC : X.mg x = some (.ref C)) (kC : PySem.W.keepIn X.K (.ref C) = true) (r : Raises X (.ref C)) (hg : Gl X x)
    (hdb : (x == ("__debug__" : Str)) = false := by decide) : PMk X (.Call (.Name x p) [] [] pos) (fun _ H Q => Q (.ref C) none H) := by
  intro pins s σ H Q I h
  refine wpAny_Call_Name_kw (ld_glob I hg gC ?_ hdb)
  refine PySem.W.callWith_K0 I.kIn kC ?_
  obtain ⟨bm, N, nm, qn, bs, hdct, sn, sub, ab, col, dd, k0, k1, k2, k3, k5, mN, hC, hN, hni, T⟩ := exc_obj I.kIn q
  obtain ⟨hp, g, dr, tk, os⟩ := s
  exact wpAny_call_exc_subT F T hC hN hni (fun h' e hm => mk_of I hm r h (I.hok.gone hm.new)) (by show 0 ≤ sizeLine; exact Nat.zero_le _)
end Ow
end
section
set_option maxHeartbeats 4000000
/-! x op= y where the class has that method of its own; ~x. -/
namespace Ow
open PySem PySem.Spec PyProof.Rows L2
section
variable {X : Cx} {CX : CXT} {n : Nat} {C g : Addr} {sp : Sp} {E : XK}
theorem iop_own {op : Operator} (hc : PySem.W.selfFirst X.K C = true) (hs : PySem.W.findIn X.K (.ref C) (dunderI op.info.2) = some (some (.ref g))) (hf : PySem.W.isFn X.K (.ref g) = true)
    (F : FnR X.prog X.w X.K X.mg X.base CX n g sp) (hr : Room n X.A) (hx : Passes CX X E) : OpR X (inplaceOp op) (rBin C sp E) := by
  intro pins s σ H x y v u Q I rx ry h
  obtain ⟨a, b, rfl, rfl, ha, hb, q⟩ := h
  cases (show v = Value.ref a from rx)
  cases (show u = Value.ref b from ry)
  obtain ⟨ox, od, J⟩ := inst_of I ha
  obtain ⟨m, hF⟩ := I.fr
  refine PySem.W.ksp_inplace (op := op) hF I.ok.mod.kin J hc hs hf ?_
  refine wpAny_mono (wpAny_call (run_fnR (us := [.ref a, .ref b]) (vs := [.ref a, .ref b]) F hr hx I (.cons rfl (.cons rfl .nil)) q)) (fun w s' z => ?_) fun _ _ x => x
  obtain ⟨z', H', I', rz, qz⟩ := z
  exact cmpbackR rz ⟨z', H', I', rz, qz⟩
end
end Ow
end
section
set_option maxHeartbeats 4000000
/-! A comprehension of which each item is known by what it is, not by where it stands. -/
namespace Ow
open PySem PySem.Spec PyProof.Rows L2
/-- all objects but lists stay -/
def NL (H H' : Hp) : Prop := ∀ b o, H b = some o → (∀ xs, o ≠ .lst xs) → H' b = some o
def LcE (R : Nat → V → Hp → Prop) (H1 H : Hp) (D : Addr) (i : Nat) : Prop := ∃ out, LcIn H1 H D out ∧ out.length = i ∧ ∀ j v, out[j]? = some v → R j v H
theorem kLc.each {J : It} {n : Nat} {G : Hp → Prop} {Y : Nat → Hp → V → Hp → Prop} (w : Walk J n G Y) {g : TG} {tt : TT} {te : TE} {vs : List Nat} {σ : L2.St} {Q : VK} {H1 : Hp} (R : Nat → V → Hp → Prop) (hG : ∀ H, Same H1 H → G H)
    (hs : ∀ D i x H H', i < n → LcE R H1 H D i → Y i H x H' → g x (wipe σ vs) H' fun σ2 H2 => wipe σ2 vs = wipe σ vs ∧ tt σ2 H2 fun b H3 => if b = true then te σ2 H3 (kApp D fun H' => LcE R H1 H' D (i + 1)) else LcE R H1 H3 D (i + 1))
    (hd : ∀ D H' out, Fresh H1 H' D (.lst out) → out.length = n → (∀ i v, out[i]? = some v → R i v H') → Q (.ref D) H') : kLc J g tt te vs σ Q H1 := fun D hD =>
  lc_it w (fun i H => LcE R H1 H D i) ⟨[], ⟨(fresh_upd hD).same, upd_same, hD⟩, rfl, fun j v h => by cases h⟩ (fun i H _ c => hG H (let ⟨_, c, _⟩ := c; c.same)) (fun i x H H' hi c y => hs D i x H H' hi c y) fun H c => let ⟨out, c, h1, h2⟩ := c; hd D H out ⟨c.same, c.at_, c.new⟩ h1 h2
theorem kApp.each {R : Nat → V → Hp → Prop} (hR : ∀ i v H H', R i v H → NL H H' → R i v H') {H1 H H4 : Hp} {D : Addr} {i : Nat} {y : V} (c : LcE R H1 H D i) (s : Same H H4) (hl : i < sizeLine) (h : R i y H4) : kApp D (fun H' => LcE R H1 H' D (i + 1)) y H4 := by
  obtain ⟨out, c, h1, h2⟩ := c
  have at4 := s _ _ c.at_
  have nl : NL H4 (upd H4 D (.lst (out ++ [y]))) := fun b o e n => by
    rw [upd_ne]
    · exact e
    · intro z
      rw [z, at4] at e
      exact n _ (Option.some.inj e).symm
  refine ⟨out, at4, by rw [h1]; exact hl, out ++ [y], ⟨fun b u e => ?_, upd_same, c.new⟩, by rw [List.length_append, h1]; rfl, fun j v hj => ?_⟩
  · rw [upd_ne (ne_of_none e c.new)]
    exact s _ _ (c.same _ _ e)
  · by_cases hlt : j < out.length
    · rw [List.getElem?_append_left hlt] at hj
      exact hR j v _ _ (h2 j v hj) fun b o e n => nl b o (s b o e) n
    · rw [List.getElem?_append_right (by omega)] at hj
      have hz : j - out.length = 0 := by
        by_cases q : j - out.length = 0
        · exact q
        · rw [List.getElem?_eq_none (by rw [List.length_singleton]; omega)] at hj
          cases hj
      rw [hz] at hj
      cases hj
      have e : j = i := by omega
      subst e
      exact hR _ _ _ _ h nl
theorem Same.putNew {H H1 H2 : Hp} {l : Addr} {o : HO} (s : Same H H1) (nl : H l = none) (f : Put H1 H2 l o) : Same H H2 := fun b u e => f.get (ne_of_none e nl) (s b u e)
theorem none_back {H H1 : Hp} {p : Addr} (s : Same H H1) (n : H1 p = none) : H p = none := by
  cases h : H p with
  | none => rfl
  | some o => rw [s _ _ h] at n; cases n
end Ow
end
section
set_option maxHeartbeats 4000000
/-! A comprehension with any invariant (its items may change what stands). -/
namespace Ow
open PySem PySem.Spec PyProof.Rows L2
theorem kLc.it {J : It} {n : Nat} {G : Hp → Prop} {Y : Nat → Hp → V → Hp → Prop} (w : Walk J n G Y) {g : TG} {tt : TT} {te : TE} {vs : List Nat} {σ : L2.St} {Q : VK} {H1 : Hp} (I : Addr → Nat → Hp → Prop) (h0 : ∀ D H', Fresh H1 H' D (.lst []) → I D 0 H') (hG : ∀ D i H, I D i H → G H)
    (hs : ∀ D i x H H', i < n → I D i H → Y i H x H' → g x (wipe σ vs) H' fun σ2 H2 => wipe σ2 vs = wipe σ vs ∧ tt σ2 H2 fun b H3 => if b = true then te σ2 H3 (kApp D fun H' => I D (i + 1) H') else I D (i + 1) H3)
    (hd : ∀ D H', I D n H' → Q (.ref D) H') : kLc J g tt te vs σ Q H1 := fun D hD =>
  lc_it w (fun i H => I D i H) (h0 D _ (fresh_upd hD)) (fun i H _ c => hG D i H c) (fun i x H H' hi c y => hs D i x H H' hi c y) fun H c => hd D H c
end Ow
end
section
set_option maxHeartbeats 4000000
/-! Rules whose readings name the knowledge K itself, not the context's: within comprehensions, where the context hangs on what is bound there. -/
namespace Ow
open PySem PySem.Spec PyProof.Rows L2
section
variable {X : Cx} {K : PySem.W.Frag}
def rJoin (K : PySem.W.Frag) : V → List V → Hp → VK → Prop := fun x xs H Q => ∃ a p, ∃ ys : List Str, x = .str a ∧ xs = [.ref p] ∧ (SqL K H p (ys.map V.str) ∨ SqT K H p (ys.map V.str)) ∧ (ys.map (·.length)).sum + ys.length * a.length ≤ 16777216 ∧ Q (.str (Txt.join a ys)) H
theorem pe_joinK {o e : Expr} {to te : TE} {apos pos : Pos} (hK : X.K = K) (ho : PE X o to) (he : PE X e te) (hs : starEach [e] X.env = [(false, eval e X.env)] := by rfl) (hbase : attributeBase o "join" X.env (eval o X.env) = eval o X.env := by rfl) (hline : (apos.endLine == pos.line) = true := by rfl) :
    PE X (.Call (.Attribute o "join" apos) [e] [] pos) (tM1 (rJoin K) to te) := by
  subst hK
  exact pe_join ho he hs hbase hline
theorem pi_listK {tg l : Expr} {tl : TE} (hK : X.K = K) (hl : PE X l tl) : PI X tg l (iList K tl) := by
  subst hK
  exact pi_list hl
theorem pi_tupK {tg l : Expr} {tl : TE} (hK : X.K = K) (hl : PE X l tl) : PI X tg l (iTup K tl) := by
  subst hK
  exact pi_tup hl
theorem ix_listK (hK : X.K = K) : IxR X (rIxL K) := by
  subst hK
  exact ix_list
theorem call_lenKK (hK : X.K = K) : CallR X (.builtin "len") (rLenSeq K) := by
  subst hK
  exact call_lenK
theorem call_tupleKK (hK : X.K = K) : CallR X (.type "tuple") (rTupOf K) := by
  subst hK
  exact call_tupleK
theorem call_listKK (hK : X.K = K) : CallR X (.type "list") (rListOf K) := by
  subst hK
  exact call_listK
theorem op_eqDK (hK : X.K = K) (hu : X.A.units + 64 < cLine) : OpR X (compareOp .Eq) (rEqD K) := by
  subst hK
  exact op_eqD hu
theorem op_neDK (hK : X.K = K) (hu : X.A.units + 64 < cLine) : OpR X (compareOp .NotEq) (rNeD K) := by
  subst hK
  exact op_neD hu
theorem op_inK (hK : X.K = K) : OpR X (compareOp .In) (rIn K false) := by
  subst hK
  exact op_in_seq
end
end Ow
end
section
set_option maxHeartbeats 4000000
/-! x in t, x not in t: t a tuple, items and x data of any depth. -/
namespace Ow
open PySem PySem.Spec PyProof.Rows L2
section
variable {X : Cx}
def rInDT (K : PySem.W.Frag) (neg : Bool) : R2 := fun x y H Q => ∃ d ds, Dp K H x d ∧ Dp K H y (.tuple ds) ∧ SeqAt.shaped d = true ∧ SeqAt.shaped (.tuple ds) = true ∧ Q (.bl (if neg then !(ds.any fun z => PyData.eqv z d) else ds.any fun z => PyData.eqv z d)) H
theorem op_notInDT (hu : X.A.units + 65 < cLine) : OpR X (compareOp .NotIn) (rInDT X.K true) := by
  intro pins s σ H x y v u Q I rx ry h
  obtain ⟨d, ds, hd, he, sd, se, q⟩ := h
  obtain ⟨as, r1⟩ := Dp.reads I d x v hd rx
  obtain ⟨bs, r2⟩ := Dp.reads I (.tuple ds) y u he ry
  exact SeqAt.notIn_tuple_reads r2 r1 (SeqAt.canLay_of_shaped se) (SeqAt.canLay_of_shaped sd) (room_in_shaped sd hu) ⟨.bl _, H, I, rfl, q⟩
theorem op_inDT (hu : X.A.units + 65 < cLine) : OpR X (compareOp .In) (rInDT X.K false) := by
  intro pins s σ H x y v u Q I rx ry h
  obtain ⟨d, ds, hd, he, sd, se, q⟩ := h
  obtain ⟨as, r1⟩ := Dp.reads I d x v hd rx
  obtain ⟨bs, r2⟩ := Dp.reads I (.tuple ds) y u he ry
  exact SeqAt.in_tuple_reads r2 r1 (SeqAt.canLay_of_shaped se) (SeqAt.canLay_of_shaped sd) (room_in_shaped sd hu) ⟨.bl _, H, I, rfl, q⟩
end
end Ow
end
section
set_option maxHeartbeats 4000000
/-! tuple * int, the int 1 or more. -/
namespace Ow
open PySem PySem.Spec PyProof.Rows L2
theorem tuple_mul1W (l : Addr) (items : Array Value) (n : Nat) (dd : Option Addr) (sl : Array (Option Value)) (u : Tok) :
    Meets (Builtin.«tuple.__mul__» ⟨[.ref l, .int 1 u], []⟩) (fun _ R s => s.heap.get? l = some { cls := .type "tuple", dict := dd, data := .seq items n, slots := sl } ∧
      R (.ok (.ret (Value.ref l))) s) :=
  .of_wp fun prog w A R s h => by
    obtain ⟨hp, g, d, tk, os⟩ := s
    obtain ⟨hl, h⟩ := h
    have f1 := AutoSeq1.idx_int
    wp_walk using wpAny_loadPart' hl
    exact ⟨_, rfl, h⟩
section
variable {X : Cx}
theorem op_repT1 : OpR X (binaryOp .Mult) (fun x y H Q => ∃ l xs, x = .ref l ∧ y = .int 1 ∧ SqT X.K H l xs ∧ Q (.ref l) H) := by
  intro pins s σ H x y v u Q I rx ry h
  obtain ⟨l, xs, rfl, rfl, hT, q⟩ := h
  cases rx
  obtain ⟨t, rfl⟩ := ry
  obtain ⟨its, r, ⟨⟨cls, dd, data, sl⟩, ho, hc, n, hd⟩, hs⟩ := I.tuple hT
  simp only at hc hd
  subst hc hd
  refine wpAny_binaryOp_repeat_ref (T := "tuple") (U := "int") (by decide) ⟨_, ho, rfl⟩ (fun s' => typeIs_int s' 1 t) noFill_tuple_mul F.fills_int_mul F.slot_int_rmul repeat_tuple F.slot_int_index.lookup
    (call_meets F.slot_int_rmul (typeIs_int s 1 t) F.entry_int_rmul (F.args_int_rmul_2 _ _) (int_rmul_tuple 1 t l its.toArray n dd sl)
      ⟨ho, rfl, ⟨_, ho, rfl⟩, call_meets F.slot_tuple_mul ⟨_, ho, rfl⟩ F.entry_tuple_mul (F.args_tuple_mul_2 _ _) (tuple_mul1W l its.toArray n dd sl t) ⟨ho, ?_⟩⟩)
  exact ⟨.ref l, H, I, rfl, q⟩
/-- t * k, k from 1 on: a new tuple, or the very one -/
def rRepT1 : R2 := fun x y H Q => ∃ l k xs, x = .ref l ∧ y = .int k ∧ H l = some (.tup xs) ∧ xs ≠ [] ∧ 1 ≤ k ∧ k ≤ 1000 ∧ xs.length ≤ 1000 ∧ ∀ t H', Same H H' → H' t = some (.tup (List.replicate k.toNat xs).flatten) → (H t = none ∨ t = l) → Q (.ref t) H'
theorem op_repTK : OpR X (binaryOp .Mult) rRepT1 := by
  intro pins s σ H x y v u Q I rx ry h
  obtain ⟨l, k, xs, rfl, rfl, hT, hne, h1, h2, h3, q⟩ := h
  by_cases e : k = 1
  · subst e
    exact op_repT1 pins s σ H _ _ v u Q I rx ry ⟨l, xs, rfl, rfl, .inl (.inl hT), q l H (Same.refl H) (by simpa using hT) (.inr rfl)⟩
  · exact op_repT pins s σ H _ _ v u Q I rx ry ⟨l, k, xs, rfl, rfl, .inl (.inl hT), hne, by omega, h2, h3, fun p hp => q p _ (fresh_upd hp).same (fresh_upd (o := .tup (List.replicate k.toNat xs).flatten) hp).at_ (.inl hp)⟩
end
end Ow
end
section
set_option maxHeartbeats 4000000
/-! An instance made by a local name that holds the class; a classmethod called by keywords. -/
namespace Ow
open PySem PySem.Spec PyProof.Rows L2 StX ClX
section
variable {X : Cx} {CX : CXT} {n i : Nat} {C g : Addr} {sp : Sp} {E : XK} {x : Str} {p pos : Pos} {e : Expr} {es : List Expr} {t : TA}
/-- x(e, ..): slot i holds the class at C -/
def tMakeL (i : Nat) (C : Addr) (sp : Sp) (E : XK) (t : TA) : TE := fun σ H Q => σ[i]? = some (some (.ref C)) ∧ t σ H (kMake C sp E Q)
theorem pe_makeL (M : Mk X.K C g) (F : FnR X.prog X.w X.K X.mg X.base CX n g sp) (hr : Room (n + 1) X.A) (hN : X.N[i]? = some x) (hv : Vis X.env.scope x) (hx : Passes CX X E) (ha : PA X (e :: es) t)
    (hdb : (x == ("__debug__" : Str)) = false := by decide) (hcd : (x == ("__classdict__" : Str)) = false := by decide)
    (he : starEach (e :: es) X.env = (false, eval e X.env) :: starEach es X.env := by rfl) (hpl : (backTo pos (starEach es X.env)).any (·.1) = false := by rfl) : PE X (.Call (.Name x p) (e :: es) [] pos) (tMakeL i C sp E t) := by
  refine ⟨fun pins s σ H Q I h => ?_⟩
  obtain ⟨hs, ht⟩ := h
  refine wpAny_Call_Name_kw (thn ((pe_var (pos := p) hN hv hdb hcd).run pins s σ H (fun v H1 => v = .ref C ∧ H1 = H) I ⟨.ref C, hs, rfl, rfl⟩) fun u s1 ⟨v, H1, I1, r1, q1⟩ => ?_)
  obtain ⟨rfl, rfl⟩ := q1
  cases r1
  refine PySem.W.callWith_K (h₀ := X.base) I.ok.mod.kin M.kp (thn (ha.run pos pins s1 σ _ _ I1 ht) fun us s2 ⟨vs, H2, I2, r, q⟩ => ⟨I2.kIn, ?_⟩) he hpl
  exact run_makeR M F hr hx I2 r q
end
section
variable {X : Cx} {CX : CXT} {k : Nat} {C p g : Addr} {mc : Value} {sp : Sp} {E : XK} {o : Expr} {m : Str} {pos apos : Pos} {ta : TE} {pl : Sem Bool}
/-- C.m(k=e, ..), m a classmethod, by keywords alone -/
def tCMethK (C : Addr) (n : Nat) (sp : Sp) (gV : List V → List V → List V) (E : XK) (ta : TE) (tk : TA) : TE := fun σ H Q => ta σ H fun x H1 => x = .ref C ∧ tk σ H1 fun zs H2 => zs.length = n ∧ sp (gV [.ref C] zs) H2 Q E
theorem pe_cmethK {kws : List Keyword} {fd : FuncData} {ps ks : List Str} {tk : TA} {gl : List Value → List Value → List Value} {gV : List V → List V → List V} (he : PE X o ta) (r : CRead X.K C mc) (c : CMet X.K C mc m p g)
    (F : FnOk X.prog X.w X.K X.mg X.base CX k g fd ps sp) (hr : Room k X.A) (hb : KBn X.K fd ps 1 ks gl gV) (hx : Passes CX X E) (hkw : PK X kws tk)
    (hall : (backToKw pos (keywordEach kws X.env)).all (·.1.isSome) = true := by rfl) (hks : (backToKw pos (keywordEach kws X.env)).filterMap (·.1) = ks := by rfl)
    (hpl : ((backTo pos (starEach [] X.env)).any (·.1) || (backToKw pos (keywordEach kws X.env)).any (·.1.isNone)) = false := by rfl)
    (ht : eval (.Call (.Attribute o m apos) [] kws pos) X.env = (do
      let ov ← eval o X.env
      standAt apos.atName
      let (f, first) ← holding [ov] (getMethod ov m pl)
      callWith pos f first (backTo pos (starEach [] X.env)) (backToKw pos (keywordEach kws X.env))) := by rfl) :
    PE X (.Call (.Attribute o m apos) [] kws pos) (tCMethK C ks.length sp gV E ta tk) := by
  refine ⟨fun pins s σ H Q I h => ?_⟩
  refine PySem.W.methodCall_KW (pl := pl) (thn (he.run pins s σ H _ I h) fun u s1 ⟨x, H1, I1, rx, ex, q⟩ => ?_) ht
  subst ex
  obtain rfl : u = Value.ref C := rx
  refine getmethcm_ok I1 r c fun s2 I2 => ?_
  refine PySem.W.callWith_of hpl (PySem.W.keeps_M c.fi) (evalArgs_kw2_nil hall (thn (hkw.run pos _ s2 σ H1 _ I2 q) fun ws s3 ⟨zs, H3, I3, rz, l2, q2⟩ => ⟨⟨pin_at I3, I3.kIn⟩, ?_⟩))
  rw [hks]
  have r1 : Vals [V.ref C] [Value.ref C] := .cons rfl .nil
  refine thn (Q := EP X ((s1.heap.objs.size, PySem.W.methodObj (.ref g) (.ref C)) :: pins) σ Q) (wpAny_call (PySem.W.method_call (pin_at I3) (codeAny_mono (F.run X.A X.stack s3 H3 ⟨[.ref C], ks.zip ws⟩ (gl [.ref C] ws) (gV [.ref C] zs) Q E hr I3.env0 (hb.to s3 [.ref C] ws I3.kIn rfl (rz.length.symm.trans l2)) (hb.rel r1 rz) q2) fun r s' hq => ?_))) fun _ _ y => unpinE y
  cases r with
  | error e => exact hx _ σ H3 s3 e s' I3 hq
  | ok fl =>
    cases fl with
    | ret u => exact I3.after hq
    | next => exact False.elim hq
    | brk => exact False.elim hq
    | cont => exact False.elim hq
end
end Ow
end
section
/-! Texts of one sign: lstrip, rstrip, find within; runs; the region of a grid. -/
namespace Rg
open PySem PySem.Builtin PySem.Builtin.Str
open SX (S)
/-! ### lstrip, rstrip of one sign -/
def lead (c : Nat) : List Nat → Nat
  | [] => 0
  | d :: r => if d = c then lead c r + 1 else 0
theorem lead_tw (c : Nat) : ∀ r : List Nat, (r.takeWhile (fun d => (S [c]).cps.contains d)).length = lead c r
  | [] => rfl
  | d :: r => by
    have e : (S [c]).cps.contains d = decide (d = c) := by
      show (#[c] : Array Nat).contains d = _
      rw [Bool.eq_iff_iff]
      simp
    unfold lead
    by_cases h : d = c
    · rw [List.takeWhile_cons_of_pos (by rw [e, h]; simp), if_pos h, List.length_cons, lead_tw c r]
    · rw [List.takeWhile_cons_of_neg (by rw [e]; simp [h]), if_neg h]
      rfl
theorem lead_le (c : Nat) : ∀ r : List Nat, lead c r ≤ r.length
  | [] => Nat.le_refl _
  | d :: r => by
    have := lead_le c r
    unfold lead
    rw [List.length_cons]
    split <;> omega
theorem lead_at (c : Nat) : ∀ (r : List Nat) (i : Nat), i < lead c r → r[i]? = some c
  | [], i, h => absurd h (Nat.not_lt_zero _)
  | d :: r, i, h => by
    unfold lead at h
    by_cases e : d = c
    · rw [if_pos e] at h
      cases i with
      | zero => rw [e]; rfl
      | succ i => exact lead_at c r i (by omega)
    · rw [if_neg e] at h
      exact absurd h (Nat.not_lt_zero _)
theorem lead_end (c : Nat) : ∀ (r : List Nat), r[lead c r]? ≠ some c
  | [] => by simp
  | d :: r => by
    unfold lead
    by_cases e : d = c
    · rw [if_pos e]
      exact lead_end c r
    · rw [if_neg e]
      intro z
      cases z
      exact e rfl
theorem strip_eq (g : Nat → Bool) (l r : Bool) (x : Str) : Txt.stripBy g l r x = PySem.stripped g l r x := by
  unfold Txt.stripBy
  split
  · rename_i h
    simp only [PySem.stripSame, Bool.and_eq_true, beq_iff_eq] at h
    unfold PySem.stripped
    rw [h.2, h.1]
    exact (congrArg Str.mk (by simp [Str.length])).symm
  · rfl
theorem lstrip_S (r : List Nat) (c : Nat) : Txt.lstripChars (S r) (S [c]) = S (r.drop (lead c r)) := by
  unfold Txt.lstripChars
  rw [strip_eq]
  unfold PySem.stripped PySem.stripLo PySem.stripHi
  simp only [if_true, Bool.false_eq_true, if_false]
  have e := lead_tw c r
  have e2 : ((S r).cps.toList.takeWhile (S [c]).cps.contains).length = lead c r := e
  rw [e2]
  refine congrArg Str.mk ?_
  rw [SX.S_len]
  simp [List.take_of_length_le]
theorem rstrip_len (r : List Nat) (c : Nat) : (Txt.rstripChars (S r) (S [c])).length = r.length - lead c r.reverse := by
  unfold Txt.rstripChars
  rw [strip_eq]
  unfold PySem.stripped PySem.stripLo PySem.stripHi
  simp only [if_true, Bool.false_eq_true, if_false]
  have e2 : (((S r).cps.toList.drop 0).reverse.takeWhile (S [c]).cps.contains).length = lead c r.reverse := lead_tw c r.reverse
  rw [e2, SX.S_len]
  show ((S r).cps.extract 0 (r.length - lead c r.reverse)).size = _
  simp
/-- [b, e) is the whole run of c around x -/
structure Run (row : List Nat) (c x b e : Nat) : Prop where
  bx : b ≤ x
  xe : x < e
  el : e ≤ row.length
  all : ∀ i, b ≤ i → i < e → row[i]? = some c
  lo : ∀ i, i + 1 = b → row[i]? ≠ some c
  hi : row[e]? ≠ some c
theorem run_of {row : List Nat} {c x : Nat} (h : row[x]? = some c) : Run row c x ((row.take x).length - lead c (row.take x).reverse) (x + lead c (row.drop x)) := by
  have hx := (List.getElem?_eq_some_iff.mp h).1
  have tl : (row.take x).length = x := List.length_take_of_le (by omega)
  have l1 := lead_le c (row.take x).reverse
  have l2 := lead_le c (row.drop x)
  rw [List.length_reverse, tl] at l1
  rw [List.length_drop] at l2
  have a1 := lead_at c (row.drop x)
  have a2 := lead_end c (row.drop x)
  have b1 := lead_at c (row.take x).reverse
  have b2 := lead_end c (row.take x).reverse
  rw [tl]
  have rv : ∀ i, i < x → (row.take x).reverse[i]? = row[x - 1 - i]? := fun i hi => by
    rw [List.getElem?_reverse (by rw [tl]; exact hi), tl, List.getElem?_take, if_pos (by omega)]
  have l0 : 0 < lead c (row.drop x) := by
    refine Nat.pos_of_ne_zero fun z => a2 ?_
    rw [z, List.getElem?_drop]
    exact h
  refine ⟨by omega, by omega, by omega, fun i h1 h2 => ?_, fun i hi => ?_, ?_⟩
  · by_cases hi : i < x
    · have := b1 (x - 1 - i) (by omega)
      rw [rv _ (by omega), show x - 1 - (x - 1 - i) = i from by omega] at this
      exact this
    · have := a1 (i - x) (by omega)
      rw [List.getElem?_drop, show x + (i - x) = i from by omega] at this
      exact this
  · rw [rv _ (by omega), show x - 1 - lead c (row.take x).reverse = i from by omega] at b2
    exact b2
  · rw [List.getElem?_drop] at a2
    exact a2
/-! ### find within -/
theorem occ_stay (s sub : Str) (hi : Nat) : ∀ (l : List Nat) (st : Array Nat × Nat), 1 ≤ st.fst.size → (forIn l st (StrLaws.occBody s sub hi 1)).run.fst = st.fst
  | [], st, h => rfl
  | a :: l, st, h => by
    rw [List.forIn_cons]
    unfold StrLaws.occBody
    rw [if_neg (by omega)]
    exact occ_stay s sub hi l _ h
theorem occ_first (s sub : Str) (hi : Nat) : ∀ (l : List Nat) (free : Nat), (∀ i ∈ l, free ≤ i) →
    (forIn l ((#[] : Array Nat), free) (StrLaws.occBody s sub hi 1)).run.fst.toList = (l.find? fun i => decide (i + sub.length ≤ hi ∧ subAt s sub i = true)).toList
  | [], free, _ => rfl
  | a :: l, free, hf => by
    rw [List.forIn_cons]
    unfold StrLaws.occBody
    have ha : free ≤ a := hf a List.mem_cons_self
    by_cases hc : a + sub.length ≤ hi ∧ subAt s sub a = true
    · have c1 : (((#[] : Array Nat), free).fst.size < 1 ∧ ((#[] : Array Nat), free).snd ≤ a) ∧ a + sub.length ≤ hi := ⟨⟨by simp, ha⟩, hc.1⟩
      rw [if_pos ⟨c1, hc.2⟩, List.find?_cons_of_pos (by simp [hc.1, hc.2])]
      exact congrArg Array.toList (occ_stay s sub hi l (#[].push a, a + sub.length) (by simp))
    · have c2 : ¬ (((((#[] : Array Nat), free).fst.size < 1 ∧ ((#[] : Array Nat), free).snd ≤ a) ∧ a + sub.length ≤ hi) ∧ subAt s sub a = true) := fun h => hc ⟨h.1.2, h.2⟩
      rw [if_neg c2, List.find?_cons_of_neg (by simpa using hc)]
      exact occ_first s sub hi l free fun i h => hf i (List.mem_cons_of_mem _ h)
theorem find_in (row : List Nat) (c b e : Nat) (he : e ≤ row.length) :
    (Txt.findIn (S row) (S [c]) b e = -1 ∧ ∀ i, b ≤ i → i < e → row[i]? ≠ some c) ∨
    ∃ i : Nat, Txt.findIn (S row) (S [c]) b e = i ∧ b ≤ i ∧ i < e ∧ row[i]? = some c ∧ ∀ j, b ≤ j → j < i → row[j]? ≠ some c := by
  have hb : fromIndex (S row).length (b : Int) = b := by unfold fromIndex; rw [if_neg (by omega)]; omega
  have hE : toIndexW (S row).length (e : Int) = e := by rw [SX.S_len]; unfold toIndexW; rw [if_neg (by omega)]; omega
  have iff : ∀ i, (i + (S [c]).length ≤ e ∧ subAt (S row) (S [c]) i = true) ↔ (i < e ∧ row[i]? = some c) := fun i => by
    have z := StrLaws.subAt_one (S row) c i
    have l1 : (S [c]).length = 1 := rfl
    rw [l1]
    rw [show ((⟨#[c]⟩ : Str).length) = 1 from rfl, SX.S_len] at z
    exact ⟨fun h => ⟨by omega, z.mp ⟨by omega, h.2⟩⟩, fun h => ⟨by omega, (z.mpr h.2).2⟩⟩
  unfold Txt.findIn
  have oc : occurrences (S row) (S [c]) b e 1 = ((List.range' b (e + 1 - b)).find? fun i => decide (i + (S [c]).length ≤ e ∧ subAt (S row) (S [c]) i = true)).toList := by
    rw [StrLaws.occ_eq]
    exact occ_first _ _ _ _ _ fun i hi => by
      exact (List.mem_range'_1.mp hi).1
  rw [hb, hE, oc]
  cases hf : (List.range' b (e + 1 - b)).find? (fun i => decide (i + (S [c]).length ≤ e ∧ subAt (S row) (S [c]) i = true)) with
  | none =>
    refine .inl ⟨rfl, fun i h1 h2 h3 => ?_⟩
    have z := List.find?_eq_none.mp hf i (List.mem_range'_1.mpr ⟨h1, by omega⟩)
    exact z (decide_eq_true ((iff i).mpr ⟨h2, h3⟩))
  | some i =>
    obtain ⟨p, hm, hj⟩ := List.find?_range'_eq_some.mp hf
    have z := (iff i).mp (of_decide_eq_true p)
    have hm : b ≤ i := (List.mem_range'_1.mp hm).1
    refine .inr ⟨i, rfl, hm, z.1, z.2, fun j h1 h2 h3 => ?_⟩
    have q := hj j h1 h2
    rw [decide_eq_true ((iff j).mpr ⟨by omega, h3⟩)] at q
    cases q
end Rg
end
section
/-! The region of a grid: marked run by run. -/
namespace Rg
abbrev Cel : Type := Nat × Nat
def cell (g : List (List Nat)) (p : Cel) : Option Nat := (g[p.2]?).bind fun r => r[p.1]?
def Adj (p q : Cel) : Prop := (p.1 = q.1 ∧ (p.2 + 1 = q.2 ∨ q.2 + 1 = p.2)) ∨ (p.2 = q.2 ∧ (p.1 + 1 = q.1 ∨ q.1 + 1 = p.1))
/-- what hangs together with s in the sign c -/
inductive Conn (g : List (List Nat)) (c : Nat) (s : Cel) : Cel → Prop
  | base : cell g s = some c → Conn g c s s
  | step {p q : Cel} : Conn g c s p → Adj p q → cell g q = some c → Conn g c s q
theorem Conn.at_ {g : List (List Nat)} {c : Nat} {s p : Cel} (h : Conn g c s p) : cell g p = some c := by
  cases h with
  | base h => exact h
  | step _ _ h => exact h
def mkr (row : List Nat) (m b e : Nat) : List Nat := row.take b ++ List.replicate (e - b) m ++ row.drop e
theorem mkr_len {row : List Nat} {m b e : Nat} (hb : b ≤ e) (he : e ≤ row.length) : (mkr row m b e).length = row.length := by
  unfold mkr
  rw [List.length_append, List.length_append, List.length_take, List.length_replicate, List.length_drop]
  omega
theorem mkr_at {row : List Nat} {m b e : Nat} (hb : b ≤ e) (he : e ≤ row.length) (i : Nat) : (mkr row m b e)[i]? = if b ≤ i ∧ i < e then some m else row[i]? := by
  unfold mkr
  have lt : (row.take b).length = b := List.length_take_of_le (by omega)
  by_cases h1 : i < b
  · rw [if_neg (by omega), List.append_assoc, List.getElem?_append_left (by omega), List.getElem?_take, if_pos h1]
  · by_cases h2 : i < e
    · rw [if_pos ⟨by omega, h2⟩, List.append_assoc, List.getElem?_append_right (by omega), lt, List.getElem?_append_left (by rw [List.length_replicate]; omega), List.getElem?_replicate, if_pos (by omega)]
    · rw [if_neg (by omega), List.getElem?_append_right (by rw [List.length_append, lt, List.length_replicate]; omega), List.getElem?_drop, List.length_append, lt, List.length_replicate]
      congr 1
      omega
theorem cell_set {g : List (List Nat)} {y : Nat} {r : List Nat} (hy : y < g.length) (p : Cel) : cell (g.set y r) p = if p.2 = y then r[p.1]? else cell g p := by
  unfold cell
  by_cases h : p.2 = y
  · rw [if_pos h, h, List.getElem?_set_self hy]
    rfl
  · rw [if_neg h, List.getElem?_set_ne (fun e => h e.symm)]
theorem cell_mk {g : List (List Nat)} {y m b e : Nat} {row : List Nat} (hy : g[y]? = some row) (hb : b ≤ e) (he : e ≤ row.length) (p : Cel) : cell (g.set y (mkr row m b e)) p = if p.2 = y ∧ b ≤ p.1 ∧ p.1 < e then some m else cell g p := by
  rw [cell_set (List.getElem?_eq_some_iff.mp hy).1]
  by_cases h : p.2 = y
  · rw [if_pos h, mkr_at hb he]
    by_cases h2 : b ≤ p.1 ∧ p.1 < e
    · rw [if_pos h2, if_pos ⟨h, h2⟩]
    · rw [if_neg h2, if_neg (fun z => h2 z.2)]
      unfold cell
      rw [h, hy]
      rfl
  · rw [if_neg h, if_neg (fun z => h z.1)]
/-- q lies on one run with a seed -/
def Reach (new : List (List Nat)) (c : Nat) (sd : List Cel) (q : Cel) : Prop := ∃ e ∈ sd, e.2 = q.2 ∧ ∀ i, min e.1 q.1 ≤ i → i ≤ max e.1 q.1 → cell new (i, q.2) = some c
structure Mid (g new : List (List Nat)) (c m : Nat) (s : Cel) (sd : List Cel) : Prop where
  cells : ∀ p, cell new p = cell g p ∨ (cell new p = some m ∧ Conn g c s p)
  seeds : ∀ q ∈ sd, Conn g c s q
  clos : ∀ p q, cell new p = some m → Adj p q → cell g q = some c → cell new q = some m ∨ Reach new c sd q
  start : cell new s = some m ∨ Reach new c sd s
theorem Mid.init {g : List (List Nat)} {c m : Nat} {s : Cel} (hs : cell g s = some c) (gm : ∀ p, cell g p ≠ some m) : Mid g g c m s [s] where
  cells _ := .inl rfl
  seeds q hq := by rw [List.mem_singleton.mp hq]; exact .base hs
  clos p _ h := absurd h (gm p)
  start := .inr ⟨s, List.mem_singleton.mpr rfl, rfl, fun i h1 h2 => by
    have : i = s.1 := by omega
    subst this
    exact hs⟩
theorem Mid.skip {g new : List (List Nat)} {c m : Nat} {s e0 : Cel} {sd : List Cel} (h : Mid g new c m s (sd ++ [e0])) (hn : cell new e0 ≠ some c) : Mid g new c m s sd := by
  have tr : ∀ q, Reach new c (sd ++ [e0]) q → Reach new c sd q := fun q ⟨e, he, e2, hr⟩ => by
    rcases List.mem_append.mp he with he | he
    · exact ⟨e, he, e2, hr⟩
    · rw [List.mem_singleton.mp he] at e2 hr
      have z := hr e0.1 (by omega) (by omega)
      rw [← e2] at z
      exact absurd z hn
  exact ⟨h.cells, fun q hq => h.seeds q (List.mem_append_left _ hq), fun p q h1 h2 h3 => (h.clos p q h1 h2 h3).imp id (tr q), h.start.imp id (tr s)⟩
theorem Mid.mark {g new : List (List Nat)} {c m : Nat} {s e0 : Cel} {sd sd' : List Cel} {row : List Nat} {b e : Nat} (hcm : c ≠ m) (h : Mid g new c m s (sd ++ [e0])) (hy : new[e0.2]? = some row) (R : Run row c e0.1 b e)
    (hk : ∀ q ∈ sd, q ∈ sd') (hs : ∀ q ∈ sd', q ∈ sd ∨ ((q.2 + 1 = e0.2 ∨ e0.2 + 1 = q.2) ∧ b ≤ q.1 ∧ q.1 < e ∧ cell new q = some c))
    (hc : ∀ q : Cel, (q.2 + 1 = e0.2 ∨ e0.2 + 1 = q.2) → b ≤ q.1 → q.1 < e → cell new q = some c → ∃ t ∈ sd', t.2 = q.2 ∧ t.1 ≤ q.1 ∧ ∀ i, t.1 ≤ i → i ≤ q.1 → cell new (i, q.2) = some c) :
    Mid g (new.set e0.2 (mkr row m b e)) c m s sd' := by
  have cm := cell_mk (m := m) hy (Nat.le_of_lt (Nat.lt_of_le_of_lt R.bx R.xe)) R.el
  have inr : ∀ i, cell new (i, e0.2) = row[i]? := fun i => by
    unfold cell
    show (new[e0.2]?).bind _ = _
    rw [hy]
    rfl
  have gc : ∀ p, cell new p = some c → cell g p = some c := fun p hp => by
    rcases h.cells p with z | z
    · rw [← z]; exact hp
    · rw [hp] at z
      exact absurd (Option.some.inj z.1) hcm
  have runC : ∀ i, b ≤ i → i < e → cell new (i, e0.2) = some c := fun i h1 h2 => (inr i).trans (R.all i h1 h2)
  have c0 := h.seeds e0 (by simp)
  have right : ∀ k, e0.1 + k < e → Conn g c s (e0.1 + k, e0.2) := fun k => by
    induction k with
    | zero => exact fun _ => c0
    | succ k ih => exact fun hk => .step (ih (by omega)) (.inr ⟨rfl, .inl rfl⟩) (gc _ (runC _ (by have := R.bx; omega) hk))
  have left : ∀ k, b + k ≤ e0.1 → Conn g c s (e0.1 - k, e0.2) := fun k => by
    induction k with
    | zero => exact fun _ => c0
    | succ k ih => exact fun hk => .step (ih (by omega)) (.inr ⟨rfl, .inr (by show e0.1 - (k + 1) + 1 = e0.1 - k; omega)⟩) (gc _ (runC _ (by have := R.xe; omega) (by have := R.xe; omega)))
  have conn : ∀ i, b ≤ i → i < e → Conn g c s (i, e0.2) := fun i h1 h2 => by
    by_cases z : e0.1 ≤ i
    · have := right (i - e0.1) (by omega)
      rw [show e0.1 + (i - e0.1) = i from by omega] at this
      exact this
    · have := left (e0.1 - i) (by omega)
      rw [show e0.1 - (e0.1 - i) = i from by omega] at this
      exact this
  have tr : ∀ q, Reach new c (sd ++ [e0]) q → cell (new.set e0.2 (mkr row m b e)) q = some m ∨ Reach (new.set e0.2 (mkr row m b e)) c sd' q := fun q ⟨d, hd, d2, hr⟩ => by
    by_cases hq : q.2 = e0.2
    · by_cases hin : b ≤ q.1 ∧ q.1 < e
      · left
        rw [cm, if_pos ⟨hq, hin⟩]
      · right
        have hr' : ∀ i, min d.1 q.1 ≤ i → i ≤ max d.1 q.1 → row[i]? = some c := fun i h1 h2 => by
          have z := hr i h1 h2
          rw [hq, inr] at z
          exact z
        have out : ∀ i, min d.1 q.1 ≤ i → i ≤ max d.1 q.1 → ¬ (b ≤ i ∧ i < e) := fun i h1 h2 h3 => by
          by_cases lo : q.1 < b
          · exact R.lo (b - 1) (by omega) (hr' (b - 1) (by omega) (by omega))
          · exact R.hi (hr' e (by omega) (by omega))
        have ne : d ≠ e0 := fun z => out d.1 (by omega) (by omega) (by rw [z]; exact ⟨R.bx, R.xe⟩)
        have hd' : d ∈ sd := by
          rcases List.mem_append.mp hd with z | z
          · exact z
          · exact absurd (List.mem_singleton.mp z) ne
        exact ⟨d, hk d hd', d2, fun i h1 h2 => by rw [cm, if_neg (fun z => out i h1 h2 z.2)]; exact hr i h1 h2⟩
    · right
      have ne : d ≠ e0 := fun z => hq (by rw [← d2, z])
      have hd' : d ∈ sd := by
        rcases List.mem_append.mp hd with z | z
        · exact z
        · exact absurd (List.mem_singleton.mp z) ne
      exact ⟨d, hk d hd', d2, fun i h1 h2 => by rw [cm, if_neg (fun z => hq z.1)]; exact hr i h1 h2⟩
  have keep : ∀ q, cell new q = some m → cell (new.set e0.2 (mkr row m b e)) q = some m := fun q hq => by
    rw [cm]
    split
    · rfl
    · exact hq
  refine ⟨fun p => ?_, fun q hq => ?_, fun p q h1 h2 h3 => ?_, h.start.elim (fun z => .inl (keep s z)) (tr s)⟩
  · rw [cm]
    by_cases hp : p.2 = e0.2 ∧ b ≤ p.1 ∧ p.1 < e
    · rw [if_pos hp]
      right
      refine ⟨rfl, ?_⟩
      have := conn p.1 hp.2.1 hp.2.2
      rw [← hp.1] at this
      exact this
    · rw [if_neg hp]
      exact h.cells p
  · rcases hs q hq with z | ⟨z1, z2, z3, z4⟩
    · exact h.seeds q (List.mem_append_left _ z)
    · exact .step (conn q.1 z2 z3) (.inl ⟨rfl, by rcases z1 with z1 | z1; exact .inr z1; exact .inl z1⟩) (gc _ z4)
  · rw [cm] at h1
    by_cases hp : p.2 = e0.2 ∧ b ≤ p.1 ∧ p.1 < e
    · rcases h2 with ⟨a1, a2⟩ | ⟨a1, a2⟩
      · have qy : q.2 + 1 = e0.2 ∨ e0.2 + 1 = q.2 := by omega
        rcases h.cells q with z | z
        · have z' : cell new q = some c := z.trans h3
          obtain ⟨t, ht, t2, t3, t4⟩ := hc q qy (by omega) (by omega) z'
          right
          refine ⟨t, ht, t2, fun i g1 g2 => ?_⟩
          rw [cm, if_neg (fun z => by have := z.1; simp only at this; omega)]
          exact t4 i (by omega) (by omega)
        · exact .inl (keep q z.1)
      · left
        by_cases hq : b ≤ q.1 ∧ q.1 < e
        · rw [cm, if_pos ⟨by omega, hq⟩]
        · rcases h.cells q with z | z
          · have z' : cell new (q.1, e0.2) = some c := by
              rw [show ((q.1, e0.2) : Cel) = q from by rw [← hp.1, a1]]
              exact z.trans h3
            rw [inr] at z'
            by_cases lo : q.1 < b
            · exact absurd z' (R.lo q.1 (by omega))
            · have : q.1 = e := by omega
              rw [this] at z'
              exact absurd z' R.hi
          · exact keep q z.1
    · rw [if_neg hp] at h1
      exact (h.clos p q h1 h2 h3).elim (fun z => .inl (keep q z)) (tr q)
theorem Mid.done {g new : List (List Nat)} {c m : Nat} {s : Cel} (gm : ∀ p, cell g p ≠ some m) (h : Mid g new c m s []) (p : Cel) : (Conn g c s p → cell new p = some m) ∧ (¬ Conn g c s p → cell new p = cell g p) := by
  have no : ∀ q, ¬ Reach new c [] q := fun q ⟨e, he, _⟩ => by cases he
  refine ⟨fun hp => ?_, fun hp => (h.cells p).elim id fun z => absurd z.2 hp⟩
  induction hp with
  | base _ => exact h.start.resolve_right (no _)
  | step _ a b ih => exact (h.clos _ _ ih a b).resolve_right (no _)
/-! ### how much is left -/
def left (g : List (List Nat)) (c : Nat) : Nat := (g.map (·.count c)).sum
theorem left_set (c : Nat) : ∀ (g : List (List Nat)) (y : Nat) (row r : List Nat), g[y]? = some row → left (g.set y r) c + row.count c = left g c + r.count c
  | [], y, row, r, h => by cases h
  | q :: g, 0, row, r, h => by
    cases h
    show (r.count c + left g c) + q.count c = (q.count c + left g c) + r.count c
    omega
  | q :: g, y + 1, row, r, h => by
    have := left_set c g y row r h
    show (q.count c + left (g.set y r) c) + row.count c = (q.count c + left g c) + r.count c
    omega
theorem mkr_count {row : List Nat} {c m x b e : Nat} (hcm : c ≠ m) (R : Run row c x b e) : (mkr row m b e).count c + (e - b) = row.count c := by
  have hbe := Nat.lt_of_le_of_lt R.bx R.xe
  have hm : (row.drop b).take (e - b) = List.replicate (e - b) c := by
    refine List.ext_getElem? fun i => ?_
    rw [List.getElem?_take, List.getElem?_drop, List.getElem?_replicate]
    by_cases hi : i < e - b
    · rw [if_pos hi, if_pos hi]
      exact R.all _ (by omega) (by omega)
    · rw [if_neg hi, if_neg hi]
  have sp : row = row.take b ++ List.replicate (e - b) c ++ row.drop e := by
    have z1 := (List.take_append_drop b row).symm
    have z2 := (List.take_append_drop (e - b) (row.drop b)).symm
    rw [hm, List.drop_drop, show b + (e - b) = e from by omega] at z2
    rw [z2, ← List.append_assoc] at z1
    exact z1
  have e1 := congrArg (List.count c) sp
  rw [List.count_append, List.count_append, List.count_replicate_self] at e1
  unfold mkr
  rw [List.count_append, List.count_append, List.count_eq_zero.mpr (show c ∉ List.replicate (e - b) m from fun z => hcm (List.mem_replicate.mp z).2)]
  omega
end Rg
end
section
/-! Comprehensions of two loops. -/
namespace Ow
open PySem PySem.Spec PyProof.Rows L2 StX
/-- the inner loop -/
def kIn (J1 : It) (g1 : TG) (tt1 : TT) (te : TE) (vs1 : List Nat) (σ2 : L2.St) (D : Addr) (N : Hp → Prop) (H4 : Hp) : Prop := ∃ W1 : Nat → Nat → Hp → Prop, (∃ m, W1 0 m H4) ∧ ∀ j k H, W1 j k H →
  (J1.stop j H ∧ N H) ∨ (J1.go j H ∧ ∃ Nx1 : Hp → Prop, (∀ H', Nx1 H' → ∃ k', k' < k ∧ W1 (j + 1) k' H') ∧ ∀ x H', J1.yld j H x H' → g1 x (wipe σ2 vs1) H' fun σ3 H5 => wipe σ3 vs1 = wipe σ2 vs1 ∧ tt1 σ3 H5 fun b H6 =>
    if b = true then te σ3 H6 (kApp D Nx1) else Nx1 H6)
def kLc2 (J : It) (g : TG) (tt : TT) (wi1 : TI) (g1 : TG) (tt1 : TT) (te : TE) (vs vs1 : List Nat) (σ : L2.St) (Q : VK) (H1 : Hp) : Prop := ∀ D, H1 D = none → ∃ W : Nat → Nat → Hp → Prop, (∃ m, W 0 m (upd H1 D (.lst []))) ∧ ∀ i m H, W i m H →
  (J.stop i H ∧ Q (.ref D) H) ∨ (J.go i H ∧ ∃ Nx : Hp → Prop, (∀ H', Nx H' → ∃ m', m' < m ∧ W (i + 1) m' H') ∧ ∀ x H', J.yld i H x H' → g x (wipe σ vs) H' fun σ2 H2 => wipe σ2 vs = wipe σ vs ∧ tt σ2 H2 fun b H3 =>
    if b = true then wi1 σ2 H3 fun J1 H4 => kIn J1 g1 tt1 te vs1 σ2 D Nx H4 else Nx H3)
theorem tLc2_k (wi : TI) (g : TG) (tt : TT) (wi1 : TI) (g1 : TG) (tt1 : TT) (te : TE) (vs vs1 : List Nat) : tLc2 wi g tt wi1 g1 tt1 te vs vs1 = fun σ H Q => wi σ H fun J H1 => kLc2 J g tt wi1 g1 tt1 te vs vs1 σ Q H1 := rfl
theorem kIn.it {J : It} {n : Nat} {G : Hp → Prop} {Y : Nat → Hp → V → Hp → Prop} (w : Walk J n G Y) {g : TG} {tt : TT} {te : TE} {vs : List Nat} {σ : L2.St} {D : Addr} {N : Hp → Prop} {H4 : Hp} (I : Nat → Hp → Prop) (h0 : I 0 H4) (hG : ∀ i H, I i H → G H)
    (hs : ∀ i x H H', i < n → I i H → Y i H x H' → g x (wipe σ vs) H' fun σ2 H2 => wipe σ2 vs = wipe σ vs ∧ tt σ2 H2 fun b H3 => if b = true then te σ2 H3 (kApp D (I (i + 1))) else I (i + 1) H3)
    (hd : ∀ H', I n H' → N H') : kIn J g tt te vs σ D N H4 := by
  refine ⟨fun i m H => m = n - i ∧ i ≤ n ∧ I i H, ⟨n, by simp, Nat.zero_le _, h0⟩, ?_⟩
  rintro i m H ⟨rfl, hi, p⟩
  have q := hG i H p
  by_cases hlt : i < n
  · exact .inr ⟨w.goes i H hlt q, I (i + 1), fun H' p' => ⟨n - (i + 1), by omega, rfl, hlt, p'⟩, fun x H' y => hs i x H H' hlt p (w.yields i H x H' hlt q y)⟩
  · have e : i = n := by omega
    subst e
    exact .inl ⟨w.stops H q, hd H p⟩
theorem kLc2.it {J : It} {n : Nat} {G : Hp → Prop} {Y : Nat → Hp → V → Hp → Prop} (w : Walk J n G Y) {g : TG} {tt : TT} {wi1 : TI} {g1 : TG} {tt1 : TT} {te : TE} {vs vs1 : List Nat} {σ : L2.St} {Q : VK} {H1 : Hp} (I : Addr → Nat → Hp → Prop) (h0 : ∀ D H', Fresh H1 H' D (.lst []) → I D 0 H') (hG : ∀ D i H, I D i H → G H)
    (hs : ∀ D i x H H', i < n → I D i H → Y i H x H' → g x (wipe σ vs) H' fun σ2 H2 => wipe σ2 vs = wipe σ vs ∧ tt σ2 H2 fun b H3 => if b = true then wi1 σ2 H3 fun J1 H4 => kIn J1 g1 tt1 te vs1 σ2 D (I D (i + 1)) H4 else I D (i + 1) H3)
    (hd : ∀ D H', I D n H' → Q (.ref D) H') : kLc2 J g tt wi1 g1 tt1 te vs vs1 σ Q H1 := fun D hD => by
  refine ⟨fun i m H => m = n - i ∧ i ≤ n ∧ I D i H, ⟨n, by simp, Nat.zero_le _, h0 D _ (fresh_upd hD)⟩, ?_⟩
  rintro i m H ⟨rfl, hi, p⟩
  have q := hG D i H p
  by_cases hlt : i < n
  · exact .inr ⟨w.goes i H hlt q, I D (i + 1), fun H' p' => ⟨n - (i + 1), by omega, rfl, hlt, p'⟩, fun x H' y => hs D i x H H' hlt p (w.yields i H x H' hlt q y)⟩
  · have e : i = n := by omega
    subst e
    exact .inl ⟨w.stops H q, hd D H p⟩
end Ow
end
section
set_option maxHeartbeats 2000000
/-! A displayed dict of one pair whose key is a tuple. -/
namespace Ow
open PySem PySem.Spec PyProof.Rows L2 StX
def tDispT (tk tv : TE) : TE := fun σ H Q => ∀ p, H p = none → tk σ (upd H p (.dT [])) fun x H1 => tv σ H1 fun y H2 => H2 p = some (.dT []) ∧ ∃ (k : List Key) (b : Addr), x = .ref b ∧ H2 b = some (.tup (k.map kV)) ∧ Q (.ref p) (upd H2 p (.dT [(k, y)]))
theorem pe_dispT {X : Cx} {pos : Pos} {k v : Expr} {tk tv : TE} (hu : X.A.units + 1 < cLine) (hk : PE X k tk) (hv : PE X v tv) : PE X (.Dict [some k] [v] pos) (tDispT tk tv) := by
  refine ⟨fun pins s σ H Q I q => ?_⟩
  have hn := I.hok.fresh (Nat.le_refl s.heap.objs.size)
  have I1 := I.laid (a := s.heap.objs.size) (o := .dT []) (h' := s.heap.push { cls := .type "dict", data := .dict #[] }) (t' := s.toks) (fun _ _ q => Heap.get?_push_of_some _ q) (Nat.le_refl _) (dt_empty s.heap I.big)
  rw [arm_eval_Dict, zip_pairTrees [some k] [v] X.env pos rfl rfl, dictDisplay_pairs (pairTrees [some k] [v] X.env pos) (by simp [pairTrees]) (by simp [pairTrees])]
  refine wpAny_bind (wpAny_standAt (wpAny_bind (wpAny_subDictH (knd := tupleKind (mixKind X.prog X.w)) (Q := fun d s' => wpAny (model X.prog X.w) X.A (pure (Value.ref d)) (EP X pins σ Q) X.xe s') (show X.A.units < cLine by omega) (by simp [pairTrees]) ?_)))
  have hp : PPs X pos [some k] [v] [(tk, tv)] := pps_cons hk hv pps_nil
  refine thn (hp.run pins _ σ _ (fun ps H2 => match ps with
    | [(x, y)] => H2 s.heap.objs.size = some (.dT []) ∧ ∃ (k : List Key) (b : Addr), x = .ref b ∧ H2 b = some (.tup (k.map kV)) ∧ Q (.ref s.heap.objs.size) (upd H2 s.heap.objs.size (.dT [(k, y)]))
    | _ => False) I1 (q _ hn)) fun vs s2 ⟨ps, H2, I2, rel, q2⟩ => ?_
  cases rel with
  | nil => exact False.elim q2
  | @cons p w ps ws hpw rest =>
    cases rest with
    | cons _ _ => exact False.elim q2
    | nil =>
      obtain ⟨x, y⟩ := p
      obtain ⟨u1, u2⟩ := w
      obtain ⟨e, ks, b, ex, eb, q3⟩ := q2
      obtain ⟨rx, ry⟩ := hpw
      subst ex
      cases (show u1 = Value.ref b from rx)
      obtain ⟨z, hd, xs, r0, dd⟩ := dt_of I2.hok e
      cases r0
      refine ⟨[(ks, b, u2)], ⟨rfl, rfl, key_of I2.hok eb, True.intro⟩, dd, fun h' tk' dd' hs => wpAny_pure ?_⟩
      obtain ⟨o, es, ep, hq, h2, h3, h4, _, h5⟩ := dd'
      refine ⟨.ref s.heap.objs.size, _, d_write (ob := .dT [(ks, y)]) I2 (by rw [e]; exact True.intro) hs ⟨o, hq⟩ ⟨by show 1 ≤ sizeLine; decide, hd, [(ks, b, u2)], .cons ⟨rfl, ?_, ry⟩ .nil, o, es, ep, hq, h2, h3, h4, h5⟩, rfl, q3⟩
      rw [upd_ne (ne_of eb e (fun z => nomatch z))]
      exact eb
end Ow
end
section
set_option maxHeartbeats 2000000
/-! A list's slice [::e], e 1 or -1. -/
namespace Ow
open PySem PySem.Spec PyProof.Rows L2 StX
def tSlSt (K : PySem.W.Frag) (te tt : TE) : TE := fun σ H Q => te σ H fun x H1 => tt σ H1 fun y H2 => ∃ (a : Addr) (xs : List V), x = .ref a ∧ SqL K H2 a xs ∧ ((y = .int 1 ∧ kN (.lst xs) Q H2) ∨ (y = .int (-1) ∧ kN (.lst xs.reverse) Q H2))
theorem pick_one (its : List Value) : PySem.slicePick its.toArray none none (some 1) = its.toArray := by
  have h : PySem.slicePick its.toArray none none (some 1) = PySem.slicePick its.toArray none none none := rfl
  rw [h, slicePick_cut]
  simp [HT.sIx]
theorem pick_back (its : List Value) : PySem.slicePick its.toArray none none (some (-1)) = its.reverse.toArray := by
  have hb : sliceBounds none none (some (-1)) its.toArray.size = ((its.length : Int) - 1, -1, -1) := by
    simp [sliceBounds]
  unfold PySem.slicePick
  rw [hb]
  unfold sliceRange
  have hc : (if (-1 : Int) > 0 then (if (its.length : Int) - 1 < -1 then (-1 - ((its.length : Int) - 1) + -1 - 1) / -1 else 0) else (if (its.length : Int) - 1 > -1 then ((its.length : Int) - 1 - -1 - -1 - 1) / (- -1) else 0)) = (its.length : Int) := by
    rw [if_neg (by decide)]
    by_cases h : (its.length : Int) - 1 > -1
    · rw [if_pos h]
      show ((its.length : Int) - 1 - -1 - -1 - 1) / 1 = _
      rw [Int.ediv_one]
      omega
    · rw [if_neg h]
      omega
  simp only at hc ⊢
  rw [hc, Int.toNat_natCast, List.filterMap_map]
  congr 1
  have key : ∀ n, n ≤ its.length → (List.range n).filterMap ((fun x => its.toArray[x]?) ∘ fun (k : Nat) => ((its.length : Int) - 1 + -1 * (k : Int)).toNat) = its.reverse.take n := fun n => by
    induction n with
    | zero => intro _; rfl
    | succ n ih =>
      intro h
      rw [List.range_succ, List.filterMap_append, ih (by omega), List.take_add_one, List.getElem?_reverse (by omega)]
      congr 1
      have e : (((fun x => its.toArray[x]?) ∘ fun (k : Nat) => ((its.length : Int) - 1 + -1 * (k : Int)).toNat) n) = its[its.length - 1 - n]? := by
        show its.toArray[((its.length : Int) - 1 + -1 * (n : Int)).toNat]? = _
        rw [show ((its.length : Int) - 1 + -1 * (n : Int)).toNat = its.length - 1 - n from by omega]
        simp
      rw [List.filterMap_cons, e, List.getElem?_eq_getElem (show its.length - 1 - n < its.length by omega)]
      rfl
  have z := key its.length (Nat.le_refl _)
  rw [List.take_of_length_le (by rw [List.length_reverse]; exact Nat.le_refl _)] at z
  exact z
theorem pe_sliceSt {X : Cx} {e st : Expr} {te tt : TE} {p2 pos : Pos} (he : PE X e te) (ht : PE X st tt) : PE X (.Subscript e (.Slice none none (some st) p2) pos) (tSlSt X.K te tt) := by
  refine ⟨fun pins s σ H Q I h => ?_⟩
  refine Subscript_ (thn (he.run pins s σ H _ I h) fun v s1 ⟨x, H1, I1, r1, q1⟩ => ?_)
  refine wpAny_Slice ?_
  rw [evalPart_none]
  refine wpAny_pure (wpAny_pure ?_)
  rw [evalPart_some]
  refine thn (ht.run pins s1 σ H1 _ I1 q1) fun u s2 ⟨y, H2, I2, r2, a, xs, ex, hx, q2⟩ => ?_
  subst ex
  cases r1
  have I3 : Inv X pins σ H2 { s2 with heap := s2.heap.push { cls := .type "slice", data := .fields #[.none, .none, u] } } := I2.kept (t' := s2.toks) fun b ob q => Heap.get?_push_of_some _ q
  obtain ⟨its, r, hl, hz⟩ := I3.list hx
  have fin : ∀ (k : Int) (ys : List V) (jts : List Value), IsPart u (some k) → k ≠ 0 → PySem.slicePick its.toArray none none (some k) = jts.toArray → Vals ys jts → ys.length ≤ xs.length → kN (.lst ys) Q H2 →
      wpAny (model X.prog X.w) X.A (getItem (.ref a) (.ref s2.heap.objs.size)) (EP X pins σ Q) X.xe { s2 with heap := s2.heap.push { cls := .type "slice", data := .fields #[.none, .none, u] } } := fun k ys jts hp k0 hpk rv hle q => by
    refine wpAny_getItem_list_slice hl.isList (Heap.IsSliceOf.new ..) .none .none hp (fun z => k0 (Option.some.inj z)) ?_ (by rw [List.size_toArray, ← r.length]; exact hz)
    rw [hpk]
    exact ⟨.ref _, _, I3.laid (t' := s2.toks) (o := .lst ys) (fun b ob q => Heap.get?_push_of_some _ q) (Nat.le_refl _) ⟨Nat.le_trans hle hz, _, 0, rv, Heap.get?_push_size _ rfl⟩, rfl, q _ (I3.hok.fresh (Nat.le_refl _))⟩
  have hid : typeLookup (.type "list") "__getitem__" = pure (some (.builtin _)) := slot_list_getitem.lookup
  have hrun : wpAny (model X.prog X.w) X.A (getItem (.ref a) (.ref s2.heap.objs.size)) (EP X pins σ Q) X.xe { s2 with heap := s2.heap.push { cls := .type "slice", data := .fields #[.none, .none, u] } } := by
    rcases q2 with ⟨rfl, q⟩ | ⟨rfl, q⟩
    · obtain ⟨t, rfl⟩ := r2
      exact fin 1 xs its (.int _ _) (by decide) (pick_one its) r (Nat.le_refl _) q
    · obtain ⟨t, rfl⟩ := r2
      exact fin (-1) xs.reverse its.reverse (.int _ _) (by decide) (pick_back its) (vals_rev r) (by rw [List.length_reverse]; exact Nat.le_refl _) q
  show wpAny (model X.prog X.w) X.A (subscriptTail e (.Slice none none (some st) p2) (.ref a) (.ref s2.heap.objs.size)) (EP X pins σ Q) X.xe { s2 with heap := s2.heap.push { cls := .type "slice", data := .fields #[.none, .none, u] } }
  exact tail_any (ops := [.ref a, .ref s2.heap.objs.size]) hl.isList.typeIs hid hrun (by with_unfolding_all rfl)
end Ow
end
section
set_option maxHeartbeats 2000000
/-! A text's and a tuple's slice [::e], e -1. -/
namespace Ow
open PySem PySem.Spec PyProof.Rows L2 StX
def revS (z : Str) : Str := ⟨z.cps.toList.reverse.toArray⟩
def tBackS (te tt : TE) : TE := fun σ H Q => te σ H fun x H1 => tt σ H1 fun y H2 => ∃ z, x = .str z ∧ y = .int (-1) ∧ z.length ≤ sizeLine ∧ Q (.str (revS z)) H2
def tBackT (K : PySem.W.Frag) (te tt : TE) : TE := fun σ H Q => te σ H fun x H1 => tt σ H1 fun y H2 => ∃ (a : Addr) (xs : List V), x = .ref a ∧ y = .int (-1) ∧ SqT K H2 a xs ∧ kN (.tup xs.reverse) Q H2
theorem pick_rev {α : Type} (xs : List α) : (List.range xs.length).filterMap (fun (k : Nat) => xs[((xs.length : Int) - 1 + -1 * (k : Int)).toNat]?) = xs.reverse := by
  have key : ∀ n, n ≤ xs.length → (List.range n).filterMap (fun (k : Nat) => xs[((xs.length : Int) - 1 + -1 * (k : Int)).toNat]?) = xs.reverse.take n := fun n => by
    induction n with
    | zero => intro _; rfl
    | succ n ih =>
      intro h
      rw [List.range_succ, List.filterMap_append, ih (by omega), List.take_add_one, List.getElem?_reverse (by omega)]
      congr 1
      rw [List.filterMap_cons, show ((xs.length : Int) - 1 + -1 * (n : Int)).toNat = xs.length - 1 - n from by omega, List.getElem?_eq_getElem (show xs.length - 1 - n < xs.length by omega)]
      rfl
  have z := key xs.length (Nat.le_refl _)
  rw [List.take_of_length_le (by rw [List.length_reverse]; exact Nat.le_refl _)] at z
  exact z
theorem range_back (n : Nat) : sliceRange ((n : Int) - 1) (-1) (-1) = (List.range n).map fun (k : Nat) => ((n : Int) - 1 + -1 * (k : Int)).toNat := by
  unfold sliceRange
  have hc : (if (-1 : Int) > 0 then (if (n : Int) - 1 < -1 then (-1 - ((n : Int) - 1) + -1 - 1) / -1 else 0) else (if (n : Int) - 1 > -1 then ((n : Int) - 1 - -1 - -1 - 1) / (- -1) else 0)) = (n : Int) := by
    rw [if_neg (by decide)]
    by_cases h : (n : Int) - 1 > -1
    · rw [if_pos h]
      show ((n : Int) - 1 - -1 - -1 - 1) / 1 = _
      rw [Int.ediv_one]
      omega
    · rw [if_neg h]
      omega
  simp only at hc ⊢
  rw [hc, Int.toNat_natCast]
theorem made_back (x : Str) (t u : Tok) : sliceMade x t none none (some (-1, u)) = .str (revS x) := by
  have e : slicePicked x none none (some (-1, u)) = (List.range x.length).map fun (k : Nat) => ((x.length : Int) - 1 + -1 * (k : Int)).toNat := range_back x.length
  unfold sliceMade
  rw [e]
  show (if ((-1 : Int) == 1 && _) = true then _ else _) = _
  rw [if_neg (by simp), List.filterMap_map]
  unfold revS
  congr 2
  have z := pick_rev x.cps.toList
  rw [Array.length_toList] at z
  rw [← z]
  congr 1
  refine congrArg (fun f => List.filterMap f _) (funext fun k => ?_)
  simp [Function.comp]
  rfl
theorem pe_backS {X : Cx} {e st : Expr} {te tt : TE} {p2 pos : Pos} (he : PE X e te) (ht : PE X st tt) : PE X (.Subscript e (.Slice none none (some st) p2) pos) (tBackS te tt) := by
  refine ⟨fun pins s σ H Q I h => ?_⟩
  refine Subscript_ (thn (he.run pins s σ H _ I h) fun v s1 ⟨x, H1, I1, r1, q1⟩ => ?_)
  refine wpAny_Slice ?_
  rw [evalPart_none]
  refine wpAny_pure (wpAny_pure ?_)
  rw [evalPart_some]
  refine thn (ht.run pins s1 σ H1 _ I1 q1) fun u s2 ⟨y, H2, I2, r2, z, ex, ey, hz, q2⟩ => ?_
  subst ex
  subst ey
  obtain ⟨t, rfl⟩ := r1
  obtain ⟨tu, rfl⟩ := r2
  have I3 : Inv X pins σ H2 { s2 with heap := s2.heap.push { cls := .type "slice", data := .fields #[.none, .none, .int (-1) tu] } } := I2.kept (t' := s2.toks) fun b ob q => Heap.get?_push_of_some _ q
  have hid : typeLookup (.type "str") "__getitem__" = pure (some (.builtin _)) := F.slot_str_getitem.lookup
  have hl : (revS z).length ≤ sizeLine := by
    have : (revS z).length = z.length := by
      show (z.cps.toList.reverse.toArray).size = z.cps.size
      simp
    rw [this]
    exact hz
  have hrun : wpAny (model X.prog X.w) X.A (getItem (.str z t) (.ref s2.heap.objs.size)) (EP X pins σ Q) X.xe { s2 with heap := s2.heap.push { cls := .type "slice", data := .fields #[.none, .none, .int (-1) tu] } } := by
    refine wpAny_getItem_str_slice (l := none) (u := none) (st := some (-1, tu)) (by
      obtain ⟨o, h1, h2, h3⟩ := Heap.IsSliceOf.new (h := s2.heap) Value.none Value.none (Value.int (-1) tu)
      exact ⟨o, h1, h2, h3⟩) rfl ?_
    rw [made_back]
    exact ⟨hl, .str _, H2, I3.tok _, ⟨_, rfl⟩, q2⟩
  show wpAny (model X.prog X.w) X.A (subscriptTail e (.Slice none none (some st) p2) (.str z t) (.ref s2.heap.objs.size)) (EP X pins σ Q) X.xe { s2 with heap := s2.heap.push { cls := .type "slice", data := .fields #[.none, .none, .int (-1) tu] } }
  exact tail_any (ops := [.str z t, .ref s2.heap.objs.size]) (typeIs_str _ _ _) hid hrun (by with_unfolding_all rfl)
section
variable {prog : Program} {w : World} {A : Around} {E : Value → Shared → Prop} {s : Shared}
theorem adjust_back (n : Nat) : Builtin.Slice.sliceAdjust none none (-1) (n : Int) = ((n : Int) - 1, -1) := by
  unfold Builtin.Slice.sliceAdjust
  rfl
theorem places_back (n : Nat) : Builtin.Slice.slicePlaces ((n : Int) - 1) (-1) (-1) = n := by
  unfold Builtin.Slice.slicePlaces
  rw [if_neg (by decide)]
  by_cases h : (n : Int) - 1 > -1
  · rw [if_pos h]
    show (((n : Int) - 1 - -1 - 1) / 1 + 1).toNat = n
    rw [Int.ediv_one]
    omega
  · rw [if_neg h]
    omega
theorem tupBack {t sl : Addr} {items : Array Value} {tu : Tok} {Q : Value → Shared → Prop} (ht : IsTup s.heap t items) (hs : s.heap.IsSliceOf sl .none .none (.int (-1) tu))
    (h : Q (.ref s.heap.objs.size) { s with heap := s.heap.push { cls := .type "tuple", data := .seq items.toList.reverse.toArray } }) (hsz : items.size ≤ sizeLine) : wpAny (model prog w) A (getItem (.ref t) (.ref sl)) Q E s := by
  have small : sizeOk (.seq items.toList.reverse.toArray) := by
    show items.toList.reverse.toArray.size ≤ sizeLine
    rw [List.size_toArray, List.length_reverse, Array.length_toList]; exact hsz
  obtain ⟨os, hos, hcs, hds⟩ := id hs
  have isl : s.TypeIs (.ref sl) "slice" := ⟨os, hos, hcs⟩
  unfold getItem
  (try with_reducible refine wpAny_holding ?_); (first | refine wpAny_bind (wpAny_pure ?_) | skip)
  refine wpAny_bind (wpAny_sequenceKey ht.typeIs (by decide) (wpAny_bind (wpAny_callSpecial?_slot (name := Str.ofString "__getitem__") ht.typeIs PyProof.Rows.slot_tuple_getitem (wpAny_call_entry PyProof.Rows.slot_tuple_getitem ht.typeIs entry_tuple_getitem ?_ (args_tuple_getitem _ _)))))
  show wpAny (model prog w) _ (Builtin.Tuple.tupleItemsOf (.ref t) >>= _) _ _ s
  refine wpAny_bind (tupleItemsOf_ ht (wpAny_bind (wpAny_typeOf isl ?_)))
  rw [if_pos (by decide : _ = true)]
  refine wpAny_bind ?_
  unfold Builtin.Slice.sliceApplied Builtin.Slice.sliceFields
  refine wpAny_bind (wpAny_bind (wpAny_field hos hds (x := .none) rfl (wpAny_bind (wpAny_field hos hds (x := .none) rfl (wpAny_bind (wpAny_field hos hds (x := .int (-1) tu) rfl (wpAny_pure ?_)))))))
  refine wpAny_bind (PyProof.Rows.slicePart_int ?_)
  show wpAny (model prog w) _ (if ((-1 : Int) == 0) = true then _ else _) _ _ s
  rw [if_neg (by decide : ¬ ((-1 : Int) == 0) = true)]
  refine wpAny_bind (PyProof.Rows.slicePart_none (wpAny_bind (PyProof.Rows.slicePart_none (wpAny_bind (wpAny_pure ?_)))))
  show wpAny (model prog w) _ (match Builtin.Slice.sliceAdjust none none (-1) (items.size : Int) with | (lo, hi) => pure (lo, (-1 : Int), Builtin.Slice.slicePlaces lo hi (-1))) _ _ s
  rw [adjust_back]
  show wpAny (model prog w) _ (pure ((items.size : Int) - 1, (-1 : Int), Builtin.Slice.slicePlaces ((items.size : Int) - 1) (-1) (-1))) _ _ s
  rw [places_back]
  refine wpAny_pure ?_
  have hno : ¬ (((((items.size : Int) - 1) == 0) && ((-1 : Int) == 1) && (items.size == items.size)) = true) := by simp
  show wpAny (model prog w) _ (if ((((items.size : Int) - 1) == 0) && ((-1 : Int) == 1) && (items.size == items.size)) = true then _ else _) _ _ s
  rw [if_neg hno]
  have ep : ((List.range items.size).filterMap fun (k : Nat) => items[(((items.size : Int) - 1) + (k : Int) * (-1)).toNat]?).toArray = items.toList.reverse.toArray := by
    have z := pick_rev items.toList
    rw [Array.length_toList] at z
    rw [← z]
    congr 1
    refine congrArg (fun f => List.filterMap f _) (funext fun k => ?_)
    rw [Int.mul_comm]
    simp
  rw [ep]
  first
    | (exact wpAny_bind (m := Builtin.Tuple.tupleExact _) (wpAny_newObj_type (wpAny_pure ⟨_, rfl, wpAny_pure h⟩) small))
    | (exact wpAny_bind (m := Builtin.Tuple.tupleExact _) (wpAny_newObj_type (wpAny_bind (wpAny_pure (wpAny_pure ⟨_, rfl, wpAny_pure h⟩))) small))
    | (exact wpAny_bind (wpAny_bind (m := Builtin.Tuple.tupleExact _) (wpAny_newObj_type (wpAny_pure (wpAny_pure ⟨_, rfl, wpAny_pure h⟩)) small)))
    | (exact wpAny_bind (wpAny_bind (m := Builtin.Tuple.tupleExact _) (wpAny_newObj_type (wpAny_pure ⟨_, rfl, wpAny_pure h⟩) small)))
end
theorem pe_backT {X : Cx} {e st : Expr} {te tt : TE} {p2 pos : Pos} (he : PE X e te) (ht : PE X st tt) : PE X (.Subscript e (.Slice none none (some st) p2) pos) (tBackT X.K te tt) := by
  refine ⟨fun pins s σ H Q I h => ?_⟩
  refine Subscript_ (thn (he.run pins s σ H _ I h) fun v s1 ⟨x, H1, I1, r1, q1⟩ => ?_)
  refine wpAny_Slice ?_
  rw [evalPart_none]
  refine wpAny_pure (wpAny_pure ?_)
  rw [evalPart_some]
  refine thn (ht.run pins s1 σ H1 _ I1 q1) fun u s2 ⟨y, H2, I2, r2, a, xs, ex, ey, hx, q2⟩ => ?_
  subst ex
  subst ey
  cases r1
  obtain ⟨tu, rfl⟩ := r2
  have I3 : Inv X pins σ H2 { s2 with heap := s2.heap.push { cls := .type "slice", data := .fields #[.none, .none, .int (-1) tu] } } := I2.kept (t' := s2.toks) fun b ob q => Heap.get?_push_of_some _ q
  obtain ⟨its, r, hl, hz⟩ := I3.tuple hx
  have hid : typeLookup (.type "tuple") "__getitem__" = pure (some (.builtin _)) := PyProof.Rows.slot_tuple_getitem.lookup
  have hrun : wpAny (model X.prog X.w) X.A (getItem (.ref a) (.ref s2.heap.objs.size)) (EP X pins σ Q) X.xe { s2 with heap := s2.heap.push { cls := .type "slice", data := .fields #[.none, .none, .int (-1) tu] } } := by
    refine tupBack hl (Heap.IsSliceOf.new ..) ?_ (by rw [List.size_toArray, ← r.length]; exact hz)
    exact ⟨.ref _, _, I3.laid (t' := s2.toks) (o := .tup xs.reverse) (fun b ob q => Heap.get?_push_of_some _ q) (Nat.le_refl _) ⟨by rw [List.length_reverse]; exact hz, _, vals_rev r, IsTup.new _ _⟩, rfl, q2 _ (I3.hok.fresh (Nat.le_refl _))⟩
  show wpAny (model X.prog X.w) X.A (subscriptTail e (.Slice none none (some st) p2) (.ref a) (.ref s2.heap.objs.size)) (EP X pins σ Q) X.xe { s2 with heap := s2.heap.push { cls := .type "slice", data := .fields #[.none, .none, .int (-1) tu] } }
  exact tail_any (ops := [.ref a, .ref s2.heap.objs.size]) hl.typeIs hid hrun (by with_unfolding_all rfl)
end Ow
end
section
/-! Rules for a comprehension's body that name K. -/
namespace Ow
open PySem PySem.Spec PyProof.Rows L2 StX
section
variable {X : Cx} {K : PySem.W.Frag}
theorem ix_tupK (hK : X.K = K) : IxR X (rIxT K) := by
  subst hK
  exact ix_tup
theorem op_notInDTK (hK : X.K = K) (hu : X.A.units + 65 < cLine) : OpR X (compareOp .NotIn) (rInDT K true) := by
  subst hK
  exact op_notInDT hu
theorem op_inDTK (hK : X.K = K) (hu : X.A.units + 65 < cLine) : OpR X (compareOp .In) (rInDT K false) := by
  subst hK
  exact op_inDT hu
end
end Ow
end
section
/-! A caught error that is kept behind its clause: `except X as n: kept = n`. -/
namespace Ow
open PySem PySem.Spec PyProof.Rows L2
/-- an error that was raised and caught, of the class cls, its dict d -/
def exk (a : Addr) (cls : Value) (d : Option Addr) : HO := .ext fun h => ∃ (oe : Obj) (vs : Array Value), h.get? a = some oe ∧ Zc cls d oe ∧ oe.data = .fields vs
theorem exk_ok {P : Program} {w : World} {H : Hp} {h : Heap} {a : Addr} {cls : Value} {d : Option Addr} {oe : Obj} {vs : Array Value} (e : h.get? a = some oe) (z : Zc cls d oe) (hd : oe.data = .fields vs) : ObjOk P w H h a (exk a cls d) :=
  ⟨⟨oe, vs, e, z, hd⟩, ⟨oe, e⟩, fun _ _ ⟨o, v, q, r⟩ k => ⟨o, v, k o q, r⟩⟩
section
variable {X : Cx} {pins : List (Addr × Obj)} {σ : L2.St} {H : Hp} {s : Shared}
theorem exk_at {P : Program} {w : World} {h : Heap} {a : Addr} {cls : Value} {d : Option Addr} (x : HOk P w H h) (e : H a = some (exk a cls d)) : ∃ (oe : Obj) (vs : Array Value), h.get? a = some oe ∧ Zc cls d oe ∧ oe.data = .fields vs := (x a _ e).1
/-- the caught error, pinned so far, is tracked from now on -/
theorem Inv.track {a : Addr} {oe : Obj} {vs : Array Value} {cls : Value} {d : Option Addr} (I : Inv X ((a, oe) :: pins) σ H s) (z : Zc cls d oe) (hd : oe.data = .fields vs) (n0 : X.s_0.heap.get? a = none) (hp : ∀ p ∈ X.pn ++ pins, p.1 ≠ a) : Inv X pins σ (upd H a (exk a cls d)) s := by
  obtain ⟨hget, hn, hL, hF, _⟩ := I.pin (a, oe) (List.mem_append_right _ List.mem_cons_self)
  have ne0 : ∀ b o, X.s_0.heap.get? b = some o → b ≠ a := fun b o e y => by
    rw [y, n0] at e
    cases e
  refine ⟨I.ok, I.os, I.bare, ?_, I.loc, I.cell, ?_, ?_, ?_, I.hok.laidN (fun _ _ e => e) hn (exk_ok hget z hd), I.len⟩
  · have B := I.base
    exact { keep := B.keep, slot := B.slot
            free := fun b o e n x => by rw [upd_ne (ne0 b o e)]; exact B.free b o e n x
            there := B.there
            tups := fun b xs e => by rw [upd_ne (ne_of_none (B.tups b xs e) hn)]; exact B.tups b xs e
            frzs := fun b o u e => by rw [upd_ne (ne_of_none (B.frzs b o u e) hn)]; exact B.frzs b o u e
            tbls := fun b ps e => by
              obtain ⟨m, q⟩ := B.tbls b ps e
              exact ⟨m, by rw [upd_ne (ne_of_none q hn)]; exact q⟩ }
  · rw [upd_ne (Ne.symm hL)]
    exact I.free
  · intro x c e
    have nc : c ≠ a := fun y => by
      obtain ⟨v, o, ho, hv⟩ := I.cell x c e
      rw [y] at ho
      have e2 : oe = o := Option.some.inj (hget.symm.trans ho)
      rw [← e2, hd] at hv
      cases hv
    rw [upd_ne nc]
    exact I.freeC x c e
  · intro p hq
    have h1 := I.pin p (by
      rcases List.mem_append.mp hq with h | h
      · exact List.mem_append_left _ h
      · exact List.mem_append_right _ (List.mem_cons_of_mem _ h))
    refine ⟨h1.1, ?_, h1.2.2⟩
    rw [upd_ne (hp p hq)]
    exact h1.2.1
theorem Inv.unsuiteK {a : Addr} {q : Addr × Obj} (I : Inv (X.suite a (q :: (X.pn ++ pins))) [] σ H s) (ok : X.Ok) : Inv X (q :: pins) σ H s :=
  ⟨ok, I.os, I.bare, I.base, I.loc, I.cell, I.free, I.freeC, fun p hp => I.pin p (by
    refine List.mem_append_left _ ?_
    rcases List.mem_append.mp hp with h | h
    · exact List.mem_cons_of_mem _ (List.mem_append_left _ h)
    · rcases List.mem_cons.mp h with h | h
      · rw [h]; exact List.mem_cons_self
      · exact List.mem_cons_of_mem _ (List.mem_append_right _ h)), I.hok, I.len⟩
end
/-- a suite that names what was caught, at its end: the slot i is empty, the error is tracked -/
def asTSk (i : Nat) (ts : Addr → Value → Option Addr → TS) : Addr → Value → Option Addr → TS := fun a cls d D σ H =>
  ts a cls d { nx := fun σ' H' => D.nx (σ'.set i none) (upd H' a (exk a cls d)), rt := fun _ _ => False, bk := fun _ _ => False, ct := fun _ _ => False } (σ.set i (some (.ref a))) H
set_option maxHeartbeats 4000000
theorem ps_try_keep {X : Cx} {body : List Stmt} {x n : Str} {i : Nat} {c : Value} {ts : Addr → Value → Option Addr → TS} {b₀ : Stmt} {suite : List Stmt} {np pos' pos : Pos} {tb : WX → TS} {Wout : WX} (hs : X.stack = X.env :: X.outer) (hf : X.env.frame = some X.env.locals) (hN : X.N.Nodup) (tk : Takes X Wout)
    (hb : ∀ (W : WX) (pn : List (Addr × Obj)) (xe : Value → Shared → Prop), Takes (X.tr pn xe) W → PassesOwn (model X.prog X.w) X.A X.env xe → PSs (X.tr pn xe) body (tb W))
    (hi : X.N[i]? = some n) (hln : X.env.kindOf n = some .local) (hc : Names X x c) (hx0 : X.ex = [])
    (hsu : ∀ (a : Addr) (oe : Obj) (cls : Value) (d : Option Addr) (pn : List (Addr × Obj)), Zc cls d oe → (∃ vs, oe.data = .fields vs) → PSs (X.suite a ((a, oe) :: pn)) (b₀ :: suite) (ts a cls d)) :
    PS X (.Try body [.ExceptHandler (some (.Name x np)) (some n) (b₀ :: suite) pos'] [] [] pos) (fun D σ H => tb (wMany X.K Wout D [(c, asTSk i ts)]) D σ H) := by
  refine ⟨fun pins s σ H D I h => ?_⟩
  have ok := I.ok
  have hfr : X.A.frames = some (X.env :: X.outer) := by rw [ok.frames, hs]
  refine wpAny_Try_except (wpAny_mono ((hb (wMany X.K Wout D [(c, asTSk i ts)]) (X.pn ++ pins) (fun e s₁ => wpAny (model X.prog X.w) X.A (noteFrame e X.env) (fun _ s₂ => wpAny (model X.prog X.w) X.A (setFlight e none) (fun _ s₃ => wpAny (model X.prog X.w) X.A (handleBy e X.env [.ExceptHandler (some (.Name x np)) (some n) (b₀ :: suite) pos']) (SP X pins D) X.xe s₃) X.xe s₂) X.xe s₁) ?_ PassesOwn.looking).run [] s σ H D (Inv.toTry I _) h) (fun f s1 hsp => ?_) fun e s1 he => he)
  · intro u s' xx
    obtain ⟨a, B, sI, pins', σ', H', cls, d, rfl, J', nb, up, sky, na, os, ag, w⟩ := xx
    have J := Inv.ofTry J' ok
    have Ba : B.get? a = none := by
      rcases sky with y | y | y
      · exact y.2.1
      · exact y.2.1
      · exact y.2.1
    have sky' : Sky B (X.env :: X.outer) a (Zc cls d) X.env.locals s'.heap := by rw [← hs]; exact sky
    refine Sky.land Zc.steady hfr hf sky' fun h3 fl3 up3 => ?_
    have J3 := Inv.landed (s' := { heap := h3, gens := s'.gens, drawn := s'.drawn, toks := s'.toks, os := s'.os }) J nb fl3.left (Heap.UpToSlots.trans up up3) os ag
    obtain ⟨oe3, vs3, he3, hz3, hd3⟩ := HandSPX.FlyingZ.there fl3
    have nfr : ¬ a ∈ List.filterMap (fun x : Env => x.frame) (X.env :: X.outer) := fun hm => by
      obtain ⟨_, o', e', hnf⟩ := Heap.FunFrames.mem fl3.right.right.left hm
      have e2 := e'.symm.trans he3
      cases e2
      exact hnf _ hd3
    have nL : a ≠ X.env.locals := fun z => nfr (List.mem_filterMap.mpr ⟨X.env, List.mem_cons_self .., by rw [hf, z]⟩)
    have nF : ¬ a ∈ X.fs := fun hm => by
      obtain ⟨e, he, q⟩ := List.mem_filterMap.mp hm
      exact nfr (List.mem_filterMap.mpr ⟨e, List.mem_cons_of_mem _ he, q⟩)
    have aI : sI.heap.get? a = none := by
      cases e : sI.heap.get? a with
      | none => rfl
      | some o =>
        have := nb a o e (by rw [hs]; exact nfr)
        rw [Ba] at this
        cases this
    have n0 : X.s_0.heap.get? a = none := by
      cases e : X.s_0.heap.get? a with
      | none => rfl
      | some o =>
        obtain ⟨o', e'⟩ := J.base.there a o e (by rw [hx0]; exact fun z => nomatch z)
        rw [aI] at e'
        cases e'
    have hpn : ∀ p ∈ X.pn ++ pins, p.1 ≠ a := fun p hp y => by
      have := (J.pin p hp).1
      rw [y, aI] at this
      cases this
    have S3 := Inv.suite J3 he3 hd3 na nL nF
    clear h hb
    have LT : W.Looks (model X.prog X.w) h3 (typeOf (Value.ref a)) cls := fun A Q E s k q => wpAny_typeOf_ref (k a oe3 he3) (by rw [hz3.left]; exact q)
    have test : ∀ {x : Str} {c : Value} {np : Pos} {Q : Value → Shared → Prop} {E : Value → Shared → Prop}, Names X x c → Q c { heap := h3, gens := s'.gens, drawn := s'.drawn, toks := s'.toks, os := s'.os } →
        wpAny (model X.prog X.w) (X.A.mark (some (.ref a))) (eval (.Name x np) X.env) Q E { heap := h3, gens := s'.gens, drawn := s'.drawn, toks := s'.toks, os := s'.os } := by
      intro x c np Q E hc q
      obtain ⟨hg, hdbg, hm | ⟨hm, hv, hnn⟩⟩ := hc
      · exact ld_glob (X := X.suite a _) S3 hg hm q hdbg
      · exact ld_blt (X := X.suite a _) S3 hg hm hv q hnn hdbg
    obtain ⟨b, hb1, hyes, hno⟩ := w
    refine wpAny_handleBy_cons (codeAny_handlers_test (test hc (W.Looks.here (W.exm_one (Inv.kIn J3) LT hb1) ?_))) (fun q => by cases q)
    cases b with
    | false =>
      have w := hno rfl
      refine wpAny_handleBy_nil ?_
      have fl := fl3
      obtain ⟨k1, k2, k3, oe, vs, T, oT, ts', he, hz, hd, h1, hr⟩ := fl3
      unfold PySem.passOn
      refine wpAny_bind (wpAny_field he hd h1 ?_)
      rw [if_neg (by simp)]
      refine wpAny_bind ?_
      rw [hf]
      exact HandSPX.setFlight_upZ fl fun h4 hh4 up4 => wpAny_throw (tk _ _ ⟨a, B, sI, pins, σ', H', cls, d, rfl, J, nb, (up.trans up3).trans up4, .inr (.inr (by rw [hs]; exact hh4)), na, os, ag, w⟩)
    | true =>
      refine codeAny_handlers_suite_as (HandSPX.lands_againZ fl3 fun h4 fl4 up4 => ?_)
      have J4 := Inv.landed (s' := { heap := h4, gens := s'.gens, drawn := s'.drawn, toks := s'.toks, os := s'.os }) J nb fl4.left (Heap.UpToSlots.trans (Heap.UpToSlots.trans up up3) up4) os ag
      obtain ⟨oe4, vs4, he4, hz4, hd4⟩ := HandSPX.FlyingZ.there fl4
      have S4 := Inv.suite J4 he4 hd4 na nL nF
      refine store_ok (X := X.suite a ((a, oe4) :: (X.pn ++ pins))) (v := .ref a) S4 hN hi (Or.inl hln) rfl (fun s5 S5 => ?_) (Or.inr hln)
      refine wpAny_mono ((hsu a oe4 cls d (X.pn ++ pins) hz4 ⟨vs4, hd4⟩).run [] s5 _ H' _ S5 (hyes rfl a na)) (fun f s6 hsp => ?_) fun _ _ z => False.elim z
      cases f with
      | next =>
        obtain ⟨σ6, H6, S6, q6⟩ := hsp
        exact gone_ok (Inv.unsuiteK S6 ok) hN hi hln fun s7 J7 => ⟨_, _, Inv.track J7 hz4 hd4 n0 hpn, q6⟩
      | brk => obtain ⟨σ6, H6, S6, q6⟩ := hsp; exact q6.elim
      | cont => obtain ⟨σ6, H6, S6, q6⟩ := hsp; exact q6.elim
      | ret u => obtain ⟨v6, σ6, H6, S6, r6, q6⟩ := hsp; exact q6.elim
  · cases f with
    | next => obtain ⟨σ', H', J', q⟩ := hsp; exact wpAny_execs_nil ⟨σ', H', Inv.ofTry J' ok, q⟩
    | brk => obtain ⟨σ', H', J', q⟩ := hsp; exact ⟨σ', H', Inv.ofTry J' ok, q⟩
    | cont => obtain ⟨σ', H', J', q⟩ := hsp; exact ⟨σ', H', Inv.ofTry J' ok, q⟩
    | ret u => obtain ⟨v, σ', H', J', r, q⟩ := hsp; exact ⟨v, σ', H', Inv.ofTry J' ok, r, q⟩
end Ow
end
section
set_option maxHeartbeats 2000000
/-! isinstance of a kept error or of anything else; a kept error's fields. -/
namespace Ow
open PySem PySem.Spec PyProof.Rows L2 StX
/-- x is a kept error of the class t -/
def KeptTy (K : PySem.W.Frag) (H : Hp) (x : V) (t : Value) : Prop := ∃ (a D : Addr) (d : Option Addr), x = .ref a ∧ t = .ref D ∧ H a = some (exk a (.ref D) d) ∧ (∀ dd, d = some dd → ∃ fs, H dd = some (.xd fs)) ∧ ExcC K D ∧ (PySem.W.clsIn K D).isSome = true
def rIsKp (K : PySem.W.Frag) : List V → Hp → VK → Prop := fun xs H Q => ∃ (x c : V) (t u : Value) (b : Bool), xs = [x, c] ∧ ClsV c u ∧ (TyX K H x t ∨ KeptTy K H x t) ∧ PySem.W.kitOne K t u = some b ∧ Q (.bl b) H
section
variable {X : Cx}
theorem call_isKp : CallR X (.builtin "isinstance") (rIsKp X.K) := by
  intro pins s σ H xs us Q I r h
  obtain ⟨x, c, t, u, b, rfl, k, ty | ty, e, q⟩ := h
  · exact call_isi pins s σ H _ us Q I r ⟨x, c, t, u, b, rfl, k, ty, e, q⟩
  obtain ⟨a, D, d, rfl, rfl, ea, ed, C, hci⟩ := ty
  cases r with
  | cons rx r2 =>
    cases r2 with
    | cons rc r3 =>
      cases r3
      cases rx
      cases k.eq rc
      obtain ⟨oe, vs, hget, hz, hv⟩ := exk_at I.hok ea
      obtain ⟨z1, z2⟩ := hz
      obtain ⟨od, J⟩ : ∃ od, PySem.W.InstAt s.heap a oe D od := by
        cases d with
        | none => exact ⟨none, hget, z1, by unfold PySem.W.notCls; rw [hv], by rw [z2]; exact True.intro⟩
        | some dd =>
          obtain ⟨fs, hdd⟩ := ed dd rfl
          obtain ⟨mA, ⟨o, _, _, e0, _⟩, _⟩ := (show ObjOk X.prog X.w H s.heap dd (.xd fs) from I.hok dd _ hdd)
          exact ⟨some o, hget, z1, by unfold PySem.W.notCls; rw [hv], by rw [z2]; exact e0⟩
      refine PySem.W.kia_one (PySem.W.kitx_exc (x := a) (ox := oe) (od := od) hci C.hg C.hk C.hs C.ha C.hn C.ht C.hm) I.kIn J e (fun z => by cases z) fun tk => ?_
      exact ⟨.bl b, H, I.kept fun _ _ e => e, rfl, q⟩
/-- o.f, o a kept error -/
def tXk (K : PySem.W.Frag) (n : Str) (te : TE) : TE := fun σ H Q => te σ H fun y H1 => ∃ (a C dd : Addr) (fs : List (Str × V)) (v : V), y = .ref a ∧ XfC K C ∧ PySem.W.findIn K (.ref C) n = some none ∧ H1 a = some (exk a (.ref C) (some dd)) ∧ H1 dd = some (.xd fs) ∧ fs.lookup n = some v ∧ Q v H1
theorem pe_xk {e : Expr} {te : TE} {n : Str} {pos : Pos} (he : PE X e te) (hb : attributeBase e n X.env (eval e X.env) = eval e X.env := by rfl) : PE X (.Attribute e n pos) (tXk X.K n te) := by
  refine ⟨fun pins s σ H Q I h => ?_⟩
  refine attr_of hb (thn (he.run pins s σ H _ I h) fun u s1 hh => ?_)
  obtain ⟨y, H1, I1, ry, a, C, dd, fs, v, ey, T, hno, ea, ed, l, q⟩ := hh
  subst ey
  obtain rfl : u = Value.ref a := ry
  obtain ⟨oe, vs, ha, hz, hv⟩ := exk_at I1.hok ea
  obtain ⟨mA, hns, hr⟩ := (show ObjOk X.prog X.w H1 s1.heap dd (.xd fs) from I1.hok dd _ ed)
  obtain ⟨od, ho, hl⟩ := lookIn_ns hns
  obtain ⟨u, hu, ru⟩ := RelO.some_of (v := v) (o := mA n) (by rw [← l]; exact hr n)
  have J : PySem.W.InstAt s1.heap a oe C (some od) := ⟨ha, hz.1, by unfold PySem.W.notCls; rw [hv] <;> rfl, by rw [hz.2]; exact ho⟩
  exact HandSPX.exc_get I1.kIn J T.ga T.gg T.exC (PySem.W.findObj_own T.hdC hno rfl (by rw [hl, hu])) (handed_of ru) ⟨v, H1, I1.tok _, ru, q⟩
end
end Ow
end
section
set_option maxHeartbeats 2000000
/-! bool(o), o an instance with its own __bool__. -/
namespace PySem
namespace OwB
section
variable {prog : Program} {w : World} {A : Around} {E : Value → Shared → Prop} {s : Shared}
theorem meets_boolIn (x : Value) : MeetsIn prog w (Builtin.«bool.__new__» ⟨[.type "bool", x], []⟩) (fun A R s => wpAny (model prog w) A.in1 (truthy x) (fun b s' => R (.ok (.ret (.bool b))) s') (fun e s' => R (.error e) s') s) :=
  .of_wp fun A R s h => by
    have f1 := F.conv_sub_bool
    obtain ⟨hp, g, d, tk, os⟩ := s
    repeat (any_goals (first | with_reducible exact (wpAny_mono h (fun b s' z => ⟨_, rfl, z⟩) fun _ _ z => z) | with_reducible refine wpAny_bind (wpAny_mono h (fun b s' z => ?_) fun _ _ z => z) | assumption | wp_step))
    all_goals first | exact ⟨_, rfl, z⟩ | exact ⟨_, rfl, by assumption⟩ | skip
theorem call_boolIn {x : Value} {Q : Value → Shared → Prop} (h : wpAny (model prog w) A.in1.in1 (truthy x) (fun b s' => Q (.bool b) s') E s) : wpAny (model prog w) A (call (.type "bool") [x]) Q E s :=
  callType_newIn F.called_bool F.newNe_bool (F.typeCall_bool_1 x) (F.newCall_bool_1 x) (fun obj => F.args_object_init_2 obj x) F.entry_bool_new (meets_boolIn x)
    (wpAny_mono h (fun b s' z => ⟨rfl, z⟩) fun e s' z => z)
theorem truthy_own {M : Model} {K : PySem.W.Frag} {x C f : Addr} {ox : Obj} {od : Option Obj} {Q : Bool → Shared → Prop} (X : K.In s.heap) (I : PySem.W.InstAt s.heap x ox C od) (hs : PySem.W.findIn K (.ref C) "__bool__" = some (some (.ref f))) (hf : PySem.W.isFn K (.ref f) = true)
    (h : wpAny M A (call (.ref f) [.ref x]) (fun v s' => ∃ b, v = .bool b ∧ Q b s') E s) : wpAny M A (truthy (.ref x)) Q E s := by
  unfold truthy
  refine wpAny_bind (PySem.W.special_fn (name := Str.ofString "__bool__") X I hs (beq_iff_eq.mp hf) (wpAny_mono h (fun v s' z => ?_) fun _ _ z => z))
  obtain ⟨b, rfl, q⟩ := z
  exact wpAny_pure q
end
end OwB
end PySem
namespace Ow
open PySem PySem.Spec PyProof.Rows L2 StX
section
variable {X : Cx} {CX : CXT} {n : Nat} {C g : Addr} {sp : Sp} {E : XK}
/-- bool(o), o an instance of C that has a __bool__ -/
def rBoolO (C : Addr) (sp : Sp) (E : XK) : List V → Hp → VK → Prop := fun xs H Q => ∃ a, xs = [.ref a] ∧ InsAt H a C ∧ sp [.ref a] H (fun v H' => ∃ b, v = .bl b ∧ Q (.bl b) H') E
theorem call_boolO (hs : PySem.W.findIn X.K (.ref C) "__bool__" = some (some (.ref g))) (hf : PySem.W.isFn X.K (.ref g) = true)
    (F : FnR X.prog X.w X.K X.mg X.base CX n g sp) (hr : Room (n + 2) X.A) (hx : Passes CX X E) : CallR X (.type "bool") (rBoolO C sp E) := by
  intro pins s σ H xs us Q I r h
  obtain ⟨a, rfl, ha, q⟩ := h
  obtain ⟨u, rfl, ru⟩ := vals1 r
  cases (show u = Value.ref a from ru)
  obtain ⟨ox, od, J⟩ := inst_of I ha
  obtain ⟨m, hF⟩ := I.fr
  refine PySem.OwB.call_boolIn (PySem.OwB.truthy_own (I.ok.mod.kin.keeps hF.keep) J hs hf ?_)
  refine wpAny_mono (wpAny_call (run_fnRS (us := [.ref a]) (vs := [.ref a]) F hr.in1.in1 rfl hx I (.cons rfl .nil) q)) (fun w s' z => ?_) fun _ _ x => x
  obtain ⟨z', H', I', rz, b, rfl, qz⟩ := z
  cases rz
  exact ⟨b, rfl, .bl b, H', I', rfl, qz⟩
end
end Ow
end
section
set_option maxHeartbeats 4000000
namespace Ow
open PySem PySem.Spec PyProof.Rows L2 PySem.W

section
variable {prog : Program} {w : World} {M : Model} {A : Around} {E : Value → Shared → Prop} {s : Shared} {K : Frag} {x C L f : Addr} {h₀ : Heap} {m : Str → Option Value} {ox : Obj} {od : Option Obj} {nm : String}

theorem mul_ref_at {i : Int} {t : Tok} {x C dx : Addr} : GivesAt (fun s => s.heap.get? x = some (instObj C dx)) (Builtin.«int.__mul__» ⟨[.int i t, .ref x], []⟩) (.val Value.notImplemented) := by
  intro prog w A R s hx h
  obtain ⟨hp, g, d, tk, os⟩ := s
  have hl : ∀ {M : Model} {A : Around} {E : Value → Shared → Prop} {Q : Option Int → Shared → Prop}, Q none ⟨hp, g, d, tk, os⟩ → wpAny M A (asInt? (.ref x)) Q E ⟨hp, g, d, tk, os⟩ := by
    intro M A E Q q
    unfold asInt?
    exact wpAny_bind (wpAny_load hx (wpAny_pure q))
  unfold Builtin.«int.__mul__»
  wp_walk using hl
  exact h
theorem int_mul_ref {i : Int} {t : Tok} {x C dx : Addr} {s : Shared} {Q : Value → Shared → Prop} (hx : s.heap.get? x = some (instObj C dx)) (h : Q .notImplemented s) :
    wpAny (model prog w) A (call (.builtin "int.__mul__") [.int i t, .ref x]) Q E s :=
  call_givesAt F.slot_int_mul (typeIs_int s i t) F.entry_int_mul (F.args_int_mul_2 _ _) mul_ref_at hx h
theorem int_mul_own {i : Int} {t : Tok} {x C dx f fa : Addr} {cd : ClassData} {rest : List Value} {Q : Value → Shared → Prop} (X : K.In s.heap) (hx : s.heap.get? x = some (instObj C dx)) (I : InstAt s.heap x ox C od) (hcd : clsIn K C = some cd) (hm : cd.mro = .ref C :: rest)
    (ha : findIn K (.ref C) (PySem.dunder "mul") = some (some (.ref fa))) (hs : findIn K (.ref C) (dunderR "mul") = some (some (.ref f))) (hf : isFn K (.ref f) = true) (hsub : subIn K (.ref C) (.type "int") = some false)
    (h : wpAny (model prog w) A (call (.ref f) [.ref x, .int i t]) (PySem.W.CmpBack Q) E s) : wpAny (model prog w) A (binaryOp .Mult (.int i t) (.ref x)) Q E s := by
  have one := ksp_try X I hs hf h
  have two : ∀ {Q' : Option Value → Shared → Prop}, Q' none s → wpAny (model prog w) A (tryMethod (.int i t) (PySem.dunder "mul") (.ref x)) Q' E s := by
    intro Q' q
    unfold tryMethod
    exact wpAny_bind (wpAny_callSpecial?_slot (typeIs_int s i t) F.slot_int_mul (int_mul_ref hx (wpAny_pure q)))
  obtain ⟨hh, g, d, tt, os⟩ := s
  have L1 : Looks (model prog w) hh (typeOf (.int i t)) (.type "int") := Looks.of_pure rfl
  have L2 : Looks (model prog w) hh (typeOf (.ref x)) (.ref C) := I.type
  have L3 : Looks (model prog w) hh (fillsNumberSlot (.type "int") "mul") true := Looks.of_pure F.fills_int_mul
  have L4 : Looks (model prog w) hh (fillsNumberSlot (.ref C) "mul") true := fills_K X hcd hm ha
  have L5 : Looks (model prog w) hh (isSubtype (.ref C) (.type "int")) false := looks_subIn X hsub
  have L7 : Looks (model prog w) hh (numberSlotInPython (.type "int") "mul") false := Looks.of_pure rfl
  have hne : (Value.type "int" == Value.ref C) = false := Bool.eq_false_iff.mpr fun q => by cases beq_iff_eq.mp q
  show wpAny (model prog w) A (binaryOp .Mult (.int i t) (.ref x)) Q E _
  have hi : Operator.info .Mult = ("*", "mul") := rfl
  simp only [binaryOp, hi]
  refine wpAny_holding (wpAny_bind ?_)
  unfold binaryOp1
  refine wpAny_bind (L1.at (wpAny_bind (L2.at (wpAny_bind (L3.at ?_)))))
  simp only [hne, Bool.false_eq_true, if_false]
  ksp_lk
  refine two ?_
  ksp_lk
  refine wpAny_mono one (fun r s' hr' => ?_) fun _ _ e => e
  obtain ⟨v, rfl, hq⟩ := hr'
  ksp_lk
  exact hq
end
end Ow
namespace Ow
open PySem PySem.Spec PyProof.Rows L2 StX
section
variable {X : Cx} {CX : CXT} {n : Nat} {C g fa : Addr} {sp : Sp} {E : XK}
theorem op_rmul (hc : PySem.W.selfFirst X.K C = true) (ha : PySem.W.findIn X.K (.ref C) (PySem.dunder "mul") = some (some (.ref fa))) (hs : PySem.W.findIn X.K (.ref C) (dunderR "mul") = some (some (.ref g))) (hf : PySem.W.isFn X.K (.ref g) = true)
    (hsub : PySem.W.subIn X.K (.ref C) (.type "int") = some false)
    (F : FnR X.prog X.w X.K X.mg X.base CX n g sp) (hr : Room n X.A) (hx : Passes CX X E) : OpR X (binaryOp .Mult) (rBinR C sp E) := by
  intro pins s σ H x y v u Q I rx ry h
  obtain ⟨a, i, rfl, rfl, hia, q⟩ := h
  obtain ⟨t, rfl⟩ := rx
  cases (show u = Value.ref a from ry)
  obtain ⟨dx, od, hx', J⟩ := inst_of2 I hia
  obtain ⟨cd, rest, hcd, hm⟩ := PySem.W.ksp_first hc
  refine int_mul_own I.kIn hx' J hcd hm ha hs hf hsub ?_
  refine wpAny_mono (wpAny_call (run_fnR (us := [.ref a, .int i t]) (vs := [.ref a, .int i]) F hr hx I (.cons rfl (.cons ⟨t, rfl⟩ .nil)) q)) (fun w s' z => ?_) fun _ _ x => x
  obtain ⟨z', H', I', rz, qz⟩ := z
  exact cmpbackR rz ⟨z', H', I', rz, qz⟩

end
end Ow
end
section
set_option maxHeartbeats 4000000
/-! zip of a list and a tuple. -/
namespace Ow
open PySem PySem.Spec PyProof.Rows L2
def ItLT (K : PySem.W.Frag) (a b : Addr) (xs ys : List V) : It := ⟨fun i H => i < min xs.length ys.length ∧ SqL K H a xs ∧ SqT K H b ys, fun i H v H' => ∃ (T : Addr) (x y : V), v = .ref T ∧ H T = none ∧ xs[i]? = some x ∧ ys[i]? = some y ∧ H' = upd H T (.tup [x, y]), fun i H => min xs.length ys.length ≤ i ∧ SqL K H a xs ∧ SqT K H b ys⟩
theorem turn_LT {P : Program} {w : World} {K : PySem.W.Frag} {elts : List Expr} {kk : Nat} {tpos : Pos} {z TI TO i1 i2 a b : Addr} {xs ys : List V} (sep : ZipSep2 z TI TO i1 i2 [i1, a] [i2, b]) (n1 : a ≠ i1) (n2 : b ≠ i2) :
    Turn P w K (.Tuple elts kk tpos) (ItLT K a b xs ys) [z, TI, TO, i1, i2] z (fun i h => i ≤ min xs.length ys.length ∧ IsZip h z TI TO .none ∧ IsTupOf2 h TI (.ref i1) (.ref i2) ∧ (∃ a1 a2, IsTupOf2 h TO a1 a2) ∧ h.IsListIter i1 a i ∧ h.IsTupleIter i2 b i) where
  mem := List.mem_cons_self
  obj := fun i h st c hc => by
    obtain ⟨_, g1, g2, ⟨a1, a2, g3⟩, g4, g5⟩ := st
    simp only [List.mem_cons, List.not_mem_nil, or_false] at hc
    rcases hc with rfl | rfl | rfl | rfl | rfl
    · exact ⟨_, g1, fun v z => by cases z⟩
    · exact ⟨_, g2, fun v z => by cases z⟩
    · exact ⟨_, g3, fun v z => by cases z⟩
    · obtain ⟨o, e1, _, e3⟩ := g4
      exact ⟨o, e1, fun v z => by rw [e3] at z; cases z⟩
    · obtain ⟨o, e1, _, e3⟩ := g5
      exact ⟨o, e1, fun v z => by rw [e3] at z; cases z⟩
  keep := fun i h h' st k => by
    obtain ⟨g0, g1, g2, ⟨a1, a2, g3⟩, g4, g5⟩ := st
    exact ⟨g0, k z (by simp) _ g1, k TI (by simp) _ g2, ⟨a1, a2, k TO (by simp) _ g3⟩, g4.at fun o q => k i1 (by simp) o q, g5.at fun o q => k i2 (by simp) o q⟩
  item := by
    intro X hP hw hK hc i pins s σ H E J hf st hg
    subst hP hw hK
    obtain ⟨hlt, hqx, hqy⟩ := hg
    obtain ⟨its, rv, p, _⟩ := J.list hqx
    obtain ⟨its2, rv2, p2, _⟩ := J.tuple hqy
    obtain ⟨g0, g1, g2, g3, g4, g5⟩ := st
    have l1 := rv.length
    have l2 := rv2.length
    have W1 := WalksT.zipD2 (prog := X.prog) (w := X.w) (A := X.A) sep (Draws.list (A := X.A.in1) (J.ok.hd hc) i1 a n1 its.toArray) (Draws.tuple (A := X.A.in1) (J.ok.hd hc) i2 b n2 its2.toArray)
    have hlive : ∀ c ∈ [z, TI, TO, i1, i2], c < s.heap.objs.size := fun c hcm => by
      simp only [List.mem_cons, List.not_mem_nil, or_false] at hcm
      obtain ⟨a1, a2, g3⟩ := g3
      rcases hcm with rfl | rfl | rfl | rfl | rfl
      · exact Heap.lt_size g1
      · exact Heap.lt_size g2
      · exact Heap.lt_size g3
      · obtain ⟨o, e1, _⟩ := g4; exact Heap.lt_size e1
      · obtain ⟨o, e1, _⟩ := g5; exact Heap.lt_size e1
    refine W1.item i s _ E (by simp only [List.size_toArray]; omega) ⟨g1, g2, g3, ⟨g4, p.isList⟩, ⟨g5, p2⟩⟩ fun T vals h' tk hp hT ht mid kk1 => ?_
    refine ⟨.ref T, rfl, W1.go elts kk tpos i T _ _ E mid fun h'' st'' kk2 => ?_⟩
    have nw : ∀ c, c ∉ [z, TI, TO, i1, i2] → c ∉ [z, TO, i1, i2] := fun c hn hm => hn (by simp only [List.mem_cons, List.not_mem_nil, or_false] at hm ⊢; rcases hm with h | h | h | h <;> simp [h])
    obtain ⟨u, u2, hu, hu2, rfl⟩ := hp
    obtain ⟨x, hx⟩ : ∃ x, xs[i]? = some x := ⟨_, List.getElem?_eq_getElem (by omega)⟩
    obtain ⟨y, hy⟩ : ∃ y, ys[i]? = some y := ⟨_, List.getElem?_eq_getElem (by omega)⟩
    obtain ⟨u', hu', ru⟩ := rv.get hx
    obtain ⟨u2', hu2', ru2⟩ := rv2.get hy
    have e1 : u' = u := Option.some.inj (hu'.symm.trans (by simpa using hu))
    have e2 : u2' = u2 := Option.some.inj (hu2'.symm.trans (by simpa using hu2))
    subst e1
    subst e2
    obtain ⟨oT, q1, q2, q3, q4⟩ := ht
    have ht2 : h''.get? T = some oT := kk2 T oT (W1.apart i T _ mid) q1
    have new : ObjOk X.prog X.w (upd H T (.tup [x, y])) h'' T (.tup [x, y]) := ⟨by show 2 ≤ sizeLine; decide, [u', u2'], .cons ru (.cons ru2 .nil), ⟨oT, ht2, q2, q3, by simpa using q4⟩⟩
    have J1 : Inv X pins σ (upd H T (.tup [x, y])) { s with heap := h'', toks := tk } :=
      J.turnedNew (ch := [z, TI, TO, i1, i2]) (fun c o hb q => kk2 c o (nw c hb) (kk1 c o (nw c hb) q)) hf hT new
    obtain ⟨f1, f2, f3, f4, f5⟩ := st''
    exact ⟨.ref T, _, J1, rfl, ⟨T, x, y, rfl, J.hok.fresh hT, hx, hy, rfl⟩, ⟨hlt, f1, f2, f3, f4.1, f5.1⟩, fun c hb => by
      rw [upd_ne (Nat.ne_of_lt (Nat.lt_of_lt_of_le (hlive c hb) hT))]
      exact (hf c hb).1⟩
  done := by
    intro X hP hw hK hc i pins s σ H E J hf st hg
    subst hP hw hK
    obtain ⟨hle, hqx, hqy⟩ := hg
    obtain ⟨its, rv, p, _⟩ := J.list hqx
    obtain ⟨its2, rv2, p2, _⟩ := J.tuple hqy
    obtain ⟨g0, g1, g2, g3, g4, g5⟩ := st
    have l1 := rv.length
    have l2 := rv2.length
    have W1 := WalksT.zipD2 (prog := X.prog) (w := X.w) (A := X.A) sep (Draws.list (A := X.A.in1) (J.ok.hd hc) i1 a n1 its.toArray) (Draws.tuple (A := X.A.in1) (J.ok.hd hc) i2 b n2 its2.toArray)
    have ei : i = min its.toArray.size its2.toArray.size := by simp only [List.size_toArray]; omega
    have nw : ∀ c, c ∉ [z, TI, TO, i1, i2] → c ∉ [z, TO, i1, i2] := fun c hn hm => hn (by simp only [List.mem_cons, List.not_mem_nil, or_false] at hm ⊢; rcases hm with h | h | h | h <;> simp [h])
    refine W1.done s _ E (by rw [← ei]; exact ⟨g1, g2, g3, ⟨g4, p.isList⟩, ⟨g5, p2⟩⟩) fun h' tk kk => ⟨rfl, J.turnedL (ch := [z, TI, TO, i1, i2]) (fun c o hb q => kk c o (nw c hb) q) hf⟩
  self := fun A i s Q E st h => wpAny_pyIter_zip st.2.1 h
theorem sepLT {n a b : Nat} (la : a < n) (lb : b < n) : ZipSep2 (n + 4) (n + 2) (n + 3) n (n + 1) [n, a] [n + 1, b] where
  TIz := show n + 2 ≠ n + 4 by omega
  TOz := show n + 3 ≠ n + 4 by omega
  TITO := show n + 2 ≠ n + 3 by omega
  TIi1 := show n + 2 ≠ n by omega
  mem1 := List.mem_cons_self
  zf1 := fun h => by
    rcases List.mem_cons.mp h with e | e
    · exact absurd (show n + 4 = n from e) (by omega)
    · exact absurd (show n + 4 = a from List.mem_singleton.mp e) (by omega)
  Tf1 := fun h => by
    rcases List.mem_cons.mp h with e | e
    · exact absurd (show n + 3 = n from e) (by omega)
    · exact absurd (show n + 3 = a from List.mem_singleton.mp e) (by omega)
  TIi2 := show n + 2 ≠ n + 1 by omega
  mem2 := List.mem_cons_self
  zf2 := fun h => by
    rcases List.mem_cons.mp h with e | e
    · exact absurd (show n + 4 = n + 1 from e) (by omega)
    · exact absurd (show n + 4 = b from List.mem_singleton.mp e) (by omega)
  Tf2 := fun h => by
    rcases List.mem_cons.mp h with e | e
    · exact absurd (show n + 3 = n + 1 from e) (by omega)
    · exact absurd (show n + 3 = b from List.mem_singleton.mp e) (by omega)
  sep1_2 := fun h => by
    rcases List.mem_cons.mp h with e | e
    · exact absurd (show n = n + 1 from e) (by omega)
    · exact absurd (show n = b from List.mem_singleton.mp e) (by omega)
  sep2_1 := fun h => by
    rcases List.mem_cons.mp h with e | e
    · exact absurd (show n + 1 = n from e) (by omega)
    · exact absurd (show n + 1 = a from List.mem_singleton.mp e) (by omega)
def iZipLT (K : PySem.W.Frag) (ta : TA) : TI := fun σ H R => ta σ H fun vs H1 => ∃ (a b : Addr) (xs ys : List V), vs = [.ref a, .ref b] ∧ SqL K H1 a xs ∧ SqT K H1 b ys ∧ R (ItLT K a b xs ys) H1
theorem pi_zipLT {X : Cx} {e e2 : Expr} {ta : TA} {p pos tpos : Pos} {elts : List Expr} {kk : Nat} (hg : Gl X "zip") (hm : X.mg "zip" = none) (ha : PA X [e, e2] ta) (hs : starEach [e, e2] X.env = [(false, eval e X.env), (false, eval e2 X.env)] := by rfl)
    (hs2 : starEach [e2] X.env = [(false, eval e2 X.env)] := by rfl) :
    PI X (.Tuple elts kk tpos) (.Call (.Name "zip" p) [e, e2] [] pos) (iZipLT X.K ta) := by
  refine ⟨fun pins s σ H R I h => ?_⟩
  refine Call_ (ld_blt I hg hm boot_zip (PyProof.Rows.callWith_type1 (thn (ha.run pos pins s σ H _ I h) fun us s1 ⟨vs, H1, I1, r1, a, b, xs, ys, ex, hqx, hqy, q⟩ => ?_) (by rw [hs, hs2]) (by rw [hs2]; rfl)))
  subst ex
  obtain ⟨u, u2, rfl, ra, rb⟩ := vals2 r1
  cases ra
  cases rb
  obtain ⟨its, rv, p1, _⟩ := I1.list hqx
  obtain ⟨its2, rv2, p2, _⟩ := I1.tuple hqy
  have la : @LT.lt Nat _ a s1.heap.objs.size := by obtain ⟨o, e, _⟩ := p1.isList; exact Heap.lt_size e
  have lb : @LT.lt Nat _ b s1.heap.objs.size := by obtain ⟨o, e, _⟩ := id p2; exact Heap.lt_size e
  refine zip_begins2 (begins_list a its.toArray) (begins_tuple b its2.toArray) p1.isList p2 fun h' hz hTI hTO h1 h2 hsz hk => wpAny_pyIter_zip hz ?_
  have sep := sepLT la lb
  have fp : ∀ c ∈ [s1.heap.objs.size + 4, s1.heap.objs.size + 2, s1.heap.objs.size + 3, s1.heap.objs.size, s1.heap.objs.size + 1], FpOk X pins H1 c := fun c hb => by
    have hle : s1.heap.objs.size ≤ c := by
      simp only [List.mem_cons, List.not_mem_nil, or_false] at hb
      omega
    exact I1.fpOk hle (I1.hok.fresh hle)
  exact ⟨s1.heap.objs.size + 4, _, _, _, H1, rfl, I1.kept (t' := s1.toks) hk, turn_LT sep (Nat.ne_of_lt la) (Nat.ne_of_lt (Nat.lt_succ_of_lt lb)), ⟨Nat.zero_le _, hz, hTI, ⟨_, _, hTO⟩, ⟨_, h1, rfl, rfl⟩, ⟨_, h2, rfl, rfl⟩⟩, fp, q⟩
theorem walk_LT {K : PySem.W.Frag} {a b : Addr} {xs ys : List V} : Walk (ItLT K a b xs ys) (min xs.length ys.length) (fun H => SqL K H a xs ∧ SqT K H b ys) (fun i H v H' => ∃ (T : Addr) (x y : V), v = .ref T ∧ H T = none ∧ xs[i]? = some x ∧ ys[i]? = some y ∧ H' = upd H T (.tup [x, y])) :=
  ⟨fun i _ hi g => ⟨hi, g⟩, fun _ g => ⟨Nat.le_refl _, g⟩, fun i H v H' _ _ y => y⟩
end Ow
end
section
set_option maxHeartbeats 4000000
/-! powers of ten, kept opaque. -/
namespace Ow
open PySem PySem.Spec PyProof.Rows L2
@[irreducible] def powC (k : Nat) : Int := 10 ^ k
theorem powC_lt {k : Nat} (h : k ≤ 41) : 0 ≤ powC k ∧ powC k < 2 ^ 139 := by
  unfold powC
  constructor
  · exact Int.pow_nonneg (by decide)
  · have h1 : (10 : Nat) ^ k ≤ 10 ^ 41 := Nat.pow_le_pow_right (by decide) h
    have h2 : (10 : Nat) ^ 41 < 2 ^ 139 := by decide +kernel
    have h3 : (10 : Nat) ^ k < 2 ^ 139 := Nat.lt_of_le_of_lt h1 h2
    exact_mod_cast h3
def rPowC : R2 := fun x y H Q => x = .int 10 ∧ ∃ k : Nat, y = .int (k : Nat) ∧ k ≤ 100 ∧ Q (.int (powC k)) H
theorem op_powC {X : Cx} : OpR X (binaryOp .Pow) rPowC := by
  intro pins s σ H x y v u Q I rx ry h
  obtain ⟨rfl, k, rfl, hk, q⟩ := h
  refine op_pow pins s σ H _ _ v u Q I rx ry ⟨_, _, rfl, rfl, ⟨by omega, by omega, by decide⟩, ?_⟩
  show Q (.int ((10 : Int) ^ ((k : Int).toNat))) H
  rw [Int.toNat_natCast]
  unfold powC at q
  exact q
def rPowK (k : Nat) : R2 := fun x y H Q => x = .int 10 ∧ y = .int (k : Nat) ∧ k ≤ 100 ∧ Q (.int (powC k)) H
theorem op_powK {X : Cx} (k : Nat) : OpR X (binaryOp .Pow) (rPowK k) := by
  intro pins s σ H x y v u Q I rx ry h
  obtain ⟨rfl, rfl, hk, q⟩ := h
  exact op_powC pins s σ H _ _ v u Q I rx ry ⟨rfl, k, rfl, hk, q⟩
section
variable {X : Cx} {CX : CXT} {n : Nat} {sp : Sp} {E : XK} {C g : Addr}
theorem op_cmpTK {K : PySem.W.Frag} {op : CmpOp} (hK : X.K = K) (hop : ∀ a b, compareOp op a b = richCompare op a b) (hs : PySem.W.findIn X.K (.ref C) (cmpInfo op).2.1 = some (some (.ref g))) (hf : PySem.W.isFn X.K (.ref g) = true)
    (F : FnR X.prog X.w X.K X.mg X.base CX n g sp) (hr : Room n X.A) (hx : Passes CX X E) : OpR X (compareOp op) (rBinT K C sp E) := by
  subst hK
  exact op_cmpT hop hs hf F hr hx
end
end Ow
end
section
set_option maxHeartbeats 4000000
/-! o.x(..): an own instance that lies in a field of another one, called. -/
namespace Ow
open PySem PySem.Spec PyProof.Rows L2 StX
section
variable {X : Cx} {CX : CXT} {k : Nat} {C g : Addr} {sp : Sp} {E : XK} {o e : Expr} {es : List Expr} {apos pos : Pos} {ta : TE} {t : TA} {m : Str}
def tFCall (K : PySem.W.Frag) (C : Addr) (m : Str) (sp : Sp) (E : XK) (ta : TE) (t : TA) : TE := fun σ H Q => ta σ H fun x H1 => ∃ (a C0 dx : Addr) (fs : List (Str × V)) (v : Addr), x = .ref a ∧ H1 a = some (.ins C0 dx fs) ∧ Cls K C0 ∧ NoAttr K C0 m ∧ fs.lookup m = some (.ref v) ∧ t σ H1 fun vs H2 => InsAt H2 v C ∧ sp (V.ref v :: vs) H2 Q E
theorem pe_fcall {pl : Sem Bool} (he : PE X o ta) (c : CallO X.K C g) (F : FnR X.prog X.w X.K X.mg X.base CX k g sp) (hr : Room k X.A) (hx : Passes CX X E) (ha : PA X (e :: es) t)
    (hst : starEach (e :: es) X.env = (false, eval e X.env) :: starEach es X.env := by rfl) (hpl : (backTo pos (starEach es X.env)).any (·.1) = false := by rfl)
    (ht : eval (.Call (.Attribute o m apos) (e :: es) [] pos) X.env = (do
      let ov ← eval o X.env
      standAt apos.atName
      let (f, first) ← holding [ov] (getMethod ov m pl)
      callWith pos f first (backTo pos (starEach (e :: es) X.env)) (backToKw pos (keywordEach [] X.env))) := by rfl) :
    PE X (.Call (.Attribute o m apos) (e :: es) [] pos) (tFCall X.K C m sp E ta t) := by
  refine ⟨fun pins s σ H Q I h => ?_⟩
  refine PySem.W.methodCall_KW (pl := pl) (thn (he.run pins s σ H _ I h) fun u s1 ⟨x, H1, I1, rx, a, C0, dx, fs, v, ex, ea, c0, n, l, q⟩ => ?_) ht
  subst ex
  obtain rfl : u = Value.ref a := rx
  obtain ⟨mA, O, r, _, _, _⟩ := ins_get I1.hok ea
  obtain ⟨od, J, hl⟩ := O.look
  refine PySem.W.method_usual (r := none) I1.kIn J (PySem.W.plainGet_of (c0.get m)).1 (PySem.W.plainGet_of (c0.get m)).2 n rfl ?_
  refine getattr_ok I1 ea c0 n l fun u' s2 I2 ru => ?_
  obtain rfl : u' = Value.ref v := ru
  refine callO_with (thn (ha.run pos pins s2 σ H1 _ I2 q) fun us s3 z => ?_) hst hpl
  obtain ⟨vs, H2, I3, r, ⟨dx, fs, hi⟩, q2⟩ := z
  have hc : InsC X H2 v C := .inr ⟨dx, fs, hi⟩
  obtain ⟨ox, od, J, hd⟩ := insC_at I3 hc
  exact ⟨⟨C, ox, od, J, hd⟩, run_callO c F hr hx I3 hc r q2⟩
end
end Ow
end
section
set_option maxHeartbeats 4000000
/-! == of two tuples whose items' own == may change the state. -/
namespace Ow
open PySem PySem.Spec PyProof.Rows L2 PySem.SeqAt
open PySem.AutoSeq1 (wpAny_loadPart')
/-- the items compared one pair behind the other, till one pair differs -/
def EqChain (prog : Program) (w : World) (A : Around) (E : Value → Shared → Prop) (R : Bool → Shared → Prop) : List (Value × Value) → Shared → Prop
  | [], s => R true s
  | p :: r, s => wpAny (model prog w) A.in1 (eqBool p.1 p.2) (fun v s' => if v = true then EqChain prog w A E R r s' else R false s') E s
section
variable {prog : Program} {w : World}
theorem tup_eqChain (la lb : Addr) (xs ys : Array Value) (m m2 : Nat) (da db : Option Addr) (ta tb : Array (Option Value)) :
    MeetsIn prog w (Builtin.«tuple.__eq__» ⟨[.ref la, .ref lb], []⟩) (fun A R s => s.heap.get? la = some ⟨.type "tuple", da, .seq xs m, ta⟩ ∧ s.heap.get? lb = some ⟨.type "tuple", db, .seq ys m2, tb⟩ ∧
      EqChain prog w A (fun er s' => R (.error er) s') (fun v s' => R (.ok (.ret (.bool (v && xs.size == ys.size)))) s') (xs.toList.zip ys.toList) s) :=
  .of_wp fun A R s h => by
    obtain ⟨hp, g, d, tk, os⟩ := s
    obtain ⟨ga, gb, hc⟩ := h
    have sub := AutoSeq1.sub_tuple_tuple
    wp_walk using wpAny_loadPart' ga, wpAny_loadPart' gb, wpAny_forIn_list _ (fun rest acc s' => acc.1 = none ∧ EqChain prog w A (fun er s' => R (.error er) s') (fun v s' => R (.ok (.ret (.bool (v && xs.size == ys.size)))) s') rest s') _
    case turn =>
      intro p rest acc s' hin
      obtain ⟨p1, p2⟩ := p
      obtain ⟨_, hch⟩ := hin
      refine wpAny_bind (wpAny_mono hch (fun v s2 hv => ?_) fun _ _ z => z)
      cases v with
      | true =>
        rw [if_pos rfl] at hv
        wp_walk
        exact ⟨rfl, hv⟩
      | false =>
        rw [if_neg (by decide)] at hv
        wp_walk
        exact ⟨_, rfl, by simpa using hv⟩
    case fin =>
      intro acc s' hin
      obtain ⟨a1, a2⟩ := acc
      obtain ⟨e1, hch⟩ := hin
      cases (show a1 = none from e1)
      wp_walk
      exact ⟨_, rfl, by simpa [Builtin.Tuple.tupleCompareSizes, EqChain] using hch⟩
    case h => exact ⟨rfl, hc⟩
theorem EqChain.mono {A : Around} {E E' : Value → Shared → Prop} {R R' : Bool → Shared → Prop} (he : ∀ er s', E er s' → E' er s') (hr : ∀ v s', R v s' → R' v s') : ∀ (ps : List (Value × Value)) (s : Shared), EqChain prog w A E R ps s → EqChain prog w A E' R' ps s
  | [], s, h => hr _ _ h
  | p :: r, s, h => wpAny_mono h (fun v s' q => by
      cases v with
      | true => rw [if_pos rfl] at q ⊢; exact EqChain.mono he hr r s' q
      | false => rw [if_neg (by decide)] at q ⊢; exact hr _ _ q) fun er s' q => he er s' q
theorem rc_tupChain {A : Around} {s : Shared} {E : Value → Shared → Prop} {Q : Value → Shared → Prop} {la lb : Addr} {xs ys : Array Value} (ga : s.heap.IsTuple la xs) (gb : s.heap.IsTuple lb ys) (hu : A.units < cLine)
    (h : EqChain prog w A E (fun v s' => Q (.bool (v && xs.size == ys.size)) s') (xs.toList.zip ys.toList) s) : wpAny (model prog w) A (richCompare .Eq (.ref la) (.ref lb)) Q E s := by
  obtain ⟨oa, h1, h2, m, h3⟩ := ga
  obtain ⟨ob, k1, k2, m2, k3⟩ := gb
  obtain ⟨ca, da, ea, ta⟩ := oa
  obtain ⟨cb, db, eb, tb⟩ := ob
  cases (show ca = _ from h2)
  cases (show cb = _ from k2)
  cases (show ea = _ from h3)
  cases (show eb = _ from k3)
  refine wpAny_richCompare_same_room (T := "tuple") (op := .Eq) ⟨_, h1, rfl⟩ ⟨_, k1, rfl⟩ F.slot_tuple_eq (call_meetsIn F.slot_tuple_eq ⟨_, h1, rfl⟩ F.entry_tuple_eq (F.args_tuple_eq_2 _ _) (tup_eqChain la lb xs ys m m2 da db ta tb) ⟨h1, k1, ?_⟩) hu
  exact EqChain.mono (fun _ _ q => q) (fun v s' q => ⟨(fun z => nomatch z), q⟩) _ _ h
end
end Ow
end
section
set_option maxHeartbeats 4000000
/-! == of two tuples of own instances that have an own ==. -/
namespace Ow
open PySem PySem.Spec PyProof.Rows L2 StX
/-- the pairs compared one behind the other: one instance with itself is alike without a call -/
def kEqs (C : Addr) (sp : Sp) (E : XK) (Q : Bool → Hp → Prop) : List (Addr × Addr) → Hp → Prop
  | [], H => Q true H
  | p :: r, H => (p.1 = p.2 ∧ kEqs C sp E Q r H) ∨ (p.1 ≠ p.2 ∧ InsAt H p.1 C ∧ InsAt H p.2 C ∧ sp [.ref p.1, .ref p.2] H (fun v H' => ∃ k, v = .bl k ∧ (k = true → kEqs C sp E Q r H') ∧ (k = false → Q false H')) E)
def rEqTO (C : Addr) (sp : Sp) (E : XK) : R2 := fun x y H Q => ∃ (ta tb : Addr) (as bs : List Addr), x = .ref ta ∧ y = .ref tb ∧ H ta = some (.tup (as.map V.ref)) ∧ H tb = some (.tup (bs.map V.ref)) ∧ as.length = bs.length ∧ kEqs C sp E (fun k H' => Q (.bl k) H') (as.zip bs) H
theorem vals_refsT : ∀ {as : List Addr} {us : List Value}, Vals (as.map V.ref) us → us = as.map Value.ref
  | [], _, .nil => rfl
  | a :: as, _, .cons h t => by
    cases (show _ = Value.ref a from h)
    rw [vals_refsT t]
    rfl
section
variable {X : Cx} {CX : CXT} {n : Nat} {C g : Addr} {sp : Sp} {E : XK}
theorem chain_own (hs : PySem.W.findIn X.K (.ref C) (cmpInfo .Eq).2.1 = some (some (.ref g))) (hf : PySem.W.isFn X.K (.ref g) = true) (hn : PySem.W.notFirst X.K C (.ref C) = true)
    (F : FnR X.prog X.w X.K X.mg X.base CX n g sp) (hr : Room (n + 1) X.A) (hx : Passes CX X E) {pins : List (Addr × Obj)} {σ : L2.St} {Q : Bool → Hp → Prop} :
    ∀ (ps : List (Addr × Addr)) (s : Shared) (H : Hp), Inv X pins σ H s → kEqs C sp E Q ps H →
      EqChain X.prog X.w X.A X.xe (fun k s' => ∃ H', Inv X pins σ H' s' ∧ Q k H') (ps.map fun p => (Value.ref p.1, Value.ref p.2)) s
  | [], s, H, I, h => ⟨H, I, h⟩
  | p :: r, s, H, I, h => by
    obtain ⟨a, b⟩ := p
    show wpAny _ _ (eqBool (.ref a) (.ref b)) _ _ s
    rcases h with ⟨e, h⟩ | ⟨ne, ha, hb, q⟩
    · cases (show a = b from e)
      refine PySem.SeqAt.EqAt.same _ X.prog X.w _ _ ?_
      rw [if_pos rfl]
      exact chain_own hs hf hn F hr hx r s H I h
    · have ne : a ≠ b := ne
      have ha : InsAt H a C := ha
      have hb : InsAt H b C := hb
      unfold eqBool
      refine wpAny_holding (wpAny_ite_split (fun hab => absurd (by have := eq_of_beq hab; injection this) ne) fun _ => wpAny_bind ?_)
      obtain ⟨ox, od, J⟩ := inst_of I ha
      obtain ⟨oy, od', J'⟩ := inst_of I hb
      obtain ⟨m, hF⟩ := I.fr
      refine PySem.W.cmp_K (op := .Eq) (tb := .ref C) hr.in1.units0 hF I.ok.mod.kin J J'.type hn hs hf ?_
      refine wpAny_mono (wpAny_call (run_fnRS (us := [.ref a, .ref b]) (vs := [.ref a, .ref b]) F hr.in1 rfl hx I (.cons rfl (.cons rfl .nil)) q)) (fun w s' z => ?_) fun _ _ x => x
      obtain ⟨z', H', I', rz, k, rfl, q1, q2⟩ := z
      refine cmpbackR rz ?_
      cases (show w = Value.bool k from rz)
      refine wpAny_truthy_bool ?_
      cases k with
      | true => rw [if_pos rfl]; exact chain_own hs hf hn F hr hx r s' H' I' (q1 rfl)
      | false => rw [if_neg (by decide)]; exact ⟨H', I', q2 rfl⟩
theorem op_eqTO (hs : PySem.W.findIn X.K (.ref C) (cmpInfo .Eq).2.1 = some (some (.ref g))) (hf : PySem.W.isFn X.K (.ref g) = true) (hn : PySem.W.notFirst X.K C (.ref C) = true)
    (F : FnR X.prog X.w X.K X.mg X.base CX n g sp) (hr : Room (n + 1) X.A) (hx : Passes CX X E) : OpR X (compareOp .Eq) (rEqTO C sp E) := by
  intro pins s σ H x y v u Q I rx ry h
  obtain ⟨ta, tb, as, bs, rfl, rfl, ga, gb, hl, q⟩ := h
  cases (show v = Value.ref ta from rx)
  cases (show u = Value.ref tb from ry)
  obtain ⟨xs, rva, pa, _⟩ := I.tuple (.inl (.inl ga))
  obtain ⟨ys, rvb, pb, _⟩ := I.tuple (.inl (.inl gb))
  cases vals_refsT rva
  cases vals_refsT rvb
  show wpAny _ _ (richCompare .Eq _ _) _ _ s
  refine rc_tupChain pa pb hr.units0 ?_
  have c := chain_own hs hf hn F hr hx (as.zip bs) s H I q
  have e : (as.zip bs).map (fun p => (Value.ref p.1, Value.ref p.2)) = (as.map Value.ref).zip (bs.map Value.ref) := by
    rw [List.zip_map]
    rfl
  rw [e] at c
  refine EqChain.mono (fun _ _ z => z) (fun k s' z => ?_) _ _ c
  obtain ⟨H', I', z⟩ := z
  refine ⟨.bl k, H', I', ?_, z⟩
  show Value.bool _ = Value.bool k
  simp [hl]
end
end Ow
end
section
set_option maxHeartbeats 4000000
/-! A static method called with nothing; one def with two readings. -/
namespace Ow
open PySem PySem.Spec PyProof.Rows L2 StX
section
variable {X : Cx} {CX : CXT} {k : Nat} {C p g : Addr} {mc : Value} {sp : Sp} {E : XK} {o : Expr} {m : Str} {pos apos : Pos} {ta : TE} {pl : Sem Bool}
theorem pe_smeth0 (he : PE X o ta) (r : ClX.CRead X.K C mc) (c : SMet X.K C mc m p g) (F : FnR X.prog X.w X.K X.mg X.base CX k g sp) (hr : Room k X.A) (hx : Passes CX X E)
    (ht : eval (.Call (.Attribute o m apos) [] [] pos) X.env = (do
      let ov ← eval o X.env
      standAt apos.atName
      let (f, first) ← holding [ov] (getMethod ov m pl)
      callWith pos f first (backTo pos (starEach [] X.env)) (backToKw pos (keywordEach [] X.env))) := by rfl) :
    PE X (.Call (.Attribute o m apos) [] [] pos) (tSMeth C sp E ta tNil) := by
  refine ⟨fun pins s σ H Q I h => ?_⟩
  refine PySem.W.methodCall_KW (pl := pl) (thn (he.run pins s σ H _ I h) fun u s1 ⟨x, H1, I1, rx, ex, q⟩ => ?_) ht
  subst ex
  obtain rfl : u = Value.ref C := rx
  refine getmethsm_ok I1 r c fun s2 I2 => ?_
  refine PySem.W.callWith_K0 I2.kIn c.kp ?_
  refine wpAny_mono (wpAny_call (run_fnR F hr hx I2 .nil q)) (fun w s' z => z) fun _ _ x => x
end
theorem FnR.or {P : Program} {w : World} {K : PySem.W.Frag} {mg : Str → Option Value} {base : Heap} {CX : CXT} {k : Nat} {g : Addr} {sp sp' : Sp} (F : FnR P w K mg base CX k g sp) (F' : FnR P w K mg base CX k g sp') : FnR P w K mg base CX k g fun vs H Q E => sp vs H Q E ∨ sp' vs H Q E := fun A outer s H us vs Q E hr e0 r h => by
  rcases h with h | h
  · exact F A outer s H us vs Q E hr e0 r h
  · exact F' A outer s H us vs Q E hr e0 r h
end Ow
end
section
set_option maxHeartbeats 4000000
/-! A comprehension whose elements make objects: what is known of each element is kept. -/
namespace Ow
open PySem PySem.Spec PyProof.Rows L2 StX
/-- the first j elements lie in the list at D, each as it should be -/
def LcOf (H1 : Hp) (Pv : Hp → Nat → V → Prop) (D : Addr) (j : Nat) (H' : Hp) : Prop := ∃ acc : List V, acc.length = j ∧ LcIn H1 H' D acc ∧ ∀ k v, acc[k]? = some v → Pv H' k v
/-- facts that stay when objects are made and when a list is changed -/
structure Stays (Pv : Hp → Nat → V → Prop) : Prop where
  same : ∀ {H H' : Hp} {k : Nat} {v : V}, Pv H k v → Same H H' → Pv H' k v
  put : ∀ {H : Hp} {D : Addr} {xs ys : List V} {k : Nat} {v : V}, Pv H k v → H D = some (.lst xs) → Pv (upd H D (.lst ys)) k v
theorem LcOf.add {H1 H H4 : Hp} {Pv : Hp → Nat → V → Prop} {D : Addr} {j : Nat} {y : V} (S : Stays Pv) (c : LcOf H1 Pv D j H) (s : Same H H4) (hj : j < sizeLine) (hy : Pv H4 j y) : kApp D (LcOf H1 Pv D (j + 1)) y H4 := by
  obtain ⟨acc, hl, c, hv⟩ := c
  have a4 := s _ _ c.at_
  refine ⟨acc, a4, by omega, acc ++ [y], by rw [List.length_append, hl]; rfl, ⟨fun b u e => ?_, upd_same, c.new⟩, fun k v hk => ?_⟩
  · rw [upd_ne (ne_of_none e c.new)]
    exact s _ _ (c.same _ _ e)
  · by_cases hi : k < acc.length
    · rw [List.getElem?_append_left hi] at hk
      exact S.put (S.same (hv k v hk) s) a4
    · rw [List.getElem?_append_right (by omega)] at hk
      have hi0 : k - acc.length = 0 := by
        match hz : k - acc.length with
        | 0 => rfl
        | m + 1 => rw [hz] at hk; cases hk
      rw [hi0] at hk
      cases hk
      have : k = j := by omega
      subst this
      exact S.put hy a4
theorem kLc.objs {J : It} {n : Nat} {G : Hp → Prop} {Y : Nat → Hp → V → Hp → Prop} (w : Walk J n G Y) {g : TG} {tt : TT} {te : TE} {vs : List Nat} {σ : L2.St} {Q : VK} {H1 : Hp} (Pv : Hp → Nat → V → Prop) (hG : ∀ H, Same H1 H → G H)
    (hs : ∀ D i x H H', i < n → LcOf H1 Pv D i H → Y i H x H' → g x (wipe σ vs) H' fun σ2 H2 => wipe σ2 vs = wipe σ vs ∧ tt σ2 H2 fun b H3 => if b = true then te σ2 H3 (kApp D (LcOf H1 Pv D (i + 1))) else LcOf H1 Pv D (i + 1) H3)
    (hd : ∀ D H' acc, acc.length = n → Fresh H1 H' D (.lst acc) → (∀ k v, acc[k]? = some v → Pv H' k v) → Q (.ref D) H') : kLc J g tt te vs σ Q H1 := fun D hD =>
  lc_it w (fun i H => LcOf H1 Pv D i H) ⟨[], rfl, ⟨(fresh_upd hD).same, upd_same, hD⟩, fun k v h => by cases k <;> cases h⟩ (fun i H _ c => hG H c.choose_spec.2.1.same) (fun i x H H' hi c y => hs D i x H H' hi c y) fun H c => by
    obtain ⟨acc, hl, c, hv⟩ := c
    exact hd D H acc hl ⟨c.same, c.at_, c.new⟩ hv
end Ow
end
section
/-! A guarded def called with nothing. -/
namespace Ow
open PySem PySem.Spec PyProof.Rows L2 StX
section
variable {X : Cx} {CX : CXT} {n : Nat} {sp : Sp} {E : XK}
theorem pe_callG0 {x : Str} {f : Addr} {p pos : Pos} (F : FnG X.prog X.w X.K X.mg X.base CX n f sp) (hr : Room n X.A) (gd : X.A.guards = some []) (hm : X.mg x = some (.ref f)) (hk : PySem.W.keepIn X.K (.ref f) = true) (hx : Passes CX X E)
    (hg : Gl X x := by rfl) (hdb : (x == ("__debug__" : Str)) = false := by decide) : PE X (.Call (.Name x p) [] [] pos) (tCallR sp E tNil) := by
  refine ⟨fun pins s σ H Q I h => ?_⟩
  refine wpAny_Call_Name_kw (ld_glob I hg hm ?_ hdb)
  refine PySem.W.callWith_K0 I.kIn hk ?_
  refine wpAny_call (codeAny_mono (F X.A X.stack s H [] [] Q E hr gd I.env0 .nil h) fun r s' hq => ?_)
  cases r with
  | error e => exact hx pins σ H s e s' I hq
  | ok fl =>
    cases fl with
    | ret u => exact I.after hq
    | next => exact False.elim hq
    | brk => exact False.elim hq
    | cont => exact False.elim hq
end
end Ow
end
section
namespace Pf
open PySem PySem.Spec PyProof.Rows L2 Ow
def topS (i : Nat) : Stmt := PySem.Challenge.pw_heldfloods_k33_boxes_at_sizes.main.body.getD i (.Pass ⟨0, 0, 0, 0⟩)
abbrev s_BadPlace_init : Stmt := inClass (topS 2) 0
theorem sc_BadPlace_init : FnScope ["self", "part"] ["self", "part"] (defScope s_BadPlace_init) := ⟨rfl, rfl, rfl, by decide +kernel, rfl, by decide +kernel, by decide +kernel⟩
abbrev s_BadSize_init : Stmt := inClass (topS 3) 0
theorem sc_BadSize_init : FnScope ["self", "part"] ["self", "part"] (defScope s_BadSize_init) := ⟨rfl, rfl, rfl, by decide +kernel, rfl, by decide +kernel, by decide +kernel⟩
abbrev s_is_int : Stmt := topS 13
theorem sc_is_int : FnScope ["value"] ["value"] (defScope s_is_int) := ⟨rfl, rfl, rfl, by decide +kernel, rfl, by decide +kernel, by decide +kernel⟩
abbrev s_check_size : Stmt := topS 14
theorem sc_check_size : FnScope ["value", "part"] ["value", "part"] (defScope s_check_size) := ⟨rfl, rfl, rfl, by decide +kernel, rfl, by decide +kernel, by decide +kernel⟩
abbrev s_Place_init : Stmt := inClass (topS 19) 0
theorem sc_Place_init : FnScope ["self", "slope", "offset", "odd"] ["self", "slope", "offset", "odd"] (defScope s_Place_init) := ⟨rfl, rfl, rfl, by decide +kernel, rfl, by decide +kernel, by decide +kernel⟩
abbrev s_Place_slope : Stmt := inClass (topS 19) 1
theorem sc_Place_slope : FnScope ["self"] ["self"] (defScope s_Place_slope) := ⟨rfl, rfl, rfl, by decide +kernel, rfl, by decide +kernel, by decide +kernel⟩
abbrev s_Place_offset : Stmt := inClass (topS 19) 2
theorem sc_Place_offset : FnScope ["self"] ["self"] (defScope s_Place_offset) := ⟨rfl, rfl, rfl, by decide +kernel, rfl, by decide +kernel, by decide +kernel⟩
abbrev s_Place_odd : Stmt := inClass (topS 19) 3
theorem sc_Place_odd : FnScope ["self"] ["self"] (defScope s_Place_odd) := ⟨rfl, rfl, rfl, by decide +kernel, rfl, by decide +kernel, by decide +kernel⟩
abbrev s_Place_call : Stmt := inClass (topS 19) 4
theorem sc_Place_call : FnScope ["self", "size"] ["self", "size"] (defScope s_Place_call) := ⟨rfl, rfl, rfl, by decide +kernel, rfl, by decide +kernel, by decide +kernel⟩
abbrev s_from_left : Stmt := topS 20
theorem sc_from_left : FnScope ["k"] ["k"] (defScope s_from_left) := ⟨rfl, rfl, rfl, by decide +kernel, rfl, by decide +kernel, by decide +kernel⟩
abbrev s_from_right : Stmt := topS 21
theorem sc_from_right : FnScope ["k"] ["k"] (defScope s_from_right) := ⟨rfl, rfl, rfl, by decide +kernel, rfl, by decide +kernel, by decide +kernel⟩
abbrev s_parts_of : Stmt := topS 23
theorem sc_parts_of : FnScope ["place"] ["place"] (defScope s_parts_of) := ⟨rfl, rfl, rfl, by decide +kernel, rfl, by decide +kernel, by decide +kernel⟩
abbrev s_mirrored_parts : Stmt := topS 24
theorem sc_mirrored_parts : FnScope ["parts", "slope", "offset", "odd"] ["parts"] (defScope s_mirrored_parts) := ⟨rfl, rfl, rfl, by decide +kernel, rfl, by decide +kernel, by decide +kernel⟩
abbrev s_Place_invert : Stmt := inClass (topS 19) 8
theorem sc_Place_invert : FnScope ["self", "slope", "offset", "odd"] ["self"] (defScope s_Place_invert) := ⟨rfl, rfl, rfl, by decide +kernel, rfl, by decide +kernel, by decide +kernel⟩
abbrev s_Place_eq : Stmt := inClass (topS 19) 9
theorem sc_Place_eq : FnScope ["self", "other"] ["self", "other"] (defScope s_Place_eq) := ⟨rfl, rfl, rfl, by decide +kernel, rfl, by decide +kernel, by decide +kernel⟩
abbrev s_place_words : Stmt := topS 27
theorem sc_place_words : FnScope ["slope", "offset", "odd"] ["slope", "offset", "odd"] (defScope s_place_words) := ⟨rfl, rfl, rfl, by decide +kernel, rfl, by decide +kernel, by decide +kernel⟩
abbrev s_Place_str : Stmt := inClass (topS 19) 14
theorem sc_Place_str : FnScope ["self"] ["self"] (defScope s_Place_str) := ⟨rfl, rfl, rfl, by decide +kernel, rfl, by decide +kernel, by decide +kernel⟩
abbrev s_bounded_place : Stmt := topS 25
theorem sc_bounded_place : FnScope ["value", "place", "number"] ["value"] (defScope s_bounded_place) := ⟨rfl, rfl, rfl, by decide +kernel, rfl, by decide +kernel, by decide +kernel⟩
abbrev s_checked_place : Stmt := topS 26
theorem sc_checked_place : FnScope ["value", "part", "place"] ["value", "part"] (defScope s_checked_place) := ⟨rfl, rfl, rfl, by decide +kernel, rfl, by decide +kernel, by decide +kernel⟩
abbrev s_Box_init : Stmt := inClass (topS 32) 0
theorem sc_Box_init : FnScope ["self", "x0", "x1", "y0", "y1"] ["self", "x0", "x1", "y0", "y1"] (defScope s_Box_init) := ⟨rfl, rfl, rfl, by decide +kernel, rfl, by decide +kernel, by decide +kernel⟩
abbrev s_Box_call : Stmt := inClass (topS 32) 1
theorem sc_Box_call : FnScope ["self", "width", "height"] ["self", "width", "height"] (defScope s_Box_call) := ⟨rfl, rfl, rfl, by decide +kernel, rfl, by decide +kernel, by decide +kernel⟩
abbrev s_box_places : Stmt := topS 33
theorem sc_box_places : FnScope ["box"] ["box"] (defScope s_box_places) := ⟨rfl, rfl, rfl, by decide +kernel, rfl, by decide +kernel, by decide +kernel⟩
abbrev s_Box_invert : Stmt := inClass (topS 32) 2
theorem sc_Box_invert : FnScope ["self"] ["self"] (defScope s_Box_invert) := ⟨rfl, rfl, rfl, by decide +kernel, rfl, by decide +kernel, by decide +kernel⟩
abbrev s_Box_eq : Stmt := inClass (topS 32) 3
theorem sc_Box_eq : FnScope ["self", "other"] ["self", "other"] (defScope s_Box_eq) := ⟨rfl, rfl, rfl, by decide +kernel, rfl, by decide +kernel, by decide +kernel⟩
abbrev s_Box_str : Stmt := inClass (topS 32) 4
theorem sc_Box_str : FnScope ["self", "place"] ["self"] (defScope s_Box_str) := ⟨rfl, rfl, rfl, by decide +kernel, rfl, by decide +kernel, by decide +kernel⟩
abbrev s_Box_whole : Stmt := inClass (topS 32) 5
theorem sc_Box_whole : FnScope [] [] (defScope s_Box_whole) := ⟨rfl, rfl, rfl, by decide +kernel, rfl, by decide +kernel, by decide +kernel⟩
abbrev s_Box_inside : Stmt := inClass (topS 32) 6
theorem sc_Box_inside : FnScope ["cls", "margin", "begin", "end"] ["cls", "margin"] (defScope s_Box_inside) := ⟨rfl, rfl, rfl, by decide +kernel, rfl, by decide +kernel, by decide +kernel⟩
abbrev s__law_pen : Stmt := topS 35
theorem sc__law_pen : FnScope ["_law_script"] ["_law_script"] (defScope s__law_pen) := ⟨rfl, rfl, rfl, by decide +kernel, rfl, by decide +kernel, by decide +kernel⟩
abbrev s__law_draw : Stmt := topS 36
theorem sc__law_draw : FnScope ["_law_pen_here", "_law_many", "_law_digit", "_law_at_here", "_law_cell", "_law_great", "_law_mixed"] ["_law_pen_here", "_law_many"] (defScope s__law_draw) := ⟨rfl, rfl, rfl, by decide +kernel, rfl, by decide +kernel, by decide +kernel⟩
abbrev s__law_pick : Stmt := topS 37
theorem sc__law_pick : FnScope ["_law_pen_here", "_law_some"] ["_law_pen_here", "_law_some"] (defScope s__law_pick) := ⟨rfl, rfl, rfl, by decide +kernel, rfl, by decide +kernel, by decide +kernel⟩
abbrev s__law_place : Stmt := topS 38
theorem sc__law_place : FnScope ["_law_pen_here", "_law_k"] ["_law_pen_here"] (defScope s__law_place) := ⟨rfl, rfl, rfl, by decide +kernel, rfl, by decide +kernel, by decide +kernel⟩
abbrev s__law_at : Stmt := topS 39
theorem sc__law_at : FnScope ["_law_place_here", "_law_size"] ["_law_place_here", "_law_size"] (defScope s__law_at) := ⟨rfl, rfl, rfl, by decide +kernel, rfl, by decide +kernel, by decide +kernel⟩
abbrev s__law_built_place : Stmt := topS 40
theorem sc__law_built_place : FnScope ["_law_pen_here", "_law_place_here"] ["_law_pen_here", "_law_place_here"] (defScope s__law_built_place) := ⟨rfl, rfl, rfl, by decide +kernel, rfl, by decide +kernel, by decide +kernel⟩
abbrev s__law_built_box : Stmt := topS 41
theorem sc__law_built_box : FnScope ["_law_pen_here", "_law_four_here", "_law_some", "_law_place_here"] ["_law_pen_here", "_law_four_here"] (defScope s__law_built_box) := ⟨rfl, rfl, rfl, by decide +kernel, rfl, by decide +kernel, by decide +kernel⟩
abbrev s__law_ends : Stmt := topS 42
theorem sc__law_ends : FnScope ["_law_box", "_law_width", "_law_height"] ["_law_box", "_law_width", "_law_height"] (defScope s__law_ends) := ⟨rfl, rfl, rfl, by decide +kernel, rfl, by decide +kernel, by decide +kernel⟩
abbrev s__law_mirror_place : Stmt := topS 43
theorem sc__law_mirror_place : FnScope ["_law_place_here"] ["_law_place_here"] (defScope s__law_mirror_place) := ⟨rfl, rfl, rfl, by decide +kernel, rfl, by decide +kernel, by decide +kernel⟩
abbrev s__law_place_text : Stmt := topS 44
theorem sc__law_place_text : FnScope ["_law_place_here"] ["_law_place_here"] (defScope s__law_place_text) := ⟨rfl, rfl, rfl, by decide +kernel, rfl, by decide +kernel, by decide +kernel⟩
abbrev s__law_box_text : Stmt := topS 45
theorem sc__law_box_text : FnScope ["_law_box", "_law_place_here"] ["_law_box"] (defScope s__law_box_text) := ⟨rfl, rfl, rfl, by decide +kernel, rfl, by decide +kernel, by decide +kernel⟩
abbrev s__law_errors : Stmt := topS 46
theorem sc__law_errors : FnScope ["_law_ask", "_law_caught", "_law_found", "error", "_law_some"] ["_law_ask"] (defScope s__law_errors) := ⟨rfl, rfl, rfl, by decide +kernel, rfl, by decide +kernel, by decide +kernel⟩
abbrev s__law_any_place : Stmt := topS 47
theorem sc__law_any_place : FnScope ["_law_pen_here"] ["_law_pen_here"] (defScope s__law_any_place) := ⟨rfl, rfl, rfl, by decide +kernel, rfl, by decide +kernel, by decide +kernel⟩
abbrev s__law_four : Stmt := topS 48
theorem sc__law_four : FnScope ["_law_pen_here"] ["_law_pen_here"] (defScope s__law_four) := ⟨rfl, rfl, rfl, by decide +kernel, rfl, by decide +kernel, by decide +kernel⟩
abbrev s__law_parts : Stmt := topS 49
theorem sc__law_parts : FnScope ["_law_place_here"] ["_law_place_here"] (defScope s__law_parts) := ⟨rfl, rfl, rfl, by decide +kernel, rfl, by decide +kernel, by decide +kernel⟩
abbrev s__law_is : Stmt := topS 50
theorem sc__law_is : FnScope ["_law_box", "_law_told", "_law_sizes", "_law_parts_here", "_law_width", "_law_height"] ["_law_box", "_law_told", "_law_sizes"] (defScope s__law_is) := ⟨rfl, rfl, rfl, by decide +kernel, rfl, by decide +kernel, by decide +kernel⟩
abbrev s__law_mirrored : Stmt := topS 51
theorem sc__law_mirrored : FnScope ["_law_told"] ["_law_told"] (defScope s__law_mirrored) := ⟨rfl, rfl, rfl, by decide +kernel, rfl, by decide +kernel, by decide +kernel⟩
abbrev s__law_refused_right : Stmt := topS 52
theorem sc__law_refused_right : FnScope ["_law_pen_here", "_law_box", "_law_at_here", "_law_due", "_law_odd", "_law_size", "_law_some", "_law_k"] ["_law_pen_here", "_law_box"] (defScope s__law_refused_right) := ⟨rfl, rfl, rfl, by decide +kernel, rfl, by decide +kernel, by decide +kernel⟩
abbrev s__law_bounds_right : Stmt := topS 53
theorem sc__law_bounds_right : FnScope ["_law_pen_here", "_law_far", "_law_at_here", "_law_part", "_law_step", "_law_near", "_law_beyond", "_law_some", "_law_heard", "_law_is_let", "_law_name", "_law_odd", "_law_box", "_law_places", "_law_k", "_law_one"] ["_law_pen_here"] (defScope s__law_bounds_right) := ⟨rfl, rfl, rfl, by decide +kernel, rfl, by decide +kernel, by decide +kernel⟩
abbrev s__law_far_margins_right : Stmt := topS 54
theorem sc__law_far_margins_right : FnScope ["_law_k", "_law_heard"] [] (defScope s__law_far_margins_right) := ⟨rfl, rfl, rfl, by decide +kernel, rfl, by decide +kernel, by decide +kernel⟩
abbrev s_law : Stmt := topS 55
theorem sc_law : FnScope ["_law_script", "_law_pen_here", "_law_sizes", "_law_turn", "_law_told", "_law_other", "_law_box", "_law_k", "_law_inner", "_law_named"] ["_law_script"] (defScope s_law) := ⟨rfl, rfl, rfl, by decide +kernel, rfl, by decide +kernel, by decide +kernel⟩
structure Adr where
  BadPlace_init : Addr
  BadSize_init : Addr
  is_int : Addr
  check_size : Addr
  Place_init : Addr
  Place_slope : Addr
  Place_offset : Addr
  Place_odd : Addr
  Place_call : Addr
  from_left : Addr
  from_right : Addr
  parts_of : Addr
  mirrored_parts : Addr
  Place_invert : Addr
  Place_eq : Addr
  place_words : Addr
  Place_str : Addr
  bounded_place : Addr
  checked_place : Addr
  Box_init : Addr
  Box_call : Addr
  box_places : Addr
  Box_invert : Addr
  Box_eq : Addr
  Box_str : Addr
  Box_whole : Addr
  Box_inside : Addr
  _law_pen : Addr
  _law_draw : Addr
  _law_pick : Addr
  _law_place : Addr
  _law_at : Addr
  _law_built_place : Addr
  _law_built_box : Addr
  _law_ends : Addr
  _law_mirror_place : Addr
  _law_place_text : Addr
  _law_box_text : Addr
  _law_errors : Addr
  _law_any_place : Addr
  _law_four : Addr
  _law_parts : Addr
  _law_is : Addr
  _law_mirrored : Addr
  _law_refused_right : Addr
  _law_bounds_right : Addr
  _law_far_margins_right : Addr
  law : Addr
  Place : Addr
  pr_Place_slope : Addr
  pr_Place_offset : Addr
  pr_Place_odd : Addr
  Box : Addr
  BadPlace : Addr
  BadSize : Addr
  HoldError : Addr
  BOUNDt : Addr
  sm_whole : Addr
  cm_inside : Addr
  BadColour : Addr
  BadPixel : Addr
  BadDeed : Addr
  BadProgram : Addr
  TooMany : Addr
  NoDeed : Addr
  NoFlood : Addr
structure Txt (K : PySem.W.Frag) (mg : Str → Option Value) (a : Adr) : Prop where
  n_len : mg "len" = none
  n_int : mg "int" = none
  n_abs : mg "abs" = none
  n_list : mg "list" = none
  n_range : mg "range" = none
  n_repr : mg "repr" = none
  n_tuple : mg "tuple" = none
  n_str : mg "str" = none
  n_isinstance : mg "isinstance" = none
  n_bool : mg "bool" = none
  n_all : mg "all" = none
  n_ValueError : mg "ValueError" = none
  d_BadPlace_init : FnT K "__init__" "BadPlace.__init__" s_BadPlace_init [] a.BadPlace_init
  d_BadSize_init : FnT K "__init__" "BadSize.__init__" s_BadSize_init [] a.BadSize_init
  d_is_int : FnT K "is_int" "is_int" s_is_int [] a.is_int
  m_is_int : mg "is_int" = some (.ref a.is_int)
  k_is_int : PySem.W.keepIn K (.ref a.is_int) = true
  d_check_size : FnT K "check_size" "check_size" s_check_size [] a.check_size
  m_check_size : mg "check_size" = some (.ref a.check_size)
  k_check_size : PySem.W.keepIn K (.ref a.check_size) = true
  d_Place_init : FnT K "__init__" "Place.__init__" s_Place_init [.int 0] a.Place_init
  d_Place_slope : FnT K "slope" "Place.slope" s_Place_slope [] a.Place_slope
  d_Place_offset : FnT K "offset" "Place.offset" s_Place_offset [] a.Place_offset
  d_Place_odd : FnT K "odd" "Place.odd" s_Place_odd [] a.Place_odd
  d_Place_call : FnT K "__call__" "Place.__call__" s_Place_call [] a.Place_call
  d_from_left : FnT K "from_left" "from_left" s_from_left [.int 0] a.from_left
  m_from_left : mg "from_left" = some (.ref a.from_left)
  k_from_left : PySem.W.keepIn K (.ref a.from_left) = true
  d_from_right : FnT K "from_right" "from_right" s_from_right [.int 0] a.from_right
  m_from_right : mg "from_right" = some (.ref a.from_right)
  k_from_right : PySem.W.keepIn K (.ref a.from_right) = true
  d_parts_of : FnT K "parts_of" "parts_of" s_parts_of [] a.parts_of
  m_parts_of : mg "parts_of" = some (.ref a.parts_of)
  k_parts_of : PySem.W.keepIn K (.ref a.parts_of) = true
  d_mirrored_parts : FnT K "mirrored_parts" "mirrored_parts" s_mirrored_parts [] a.mirrored_parts
  m_mirrored_parts : mg "mirrored_parts" = some (.ref a.mirrored_parts)
  k_mirrored_parts : PySem.W.keepIn K (.ref a.mirrored_parts) = true
  d_Place_invert : FnT K "__invert__" "Place.__invert__" s_Place_invert [] a.Place_invert
  d_Place_eq : FnT K "__eq__" "Place.__eq__" s_Place_eq [] a.Place_eq
  d_place_words : FnT K "place_words" "place_words" s_place_words [] a.place_words
  m_place_words : mg "place_words" = some (.ref a.place_words)
  k_place_words : PySem.W.keepIn K (.ref a.place_words) = true
  d_Place_str : FnT K "__str__" "Place.__str__" s_Place_str [] a.Place_str
  d_bounded_place : FnT K "bounded_place" "bounded_place" s_bounded_place [] a.bounded_place
  m_bounded_place : mg "bounded_place" = some (.ref a.bounded_place)
  k_bounded_place : PySem.W.keepIn K (.ref a.bounded_place) = true
  d_checked_place : FnT K "checked_place" "checked_place" s_checked_place [] a.checked_place
  m_checked_place : mg "checked_place" = some (.ref a.checked_place)
  k_checked_place : PySem.W.keepIn K (.ref a.checked_place) = true
  d_Box_init : FnT K "__init__" "Box.__init__" s_Box_init [] a.Box_init
  d_Box_call : FnT K "__call__" "Box.__call__" s_Box_call [] a.Box_call
  d_box_places : FnT K "box_places" "box_places" s_box_places [] a.box_places
  m_box_places : mg "box_places" = some (.ref a.box_places)
  k_box_places : PySem.W.keepIn K (.ref a.box_places) = true
  d_Box_invert : FnT K "__invert__" "Box.__invert__" s_Box_invert [] a.Box_invert
  d_Box_eq : FnT K "__eq__" "Box.__eq__" s_Box_eq [] a.Box_eq
  d_Box_str : FnT K "__str__" "Box.__str__" s_Box_str [] a.Box_str
  d_Box_whole : FnT K "whole" "Box.whole" s_Box_whole [] a.Box_whole
  d_Box_inside : FnT K "inside" "Box.inside" s_Box_inside [] a.Box_inside
  d__law_pen : FnT K "_law_pen" "_law_pen" s__law_pen [] a._law_pen
  m__law_pen : mg "_law_pen" = some (.ref a._law_pen)
  k__law_pen : PySem.W.keepIn K (.ref a._law_pen) = true
  d__law_draw : FnT K "_law_draw" "_law_draw" s__law_draw [] a._law_draw
  m__law_draw : mg "_law_draw" = some (.ref a._law_draw)
  k__law_draw : PySem.W.keepIn K (.ref a._law_draw) = true
  d__law_pick : FnT K "_law_pick" "_law_pick" s__law_pick [] a._law_pick
  m__law_pick : mg "_law_pick" = some (.ref a._law_pick)
  k__law_pick : PySem.W.keepIn K (.ref a._law_pick) = true
  d__law_place : FnT K "_law_place" "_law_place" s__law_place [] a._law_place
  m__law_place : mg "_law_place" = some (.ref a._law_place)
  k__law_place : PySem.W.keepIn K (.ref a._law_place) = true
  d__law_at : FnT K "_law_at" "_law_at" s__law_at [] a._law_at
  m__law_at : mg "_law_at" = some (.ref a._law_at)
  k__law_at : PySem.W.keepIn K (.ref a._law_at) = true
  d__law_built_place : FnT K "_law_built_place" "_law_built_place" s__law_built_place [] a._law_built_place
  m__law_built_place : mg "_law_built_place" = some (.ref a._law_built_place)
  k__law_built_place : PySem.W.keepIn K (.ref a._law_built_place) = true
  d__law_built_box : FnT K "_law_built_box" "_law_built_box" s__law_built_box [] a._law_built_box
  m__law_built_box : mg "_law_built_box" = some (.ref a._law_built_box)
  k__law_built_box : PySem.W.keepIn K (.ref a._law_built_box) = true
  d__law_ends : FnT K "_law_ends" "_law_ends" s__law_ends [] a._law_ends
  m__law_ends : mg "_law_ends" = some (.ref a._law_ends)
  k__law_ends : PySem.W.keepIn K (.ref a._law_ends) = true
  d__law_mirror_place : FnT K "_law_mirror_place" "_law_mirror_place" s__law_mirror_place [] a._law_mirror_place
  m__law_mirror_place : mg "_law_mirror_place" = some (.ref a._law_mirror_place)
  k__law_mirror_place : PySem.W.keepIn K (.ref a._law_mirror_place) = true
  d__law_place_text : FnT K "_law_place_text" "_law_place_text" s__law_place_text [] a._law_place_text
  m__law_place_text : mg "_law_place_text" = some (.ref a._law_place_text)
  k__law_place_text : PySem.W.keepIn K (.ref a._law_place_text) = true
  d__law_box_text : FnT K "_law_box_text" "_law_box_text" s__law_box_text [] a._law_box_text
  m__law_box_text : mg "_law_box_text" = some (.ref a._law_box_text)
  k__law_box_text : PySem.W.keepIn K (.ref a._law_box_text) = true
  d__law_errors : FnT K "_law_errors" "_law_errors" s__law_errors [] a._law_errors
  m__law_errors : mg "_law_errors" = some (.ref a._law_errors)
  k__law_errors : PySem.W.keepIn K (.ref a._law_errors) = true
  d__law_any_place : FnT K "_law_any_place" "_law_any_place" s__law_any_place [] a._law_any_place
  m__law_any_place : mg "_law_any_place" = some (.ref a._law_any_place)
  k__law_any_place : PySem.W.keepIn K (.ref a._law_any_place) = true
  d__law_four : FnT K "_law_four" "_law_four" s__law_four [] a._law_four
  m__law_four : mg "_law_four" = some (.ref a._law_four)
  k__law_four : PySem.W.keepIn K (.ref a._law_four) = true
  d__law_parts : FnT K "_law_parts" "_law_parts" s__law_parts [] a._law_parts
  m__law_parts : mg "_law_parts" = some (.ref a._law_parts)
  k__law_parts : PySem.W.keepIn K (.ref a._law_parts) = true
  d__law_is : FnT K "_law_is" "_law_is" s__law_is [] a._law_is
  m__law_is : mg "_law_is" = some (.ref a._law_is)
  k__law_is : PySem.W.keepIn K (.ref a._law_is) = true
  d__law_mirrored : FnT K "_law_mirrored" "_law_mirrored" s__law_mirrored [] a._law_mirrored
  m__law_mirrored : mg "_law_mirrored" = some (.ref a._law_mirrored)
  k__law_mirrored : PySem.W.keepIn K (.ref a._law_mirrored) = true
  d__law_refused_right : FnT K "_law_refused_right" "_law_refused_right" s__law_refused_right [] a._law_refused_right
  m__law_refused_right : mg "_law_refused_right" = some (.ref a._law_refused_right)
  k__law_refused_right : PySem.W.keepIn K (.ref a._law_refused_right) = true
  d__law_bounds_right : FnT K "_law_bounds_right" "_law_bounds_right" s__law_bounds_right [] a._law_bounds_right
  m__law_bounds_right : mg "_law_bounds_right" = some (.ref a._law_bounds_right)
  k__law_bounds_right : PySem.W.keepIn K (.ref a._law_bounds_right) = true
  d__law_far_margins_right : FnT K "_law_far_margins_right" "_law_far_margins_right" s__law_far_margins_right [] a._law_far_margins_right
  m__law_far_margins_right : mg "_law_far_margins_right" = some (.ref a._law_far_margins_right)
  k__law_far_margins_right : PySem.W.keepIn K (.ref a._law_far_margins_right) = true
  d_law : FnT K "law" "law" s_law [] a.law
  m_law : mg "law" = some (.ref a.law)
  k_law : PySem.W.keepIn K (.ref a.law) = true
  m_Place : mg "Place" = some (.ref a.Place)
  c_Place : ClsF K a.Place
  M_Place : Mk K a.Place a.Place_init
  a_Place__slope : NoAttr K a.Place "_slope"
  a_Place__offset : NoAttr K a.Place "_offset"
  a_Place__odd : NoAttr K a.Place "_odd"
  p_Place_slope : PropR K a.Place "slope" a.pr_Place_slope a.Place_slope
  p_Place_offset : PropR K a.Place "offset" a.pr_Place_offset a.Place_offset
  p_Place_odd : PropR K a.Place "odd" a.pr_Place_odd a.Place_odd
  o_Place_eq : PySem.W.findIn K (.ref a.Place) "__eq__" = some (some (.ref a.Place_eq))
  f_Place_eq : PySem.W.isFn K (.ref a.Place_eq) = true
  o_Place_call : PySem.W.findIn K (.ref a.Place) "__call__" = some (some (.ref a.Place_call))
  f_Place_call : PySem.W.isFn K (.ref a.Place_call) = true
  o_Place_invert : PySem.W.findIn K (.ref a.Place) "__invert__" = some (some (.ref a.Place_invert))
  f_Place_invert : PySem.W.isFn K (.ref a.Place_invert) = true
  o_Place_str : PySem.W.findIn K (.ref a.Place) "__str__" = some (some (.ref a.Place_str))
  f_Place_str : PySem.W.isFn K (.ref a.Place_str) = true
  s_Place_not : PySem.W.notFirst K a.Place (.ref a.Place) = true
  s_Place_int : PySem.W.subIn K (.type "int") (.ref a.Place) = some false
  s_Place_tuple : PySem.W.subIn K (.type "tuple") (.ref a.Place) = some false
  fi_Place_call : PySem.W.fnIn K a.Place_call = true
  q_Place_none : PySem.W.subIn K (.type "NoneType") (.ref a.Place) = some false
  q_Place_str : PySem.W.subIn K (.type "str") (.ref a.Place) = some false
  q_Place_bool : PySem.W.subIn K (.type "bool") (.ref a.Place) = some false
  q_Place_list : PySem.W.subIn K (.type "list") (.ref a.Place) = some false
  q_Place_dict : PySem.W.subIn K (.type "dict") (.ref a.Place) = some false
  s_Place_first : PySem.W.selfFirst K a.Place = true
  s_Place_isint : PySem.W.subIn K (.ref a.Place) (.type "int") = some false
  m_Box : mg "Box" = some (.ref a.Box)
  c_Box : ClsF K a.Box
  M_Box : Mk K a.Box a.Box_init
  a_Box_x0 : NoAttr K a.Box "x0"
  a_Box_x1 : NoAttr K a.Box "x1"
  a_Box_y0 : NoAttr K a.Box "y0"
  a_Box_y1 : NoAttr K a.Box "y1"
  o_Box_eq : PySem.W.findIn K (.ref a.Box) "__eq__" = some (some (.ref a.Box_eq))
  f_Box_eq : PySem.W.isFn K (.ref a.Box_eq) = true
  o_Box_call : PySem.W.findIn K (.ref a.Box) "__call__" = some (some (.ref a.Box_call))
  f_Box_call : PySem.W.isFn K (.ref a.Box_call) = true
  o_Box_invert : PySem.W.findIn K (.ref a.Box) "__invert__" = some (some (.ref a.Box_invert))
  f_Box_invert : PySem.W.isFn K (.ref a.Box_invert) = true
  o_Box_str : PySem.W.findIn K (.ref a.Box) "__str__" = some (some (.ref a.Box_str))
  f_Box_str : PySem.W.isFn K (.ref a.Box_str) = true
  fi_Box_call : PySem.W.fnIn K a.Box_call = true
  cr_Box : ClX.CRead K a.Box (.type "type")
  sm_whole : SMet K a.Box (.type "type") "whole" a.sm_whole a.Box_whole
  cm_inside : ClX.CMet K a.Box (.type "type") "inside" a.cm_inside a.Box_inside
  k_tuple : PySem.W.subIn K (.type "tuple") (.ref a.Box) = some false
  k_none : PySem.W.subIn K (.type "NoneType") (.ref a.Box) = some false
  k_str : PySem.W.subIn K (.type "str") (.ref a.Box) = some false
  s_Box_not : PySem.W.notFirst K a.Box (.ref a.Box) = true
  m_HoldError : mg "HoldError" = some (.ref a.HoldError)
  xf_BadPlace : XfC K a.BadPlace
  xc_BadPlace : ExcC K a.BadPlace
  xi_BadPlace : (PySem.W.clsIn K a.BadPlace).isSome = true
  xt_BadPlace : PySem.W.typeIn K (.ref a.BadPlace) = some (.type "type")
  xm_BadPlace_HoldError : PySem.W.exmOne K (.ref a.BadPlace) (.ref a.HoldError) = some true
  xm_BadPlace_BadPlace : PySem.W.exmOne K (.ref a.BadPlace) (.ref a.BadPlace) = some true
  xs_BadPlace_BadSize : PySem.W.subIn K (.ref a.BadPlace) (.ref a.BadSize) = some false
  xn_BadPlace_BadSize : ((.ref a.BadPlace : Value) == .ref a.BadSize) = false
  xf_BadSize : XfC K a.BadSize
  xc_BadSize : ExcC K a.BadSize
  xi_BadSize : (PySem.W.clsIn K a.BadSize).isSome = true
  xt_BadSize : PySem.W.typeIn K (.ref a.BadSize) = some (.type "type")
  xm_BadSize_HoldError : PySem.W.exmOne K (.ref a.BadSize) (.ref a.HoldError) = some true
  xm_BadSize_BadSize : PySem.W.exmOne K (.ref a.BadSize) (.ref a.BadSize) = some true
  xs_BadSize_BadPlace : PySem.W.subIn K (.ref a.BadSize) (.ref a.BadPlace) = some false
  xn_BadSize_BadPlace : ((.ref a.BadSize : Value) == .ref a.BadPlace) = false
  m_BadColour : mg "BadColour" = some (.ref a.BadColour)
  m_BadPixel : mg "BadPixel" = some (.ref a.BadPixel)
  m_BadDeed : mg "BadDeed" = some (.ref a.BadDeed)
  m_BadProgram : mg "BadProgram" = some (.ref a.BadProgram)
  m_TooMany : mg "TooMany" = some (.ref a.TooMany)
  m_NoDeed : mg "NoDeed" = some (.ref a.NoDeed)
  m_NoFlood : mg "NoFlood" = some (.ref a.NoFlood)
  m_BOUND : mg "BOUND" = some (.int 1000000000000 a.BOUNDt)
  xi_BadColour : PySem.W.isClsIn K a.BadColour = true
  xt_BadColour : PySem.W.typeIn K (.ref a.BadColour) = some (.type "type")
  xi_BadPixel : PySem.W.isClsIn K a.BadPixel = true
  xt_BadPixel : PySem.W.typeIn K (.ref a.BadPixel) = some (.type "type")
  xi_BadDeed : PySem.W.isClsIn K a.BadDeed = true
  xt_BadDeed : PySem.W.typeIn K (.ref a.BadDeed) = some (.type "type")
  xi_BadProgram : PySem.W.isClsIn K a.BadProgram = true
  xt_BadProgram : PySem.W.typeIn K (.ref a.BadProgram) = some (.type "type")
  xi_TooMany : PySem.W.isClsIn K a.TooMany = true
  xt_TooMany : PySem.W.typeIn K (.ref a.TooMany) = some (.type "type")
  xi_NoDeed : PySem.W.isClsIn K a.NoDeed = true
  xt_NoDeed : PySem.W.typeIn K (.ref a.NoDeed) = some (.type "type")
  xi_NoFlood : PySem.W.isClsIn K a.NoFlood = true
  xt_NoFlood : PySem.W.typeIn K (.ref a.NoFlood) = some (.type "type")
  xv_BadPlace : PySem.W.subIn K (.ref a.BadPlace) (.type "ValueError") = some true
  xs_BadPlace_BadColour : PySem.W.subIn K (.ref a.BadPlace) (.ref a.BadColour) = some false
  xs_BadPlace_BadPixel : PySem.W.subIn K (.ref a.BadPlace) (.ref a.BadPixel) = some false
  xs_BadPlace_BadDeed : PySem.W.subIn K (.ref a.BadPlace) (.ref a.BadDeed) = some false
  xs_BadPlace_BadProgram : PySem.W.subIn K (.ref a.BadPlace) (.ref a.BadProgram) = some false
  xs_BadPlace_TooMany : PySem.W.subIn K (.ref a.BadPlace) (.ref a.TooMany) = some false
  xs_BadPlace_NoDeed : PySem.W.subIn K (.ref a.BadPlace) (.ref a.NoDeed) = some false
  xs_BadPlace_NoFlood : PySem.W.subIn K (.ref a.BadPlace) (.ref a.NoFlood) = some false
  xv_BadSize : PySem.W.subIn K (.ref a.BadSize) (.type "ValueError") = some true
  xs_BadSize_BadColour : PySem.W.subIn K (.ref a.BadSize) (.ref a.BadColour) = some false
  xs_BadSize_BadPixel : PySem.W.subIn K (.ref a.BadSize) (.ref a.BadPixel) = some false
  xs_BadSize_BadDeed : PySem.W.subIn K (.ref a.BadSize) (.ref a.BadDeed) = some false
  xs_BadSize_BadProgram : PySem.W.subIn K (.ref a.BadSize) (.ref a.BadProgram) = some false
  xs_BadSize_TooMany : PySem.W.subIn K (.ref a.BadSize) (.ref a.TooMany) = some false
  xs_BadSize_NoDeed : PySem.W.subIn K (.ref a.BadSize) (.ref a.NoDeed) = some false
  xs_BadSize_NoFlood : PySem.W.subIn K (.ref a.BadSize) (.ref a.NoFlood) = some false
  xn_BadPlace_BadColour : ((.ref a.BadPlace : Value) == .ref a.BadColour) = false
  xn_BadPlace_BadPixel : ((.ref a.BadPlace : Value) == .ref a.BadPixel) = false
  xn_BadPlace_BadDeed : ((.ref a.BadPlace : Value) == .ref a.BadDeed) = false
  xn_BadPlace_BadProgram : ((.ref a.BadPlace : Value) == .ref a.BadProgram) = false
  xn_BadPlace_TooMany : ((.ref a.BadPlace : Value) == .ref a.TooMany) = false
  xn_BadPlace_NoDeed : ((.ref a.BadPlace : Value) == .ref a.NoDeed) = false
  xn_BadPlace_NoFlood : ((.ref a.BadPlace : Value) == .ref a.NoFlood) = false
  xn_BadSize_BadColour : ((.ref a.BadSize : Value) == .ref a.BadColour) = false
  xn_BadSize_BadPixel : ((.ref a.BadSize : Value) == .ref a.BadPixel) = false
  xn_BadSize_BadDeed : ((.ref a.BadSize : Value) == .ref a.BadDeed) = false
  xn_BadSize_BadProgram : ((.ref a.BadSize : Value) == .ref a.BadProgram) = false
  xn_BadSize_TooMany : ((.ref a.BadSize : Value) == .ref a.TooMany) = false
  xn_BadSize_NoDeed : ((.ref a.BadSize : Value) == .ref a.NoDeed) = false
  xn_BadSize_NoFlood : ((.ref a.BadSize : Value) == .ref a.NoFlood) = false
  m_BadPlace : mg "BadPlace" = some (.ref a.BadPlace)
  e_BadPlace : ErrF K a.BadPlace a.BadPlace_init
  a_BadPlace_part : PySem.W.findIn K (.ref a.BadPlace) "part" = some none
  m_BadSize : mg "BadSize" = some (.ref a.BadSize)
  e_BadSize : ErrF K a.BadSize a.BadSize_init
  a_BadSize_part : PySem.W.findIn K (.ref a.BadSize) "part" = some none
end Pf
end
section
namespace Pf
open PySem PySem.Spec PyProof.Rows L2 Ow StX
/-! ### places -/
theorem kSO : ¬ (("_slope" : Str) = "_offset") := by decide +kernel
theorem kSD : ¬ (("_slope" : Str) = "_odd") := by decide +kernel
theorem kOD : ¬ (("_offset" : Str) = "_odd") := by decide +kernel
def plF (s o d : Int) : List (Str × V) := putF "_odd" (.int d) (putF "_offset" (.int o) (putF "_slope" (.int s) []))
theorem plF_slope (s o d : Int) : (plF s o d).lookup ("_slope" : Str) = some (.int s) := by
  unfold plF
  rw [lookup_putF, if_neg kSD, lookup_putF, if_neg kSO, lookup_putF, if_pos rfl]
theorem plF_offset (s o d : Int) : (plF s o d).lookup ("_offset" : Str) = some (.int o) := by
  unfold plF
  rw [lookup_putF, if_neg kOD, lookup_putF, if_pos rfl]
theorem plF_odd (s o d : Int) : (plF s o d).lookup ("_odd" : Str) = some (.int d) := by
  unfold plF
  rw [lookup_putF, if_pos rfl]
theorem putF_le (f : Str) (v : V) : ∀ fs : List (Str × V), (putF f v fs).length ≤ fs.length + 1
  | [] => Nat.le_refl 1
  | p :: r => by
    show (if p.1 = f then (p.1, v) :: r else p :: putF f v r).length ≤ r.length + 1 + 1
    split
    · exact Nat.le_succ _
    · exact Nat.succ_le_succ (putF_le f v r)
theorem len2 (s o : Int) : (putF "_offset" (.int o) (putF "_slope" (.int s) [])).length ≤ 2 := Nat.le_trans (putF_le _ _ _) (Nat.succ_le_succ (putF_le _ _ _))
/-- the place s, o, d stands at p -/
def PlaceAt (H : Hp) (C p : Addr) (s o d : Int) : Prop := ∃ dx, H p = some (.ins C dx (plF s o d))
theorem PlaceAt.same {H H' : Hp} {C p : Addr} {s o d : Int} (h : PlaceAt H C p s o d) (e : Same H H') : PlaceAt H' C p s o d := h.elim fun dx z => ⟨dx, e _ _ z⟩
theorem PlaceAt.ins {H : Hp} {C p : Addr} {s o d : Int} (h : PlaceAt H C p s o d) : InsAt H p C := h.elim fun dx z => ⟨dx, _, z⟩
theorem PlaceAt.insC {X : Cx} {H : Hp} {C p : Addr} {s o d : Int} (h : PlaceAt H C p s o d) : StX.InsC X H p C := .inr (h.elim fun dx z => ⟨dx, _, z⟩)
/-- what follows a new place -/
def NewP (C : Addr) (H : Hp) (s o d : Int) (Q : VK) : Prop := ∀ x H', Same H H' → H x = none → PlaceAt H' C x s o d → Q (.ref x) H'
def spIntI : Sp := fun vs H Q _ => ∃ i : Int, vs = [.int i] ∧ Q (.bl true) H
def spSizeI : Sp := fun vs H Q _ => ∃ (i : Int) (part : Str), vs = [.int i, .str part] ∧ 1 ≤ i ∧ Q .non H
def spPInit (C : Addr) : Sp := fun vs H Q _ => ∃ (p dx : Addr) (s o d : Int), vs = [.ref p, .int s, .int o, .int d] ∧ H p = some (.ins C dx []) ∧ Q .non (upd H p (.ins C dx (plF s o d)))
def spPSlope (C : Addr) : Sp := fun vs H Q _ => ∃ (p : Addr) (s o d : Int), vs = [.ref p] ∧ PlaceAt H C p s o d ∧ Q (.int s) H
def spPOffset (C : Addr) : Sp := fun vs H Q _ => ∃ (p : Addr) (s o d : Int), vs = [.ref p] ∧ PlaceAt H C p s o d ∧ Q (.int o) H
def spPOdd (C : Addr) : Sp := fun vs H Q _ => ∃ (p : Addr) (s o d : Int), vs = [.ref p] ∧ PlaceAt H C p s o d ∧ Q (.int d) H
def valP (s o d n : Int) : Int := s * (n / 2) + o + d * (n % 2)
def spPCall (C : Addr) : Sp := fun vs H Q _ => ∃ (p : Addr) (s o d n : Int), vs = [.ref p, .int n] ∧ PlaceAt H C p s o d ∧ 1 ≤ n ∧ CMulW s (n / 2) ∧ CMulW d (n % 2) ∧ Q (.int (valP s o d n)) H
def spPParts (C : Addr) : Sp := fun vs H Q _ => ∃ (p : Addr) (s o d : Int), vs = [.ref p] ∧ PlaceAt H C p s o d ∧ ∀ t, H t = none → Q (.ref t) (upd H t (.tup [.int s, .int o, .int d]))
def spPAddP (C : Addr) (f : Int → Int → Int) : Sp := fun vs H Q _ => ∃ (p q : Addr) (s o d s' o' d' : Int), vs = [.ref p, .ref q] ∧ PlaceAt H C p s o d ∧ PlaceAt H C q s' o' d' ∧ NewP C H (f s s') (f o o') (f d d') Q
def spPAddI (C : Addr) (f : Int → Int → Int) : Sp := fun vs H Q _ => ∃ (p : Addr) (s o d i : Int), vs = [.ref p, .int i] ∧ PlaceAt H C p s o d ∧ NewP C H s (f o i) d Q
def spPInv (C : Addr) : Sp := fun vs H Q _ => ∃ (p : Addr) (s o d : Int), vs = [.ref p] ∧ PlaceAt H C p s o d ∧ NewP C H (2 - s) (-o) (1 - d) Q
def spPEq (C : Addr) : Sp := fun vs H Q _ => ∃ (p q : Addr) (s o d s' o' d' : Int), vs = [.ref p, .ref q] ∧ PlaceAt H C p s o d ∧ PlaceAt H C q s' o' d' ∧ ∀ H', Same H H' → Q (.bl (decide (s = s' ∧ o = o' ∧ d = d'))) H'
def spPOfI (C : Addr) (f : Int → Int × Int × Int) : Sp := fun vs H Q _ => ∃ i : Int, vs = [.int i] ∧ NewP C H (f i).1 (f i).2.1 (f i).2.2 Q
/-- a place made of three ints: what the making asks -/
theorem newP_make {C : Addr} {H : Hp} {s o d : Int} {Q : VK} {E : XK} (k : NewP C H s o d Q) : ∀ x dx, H x = none → H dx = none → dx ≠ x →
    spPInit C [.ref x, .int s, .int o, .int d] (upd (upd H dx (.own x)) x (.ins C dx [])) (fun v H2 => v = .non ∧ Q (.ref x) H2) E := by
  intro x dx nx ndx ne
  refine ⟨x, dx, s, o, d, rfl, upd_same, rfl, ?_⟩
  rw [upd_upd]
  refine k x _ (fun b u e => ?_) nx ⟨dx, upd_same⟩
  rw [upd_ne (ne_of_none e nx), upd_ne (ne_of_none e ndx)]
  exact e
/-! ### values of any kind: the errors of places and sizes -/
def spSizeX (K : PySem.W.Frag) (B : Addr) : Sp := fun vs H Q E => ∃ (v : V) (part : Str), vs = [v, .str part] ∧ ((∃ i : Int, v = .int i ∧ 1 ≤ i ∧ Q .non H) ∨ ((NoInt K H v ∨ ∃ i : Int, v = .int i ∧ i < 1) ∧ Out1 B "part" H E (.str part)))
/-- a place's parts: the first wrong one is told, or all are integers -/
def spPInitX (K : PySem.W.Frag) (C B : Addr) : Sp := fun vs H Q E => ∃ (p dx : Addr) (v1 v2 v3 : V), vs = [.ref p, v1, v2, v3] ∧ H p = some (.ins C dx []) ∧
  ((NoInt K H v1 ∧ Out1 B "part" H E (.str "slope")) ∨ ∃ s : Int, v1 = .int s ∧
    ((NoInt K H v2 ∧ Out1 B "part" H E (.str "offset")) ∨ ∃ o : Int, v2 = .int o ∧
      ((NoInt K H v3 ∧ Out1 B "part" H E (.str "odd")) ∨ ∃ d : Int, v3 = .int d ∧ Q .non (upd H p (.ins C dx (plF s o d))))))
section
variable {P : Program} {w : World} {K : PySem.W.Frag} {mg : Str → Option Value} {base : Heap} {a : Adr}
set_option maxHeartbeats 4000000
theorem ok_badplace (T : Txt K mg a) : ∃ fd, FnOk P w K mg base CX0 1 a.BadPlace_init fd ["self", "part"] (spErr1 a.BadPlace "part") ∧ Binds K fd ["self", "part"] [] := by
  refine T.d_BadPlace_init.okB sc_BadPlace_init (fun _ _ _ _ _ _ us hl => match us, hl with | [_, _], _ => rfl) (fun vs H Q E h => by obtain ⟨b, v, rfl, _⟩ := h; rfl) (fun cdv A outer s H vs Q E hr h => ?_)
  obtain ⟨b, v, rfl, hb, k⟩ := h
  exact ⟨_, (pss_one (ps_ost (pv 0) (pv 1))), _, rfl, _, rfl, b, _, rfl, T.e_BadPlace.ox, T.a_BadPlace_part, .inl ⟨hb, k⟩⟩
theorem ok_badsize (T : Txt K mg a) : ∃ fd, FnOk P w K mg base CX0 1 a.BadSize_init fd ["self", "part"] (spErr1 a.BadSize "part") ∧ Binds K fd ["self", "part"] [] := by
  refine T.d_BadSize_init.okB sc_BadSize_init (fun _ _ _ _ _ _ us hl => match us, hl with | [_, _], _ => rfl) (fun vs H Q E h => by obtain ⟨b, v, rfl, _⟩ := h; rfl) (fun cdv A outer s H vs Q E hr h => ?_)
  obtain ⟨b, v, rfl, hb, k⟩ := h
  exact ⟨_, (pss_one (ps_ost (pv 0) (pv 1))), _, rfl, _, rfl, b, _, rfl, T.e_BadSize.ox, T.a_BadSize_part, .inl ⟨hb, k⟩⟩
theorem ok_intV (T : Txt K mg a) : FnR P w K mg base CX0 1 a.is_int (spIntV K) := by
  refine T.d_is_int.ok sc_is_int (fun _ _ _ _ _ _ us hl => match us, hl with | [_], _ => rfl) (fun vs H Q E h => by obtain ⟨v, rfl, _⟩ := h; rfl) (fun cdv A outer s H vs Q E hr h => ?_)
  obtain ⟨v, rfl, h⟩ := h
  refine ⟨_, (pss_one (ps_ret (pe_and (pe_callB call_isi (by rfl) T.n_isinstance (by decide +kernel) (pa_cons (pv 0) (pa_cons (pe_bltn (v := .ty "int") (by rfl) T.n_int (by decide +kernel) rfl) pa_nil))) (pe_one (pe_not (pe_callB call_isi (by rfl) T.n_isinstance (by decide +kernel) (pa_cons (pv 0) (pa_cons (pe_bltn (v := .ty "bool") (by rfl) T.n_bool (by decide +kernel) rfl) pa_nil)))))))), ?_⟩
  rcases h with ⟨i, rfl, k⟩ | ⟨⟨b, rfl⟩ | ⟨t, ht, hk⟩, k⟩
  · exact ⟨_, rfl, _, _, _, _, _, rfl, .ty _, .base (.int _), kit_int_int, true, rfl, _, rfl, _, _, _, _, _, rfl, .ty _, .base (.int _), kit_int_bool, false, rfl, k⟩
  · exact ⟨_, rfl, _, _, _, _, _, rfl, .ty _, .base (.bl _), kit_bool_int, true, rfl, _, rfl, _, _, _, _, _, rfl, .ty _, .base (.bl _), kit_self, true, rfl, k⟩
  · exact ⟨_, rfl, _, _, _, _, _, rfl, .ty _, ht, hk, false, rfl, k⟩
theorem ok_sizeX (T : Txt K mg a) : FnR P w K mg base (CX P w) 3 a.check_size (spSizeX K a.BadSize) := by
  have G_is_int : FnR P w K mg base CX0 1 a.is_int (spIntV K) := ok_intV T
  obtain ⟨_, O_BadSize, B_BadSize⟩ := ok_badsize (P := P) (w := w) (base := base) T
  refine T.d_check_size.okX sc_check_size (fun _ _ _ _ _ _ us hl => match us, hl with | [_, _], _ => rfl) (fun vs H Q E h => by obtain ⟨v, part, rfl, _⟩ := h; rfl) (fun cdv A outer s H vs Q E hr h => ?_)
  obtain ⟨v, part, rfl, h⟩ := h
  refine ⟨_, (pss_one (ps_if (PW.pt (pw_or (pt_not (pt_val (pe_callR G_is_int (hr.mono (by decide)) T.m_is_int T.k_is_int pass0 (pa_cons (pv 0) pa_nil)))) (pw_or1 (pt_cmpR op_lt (pv 0) pe_int (nomark _)))))
          (pss_one (ps_raise rfl (takes_of rfl rfl rfl rfl) (pmk_oex T.e_BadSize.ox T.e_BadSize.iC T.e_BadSize.tI O_BadSize (hr.mono (by decide)) B_BadSize .nil pass0 rfl T.m_BadSize (pa_cons (pv 1) pa_nil))))
          pss_nil)), ?_⟩
  rcases h with ⟨i, rfl, h1, k⟩ | ⟨hn | ⟨i, rfl, hi⟩, k⟩
  · exact ⟨_, rfl, _, rfl, .inl ⟨i, rfl, true, rfl, iteF ⟨_, rfl, _, _, rfl, rfl, _, rfl, ite2 (fun z => by have := of_decide_eq_true z; omega) fun _ => k⟩⟩⟩
  · exact ⟨_, rfl, _, rfl, .inr ⟨hn, false, rfl, iteT ⟨_, rfl, err1_made k⟩⟩⟩
  · exact ⟨_, rfl, _, rfl, .inl ⟨i, rfl, true, rfl, iteF ⟨_, rfl, _, _, rfl, rfl, _, rfl, ite2 (fun _ => ⟨_, rfl, err1_made k⟩) fun z => absurd (decide_eq_true hi) z⟩⟩⟩
theorem ok_p_initX_fn (T : Txt K mg a) {fd : FuncData} (F : FunD K "__init__" "Place.__init__" (defArgs s_Place_init) (defBody s_Place_init) (defScope s_Place_init) [.int 0] [] a.Place_init fd) : FnOk P w K mg base (CX P w) 3 a.Place_init fd ["self", "slope", "offset", "odd"] (spPInitX K a.Place a.BadPlace) := by
  have G_is_int : FnR P w K mg base CX0 1 a.is_int (spIntV K) := ok_intV T
  obtain ⟨_, O_BadPlace, B_BadPlace⟩ := ok_badplace (P := P) (w := w) (base := base) T
  refine F.ok sc_Place_init (fun vs H Q E h => by obtain ⟨p, dx, v1, v2, v3, rfl, _⟩ := h; rfl) (fun cdv A outer s H vs Q E hr h => ?_)
  obtain ⟨p, dx, v1, v2, v3, rfl, hp, h⟩ := h
  refine ⟨_, (pss_cons (ps_if (pt_not (pt_val (pe_callR G_is_int (hr.mono (by decide)) T.m_is_int T.k_is_int pass0 (pa_cons (pv 1) pa_nil))))
          (pss_one (ps_raise rfl (takes_of rfl rfl rfl rfl) (pmk_oex T.e_BadPlace.ox T.e_BadPlace.iC T.e_BadPlace.tI O_BadPlace (hr.mono (by decide)) B_BadPlace .nil pass0 rfl T.m_BadPlace (pa_cons pe_str pa_nil))))
          pss_nil)
      (pss_cons (ps_if (pt_not (pt_val (pe_callR G_is_int (hr.mono (by decide)) T.m_is_int T.k_is_int pass0 (pa_cons (pv 2) pa_nil))))
          (pss_one (ps_raise rfl (takes_of rfl rfl rfl rfl) (pmk_oex T.e_BadPlace.ox T.e_BadPlace.iC T.e_BadPlace.tI O_BadPlace (hr.mono (by decide)) B_BadPlace .nil pass0 rfl T.m_BadPlace (pa_cons pe_str pa_nil))))
          pss_nil)
      (pss_cons (ps_if (pt_not (pt_val (pe_callR G_is_int (hr.mono (by decide)) T.m_is_int T.k_is_int pass0 (pa_cons (pv 3) pa_nil))))
          (pss_one (ps_raise rfl (takes_of rfl rfl rfl rfl) (pmk_oex T.e_BadPlace.ox T.e_BadPlace.iC T.e_BadPlace.tI O_BadPlace (hr.mono (by decide)) B_BadPlace .nil pass0 rfl T.m_BadPlace (pa_cons pe_str pa_nil))))
          pss_nil)
      (pss_cons (ps_fld (pv 0) (pv 1) rfl)
      (pss_cons (ps_fld (pv 0) (pv 2) rfl)
      (pss_one (ps_fld (pv 0) (pv 3) rfl))))))), ?_⟩
  rcases h with ⟨n1, k⟩ | ⟨s, rfl, h⟩
  · exact ⟨_, rfl, _, rfl, .inr ⟨n1, false, rfl, iteT (err1_made k)⟩⟩
  refine ⟨_, rfl, _, rfl, .inl ⟨s, rfl, true, rfl, iteF ?_⟩⟩
  rcases h with ⟨n2, k⟩ | ⟨o, rfl, h⟩
  · exact ⟨_, rfl, _, rfl, .inr ⟨n2, false, rfl, iteT (err1_made k)⟩⟩
  refine ⟨_, rfl, _, rfl, .inl ⟨o, rfl, true, rfl, iteF ?_⟩⟩
  rcases h with ⟨n3, k⟩ | ⟨d, rfl, k⟩
  · exact ⟨_, rfl, _, rfl, .inr ⟨n3, false, rfl, iteT (err1_made k)⟩⟩
  refine ⟨_, rfl, _, rfl, .inl ⟨d, rfl, true, rfl, iteF ?_⟩⟩
  refine ⟨_, rfl, _, rfl, p, _, dx, [], rfl, hp, T.c_Place.cl, T.a_Place__slope, (by show 0 < 1000; decide), ?_⟩
  refine ⟨_, rfl, _, rfl, p, _, dx, _, rfl, upd_same, T.c_Place.cl, T.a_Place__offset, (by show 1 < 1000; decide), ?_⟩
  rw [upd_upd]
  refine ⟨_, rfl, _, rfl, p, _, dx, _, rfl, upd_same, T.c_Place.cl, T.a_Place__odd, Nat.lt_of_le_of_lt (len2 s o) (by decide), ?_⟩
  rw [upd_upd]
  exact k
theorem ok_p_initX (T : Txt K mg a) : FnR P w K mg base (CX P w) 3 a.Place_init (spPInitX K a.Place a.BadPlace) := by
  obtain ⟨fd, F⟩ := id T.d_Place_init
  refine (posR F (ok_p_initX_fn T F) 4 1 (by simp) rfl (fun T kV doc pm an cdv ct us its hu hi => match us, its, hu, hi with | [_, _, _, _], [_], _, _ => ⟨_, rfl, rfl⟩)).imp fun vs H Q E h => ?_
  show (spPInitX K a.Place a.BadPlace) (vs ++ []) H Q E
  rw [List.append_nil]
  exact h
end
def spPCallX (K : PySem.W.Frag) (C B : Addr) : Sp := fun vs H Q E => ∃ (p : Addr) (v : V), vs = [.ref p, v] ∧
  ((∃ s o d n : Int, PlaceAt H C p s o d ∧ v = .int n ∧ 1 ≤ n ∧ CMulW s (n / 2) ∧ CMulW d (n % 2) ∧ Q (.int (valP s o d n)) H) ∨ ((NoInt K H v ∨ ∃ i : Int, v = .int i ∧ i < 1) ∧ Out1 B "part" H E (.str "size")))
def spFromX (K : PySem.W.Frag) (C B : Addr) (f : Int → Int × Int × Int) : Sp := fun vs H Q E => ∃ v : V, vs = [v] ∧ ((∃ i : Int, v = .int i ∧ NewP C H (f i).1 (f i).2.1 (f i).2.2 Q) ∨ (NoInt K H v ∧ OutS B "part" H E (.str "offset")))
theorem new_grown {H : Hp} {x dx : Addr} {C : Addr} (nx : H x = none) (nd : H dx = none) : ∀ b o, H b = some o → (upd (upd H dx (.own x)) x (.ins C dx [])) b = some o := fun b o e => by
  rw [upd_ne (ne_of_none e nx), upd_ne (ne_of_none e nd)]
  exact e
theorem newP_makeX {K : PySem.W.Frag} {C B : Addr} {H : Hp} {s o d : Int} {Q : VK} {E : XK} (k : NewP C H s o d Q) : ∀ x dx, H x = none → H dx = none → dx ≠ x →
    spPInitX K C B [.ref x, .int s, .int o, .int d] (upd (upd H dx (.own x)) x (.ins C dx [])) (fun v H2 => v = .non ∧ Q (.ref x) H2) E := by
  intro x dx nx ndx ne
  refine ⟨x, dx, _, _, _, rfl, upd_same, .inr ⟨s, rfl, .inr ⟨o, rfl, .inr ⟨d, rfl, rfl, ?_⟩⟩⟩⟩
  rw [upd_upd]
  refine k x _ (fun b u e => ?_) nx ⟨dx, upd_same⟩
  rw [upd_ne (ne_of_none e nx), upd_ne (ne_of_none e ndx)]
  exact e
section
variable {P : Program} {w : World} {K : PySem.W.Frag} {mg : Str → Option Value} {base : Heap} {a : Adr}
set_option maxHeartbeats 4000000
theorem ok_p_callX_fn (T : Txt K mg a) {fd : FuncData} (F : FunD K "__call__" "Place.__call__" (defArgs s_Place_call) (defBody s_Place_call) (defScope s_Place_call) [] [] a.Place_call fd) : FnOk P w K mg base (CX P w) 4 a.Place_call fd ["self", "size"] (spPCallX K a.Place a.BadSize) := by
  have G_check_size : FnR P w K mg base (CX P w) 3 a.check_size (spSizeX K a.BadSize) := ok_sizeX T
  refine F.ok sc_Place_call (fun vs H Q E h => by obtain ⟨p, v, rfl, _⟩ := h; rfl) (fun cdv A outer s H vs Q E hr h => ?_)
  obtain ⟨p, v, rfl, h⟩ := h
  refine ⟨_, (pss_cons (ps_expr (pe_callR G_check_size (hr.mono (by decide)) T.m_check_size T.k_check_size (passUp (takes_of rfl rfl rfl rfl)) (pa_cons (pv 1) (pa_cons pe_str pa_nil))))
      (pss_one (ps_ret (pe_op op_add (pe_op op_add (pe_op op_mulW (pe_fld (pv 0) rfl) (pe_op op_fdiv (pv 1) pe_int)) (pe_fld (pv 0) rfl)) (pe_op op_mulW (pe_fld (pv 0) rfl) (pe_op op_mod (pv 1) pe_int)))))), ?_⟩
  rcases h with ⟨s, o, d, n, ⟨dx, hp⟩, rfl, h1, hm1, hm2, k⟩ | ⟨hn, k⟩
  · refine ⟨_, rfl, _, _, rfl, .inl ⟨n, rfl, h1, ?_⟩⟩
    exact ⟨_, rfl, p, _, dx, _, _, rfl, hp, T.c_Place.cl, T.a_Place__slope, plF_slope _ _ _, _, rfl, _, _, rfl, rfl, ⟨by decide, by decide⟩, _, _, rfl, rfl, hm1,
      _, rfl, p, _, dx, _, _, rfl, hp, T.c_Place.cl, T.a_Place__offset, plF_offset _ _ _, _, _, rfl, rfl,
      _, rfl, p, _, dx, _, _, rfl, hp, T.c_Place.cl, T.a_Place__odd, plF_odd _ _ _, _, rfl, _, _, rfl, rfl, (by show (0 : Int) < 2; decide), _, _, rfl, rfl, hm2, _, _, rfl, rfl, k⟩
  · exact ⟨_, rfl, _, _, rfl, .inr ⟨hn, k⟩⟩
theorem ok_p_callX (T : Txt K mg a) : FnR P w K mg base (CX P w) 4 a.Place_call (spPCallX K a.Place a.BadSize) := by
  obtain ⟨fd, F⟩ := id T.d_Place_call
  exact ((ok_p_callX_fn T F).raw (F.bindsN (fun _ _ _ _ _ _ us hl => match us, hl with | [_, _], _ => rfl)) .nil).imp fun vs H Q E h => by rw [List.append_nil]; exact h
theorem ok_leftX_fn (T : Txt K mg a) {fd : FuncData} (F : FunD K "from_left" "from_left" (defArgs s_from_left) (defBody s_from_left) (defScope s_from_left) [.int 0] [] a.from_left fd) : FnOk P w K mg base (CX P w) 5 a.from_left fd ["k"] (spFromX K a.Place a.BadPlace fun i => (0, i, 0)) := by
  have G_Place_init : FnR P w K mg base (CX P w) 3 a.Place_init (spPInitX K a.Place a.BadPlace) := ok_p_initX T
  refine F.ok sc_from_left (fun vs H Q E h => by obtain ⟨v, rfl, _⟩ := h; rfl) (fun cdv A outer s H vs Q E hr h => ?_)
  obtain ⟨v, rfl, h⟩ := h
  refine ⟨_, (pss_one (ps_ret (pe_makeRR T.M_Place G_Place_init (hr.mono (by decide)) T.m_Place (passUp (takes_of rfl rfl rfl rfl)) (pa_cons pe_int (pa_cons (pv 0) (pa_cons pe_int pa_nil)))))), ?_⟩
  rcases h with ⟨i, rfl, k⟩ | ⟨hn, k⟩
  · exact ⟨_, rfl, newP_makeX k⟩
  · exact ⟨_, rfl, fun x dx nx nd ne => ⟨x, dx, _, _, _, rfl, upd_same, .inr ⟨0, rfl, .inl ⟨hn.same (new_grown nx nd), k _ (new_grown nx nd)⟩⟩⟩⟩
theorem ok_leftX (T : Txt K mg a) : FnR P w K mg base (CX P w) 5 a.from_left (spFromX K a.Place a.BadPlace fun i => (0, i, 0)) := by
  obtain ⟨fd, F⟩ := id T.d_from_left
  refine (posR F (ok_leftX_fn T F) 1 1 (by simp) rfl (fun T kV doc pm an cdv ct us its hu hi => match us, its, hu, hi with | [_], [_], _, _ => ⟨_, rfl, rfl⟩)).imp fun vs H Q E h => ?_
  show (spFromX K a.Place a.BadPlace fun i => (0, i, 0)) (vs ++ []) H Q E
  rw [List.append_nil]
  exact h
theorem ok_rightX_fn (T : Txt K mg a) {fd : FuncData} (F : FunD K "from_right" "from_right" (defArgs s_from_right) (defBody s_from_right) (defScope s_from_right) [.int 0] [] a.from_right fd) : FnOk P w K mg base (CX P w) 5 a.from_right fd ["k"] (spFromX K a.Place a.BadPlace fun i => (2, -i, 1)) := by
  have G_is_int : FnR P w K mg base CX0 1 a.is_int (spIntV K) := ok_intV T
  have G_Place_init : FnR P w K mg base (CX P w) 3 a.Place_init (spPInitX K a.Place a.BadPlace) := ok_p_initX T
  obtain ⟨_, O_BadPlace, B_BadPlace⟩ := ok_badplace (P := P) (w := w) (base := base) T
  refine F.ok sc_from_right (fun vs H Q E h => by obtain ⟨v, rfl, _⟩ := h; rfl) (fun cdv A outer s H vs Q E hr h => ?_)
  obtain ⟨v, rfl, h⟩ := h
  refine ⟨_, (pss_cons (ps_if (pt_not (pt_val (pe_callR G_is_int (hr.mono (by decide)) T.m_is_int T.k_is_int pass0 (pa_cons (pv 0) pa_nil))))
          (pss_one (ps_raise rfl (takes_of rfl rfl rfl rfl) (pmk_oex T.e_BadPlace.ox T.e_BadPlace.iC T.e_BadPlace.tI O_BadPlace (hr.mono (by decide)) B_BadPlace .nil pass0 rfl T.m_BadPlace (pa_cons pe_str pa_nil))))
          pss_nil)
      (pss_one (ps_ret (pe_makeRR T.M_Place G_Place_init (hr.mono (by decide)) T.m_Place (passUp (takes_of rfl rfl rfl rfl)) (pa_cons pe_int (pa_cons (pe_un un_neg (pv 0)) (pa_cons pe_int pa_nil))))))), ?_⟩
  rcases h with ⟨i, rfl, k⟩ | ⟨hn, k⟩
  · exact ⟨_, rfl, _, rfl, .inl ⟨i, rfl, true, rfl, iteF ⟨_, rfl, _, rfl, newP_makeX k⟩⟩⟩
  · exact ⟨_, rfl, _, rfl, .inr ⟨hn, false, rfl, iteT (err1_made (k _ fun _ _ e => e))⟩⟩
theorem ok_rightX (T : Txt K mg a) : FnR P w K mg base (CX P w) 5 a.from_right (spFromX K a.Place a.BadPlace fun i => (2, -i, 1)) := by
  obtain ⟨fd, F⟩ := id T.d_from_right
  refine (posR F (ok_rightX_fn T F) 1 1 (by simp) rfl (fun T kV doc pm an cdv ct us its hu hi => match us, its, hu, hi with | [_], [_], _, _ => ⟨_, rfl, rfl⟩)).imp fun vs H Q E h => ?_
  show (spFromX K a.Place a.BadPlace fun i => (2, -i, 1)) (vs ++ []) H Q E
  rw [List.append_nil]
  exact h
end
end Pf
end
section
namespace Pf
open PySem PySem.Spec PyProof.Rows L2 Ow StX
theorem kit_ty_own {K : PySem.W.Frag} {C : Addr} {T : String} {b : Bool} (c : ClsF K C) (h : PySem.W.subIn K (.type T) (.ref C) = some b) : PySem.W.kitOne K (.type T) (.ref C) = some b :=
  kit_own c h (Bool.eq_false_iff.mpr fun q => by cases beq_iff_eq.mp q)
theorem eqv3 (s o d s' o' d' : Int) : PyData.eqv (.tuple [.int s, .int o, .int d]) (.tuple [.int s', .int o', .int d']) = decide (s = s' ∧ o = o' ∧ d = d') := by
  rw [Bool.eq_iff_iff]
  simp [PyData.eqv, PyData.eqvAll]
section
variable {P : Program} {w : World} {K : PySem.W.Frag} {mg : Str → Option Value} {base : Heap} {a : Adr}
set_option maxHeartbeats 4000000
theorem ok_p_slope (T : Txt K mg a) : FnR P w K mg base CX0 1 a.Place_slope (spPSlope a.Place) := by
  refine T.d_Place_slope.ok sc_Place_slope (fun _ _ _ _ _ _ us hl => match us, hl with | [_], _ => rfl) (fun vs H Q E h => by obtain ⟨p, s, o, d, rfl, _⟩ := h; rfl) (fun cdv A outer s H vs Q E hr h => ?_)
  obtain ⟨p, s, o, d, rfl, ⟨dx, hp⟩, k⟩ := h
  exact ⟨_, (pss_one (ps_ret (pe_fld (pv 0) rfl))), _, rfl, p, _, dx, _, _, rfl, hp, T.c_Place.cl, T.a_Place__slope, plF_slope _ _ _, k⟩
theorem ok_p_offset (T : Txt K mg a) : FnR P w K mg base CX0 1 a.Place_offset (spPOffset a.Place) := by
  refine T.d_Place_offset.ok sc_Place_offset (fun _ _ _ _ _ _ us hl => match us, hl with | [_], _ => rfl) (fun vs H Q E h => by obtain ⟨p, s, o, d, rfl, _⟩ := h; rfl) (fun cdv A outer s H vs Q E hr h => ?_)
  obtain ⟨p, s, o, d, rfl, ⟨dx, hp⟩, k⟩ := h
  exact ⟨_, (pss_one (ps_ret (pe_fld (pv 0) rfl))), _, rfl, p, _, dx, _, _, rfl, hp, T.c_Place.cl, T.a_Place__offset, plF_offset _ _ _, k⟩
theorem ok_p_odd (T : Txt K mg a) : FnR P w K mg base CX0 1 a.Place_odd (spPOdd a.Place) := by
  refine T.d_Place_odd.ok sc_Place_odd (fun _ _ _ _ _ _ us hl => match us, hl with | [_], _ => rfl) (fun vs H Q E h => by obtain ⟨p, s, o, d, rfl, _⟩ := h; rfl) (fun cdv A outer s H vs Q E hr h => ?_)
  obtain ⟨p, s, o, d, rfl, ⟨dx, hp⟩, k⟩ := h
  exact ⟨_, (pss_one (ps_ret (pe_fld (pv 0) rfl))), _, rfl, p, _, dx, _, _, rfl, hp, T.c_Place.cl, T.a_Place__odd, plF_odd _ _ _, k⟩
theorem ok_parts (T : Txt K mg a) : FnR P w K mg base CX0 3 a.parts_of (spPParts a.Place) := by
  have G_Place_slope : FnR P w K mg base CX0 1 a.Place_slope (spPSlope a.Place) := ok_p_slope T
  have G_Place_offset : FnR P w K mg base CX0 1 a.Place_offset (spPOffset a.Place) := ok_p_offset T
  have G_Place_odd : FnR P w K mg base CX0 1 a.Place_odd (spPOdd a.Place) := ok_p_odd T
  refine T.d_parts_of.ok sc_parts_of (fun _ _ _ _ _ _ us hl => match us, hl with | [_], _ => rfl) (fun vs H Q E h => by obtain ⟨p, s, o, d, rfl, _⟩ := h; rfl) (fun cdv A outer s H vs Q E hr h => ?_)
  obtain ⟨p, s, o, d, rfl, ⟨dx, hp⟩, k⟩ := h
  refine ⟨_, (pss_one (ps_ret (pe_tup (pa_cons (pe_propR (pv 0) T.c_Place.cl T.p_Place_slope G_Place_slope (hr.mono (by decide))  pass0) (pa_cons (pe_propR (pv 0) T.c_Place.cl T.p_Place_offset G_Place_offset (hr.mono (by decide))  pass0) (pa_cons (pe_propR (pv 0) T.c_Place.cl T.p_Place_odd G_Place_odd (hr.mono (by decide))  pass0) pa_nil)))))), ?_⟩
  exact ⟨_, rfl, p, dx, _, rfl, hp, p, s, o, d, rfl, ⟨dx, hp⟩, _, rfl, p, dx, _, rfl, hp, p, s, o, d, rfl, ⟨dx, hp⟩, _, rfl, p, dx, _, rfl, hp, p, s, o, d, rfl, ⟨dx, hp⟩, (by show 3 ≤ sizeLine; decide), k⟩
theorem same_new0 {H : Hp} {p : Addr} {o : HO} (h : H p = none) : Same H (upd H p o) := fun b u e => by rw [upd_ne (ne_of_none e h)]; exact e
theorem NewP.grow {C : Addr} {H H' : Hp} {s o d : Int} {Q : VK} (k : NewP C H s o d Q) (e : Same H H') : NewP C H' s o d Q := fun x H2 s2 nx px => k x H2 (e.trans s2) (e.free nx) px
def spMir : Sp := fun vs H Q _ => ∃ (t : Addr) (s o d : Int), vs = [.ref t] ∧ H t = some (.tup [.int s, .int o, .int d]) ∧ ∀ p, H p = none → Q (.ref p) (upd H p (.tup [.int (2 - s), .int (-o), .int (1 - d)]))
theorem ok_mir (T : Txt K mg a) : FnR P w K mg base CX0 1 a.mirrored_parts spMir := by
  refine T.d_mirrored_parts.ok sc_mirrored_parts (fun _ _ _ _ _ _ us hl => match us, hl with | [_], _ => rfl) (fun vs H Q E h => by obtain ⟨t, s, o, d, rfl, _⟩ := h; rfl) (fun cdv A outer s H vs Q E hr h => ?_)
  obtain ⟨t, s, o, d, rfl, ht, k⟩ := h
  refine ⟨_, (pss_cons (ps_asg (pv 0) (pg_tup rfl (pgs_cons (pg_name (i := 1) sc_mirrored_parts.nd rfl (Or.inl rfl)) (pgs_cons (pg_name (i := 2) sc_mirrored_parts.nd rfl (Or.inl rfl)) (pgs_cons (pg_name (i := 3) sc_mirrored_parts.nd rfl (Or.inl rfl)) pgs_nil)))))
      (pss_one (ps_ret (pe_tup (pa_cons (pe_op op_sub pe_int (pv 1)) (pa_cons (pe_un un_neg (pv 2)) (pa_cons (pe_op op_sub pe_int (pv 3)) pa_nil))))))), ?_⟩
  refine ⟨_, rfl, t, _, rfl, SqT.of ht, rfl, ?_⟩
  refine ⟨_, _, rfl, _, _, rfl, _, _, rfl, rfl, ?_⟩
  exact ⟨_, rfl, _, _, rfl, rfl, _, rfl, _, rfl, _, rfl, _, _, rfl, rfl, (by show 3 ≤ sizeLine; decide), k⟩
theorem ok_p_inv (T : Txt K mg a) : FnR P w K mg base CX0 5 a.Place_invert (spPInv a.Place) := by
  have G_Place_init : FnR P w K mg base (CX P w) 3 a.Place_init (spPInitX K a.Place a.BadPlace) := ok_p_initX T
  have G_parts_of : FnR P w K mg base CX0 3 a.parts_of (spPParts a.Place) := ok_parts T
  have G_mirrored_parts : FnR P w K mg base CX0 1 a.mirrored_parts spMir := ok_mir T
  refine T.d_Place_invert.ok sc_Place_invert (fun _ _ _ _ _ _ us hl => match us, hl with | [_], _ => rfl) (fun vs H Q E h => by obtain ⟨p, s, o, d, rfl, _⟩ := h; rfl) (fun cdv A outer s H vs Q E hr h => ?_)
  obtain ⟨p, s, o, d, rfl, hp, k⟩ := h
  refine ⟨_, (pss_cons (ps_asg (pe_callR G_mirrored_parts (hr.mono (by decide)) T.m_mirrored_parts T.k_mirrored_parts pass0 (pa_cons (pe_callR G_parts_of (hr.mono (by decide)) T.m_parts_of T.k_parts_of pass0 (pa_cons (pv 0) pa_nil)) pa_nil)) (pg_tup rfl (pgs_cons (pg_name (i := 1) sc_Place_invert.nd rfl (Or.inl rfl)) (pgs_cons (pg_name (i := 2) sc_Place_invert.nd rfl (Or.inl rfl)) (pgs_cons (pg_name (i := 3) sc_Place_invert.nd rfl (Or.inl rfl)) pgs_nil)))))
      (pss_one (ps_ret (pe_makeRR T.M_Place G_Place_init (hr.mono (by decide)) T.m_Place (passUp LamX.takes0) (pa_cons (pv 1) (pa_cons (pv 2) (pa_cons (pv 3) pa_nil))))))), ?_⟩
  refine ⟨_, rfl, p, s, o, d, rfl, hp, fun t ht => ?_⟩
  refine ⟨t, s, o, d, rfl, upd_same, fun t' ht' => ?_⟩
  refine ⟨t', _, rfl, SqT.of upd_same, rfl, ?_⟩
  refine ⟨_, _, rfl, _, _, rfl, _, _, rfl, rfl, ?_⟩
  refine ⟨_, rfl, _, rfl, _, rfl, newP_makeX ?_⟩
  exact k.grow ((same_new0 ht).trans (same_new0 ht'))
theorem ok_p_eq (T : Txt K mg a) : FnR P w K mg base CX0 4 a.Place_eq (spPEq a.Place) := by
  have G_parts_of : FnR P w K mg base CX0 3 a.parts_of (spPParts a.Place) := ok_parts T
  refine T.d_Place_eq.ok sc_Place_eq (fun _ _ _ _ _ _ us hl => match us, hl with | [_, _], _ => rfl) (fun vs H Q E h => by obtain ⟨p, q, s, o, d, s', o', d', rfl, _⟩ := h; rfl) (fun cdv A outer s H vs Q E hr h => ?_)
  obtain ⟨p, q, s, o, d, s', o', d', rfl, ⟨dx, hp⟩, ⟨dy, hq⟩, k⟩ := h
  refine ⟨_, (pss_one (ps_ret (pe_and (pe_callB call_isi (by rfl) T.n_isinstance (by decide +kernel) (pa_cons (pv 1) (pa_cons (pe_glob (v := .ref a.Place) rfl T.m_Place rfl) pa_nil))) (pe_one (pe_cmpR (op_eqD hr.units) (pe_callR G_parts_of (hr.mono (by decide)) T.m_parts_of T.k_parts_of pass0 (pa_cons (pv 0) pa_nil)) (pe_callR G_parts_of (hr.mono (by decide)) T.m_parts_of T.k_parts_of pass0 (pa_cons (pv 1) pa_nil)) (nomark _)))))), ?_⟩
  refine ⟨_, rfl, _, _, _, _, _, rfl, .own _, T.c_Place.tyOf hq, kit_self, true, rfl, iteT ?_⟩
  refine ⟨_, rfl, p, s, o, d, rfl, ⟨dx, hp⟩, fun t1 ht1 => ?_⟩
  have hq1 : (upd H t1 (.tup [.int s, .int o, .int d])) q = some (.ins a.Place dy (plF s' o' d')) := by rw [upd_ne (ne_of_none hq ht1)]; exact hq
  refine ⟨_, rfl, q, s', o', d', rfl, ⟨dy, hq1⟩, fun t2 ht2 => ?_⟩
  have h12 : t1 ≠ t2 := ne_of_none (upd_same (H := H) (o := .tup [.int s, .int o, .int d])) ht2
  refine ⟨.tuple [.int s, .int o, .int d], .tuple [.int s', .int o', .int d'], .tup (SqT.of (by rw [upd_ne h12]; exact upd_same)) (.cons (.int _) (.cons (.int _) (.cons (.int _) .nil))),
    .tup (SqT.of upd_same) (.cons (.int _) (.cons (.int _) (.cons (.int _) .nil))), rfl, rfl, ?_⟩
  rw [eqv3]
  refine k _ fun b u e => ?_
  have nb : b ≠ t1 := ne_of_none e ht1
  have e1 : (upd H t1 (.tup [.int s, .int o, .int d])) b = some u := by rw [upd_ne nb]; exact e
  rw [upd_ne (ne_of_none e1 ht2)]
  exact e1
end
end Pf
end
section
namespace Pf
open PySem PySem.Spec PyProof.Rows L2 Ow StX
/-! ### boxes -/
def Bd1 (n : Int) : Prop := -1000000000000 ≤ n ∧ n ≤ 1000000000000
instance (n : Int) : Decidable (Bd1 n) := inferInstanceAs (Decidable (_ ∧ _))
def Bd (s o d : Int) : Prop := Bd1 s ∧ Bd1 o ∧ Bd1 d
instance (s o d : Int) : Decidable (Bd s o d) := inferInstanceAs (Decidable (_ ∧ _))
/-- a value of another kind than int and place -/
def NoPl (K : PySem.W.Frag) (C : Addr) (H : Hp) (v : V) : Prop := NoInt K H v ∧ ∃ t : Value, TyX K H v t ∧ PySem.W.kitOne K t (.ref C) = some false
def spBP (K : PySem.W.Frag) (C : Addr) : Sp := fun vs H Q _ => ∃ v, vs = [v] ∧ ((∃ i : Int, v = .int i ∧ (Bd1 i → NewP C H 0 i 0 Q) ∧ (¬ Bd1 i → ∀ H', Same H H' → Q .non H')) ∨
  (∃ (p : Addr) (s o d : Int), v = .ref p ∧ PlaceAt H C p s o d ∧ ∀ H', Same H H' → (Bd s o d → Q (.ref p) H') ∧ (¬ Bd s o d → Q .non H')) ∨ (NoPl K C H v ∧ Q .non H))
theorem bd_all (s o d : Int) : ([decide (Bd1 s), decide (Bd1 o), decide (Bd1 d)].all id) = decide (Bd s o d) := by
  by_cases h1 : Bd1 s <;> by_cases h2 : Bd1 o <;> by_cases h3 : Bd1 d <;> simp [Bd, h1, h2, h3]

/-- is_int of anything, a place too -/
def spIntA (K : PySem.W.Frag) (C : Addr) : Sp := fun vs H Q E => spIntV K vs H Q E ∨ ∃ (p : Addr) (s o d : Int), vs = [.ref p] ∧ PlaceAt H C p s o d ∧ Q (.bl false) H
section
variable {P : Program} {w : World} {K : PySem.W.Frag} {mg : Str → Option Value} {base : Heap} {a : Adr}
set_option maxHeartbeats 4000000
theorem ok_intA (T : Txt K mg a) : FnR P w K mg base CX0 1 a.is_int (spIntA K a.Place) := fun A outer s H us vs Q E hr e0 r h => by
  rcases h with h | h
  · exact ok_intV T A outer s H us vs Q E hr e0 r h
  · refine (show FnR P w K mg base CX0 1 a.is_int (fun vs H Q _ => ∃ (p : Addr) (s o d : Int), vs = [.ref p] ∧ PlaceAt H a.Place p s o d ∧ Q (.bl false) H) from ?_) A outer s H us vs Q E hr e0 r h
    refine T.d_is_int.ok sc_is_int (fun _ _ _ _ _ _ us hl => match us, hl with | [_], _ => rfl) (fun vs H Q E h => by obtain ⟨p, s, o, d, rfl, _⟩ := h; rfl) (fun cdv A outer s0 H vs Q E hr h => ?_)
    obtain ⟨p, s, o, d, rfl, ⟨dx, hp⟩, k⟩ := h
    refine ⟨_, (pss_one (ps_ret (pe_and (pe_callB call_isi (by rfl) T.n_isinstance (by decide +kernel) (pa_cons (pv 0) (pa_cons (pe_bltn (v := .ty "int") (by rfl) T.n_int (by decide +kernel) rfl) pa_nil))) (pe_one (pe_not (pe_callB call_isi (by rfl) T.n_isinstance (by decide +kernel) (pa_cons (pv 0) (pa_cons (pe_bltn (v := .ty "bool") (by rfl) T.n_bool (by decide +kernel) rfl) pa_nil)))))))), ?_⟩
    exact ⟨_, rfl, _, _, _, _, _, rfl, .ty _, T.c_Place.tyOf hp, kit_bty (by decide) T.s_Place_isint, false, rfl, k⟩
theorem ok_bounded (T : Txt K mg a) : FnR P w K mg base CX0 7 a.bounded_place (spBP K a.Place) := by
  have G_is_int : FnR P w K mg base CX0 1 a.is_int (spIntA K a.Place) := ok_intA T
  have G_from_left : FnR P w K mg base (CX P w) 5 a.from_left (spFromX K a.Place a.BadPlace fun i => (0, i, 0)) := ok_leftX T
  have G_parts_of : FnR P w K mg base CX0 3 a.parts_of (spPParts a.Place) := ok_parts T
  refine T.d_bounded_place.ok sc_bounded_place (fun _ _ _ _ _ _ us hl => match us, hl with | [_], _ => rfl) (fun vs H Q E h => by obtain ⟨v, rfl, _⟩ := h; rfl) (fun cdv A outer s H vs Q E hr h => ?_)
  obtain ⟨v, rfl, h⟩ := h
  refine ⟨_, (pss_cons (ps_set (i := 1) sc_bounded_place.nd rfl (Or.inl rfl) (pe_ifExp (pt_val (pe_callR G_is_int (hr.mono (by decide)) T.m_is_int T.k_is_int pass0 (pa_cons (pv 0) pa_nil))) (pe_callR G_from_left (hr.mono (by decide)) T.m_from_left T.k_from_left (passUp LamX.takes0) (pa_cons (pv 0) pa_nil)) (pv 0)))
      (pss_cons (ps_if (PW.pt (pw_and (pt_val (pe_callB call_isi (by rfl) T.n_isinstance (by decide +kernel) (pa_cons (pv 1) (pa_cons (pe_glob (v := .ref a.Place) rfl T.m_Place rfl) pa_nil)))) (pw_and1 (pt_val (pe_callB (cr_all rfl) (by rfl) T.n_all (by decide +kernel) (pa_cons (pe_lc (own := [("number", 2)]) (g := gName 2) (by rfl) sc_bounded_place.nd ((show PI _ _ _ (iTup K _) from pi_tup (pe_callR G_parts_of (hr.mono (by decide)) T.m_parts_of T.k_parts_of pass0 (pa_cons (pv 1) pa_nil)))) (blkOk_by (own := [("number", 2)]) (N := ["value", "place", "number"]) (sc := defScope s_bounded_place) (by decide +kernel)) (fun _ _ _ _ _ => (pg_name (i := 2) sc_bounded_place.nd rfl (Or.inl rfl))) (fun _ _ _ _ _ => pts_nil) (fun _ _ _ _ _ => (pe_chain op_le op_le (pe_un un_neg (pe_glob (v := .int 1000000000000) rfl T.m_BOUND ⟨_, rfl⟩)) (pv 2) (pe_glob (v := .int 1000000000000) rfl T.m_BOUND ⟨_, rfl⟩)))) pa_nil))))))
          (pss_one (ps_ret (pv 1)))
          pss_nil)
      (pss_one (ps_ret pe_non)))), ?_⟩
  simp only [tSeq, tIfS, tTest, tB, tAnd, tOr, tNot, tAndV, tOrV, tNotV, tIf, tOp, tUn, tChain, rEq, rNe, rI0, rI, rU, tCallR, tCons, tNil, tC, tVar, tRet, tRetN, tTup_k, tLst_k, tCB, tNext, tAsg, gName, gTup, gCons, gNil, tDrop, tPar, tFld, ClX.tCVal, tPropR, rBin, rBinT, rNeOwn, rSetL_k, gSub, tMakeK_k, tMethR, rInO, tDNewK_k, tYes, wipe, tMakeR_k, tSMeth, tSMethK, rMulS, decide_true, tNever, sFld, rIsiT, and_false, rListOf, rTupOf, rLenSeq, rIxL, rIxT, rIxS, rCat_k, rRep_k, rSlL_k, rSlS, rNewStrs_k, rAppend_k, tBM, tBM0, tM0, tM1, tSl, tNoPart, tPart, tLc_k, tFor_k, iList, iTup, iEnumT, iRng1, iRng2, iRng2L, iStr, L2.start, List.map, List.length_cons, List.length_nil, List.cons_append, List.nil_append, List.getElem?_cons_succ, List.getElem?_cons_zero, Option.some.injEq, V.int.injEq, V.bl.injEq, V.str.injEq, V.ref.injEq, exists_eq_left', exists_eq_left, and_assoc, exists_and_left, exists_eq, exists_eq', true_and, and_true, List.set_cons_zero, List.set_cons_succ, List.set, decide_eq_true_eq, Bool.not_eq_true', if_true, if_false, rIx, cx_K, nox_K, List.replicate_succ, List.replicate_zero, Nat.reduceSub, Bool.true_eq_false, Bool.false_eq_true, Nat.reduceAdd, List.cons.injEq, reduceCtorEq, false_and, false_or, or_false, tAug, rSetO, rStrO, rIsKp, tXk, tDGet, tDIn, tDNotIn, sDPut, rUn, rBinI, rBinR, rJoin, tJs, tOrT, rIsi, tCallOI, rBinT, tFCall, tMakeL, tCMethK, ClX.tCMeth, tCall, tPar3]
  rcases h with ⟨i, rfl, k1, k2⟩ | ⟨x, s, o, d, rfl, px, k⟩ | ⟨⟨hni, ty, hty, hk⟩, k⟩
  · refine .inl ⟨_, rfl, .inl ⟨i, rfl, true, rfl, ?_⟩⟩
    rw [if_pos rfl]
    refine ⟨_, rfl, .inl ⟨i, rfl, fun x H1 s1 nx px => ?_⟩⟩
    obtain ⟨dx, hp⟩ := id px
    refine ⟨_, _, .own _, T.c_Place.tyOf hp, true, kit_self, ?_⟩
    rw [if_pos rfl]
    have b0 : Bd1 0 := by decide
    have kk : ∀ H', Same H1 H' → (Bd 0 i 0 → Q (.ref x) H') ∧ (¬ Bd 0 i 0 → Q .non H') := fun H' s' => ⟨fun hb => k1 hb.2.1 x H' (s1.trans s') nx (px.same s'), fun hb => k2 (fun q => hb ⟨b0, q, b0⟩) H' (s1.trans s')⟩
    obtain ⟨s, hs0⟩ : ∃ s : Int, s = 0 := ⟨_, rfl⟩
    obtain ⟨d, hd0⟩ : ∃ d : Int, d = 0 := ⟨_, rfl⟩
    have px : PlaceAt H1 a.Place x s i d := by rw [hs0, hd0]; exact px
    have kk : ∀ H', Same H1 H' → (Bd s i d → Q (.ref x) H') ∧ (¬ Bd s i d → Q .non H') := by rw [hs0, hd0]; exact kk
    refine ⟨x, s, i, d, rfl, px, fun tt htt => ⟨tt, rfl, ⟨_, .inl (.inl upd_same)⟩, ?_⟩⟩
    refine kLc.map (walk_tup (xs := [.int s, .int i, .int d])) [.bl (decide (Bd1 s)), .bl (decide (Bd1 i)), .bl (decide (Bd1 d))] rfl (fun H' s' => .inl (.inl (s' _ _ upd_same))) (fun D j xv HA HB hj cl hY => ?_) fun l HA fA => ?_
    · obtain ⟨rfl, e⟩ := hY
      have hj : j < 3 := hj
      obtain ⟨z, rfl, hz2⟩ : ∃ z : Int, xv = .int z ∧ ([V.bl (decide (Bd1 s)), .bl (decide (Bd1 i)), .bl (decide (Bd1 d))])[j]? = some (.bl (decide (Bd1 z))) := by
        match j, hj with
        | 0, _ => cases e; exact ⟨s, rfl, rfl⟩
        | 1, _ => cases e; exact ⟨i, rfl, rfl⟩
        | 2, _ => cases e; exact ⟨d, rfl, rfl⟩
      simp only [tSeq, tIfS, tTest, tB, tAnd, tOr, tNot, tAndV, tOrV, tNotV, tIf, tOp, tUn, tChain, rEq, rNe, rI0, rI, rU, tCallR, tCons, tNil, tC, tVar, tRet, tRetN, tTup_k, tLst_k, tCB, tNext, tAsg, gName, gTup, gCons, gNil, tDrop, tPar, tFld, ClX.tCVal, tPropR, rBin, rBinT, rNeOwn, rSetL_k, gSub, tMakeK_k, tMethR, rInO, tDNewK_k, tYes, wipe, tMakeR_k, tSMeth, tSMethK, rMulS, decide_true, tNever, sFld, rIsiT, and_false, rListOf, rTupOf, rLenSeq, rIxL, rIxT, rIxS, rCat_k, rRep_k, rSlL_k, rSlS, rNewStrs_k, rAppend_k, tBM, tBM0, tM0, tM1, tSl, tNoPart, tPart, tLc_k, tFor_k, iList, iTup, iEnumT, iRng1, iRng2, iRng2L, iStr, L2.start, List.map, List.length_cons, List.length_nil, List.cons_append, List.nil_append, List.getElem?_cons_succ, List.getElem?_cons_zero, Option.some.injEq, V.int.injEq, V.bl.injEq, V.str.injEq, V.ref.injEq, exists_eq_left', exists_eq_left, and_assoc, exists_and_left, exists_eq, exists_eq', true_and, and_true, List.set_cons_zero, List.set_cons_succ, List.set, decide_eq_true_eq, Bool.not_eq_true', if_true, if_false, rIx, cx_K, nox_K, List.replicate_succ, List.replicate_zero, Nat.reduceSub, Bool.true_eq_false, Bool.false_eq_true, Nat.reduceAdd, List.cons.injEq, reduceCtorEq, false_and, false_or, or_false, tAug, rSetO, rStrO, rIsKp, tXk, tDGet, tDIn, tDNotIn, sDPut, rUn, rBinI, rBinR, rJoin, tJs, tOrT, rIsi, tCallOI, rBinT, tFCall, tMakeL, tCMethK, ClX.tCMeth, tCall, tPar3]
      by_cases h1 : -1000000000000 ≤ z
      · rw [if_pos h1]
        refine kApp.at cl (fun _ _ e => e) (by show 3 ≤ sizeLine; decide) ?_
        rw [hz2]
        exact congrArg (fun b => some (V.bl b)) (decide_eq_decide.mpr ⟨fun h => h.2, fun h => ⟨h1, h⟩⟩)
      · rw [if_neg h1]
        refine kApp.at cl (fun _ _ e => e) (by show 3 ≤ sizeLine; decide) ?_
        rw [hz2]
        exact congrArg (fun b => some (V.bl b)) (decide_eq_false fun h => h1 h.1)
    · refine ⟨l, [decide (Bd1 s), decide (Bd1 i), decide (Bd1 d)], rfl, SqL.of fA.at_, _, rfl, ?_⟩
      have e : ([decide (Bd1 s), decide (Bd1 i), decide (Bd1 d)].all id) = decide (Bd s i d) := bd_all s i d
      rw [e]
      obtain ⟨g1, g2⟩ := kk HA ((fresh_upd htt).same.trans fA.same)
      by_cases hb : Bd s i d
      · rw [if_pos (decide_eq_true hb)]; exact g1 hb
      · rw [if_neg (by rw [decide_eq_false hb]; decide)]; exact g2 hb
  · refine .inr ⟨x, s, o, d, rfl, px, false, rfl, ?_⟩
    rw [if_neg (by decide)]
    obtain ⟨dx, hp⟩ := id px
    refine ⟨_, _, .own _, T.c_Place.tyOf hp, true, kit_self, ?_⟩
    rw [if_pos rfl]
    have kk := k
    refine ⟨x, s, o, d, rfl, px, fun tt htt => ⟨tt, rfl, ⟨_, .inl (.inl upd_same)⟩, ?_⟩⟩
    refine kLc.map (walk_tup (xs := [.int s, .int o, .int d])) [.bl (decide (Bd1 s)), .bl (decide (Bd1 o)), .bl (decide (Bd1 d))] rfl (fun H' s' => .inl (.inl (s' _ _ upd_same))) (fun D j xv HA HB hj cl hY => ?_) fun l HA fA => ?_
    · obtain ⟨rfl, e⟩ := hY
      have hj : j < 3 := hj
      obtain ⟨z, rfl, hz2⟩ : ∃ z : Int, xv = .int z ∧ ([V.bl (decide (Bd1 s)), .bl (decide (Bd1 o)), .bl (decide (Bd1 d))])[j]? = some (.bl (decide (Bd1 z))) := by
        match j, hj with
        | 0, _ => cases e; exact ⟨s, rfl, rfl⟩
        | 1, _ => cases e; exact ⟨o, rfl, rfl⟩
        | 2, _ => cases e; exact ⟨d, rfl, rfl⟩
      simp only [tSeq, tIfS, tTest, tB, tAnd, tOr, tNot, tAndV, tOrV, tNotV, tIf, tOp, tUn, tChain, rEq, rNe, rI0, rI, rU, tCallR, tCons, tNil, tC, tVar, tRet, tRetN, tTup_k, tLst_k, tCB, tNext, tAsg, gName, gTup, gCons, gNil, tDrop, tPar, tFld, ClX.tCVal, tPropR, rBin, rBinT, rNeOwn, rSetL_k, gSub, tMakeK_k, tMethR, rInO, tDNewK_k, tYes, wipe, tMakeR_k, tSMeth, tSMethK, rMulS, decide_true, tNever, sFld, rIsiT, and_false, rListOf, rTupOf, rLenSeq, rIxL, rIxT, rIxS, rCat_k, rRep_k, rSlL_k, rSlS, rNewStrs_k, rAppend_k, tBM, tBM0, tM0, tM1, tSl, tNoPart, tPart, tLc_k, tFor_k, iList, iTup, iEnumT, iRng1, iRng2, iRng2L, iStr, L2.start, List.map, List.length_cons, List.length_nil, List.cons_append, List.nil_append, List.getElem?_cons_succ, List.getElem?_cons_zero, Option.some.injEq, V.int.injEq, V.bl.injEq, V.str.injEq, V.ref.injEq, exists_eq_left', exists_eq_left, and_assoc, exists_and_left, exists_eq, exists_eq', true_and, and_true, List.set_cons_zero, List.set_cons_succ, List.set, decide_eq_true_eq, Bool.not_eq_true', if_true, if_false, rIx, cx_K, nox_K, List.replicate_succ, List.replicate_zero, Nat.reduceSub, Bool.true_eq_false, Bool.false_eq_true, Nat.reduceAdd, List.cons.injEq, reduceCtorEq, false_and, false_or, or_false, tAug, rSetO, rStrO, rIsKp, tXk, tDGet, tDIn, tDNotIn, sDPut, rUn, rBinI, rBinR, rJoin, tJs, tOrT, rIsi, tCallOI, rBinT, tFCall, tMakeL, tCMethK, ClX.tCMeth, tCall, tPar3]
      by_cases h1 : -1000000000000 ≤ z
      · rw [if_pos h1]
        refine kApp.at cl (fun _ _ e => e) (by show 3 ≤ sizeLine; decide) ?_
        rw [hz2]
        exact congrArg (fun b => some (V.bl b)) (decide_eq_decide.mpr ⟨fun h => h.2, fun h => ⟨h1, h⟩⟩)
      · rw [if_neg h1]
        refine kApp.at cl (fun _ _ e => e) (by show 3 ≤ sizeLine; decide) ?_
        rw [hz2]
        exact congrArg (fun b => some (V.bl b)) (decide_eq_false fun h => h1 h.1)
    · refine ⟨l, [decide (Bd1 s), decide (Bd1 o), decide (Bd1 d)], rfl, SqL.of fA.at_, _, rfl, ?_⟩
      have e : ([decide (Bd1 s), decide (Bd1 o), decide (Bd1 d)].all id) = decide (Bd s o d) := bd_all s o d
      rw [e]
      obtain ⟨g1, g2⟩ := kk HA ((fresh_upd htt).same.trans fA.same)
      by_cases hb : Bd s o d
      · rw [if_pos (decide_eq_true hb)]; exact g1 hb
      · rw [if_neg (by rw [decide_eq_false hb]; decide)]; exact g2 hb
  · refine .inl ⟨_, rfl, .inr ⟨hni, false, rfl, ?_⟩⟩
    rw [if_neg (by decide)]
    refine ⟨_, _, .own _, hty, false, hk, ?_⟩
    rw [if_neg (by decide)]
    exact k
end
end Pf
end
section
namespace Pf
open PySem PySem.Spec PyProof.Rows L2 Ow StX
/-- a value that a box takes for a place -/
def InPl (K : PySem.W.Frag) (C : Addr) (H : Hp) (v : V) (s o d : Int) : Prop := ((v = .int o ∧ s = 0 ∧ d = 0) ∨ ∃ p, v = .ref p ∧ PlaceAt H C p s o d) ∧ Bd s o d
def BadPl (K : PySem.W.Frag) (C : Addr) (H : Hp) (v : V) : Prop := (∃ i : Int, v = .int i ∧ ¬ Bd1 i) ∨ (∃ (p : Addr) (s o d : Int), v = .ref p ∧ PlaceAt H C p s o d ∧ ¬ Bd s o d) ∨ NoPl K C H v
def spCP (K : PySem.W.Frag) (C B : Addr) : Sp := fun vs H Q E => ∃ (v : V) (z : Str), vs = [v, .str z] ∧ ((∃ s o d, InPl K C H v s o d ∧ ∀ x H', Same H H' → PlaceAt H' C x s o d → Q (.ref x) H') ∨ (BadPl K C H v ∧ ∀ H', Same H H' → Out1 B "part" H' E (.str z)))
structure Pl where
  s : Int
  o : Int
  d : Int
deriving DecidableEq
structure Bx where
  x0 : Pl
  x1 : Pl
  y0 : Pl
  y1 : Pl
deriving DecidableEq
abbrev PlA (H : Hp) (C p : Addr) (q : Pl) : Prop := PlaceAt H C p q.s q.o q.d
abbrev InP (K : PySem.W.Frag) (C : Addr) (H : Hp) (v : V) (q : Pl) : Prop := InPl K C H v q.s q.o q.d
def bxF (p0 p1 p2 p3 : Addr) : List (Str × V) := putF "y1" (.ref p3) (putF "y0" (.ref p2) (putF "x1" (.ref p1) (putF "x0" (.ref p0) [])))
/-- the box q stands at b -/
def BoxAt (H : Hp) (B C b : Addr) (q : Bx) : Prop := ∃ (dx p0 p1 p2 p3 : Addr), H b = some (.ins B dx (bxF p0 p1 p2 p3)) ∧ PlA H C p0 q.x0 ∧ PlA H C p1 q.x1 ∧ PlA H C p2 q.y0 ∧ PlA H C p3 q.y1
def spBInit (K : PySem.W.Frag) (B C : Addr) : Sp := fun vs H Q _ => ∃ (b dx : Addr) (v0 v1 v2 v3 : V) (q : Bx), vs = [.ref b, v0, v1, v2, v3] ∧ H b = some (.ins B dx []) ∧ InP K C H v0 q.x0 ∧ InP K C H v1 q.x1 ∧ InP K C H v2 q.y0 ∧ InP K C H v3 q.y1 ∧
  ∀ H', (∀ b' o, b' ≠ b → H b' = some o → H' b' = some o) → BoxAt H' B C b q → Q .non H'
theorem ne_box {H : Hp} {B C dx b p : Addr} {fs : List (Str × V)} {s o d : Int} (hb : H b = some (.ins B dx fs)) (hf : fs.lookup ("_slope" : Str) = none) (hp : PlaceAt H C p s o d) : p ≠ b := fun z => by
  obtain ⟨dxp, hp⟩ := hp
  rw [z, hb] at hp
  have e := Option.some.inj hp
  injection e with e1 e2 e3
  rw [e3, plF_slope] at hf
  cases hf
theorem PlaceAt.move {H H' : Hp} {C p b : Addr} {s o d : Int} (h : PlaceAt H C p s o d) (n : p ≠ b) (m : ∀ b' u, b' ≠ b → H b' = some u → H' b' = some u) : PlaceAt H' C p s o d := h.elim fun dx e => ⟨dx, m _ _ n e⟩
theorem InPl.move {K : PySem.W.Frag} {H H' : Hp} {B C dx b : Addr} {v : V} {s o d : Int} {fs : List (Str × V)} (h : InPl K C H v s o d) (hb : H b = some (.ins B dx fs)) (hf : fs.lookup ("_slope" : Str) = none) (m : ∀ b' u, b' ≠ b → H b' = some u → H' b' = some u) : InPl K C H' v s o d :=
  ⟨h.1.imp id fun ⟨p, e, hp⟩ => ⟨p, e, hp.move (ne_box hb hf hp) m⟩, h.2⟩
theorem InPl.same {K : PySem.W.Frag} {H H' : Hp} {C : Addr} {v : V} {s o d : Int} (h : InPl K C H v s o d) (m : Same H H') : InPl K C H' v s o d :=
  ⟨h.1.imp id fun ⟨p, e, hp⟩ => ⟨p, e, hp.same m⟩, h.2⟩
theorem kS0 : ¬ (("_slope" : Str) = "x0") := by decide +kernel
theorem kS1 : ¬ (("_slope" : Str) = "x1") := by decide +kernel
theorem kS2 : ¬ (("_slope" : Str) = "y0") := by decide +kernel
theorem kS3 : ¬ (("_slope" : Str) = "y1") := by decide +kernel
theorem bx1 (p0 : Addr) : (putF ("x0" : Str) (.ref p0) []).lookup ("_slope" : Str) = none := by rw [lookup_putF, if_neg kS0]; rfl
theorem bx2 (p0 p1 : Addr) : (putF ("x1" : Str) (.ref p1) (putF ("x0" : Str) (.ref p0) [])).lookup ("_slope" : Str) = none := by rw [lookup_putF, if_neg kS1]; exact bx1 p0
theorem bx3 (p0 p1 p2 : Addr) : (putF ("y0" : Str) (.ref p2) (putF ("x1" : Str) (.ref p1) (putF ("x0" : Str) (.ref p0) []))).lookup ("_slope" : Str) = none := by rw [lookup_putF, if_neg kS2]; exact bx2 p0 p1
theorem bl1 (p0 : Addr) : (putF ("x0" : Str) (.ref p0) []).length ≤ 1 := putF_le _ _ _
theorem bl2 (p0 p1 : Addr) : (putF ("x1" : Str) (.ref p1) (putF ("x0" : Str) (.ref p0) [])).length ≤ 2 := Nat.le_trans (putF_le _ _ _) (Nat.succ_le_succ (bl1 p0))
theorem bl3 (p0 p1 p2 : Addr) : (putF ("y0" : Str) (.ref p2) (putF ("x1" : Str) (.ref p1) (putF ("x0" : Str) (.ref p0) []))).length ≤ 3 := Nat.le_trans (putF_le _ _ _) (Nat.succ_le_succ (bl2 p0 p1))
section
variable {P : Program} {w : World} {K : PySem.W.Frag} {mg : Str → Option Value} {base : Heap} {a : Adr}
set_option maxHeartbeats 4000000
theorem ok_checked (T : Txt K mg a) : FnR P w K mg base (CX P w) 9 a.checked_place (spCP K a.Place a.BadPlace) := by
  have G_bounded_place : FnR P w K mg base CX0 7 a.bounded_place (spBP K a.Place) := ok_bounded T
  obtain ⟨_, O_BadPlace, B_BadPlace⟩ := ok_badplace (P := P) (w := w) (base := base) T
  refine T.d_checked_place.okX sc_checked_place (fun _ _ _ _ _ _ us hl => match us, hl with | [_, _], _ => rfl) (fun vs H Q E h => by obtain ⟨v, z, rfl, _⟩ := h; rfl) (fun cdv A outer s H vs Q E hr h => ?_)
  obtain ⟨v, z, rfl, h⟩ := h
  refine ⟨_, (pss_cons (ps_set (i := 2) sc_checked_place.nd rfl (Or.inl rfl) (pe_callR G_bounded_place (hr.mono (by decide)) T.m_bounded_place T.k_bounded_place pass0 (pa_cons (pv 0) pa_nil)))
      (pss_cons (ps_if (pt_cmpR op_isN (pv 2) pe_non (nomark _))
          (pss_one (ps_raise rfl (takes_of rfl rfl rfl rfl) (pmk_oex T.e_BadPlace.ox T.e_BadPlace.iC T.e_BadPlace.tI O_BadPlace (hr.mono (by decide)) B_BadPlace .nil pass0 rfl T.m_BadPlace (pa_cons (pv 1) pa_nil))))
          pss_nil)
      (pss_one (ps_ret (pv 2))))), ?_⟩
  simp only [tSeq, tIfS, tTest, tB, tAnd, tOr, tNot, tAndV, tOrV, tNotV, tIf, tOp, tUn, tChain, rEq, rNe, rI0, rI, rU, tCallR, tCons, tNil, tC, tVar, tRet, tRetN, tTup_k, tLst_k, tCB, tNext, tAsg, gName, gTup, gCons, gNil, tDrop, tPar, tFld, ClX.tCVal, tPropR, rBin, rBinT, rNeOwn, rSetL_k, gSub, tMakeK_k, tMethR, rInO, tDNewK_k, tYes, wipe, tMakeR_k, tSMeth, tSMethK, rMulS, decide_true, tNever, sFld, rIsiT, and_false, rListOf, rTupOf, rLenSeq, rIxL, rIxT, rIxS, rCat_k, rRep_k, rSlL_k, rSlS, rNewStrs_k, rAppend_k, tBM, tBM0, tM0, tM1, tSl, tNoPart, tPart, tLc_k, tFor_k, iList, iTup, iEnumT, iRng1, iRng2, iRng2L, iStr, L2.start, List.map, List.length_cons, List.length_nil, List.cons_append, List.nil_append, List.getElem?_cons_succ, List.getElem?_cons_zero, Option.some.injEq, V.int.injEq, V.bl.injEq, V.str.injEq, V.ref.injEq, exists_eq_left', exists_eq_left, and_assoc, exists_and_left, exists_eq, exists_eq', true_and, and_true, List.set_cons_zero, List.set_cons_succ, List.set, decide_eq_true_eq, Bool.not_eq_true', if_true, if_false, rIx, cx_K, nox_K, List.replicate_succ, List.replicate_zero, Nat.reduceSub, Bool.true_eq_false, Bool.false_eq_true, Nat.reduceAdd, List.cons.injEq, reduceCtorEq, false_and, false_or, or_false, tAug, rSetO, rStrO, rIsKp, tXk, tDGet, tDIn, tDNotIn, sDPut, rUn, rBinI, rBinR, rJoin, tJs, tOrT, rIsi, tCallOI, rBinT, tFCall, tMakeL, tCMethK, ClX.tCMeth, tCall, tPar3]
  rcases h with ⟨s, o, d, ⟨hin, hb⟩, k⟩ | ⟨hbad, k⟩
  · refine ⟨v, rfl, ?_⟩
    rcases hin with ⟨rfl, rfl, rfl⟩ | ⟨p, rfl, pp⟩
    · refine .inl ⟨o, rfl, fun _ => fun x H' s' nx px => ?_, fun q => absurd hb.2.1 q⟩
      show ite _ _ _
      rw [if_neg (by simp)]
      exact k x H' s' px
    · refine .inr (.inl ⟨p, s, o, d, rfl, pp, fun H' s' => ⟨fun _ => ?_, fun q => absurd hb q⟩⟩)
      show ite _ _ _
      rw [if_neg (by simp)]
      exact k p H' s' (pp.same s')
  · refine ⟨v, rfl, ?_⟩
    rcases hbad with ⟨i, rfl, hb⟩ | ⟨p, s, o, d, rfl, pp, hb⟩ | hno
    · refine .inl ⟨i, rfl, fun q => absurd q hb, fun _ H' s' => ?_⟩
      show ite _ _ _
      rw [if_pos rfl]
      exact ⟨_, rfl, err1_made (k H' s')⟩
    · refine .inr (.inl ⟨p, s, o, d, rfl, pp, fun H' s' => ⟨fun q => absurd q hb, fun _ => ?_⟩⟩)
      show ite _ _ _
      rw [if_pos rfl]
      exact ⟨_, rfl, err1_made (k H' s')⟩
    · refine .inr (.inr ⟨hno, ?_⟩)
      show ite _ _ _
      rw [if_pos rfl]
      exact ⟨_, rfl, err1_made (k H fun _ _ e => e)⟩
theorem ok_bxinit_fn (T : Txt K mg a) {fd : FuncData} (F : FunD K "__init__" "Box.__init__" (defArgs s_Box_init) (defBody s_Box_init) (defScope s_Box_init) [] [] a.Box_init fd) : FnOk P w K mg base (CX P w) 11 a.Box_init fd ["self", "x0", "x1", "y0", "y1"] (spBInit K a.Box a.Place) := by
  have G_checked_place : FnR P w K mg base (CX P w) 9 a.checked_place (spCP K a.Place a.BadPlace) := ok_checked T
  refine F.ok sc_Box_init (fun vs H Q E h => by obtain ⟨b, dx, v0, v1, v2, v3, q, rfl, _⟩ := h; rfl) (fun cdv A outer s H vs Q E hr h => ?_)
  obtain ⟨b, dx, v0, v1, v2, v3, q, rfl, hb, i0, i1, i2, i3, k⟩ := h
  refine ⟨_, (pss_cons (ps_fld (pv 0) (pe_callR G_checked_place (hr.mono (by decide)) T.m_checked_place T.k_checked_place (passUp (takes_of rfl rfl rfl rfl)) (pa_cons (pv 1) (pa_cons pe_str pa_nil))) rfl)
      (pss_cons (ps_fld (pv 0) (pe_callR G_checked_place (hr.mono (by decide)) T.m_checked_place T.k_checked_place (passUp (takes_of rfl rfl rfl rfl)) (pa_cons (pv 2) (pa_cons pe_str pa_nil))) rfl)
      (pss_cons (ps_fld (pv 0) (pe_callR G_checked_place (hr.mono (by decide)) T.m_checked_place T.k_checked_place (passUp (takes_of rfl rfl rfl rfl)) (pa_cons (pv 3) (pa_cons pe_str pa_nil))) rfl)
      (pss_one (ps_fld (pv 0) (pe_callR G_checked_place (hr.mono (by decide)) T.m_checked_place T.k_checked_place (passUp (takes_of rfl rfl rfl rfl)) (pa_cons (pv 4) (pa_cons pe_str pa_nil))) rfl))))), ?_⟩
  simp only [tSeq, tIfS, tTest, tB, tAnd, tOr, tNot, tAndV, tOrV, tNotV, tIf, tOp, tUn, tChain, rEq, rNe, rI0, rI, rU, tCallR, tCons, tNil, tC, tVar, tRet, tRetN, tTup_k, tLst_k, tCB, tNext, tAsg, gName, gTup, gCons, gNil, tDrop, tPar, tFld, ClX.tCVal, tPropR, rBin, rBinT, rNeOwn, rSetL_k, gSub, tMakeK_k, tMethR, rInO, tDNewK_k, tYes, wipe, tMakeR_k, tSMeth, tSMethK, rMulS, decide_true, tNever, sFld, rIsiT, and_false, rListOf, rTupOf, rLenSeq, rIxL, rIxT, rIxS, rCat_k, rRep_k, rSlL_k, rSlS, rNewStrs_k, rAppend_k, tBM, tBM0, tM0, tM1, tSl, tNoPart, tPart, tLc_k, tFor_k, iList, iTup, iEnumT, iRng1, iRng2, iRng2L, iStr, L2.start, List.map, List.length_cons, List.length_nil, List.cons_append, List.nil_append, List.getElem?_cons_succ, List.getElem?_cons_zero, Option.some.injEq, V.int.injEq, V.bl.injEq, V.str.injEq, V.ref.injEq, exists_eq_left', exists_eq_left, and_assoc, exists_and_left, exists_eq, exists_eq', true_and, and_true, List.set_cons_zero, List.set_cons_succ, List.set, decide_eq_true_eq, Bool.not_eq_true', if_true, if_false, rIx, cx_K, nox_K, List.replicate_succ, List.replicate_zero, Nat.reduceSub, Bool.true_eq_false, Bool.false_eq_true, Nat.reduceAdd, List.cons.injEq, reduceCtorEq, false_and, false_or, or_false, tAug, rSetO, rStrO, rIsKp, tXk, tDGet, tDIn, tDNotIn, sDPut, rUn, rBinI, rBinR, rJoin, tJs, tOrT, rIsi, tCallOI, rBinT, tFCall, tMakeL, tCMethK, ClX.tCMeth, tCall, tPar3]
  refine ⟨v0, _, rfl, .inl ⟨_, _, _, i0, fun p0 H1 s1 q0 => ⟨_, dx, _, s1 _ _ hb, T.c_Box.cl, T.a_Box_x0, by show 0 < 1000; decide, ?_⟩⟩⟩
  have hb1 := s1 _ _ hb
  have m1 : ∀ b' u, b' ≠ b → H1 b' = some u → (upd H1 b (.ins a.Box dx (putF "x0" (.ref p0) []))) b' = some u := fun b' u n e => by rw [upd_ne n]; exact e
  have j1 := (i1.same s1).move hb1 rfl m1
  have j2 := (i2.same s1).move hb1 rfl m1
  have j3 := (i3.same s1).move hb1 rfl m1
  have q0' := q0.move (ne_box hb1 rfl q0) m1
  refine ⟨v1, _, rfl, .inl ⟨_, _, _, j1, fun p1 H2 s2 q1 => ⟨_, dx, _, s2 _ _ upd_same, T.c_Box.cl, T.a_Box_x1, Nat.lt_of_le_of_lt (bl1 p0) (by decide), ?_⟩⟩⟩
  have hb2 := s2 _ _ (upd_same (H := H1) (a := b) (o := .ins a.Box dx (putF "x0" (.ref p0) [])))
  have m2 : ∀ b' u, b' ≠ b → H2 b' = some u → (upd H2 b (.ins a.Box dx (putF "x1" (.ref p1) (putF "x0" (.ref p0) [])))) b' = some u := fun b' u n e => by rw [upd_ne n]; exact e
  have r2 := (j2.same s2).move hb2 (bx1 p0) m2
  have r3 := (j3.same s2).move hb2 (bx1 p0) m2
  have q0'' := (q0'.same s2).move (ne_box hb2 (bx1 p0) (q0'.same s2)) m2
  have q1' := q1.move (ne_box hb2 (bx1 p0) q1) m2
  refine ⟨v2, _, rfl, .inl ⟨_, _, _, r2, fun p2 H3 s3 q2 => ⟨_, dx, _, s3 _ _ upd_same, T.c_Box.cl, T.a_Box_y0, Nat.lt_of_le_of_lt (bl2 p0 p1) (by decide), ?_⟩⟩⟩
  have hb3 := s3 _ _ (upd_same (H := H2) (a := b) (o := .ins a.Box dx (putF "x1" (.ref p1) (putF "x0" (.ref p0) []))))
  have m3 : ∀ b' u, b' ≠ b → H3 b' = some u → (upd H3 b (.ins a.Box dx (putF "y0" (.ref p2) (putF "x1" (.ref p1) (putF "x0" (.ref p0) []))))) b' = some u := fun b' u n e => by rw [upd_ne n]; exact e
  have u3 := (r3.same s3).move hb3 (bx2 p0 p1) m3
  have w0 := (q0''.same s3).move (ne_box hb3 (bx2 p0 p1) (q0''.same s3)) m3
  have w1 := (q1'.same s3).move (ne_box hb3 (bx2 p0 p1) (q1'.same s3)) m3
  have w2 := q2.move (ne_box hb3 (bx2 p0 p1) q2) m3
  refine ⟨v3, _, rfl, .inl ⟨_, _, _, u3, fun p3 H4 s4 q3 => ⟨_, dx, _, s4 _ _ upd_same, T.c_Box.cl, T.a_Box_y1, Nat.lt_of_le_of_lt (bl3 p0 p1 p2) (by decide), ?_⟩⟩⟩
  have hb4 := s4 _ _ (upd_same (H := H3) (a := b) (o := .ins a.Box dx (putF "y0" (.ref p2) (putF "x1" (.ref p1) (putF "x0" (.ref p0) [])))))
  have m4 : ∀ b' u, b' ≠ b → H4 b' = some u → (upd H4 b (.ins a.Box dx (bxF p0 p1 p2 p3))) b' = some u := fun b' u n e => by rw [upd_ne n]; exact e
  have z := bx3 p0 p1 p2
  refine k _ (fun b' u n e => m4 b' u n (s4 _ _ (m3 b' u n (s3 _ _ (m2 b' u n (s2 _ _ (m1 b' u n (s1 _ _ e)))))))) ⟨dx, p0, p1, p2, p3, upd_same, (w0.same s4).move (ne_box hb4 z (w0.same s4)) m4, (w1.same s4).move (ne_box hb4 z (w1.same s4)) m4, (w2.same s4).move (ne_box hb4 z (w2.same s4)) m4, q3.move (ne_box hb4 z q3) m4⟩
theorem ok_bxinit (T : Txt K mg a) : FnR P w K mg base (CX P w) 11 a.Box_init (spBInit K a.Box a.Place) := by
  obtain ⟨fd, F⟩ := id T.d_Box_init
  exact ((ok_bxinit_fn T F).raw (F.bindsN (fun _ _ _ _ _ _ us hl => match us, hl with | [_, _, _, _, _], _ => rfl)) .nil).imp fun vs H Q E h => by rw [List.append_nil]; exact h
end
end Pf
end
section
namespace Pf
open PySem PySem.Spec PyProof.Rows L2 Ow StX
theorem k01 : ¬ (("x0" : Str) = "x1") := by decide +kernel
theorem k02 : ¬ (("x0" : Str) = "y0") := by decide +kernel
theorem k03 : ¬ (("x0" : Str) = "y1") := by decide +kernel
theorem k12 : ¬ (("x1" : Str) = "y0") := by decide +kernel
theorem k13 : ¬ (("x1" : Str) = "y1") := by decide +kernel
theorem k23 : ¬ (("y0" : Str) = "y1") := by decide +kernel
theorem bxF_x0 (p0 p1 p2 p3 : Addr) : (bxF p0 p1 p2 p3).lookup ("x0" : Str) = some (.ref p0) := by
  unfold bxF
  rw [lookup_putF, if_neg k03, lookup_putF, if_neg k02, lookup_putF, if_neg k01, lookup_putF, if_pos rfl]
theorem bxF_x1 (p0 p1 p2 p3 : Addr) : (bxF p0 p1 p2 p3).lookup ("x1" : Str) = some (.ref p1) := by
  unfold bxF
  rw [lookup_putF, if_neg k13, lookup_putF, if_neg k12, lookup_putF, if_pos rfl]
theorem bxF_y0 (p0 p1 p2 p3 : Addr) : (bxF p0 p1 p2 p3).lookup ("y0" : Str) = some (.ref p2) := by
  unfold bxF
  rw [lookup_putF, if_neg k23, lookup_putF, if_pos rfl]
theorem bxF_y1 (p0 p1 p2 p3 : Addr) : (bxF p0 p1 p2 p3).lookup ("y1" : Str) = some (.ref p3) := by
  unfold bxF
  rw [lookup_putF, if_pos rfl]
def BoxV (H : Hp) (B C b : Addr) (q : Bx) (p0 p1 p2 p3 : Addr) : Prop := (∃ dx : Addr, H b = some (.ins B dx (bxF p0 p1 p2 p3))) ∧ PlA H C p0 q.x0 ∧ PlA H C p1 q.x1 ∧ PlA H C p2 q.y0 ∧ PlA H C p3 q.y1
theorem BoxAt.v {H : Hp} {B C b : Addr} {q : Bx} (h : BoxAt H B C b q) : ∃ p0 p1 p2 p3, BoxV H B C b q p0 p1 p2 p3 := by
  obtain ⟨dx, p0, p1, p2, p3, e, h⟩ := h
  exact ⟨p0, p1, p2, p3, ⟨dx, e⟩, h⟩
theorem BoxAt.same {H H' : Hp} {B C b : Addr} {q : Bx} (h : BoxAt H B C b q) (s : Same H H') : BoxAt H' B C b q := by
  obtain ⟨dx, p0, p1, p2, p3, e, h0, h1, h2, h3⟩ := h
  exact ⟨dx, p0, p1, p2, p3, s _ _ e, h0.same s, h1.same s, h2.same s, h3.same s⟩
def plV (q : Pl) (n : Int) : Int := valP q.s q.o q.d n
def MulsP (q : Pl) (n : Int) : Prop := CMulW q.s (n / 2) ∧ CMulW q.d (n % 2)
/-- a box called with two sizes -/
def spBCall (B C : Addr) : Sp := fun vs H Q _ => ∃ (b : Addr) (q : Bx) (w h : Int), vs = [.ref b, .int w, .int h] ∧ BoxAt H B C b q ∧ 1 ≤ w ∧ 1 ≤ h ∧ MulsP q.x0 w ∧ MulsP q.x1 w ∧ MulsP q.y0 h ∧ MulsP q.y1 h ∧
  ∀ t H', Fresh H H' t (.tup [.int (plV q.x0 w), .int (plV q.x1 w), .int (plV q.y0 h), .int (plV q.y1 h)]) → Q (.ref t) H'
def BadSz (K : PySem.W.Frag) (H : Hp) (v : V) : Prop := NoInt K H v ∨ ∃ i : Int, v = .int i ∧ i < 1
def spBCallX (K : PySem.W.Frag) (B : Addr) : Sp := fun vs H Q E => ∃ (b : Addr) (v u : V), vs = [.ref b, v, u] ∧ ((BadSz K H v ∧ Out1 B "part" H E (.str "width")) ∨ ∃ i : Int, v = .int i ∧ 1 ≤ i ∧ BadSz K H u ∧ Out1 B "part" H E (.str "height"))
def spBPlaces (B C : Addr) : Sp := fun vs H Q _ => ∃ (b : Addr) (q : Bx) (p0 p1 p2 p3 : Addr), vs = [.ref b] ∧ BoxV H B C b q p0 p1 p2 p3 ∧ ∀ t H', Fresh H H' t (.tup [.ref p0, .ref p1, .ref p2, .ref p3]) → Q (.ref t) H'
section
variable {P : Program} {w : World} {K : PySem.W.Frag} {mg : Str → Option Value} {base : Heap} {a : Adr}
set_option maxHeartbeats 4000000
theorem ok_bplaces (T : Txt K mg a) : FnR P w K mg base CX0 1 a.box_places (spBPlaces a.Box a.Place) := by
  refine T.d_box_places.ok sc_box_places (fun _ _ _ _ _ _ us hl => match us, hl with | [_], _ => rfl) (fun vs H Q E h => by obtain ⟨b, q, p0, p1, p2, p3, rfl, _⟩ := h; rfl) (fun cdv A outer s H vs Q E hr h => ?_)
  obtain ⟨b, q, p0, p1, p2, p3, rfl, ⟨⟨dx, hb⟩, _⟩, k⟩ := h
  refine ⟨_, (pss_one (ps_ret (pe_tup (pa_cons (pe_fld (pv 0) rfl) (pa_cons (pe_fld (pv 0) rfl) (pa_cons (pe_fld (pv 0) rfl) (pa_cons (pe_fld (pv 0) rfl) pa_nil))))))), ?_⟩
  simp only [tSeq, tIfS, tTest, tB, tAnd, tOr, tNot, tAndV, tOrV, tNotV, tIf, tOp, tUn, tChain, rEq, rNe, rI0, rI, rU, tCallR, tCons, tNil, tC, tVar, tRet, tRetN, tTup_k, tLst_k, tCB, tNext, tAsg, gName, gTup, gCons, gNil, tDrop, tPar, tFld, ClX.tCVal, tPropR, rBin, rBinT, rNeOwn, rSetL_k, gSub, tMakeK_k, tMethR, rInO, tDNewK_k, tYes, wipe, tMakeR_k, tSMeth, tSMethK, rMulS, decide_true, tNever, sFld, rIsiT, and_false, rListOf, rTupOf, rLenSeq, rIxL, rIxT, rIxS, rCat_k, rRep_k, rSlL_k, rSlS, rNewStrs_k, rAppend_k, tBM, tBM0, tM0, tM1, tSl, tNoPart, tPart, tLc_k, tFor_k, iList, iTup, iEnumT, iRng1, iRng2, iRng2L, iStr, L2.start, List.map, List.length_cons, List.length_nil, List.cons_append, List.nil_append, List.getElem?_cons_succ, List.getElem?_cons_zero, Option.some.injEq, V.int.injEq, V.bl.injEq, V.str.injEq, V.ref.injEq, exists_eq_left', exists_eq_left, and_assoc, exists_and_left, exists_eq, exists_eq', true_and, and_true, List.set_cons_zero, List.set_cons_succ, List.set, decide_eq_true_eq, Bool.not_eq_true', if_true, if_false, rIx, cx_K, nox_K, List.replicate_succ, List.replicate_zero, Nat.reduceSub, Bool.true_eq_false, Bool.false_eq_true, Nat.reduceAdd, List.cons.injEq, reduceCtorEq, false_and, false_or, or_false, tAug, rSetO, rStrO, rIsKp, tXk, tDGet, tDIn, tDNotIn, sDPut, rUn, rBinI, rBinR, rJoin, tJs, tOrT, rIsi, tCallOI, rBinT, tFCall, tMakeL, tCMethK, ClX.tCMeth, tCall, tPar3]
  exact ⟨_, _, _, hb, T.c_Box.cl, T.a_Box_x0, _, bxF_x0 .., _, _, _, hb, T.c_Box.cl, T.a_Box_x1, _, bxF_x1 .., _, _, _, hb, T.c_Box.cl, T.a_Box_y0, _, bxF_y0 .., _, _, _, hb, T.c_Box.cl, T.a_Box_y1, _, bxF_y1 .., kNew.mk (by show 4 ≤ sizeLine; decide) fun t H' f => k t H' f⟩
theorem ok_bcall (T : Txt K mg a) : FnR P w K mg base (CX P w) 6 a.Box_call (spBCall a.Box a.Place) := by
  have G_check_size : FnR P w K mg base (CX P w) 3 a.check_size (spSizeX K a.BadSize) := ok_sizeX T
  have G_Place_call : FnR P w K mg base (CX P w) 4 a.Place_call (spPCallX K a.Place a.BadSize) := ok_p_callX T
  refine T.d_Box_call.okX sc_Box_call (fun _ _ _ _ _ _ us hl => match us, hl with | [_, _, _], _ => rfl) (fun vs H Q E h => by obtain ⟨b, q, w, h, rfl, _⟩ := h; rfl) (fun cdv A outer s H vs Q E hr h => ?_)
  obtain ⟨b, q, wd, hg, rfl, ⟨dx, p0, p1, p2, p3, hb, h0, h1, h2, h3⟩, w1, g1, mx0, mx1, my0, my1, k⟩ := h
  refine ⟨_, (pss_cons (ps_expr (pe_callR G_check_size (hr.mono (by decide)) T.m_check_size T.k_check_size (passUp (takes_of rfl rfl rfl rfl)) (pa_cons (pv 1) (pa_cons pe_str pa_nil))))
      (pss_cons (ps_expr (pe_callR G_check_size (hr.mono (by decide)) T.m_check_size T.k_check_size (passUp (takes_of rfl rfl rfl rfl)) (pa_cons (pv 2) (pa_cons pe_str pa_nil))))
      (pss_one (ps_ret (pe_tup (pa_cons (pe_fcall (pv 0) ⟨T.o_Place_call, T.f_Place_call, T.fi_Place_call⟩ G_Place_call (hr.mono (by decide)) (passUp (takes_of rfl rfl rfl rfl)) (pa_cons (pv 1) pa_nil)) (pa_cons (pe_fcall (pv 0) ⟨T.o_Place_call, T.f_Place_call, T.fi_Place_call⟩ G_Place_call (hr.mono (by decide)) (passUp (takes_of rfl rfl rfl rfl)) (pa_cons (pv 1) pa_nil)) (pa_cons (pe_fcall (pv 0) ⟨T.o_Place_call, T.f_Place_call, T.fi_Place_call⟩ G_Place_call (hr.mono (by decide)) (passUp (takes_of rfl rfl rfl rfl)) (pa_cons (pv 2) pa_nil)) (pa_cons (pe_fcall (pv 0) ⟨T.o_Place_call, T.f_Place_call, T.fi_Place_call⟩ G_Place_call (hr.mono (by decide)) (passUp (takes_of rfl rfl rfl rfl)) (pa_cons (pv 2) pa_nil)) pa_nil))))))))), ?_⟩
  simp only [tSeq, tIfS, tTest, tB, tAnd, tOr, tNot, tAndV, tOrV, tNotV, tIf, tOp, tUn, tChain, rEq, rNe, rI0, rI, rU, tCallR, tCons, tNil, tC, tVar, tRet, tRetN, tTup_k, tLst_k, tCB, tNext, tAsg, gName, gTup, gCons, gNil, tDrop, tPar, tFld, ClX.tCVal, tPropR, rBin, rBinT, rNeOwn, rSetL_k, gSub, tMakeK_k, tMethR, rInO, tDNewK_k, tYes, wipe, tMakeR_k, tSMeth, tSMethK, rMulS, decide_true, tNever, sFld, rIsiT, and_false, rListOf, rTupOf, rLenSeq, rIxL, rIxT, rIxS, rCat_k, rRep_k, rSlL_k, rSlS, rNewStrs_k, rAppend_k, tBM, tBM0, tM0, tM1, tSl, tNoPart, tPart, tLc_k, tFor_k, iList, iTup, iEnumT, iRng1, iRng2, iRng2L, iStr, L2.start, List.map, List.length_cons, List.length_nil, List.cons_append, List.nil_append, List.getElem?_cons_succ, List.getElem?_cons_zero, Option.some.injEq, V.int.injEq, V.bl.injEq, V.str.injEq, V.ref.injEq, exists_eq_left', exists_eq_left, and_assoc, exists_and_left, exists_eq, exists_eq', true_and, and_true, List.set_cons_zero, List.set_cons_succ, List.set, decide_eq_true_eq, Bool.not_eq_true', if_true, if_false, rIx, cx_K, nox_K, List.replicate_succ, List.replicate_zero, Nat.reduceSub, Bool.true_eq_false, Bool.false_eq_true, Nat.reduceAdd, List.cons.injEq, reduceCtorEq, false_and, false_or, or_false, tAug, rSetO, rStrO, rIsKp, tXk, tDGet, tDIn, tDNotIn, sDPut, rUn, rBinI, rBinR, rJoin, tJs, tOrT, rIsi, tCallOI, rBinT, tFCall, tMakeL, tCMethK, ClX.tCMeth, tCall, tPar3]
  refine ⟨_, _, rfl, .inl ⟨wd, rfl, w1, _, _, rfl, .inl ⟨hg, rfl, g1, _, dx, _, hb, T.c_Box.cl, T.a_Box_x0, p0, bxF_x0 .., h0.ins, p0, _, rfl, .inl ⟨_, _, _, wd, h0, rfl, w1, mx0.1, mx0.2, ?_⟩⟩⟩⟩
  refine ⟨_, dx, _, hb, T.c_Box.cl, T.a_Box_x1, p1, bxF_x1 .., h1.ins, p1, _, rfl, .inl ⟨_, _, _, wd, h1, rfl, w1, mx1.1, mx1.2, ?_⟩⟩
  refine ⟨_, dx, _, hb, T.c_Box.cl, T.a_Box_y0, p2, bxF_y0 .., h2.ins, p2, _, rfl, .inl ⟨_, _, _, hg, h2, rfl, g1, my0.1, my0.2, ?_⟩⟩
  refine ⟨_, dx, _, hb, T.c_Box.cl, T.a_Box_y1, p3, bxF_y1 .., h3.ins, p3, _, rfl, .inl ⟨_, _, _, hg, h3, rfl, g1, my1.1, my1.2, ?_⟩⟩
  exact kNew.mk (by show 4 ≤ sizeLine; decide) fun t H' f => k t H' f
/-- sizes that a box refuses -/
theorem ok_bcallX (T : Txt K mg a) : FnR P w K mg base (CX P w) 6 a.Box_call (spBCallX K a.BadSize) := by
  have G_check_size : FnR P w K mg base (CX P w) 3 a.check_size (spSizeX K a.BadSize) := ok_sizeX T
  have G_Place_call : FnR P w K mg base (CX P w) 4 a.Place_call (spPCallX K a.Place a.BadSize) := ok_p_callX T
  refine T.d_Box_call.okX sc_Box_call (fun _ _ _ _ _ _ us hl => match us, hl with | [_, _, _], _ => rfl) (fun vs H Q E h => by obtain ⟨b, v, u, rfl, _⟩ := h; rfl) (fun cdv A outer s H vs Q E hr h => ?_)
  obtain ⟨b, v, u, rfl, h⟩ := h
  refine ⟨_, (pss_cons (ps_expr (pe_callR G_check_size (hr.mono (by decide)) T.m_check_size T.k_check_size (passUp (takes_of rfl rfl rfl rfl)) (pa_cons (pv 1) (pa_cons pe_str pa_nil))))
      (pss_cons (ps_expr (pe_callR G_check_size (hr.mono (by decide)) T.m_check_size T.k_check_size (passUp (takes_of rfl rfl rfl rfl)) (pa_cons (pv 2) (pa_cons pe_str pa_nil))))
      (pss_one (ps_ret (pe_tup (pa_cons (pe_fcall (pv 0) ⟨T.o_Place_call, T.f_Place_call, T.fi_Place_call⟩ G_Place_call (hr.mono (by decide)) (passUp (takes_of rfl rfl rfl rfl)) (pa_cons (pv 1) pa_nil)) (pa_cons (pe_fcall (pv 0) ⟨T.o_Place_call, T.f_Place_call, T.fi_Place_call⟩ G_Place_call (hr.mono (by decide)) (passUp (takes_of rfl rfl rfl rfl)) (pa_cons (pv 1) pa_nil)) (pa_cons (pe_fcall (pv 0) ⟨T.o_Place_call, T.f_Place_call, T.fi_Place_call⟩ G_Place_call (hr.mono (by decide)) (passUp (takes_of rfl rfl rfl rfl)) (pa_cons (pv 2) pa_nil)) (pa_cons (pe_fcall (pv 0) ⟨T.o_Place_call, T.f_Place_call, T.fi_Place_call⟩ G_Place_call (hr.mono (by decide)) (passUp (takes_of rfl rfl rfl rfl)) (pa_cons (pv 2) pa_nil)) pa_nil))))))))), ?_⟩
  simp only [tSeq, tIfS, tTest, tB, tAnd, tOr, tNot, tAndV, tOrV, tNotV, tIf, tOp, tUn, tChain, rEq, rNe, rI0, rI, rU, tCallR, tCons, tNil, tC, tVar, tRet, tRetN, tTup_k, tLst_k, tCB, tNext, tAsg, gName, gTup, gCons, gNil, tDrop, tPar, tFld, ClX.tCVal, tPropR, rBin, rBinT, rNeOwn, rSetL_k, gSub, tMakeK_k, tMethR, rInO, tDNewK_k, tYes, wipe, tMakeR_k, tSMeth, tSMethK, rMulS, decide_true, tNever, sFld, rIsiT, and_false, rListOf, rTupOf, rLenSeq, rIxL, rIxT, rIxS, rCat_k, rRep_k, rSlL_k, rSlS, rNewStrs_k, rAppend_k, tBM, tBM0, tM0, tM1, tSl, tNoPart, tPart, tLc_k, tFor_k, iList, iTup, iEnumT, iRng1, iRng2, iRng2L, iStr, L2.start, List.map, List.length_cons, List.length_nil, List.cons_append, List.nil_append, List.getElem?_cons_succ, List.getElem?_cons_zero, Option.some.injEq, V.int.injEq, V.bl.injEq, V.str.injEq, V.ref.injEq, exists_eq_left', exists_eq_left, and_assoc, exists_and_left, exists_eq, exists_eq', true_and, and_true, List.set_cons_zero, List.set_cons_succ, List.set, decide_eq_true_eq, Bool.not_eq_true', if_true, if_false, rIx, cx_K, nox_K, List.replicate_succ, List.replicate_zero, Nat.reduceSub, Bool.true_eq_false, Bool.false_eq_true, Nat.reduceAdd, List.cons.injEq, reduceCtorEq, false_and, false_or, or_false, tAug, rSetO, rStrO, rIsKp, tXk, tDGet, tDIn, tDNotIn, sDPut, rUn, rBinI, rBinR, rJoin, tJs, tOrT, rIsi, tCallOI, rBinT, tFCall, tMakeL, tCMethK, ClX.tCMeth, tCall, tPar3]
  rcases h with ⟨hv, k⟩ | ⟨i, rfl, hi, hu, k⟩
  · exact ⟨_, _, rfl, .inr ⟨hv, k⟩⟩
  · exact ⟨_, _, rfl, .inl ⟨i, rfl, hi, _, _, rfl, .inr ⟨hu, k⟩⟩⟩
end
end Pf
end
section
namespace Pf
open PySem PySem.Spec PyProof.Rows L2 Ow StX
/-- a box just made -/
def NewB (B C : Addr) (H : Hp) (q : Bx) (Q : VK) : Prop := ∀ b H', Same H H' → H b = none → BoxAt H' B C b q → Q (.ref b) H'
theorem newB_make {K : PySem.W.Frag} {B C : Addr} {H : Hp} {v0 v1 v2 v3 : V} {q : Bx} {Q : VK} {E : XK} (i0 : InP K C H v0 q.x0) (i1 : InP K C H v1 q.x1) (i2 : InP K C H v2 q.y0) (i3 : InP K C H v3 q.y1) (k : NewB B C H q Q) : kMake B (spBInit K B C) E Q [v0, v1, v2, v3] H :=
  kMake.mk fun x dx H1 s1 nx hx so => ⟨x, dx, v0, v1, v2, v3, q, rfl, hx, i0.same s1, i1.same s1, i2.same s1, i3.same s1, fun H' m hB => ⟨rfl, k x H' (fun b' u e => m b' u (ne_of_none e nx) (s1 _ _ e)) nx hB⟩⟩
def mirP (q : Pl) : Pl := ⟨2 - q.s, -q.o, 1 - q.d⟩
def mirB (q : Bx) : Bx := ⟨mirP q.x1, mirP q.x0, q.y0, q.y1⟩
def BdP (q : Pl) : Prop := Bd q.s q.o q.d
instance (q : Pl) : Decidable (BdP q) := inferInstanceAs (Decidable (Bd ..))
def spBInv (B C : Addr) : Sp := fun vs H Q _ => ∃ (b : Addr) (q : Bx), vs = [.ref b] ∧ BoxAt H B C b q ∧ BdP (mirP q.x1) ∧ BdP (mirP q.x0) ∧ BdP q.y0 ∧ BdP q.y1 ∧ NewB B C H (mirB q) Q
def spBEq (B C : Addr) : Sp := fun vs H Q _ => ∃ (b b2 : Addr) (q q2 : Bx), vs = [.ref b, .ref b2] ∧ BoxAt H B C b q ∧ BoxAt H B C b2 q2 ∧ ∀ H', Same H H' → Q (.bl (decide (q = q2))) H'
/-- a wrong one among four, the first told by its name -/
def spBInitX (K : PySem.W.Frag) (B C Bp : Addr) : Sp := fun vs H Q E => ∃ (b dx : Addr) (v0 v1 v2 v3 : V) (n : Nat) (nm : Str), vs = [.ref b, v0, v1, v2, v3] ∧ H b = some (.ins B dx []) ∧ n < 4 ∧ (∀ i, i < n → ∀ v, ([v0, v1, v2, v3])[i]? = some v → ∃ q, InP K C H v q) ∧
  (∀ v, ([v0, v1, v2, v3])[n]? = some v → ∀ H', (∀ b' o, b' ≠ b → H b' = some o → H' b' = some o) → BadPl K C H' v) ∧ ([("x0" : Str), "x1", "y0", "y1"])[n]? = some nm ∧ ∀ H', (∀ b' o, b' ≠ b → H b' = some o → H' b' = some o) → Out1 Bp "part" H' E (.str nm)
section
variable {P : Program} {w : World} {K : PySem.W.Frag} {mg : Str → Option Value} {base : Heap} {a : Adr}
set_option maxHeartbeats 4000000
theorem ok_binv (T : Txt K mg a) : FnR P w K mg base (CX P w) 13 a.Box_invert (spBInv a.Box a.Place) := by
  have G_Place_invert : FnR P w K mg base CX0 5 a.Place_invert (spPInv a.Place) := ok_p_inv T
  have G_Box_init : FnR P w K mg base (CX P w) 11 a.Box_init (spBInit K a.Box a.Place) := ok_bxinit T
  refine T.d_Box_invert.okX sc_Box_invert (fun _ _ _ _ _ _ us hl => match us, hl with | [_], _ => rfl) (fun vs H Q E h => by obtain ⟨b, q, rfl, _⟩ := h; rfl) (fun cdv A outer s H vs Q E hr h => ?_)
  obtain ⟨b, q, rfl, ⟨dx, p0, p1, p2, p3, hb, h0, h1, h2, h3⟩, d0, d1, d2, d3, k⟩ := h
  refine ⟨_, (pss_one (ps_ret (pe_makeRR T.M_Box G_Box_init (hr.mono (by decide)) T.m_Box (passUp (takes_of rfl rfl rfl rfl)) (pa_cons (pe_un (un_inv_own T.o_Place_invert T.f_Place_invert G_Place_invert (hr.mono (by decide)) pass0) (pe_fld (pv 0) rfl)) (pa_cons (pe_un (un_inv_own T.o_Place_invert T.f_Place_invert G_Place_invert (hr.mono (by decide)) pass0) (pe_fld (pv 0) rfl)) (pa_cons (pe_fld (pv 0) rfl) (pa_cons (pe_fld (pv 0) rfl) pa_nil))))))), ?_⟩
  simp only [tSeq, tIfS, tTest, tB, tAnd, tOr, tNot, tAndV, tOrV, tNotV, tIf, tOp, tUn, tChain, rEq, rNe, rI0, rI, rU, tCallR, tCons, tNil, tC, tVar, tRet, tRetN, tTup_k, tLst_k, tCB, tNext, tAsg, gName, gTup, gCons, gNil, tDrop, tPar, tFld, ClX.tCVal, tPropR, rBin, rBinT, rNeOwn, rSetL_k, gSub, tMakeK_k, tMethR, rInO, tDNewK_k, tYes, wipe, tMakeR_k, tSMeth, tSMethK, rMulS, decide_true, tNever, sFld, rIsiT, and_false, rListOf, rTupOf, rLenSeq, rIxL, rIxT, rIxS, rCat_k, rRep_k, rSlL_k, rSlS, rNewStrs_k, rAppend_k, tBM, tBM0, tM0, tM1, tSl, tNoPart, tPart, tLc_k, tFor_k, iList, iTup, iEnumT, iRng1, iRng2, iRng2L, iStr, L2.start, List.map, List.length_cons, List.length_nil, List.cons_append, List.nil_append, List.getElem?_cons_succ, List.getElem?_cons_zero, Option.some.injEq, V.int.injEq, V.bl.injEq, V.str.injEq, V.ref.injEq, exists_eq_left', exists_eq_left, and_assoc, exists_and_left, exists_eq, exists_eq', true_and, and_true, List.set_cons_zero, List.set_cons_succ, List.set, decide_eq_true_eq, Bool.not_eq_true', if_true, if_false, rIx, cx_K, nox_K, List.replicate_succ, List.replicate_zero, Nat.reduceSub, Bool.true_eq_false, Bool.false_eq_true, Nat.reduceAdd, List.cons.injEq, reduceCtorEq, false_and, false_or, or_false, tAug, rSetO, rStrO, rIsKp, tXk, tDGet, tDIn, tDNotIn, sDPut, rUn, rBinI, rBinR, rJoin, tJs, tOrT, rIsi, tCallOI, rBinT, tFCall, tMakeL, tCMethK, ClX.tCMeth, tCall, tPar3]
  refine ⟨_, dx, _, hb, T.c_Box.cl, T.a_Box_x1, _, bxF_x1 .., p1, rfl, h1.ins, p1, _, _, _, rfl, h1, fun m1 H1 s1 n1 g1 => ?_⟩
  refine ⟨_, dx, _, s1 _ _ hb, T.c_Box.cl, T.a_Box_x0, _, bxF_x0 .., p0, rfl, (h0.same s1).ins, p0, _, _, _, rfl, h0.same s1, fun m0 H2 s2 n2 g0 => ?_⟩
  have s12 := s1.trans s2
  refine ⟨_, dx, _, s12 _ _ hb, T.c_Box.cl, T.a_Box_y0, _, bxF_y0 .., _, dx, _, s12 _ _ hb, T.c_Box.cl, T.a_Box_y1, _, bxF_y1 .., ?_⟩
  exact newB_make (q := mirB q) ⟨.inr ⟨m1, rfl, g1.same s2⟩, d0⟩ ⟨.inr ⟨m0, rfl, g0⟩, d1⟩ ⟨.inr ⟨p2, rfl, h2.same s12⟩, d2⟩ ⟨.inr ⟨p3, rfl, h3.same s12⟩, d3⟩ fun b' H' s' n' hB => k b' H' (s12.trans s') (s12.free n') hB
theorem ok_bxinitX (T : Txt K mg a) : FnR P w K mg base (CX P w) 11 a.Box_init (spBInitX K a.Box a.Place a.BadPlace) := by
  have G_checked_place : FnR P w K mg base (CX P w) 9 a.checked_place (spCP K a.Place a.BadPlace) := ok_checked T
  refine T.d_Box_init.okX sc_Box_init (fun _ _ _ _ _ _ us hl => match us, hl with | [_, _, _, _, _], _ => rfl) (fun vs H Q E h => by obtain ⟨b, dx, v0, v1, v2, v3, n, nm, rfl, _⟩ := h; rfl) (fun cdv A outer s H vs Q E hr h => ?_)
  obtain ⟨b, dx, v0, v1, v2, v3, n, nm, rfl, hb, hn, hgood, hbad, hnm, k⟩ := h
  refine ⟨_, (pss_cons (ps_fld (pv 0) (pe_callR G_checked_place (hr.mono (by decide)) T.m_checked_place T.k_checked_place (passUp (takes_of rfl rfl rfl rfl)) (pa_cons (pv 1) (pa_cons pe_str pa_nil))) rfl)
      (pss_cons (ps_fld (pv 0) (pe_callR G_checked_place (hr.mono (by decide)) T.m_checked_place T.k_checked_place (passUp (takes_of rfl rfl rfl rfl)) (pa_cons (pv 2) (pa_cons pe_str pa_nil))) rfl)
      (pss_cons (ps_fld (pv 0) (pe_callR G_checked_place (hr.mono (by decide)) T.m_checked_place T.k_checked_place (passUp (takes_of rfl rfl rfl rfl)) (pa_cons (pv 3) (pa_cons pe_str pa_nil))) rfl)
      (pss_one (ps_fld (pv 0) (pe_callR G_checked_place (hr.mono (by decide)) T.m_checked_place T.k_checked_place (passUp (takes_of rfl rfl rfl rfl)) (pa_cons (pv 4) (pa_cons pe_str pa_nil))) rfl))))), ?_⟩
  simp only [tSeq, tIfS, tTest, tB, tAnd, tOr, tNot, tAndV, tOrV, tNotV, tIf, tOp, tUn, tChain, rEq, rNe, rI0, rI, rU, tCallR, tCons, tNil, tC, tVar, tRet, tRetN, tTup_k, tLst_k, tCB, tNext, tAsg, gName, gTup, gCons, gNil, tDrop, tPar, tFld, ClX.tCVal, tPropR, rBin, rBinT, rNeOwn, rSetL_k, gSub, tMakeK_k, tMethR, rInO, tDNewK_k, tYes, wipe, tMakeR_k, tSMeth, tSMethK, rMulS, decide_true, tNever, sFld, rIsiT, and_false, rListOf, rTupOf, rLenSeq, rIxL, rIxT, rIxS, rCat_k, rRep_k, rSlL_k, rSlS, rNewStrs_k, rAppend_k, tBM, tBM0, tM0, tM1, tSl, tNoPart, tPart, tLc_k, tFor_k, iList, iTup, iEnumT, iRng1, iRng2, iRng2L, iStr, L2.start, List.map, List.length_cons, List.length_nil, List.cons_append, List.nil_append, List.getElem?_cons_succ, List.getElem?_cons_zero, Option.some.injEq, V.int.injEq, V.bl.injEq, V.str.injEq, V.ref.injEq, exists_eq_left', exists_eq_left, and_assoc, exists_and_left, exists_eq, exists_eq', true_and, and_true, List.set_cons_zero, List.set_cons_succ, List.set, decide_eq_true_eq, Bool.not_eq_true', if_true, if_false, rIx, cx_K, nox_K, List.replicate_succ, List.replicate_zero, Nat.reduceSub, Bool.true_eq_false, Bool.false_eq_true, Nat.reduceAdd, List.cons.injEq, reduceCtorEq, false_and, false_or, or_false, tAug, rSetO, rStrO, rIsKp, tXk, tDGet, tDIn, tDNotIn, sDPut, rUn, rBinI, rBinR, rJoin, tJs, tOrT, rIsi, tCallOI, rBinT, tFCall, tMakeL, tCMethK, ClX.tCMeth, tCall, tPar3]
  match n, hn with
  | 0, _ =>
    cases hnm
    exact ⟨v0, _, rfl, .inr ⟨hbad v0 rfl _ (fun _ _ _ e => e), fun H' s' => k H' fun b' u n e => s' _ _ ((fun _ _ _ e => e : ∀ b' u, b' ≠ b → H b' = some u → H b' = some u) b' u n e)⟩⟩
  | 1, _ =>
    cases hnm
    obtain ⟨q0, i0⟩ := hgood 0 (by omega) v0 rfl
    refine ⟨v0, _, rfl, .inl ⟨_, _, _, i0, fun p0 H1 s1 g0 => ⟨_, dx, _, s1 _ _ hb, T.c_Box.cl, T.a_Box_x0, by show 0 < 1000; decide, ?_⟩⟩⟩
    have hb1 := s1 _ _ hb
    have m1 : ∀ b' u, b' ≠ b → H1 b' = some u → (upd H1 b (.ins a.Box dx (putF "x0" (.ref p0) []))) b' = some u := fun b' u n e => by rw [upd_ne n]; exact e
    have M1 : ∀ b' u, b' ≠ b → H b' = some u → (upd H1 b (.ins a.Box dx (putF "x0" (.ref p0) []))) b' = some u := fun b' u n e => m1 b' u n (s1 _ _ e)
    exact ⟨v1, _, rfl, .inr ⟨hbad v1 rfl _ M1, fun H' s' => k H' fun b' u n e => s' _ _ (M1 b' u n e)⟩⟩
  | 2, _ =>
    cases hnm
    obtain ⟨q0, i0⟩ := hgood 0 (by omega) v0 rfl
    refine ⟨v0, _, rfl, .inl ⟨_, _, _, i0, fun p0 H1 s1 g0 => ⟨_, dx, _, s1 _ _ hb, T.c_Box.cl, T.a_Box_x0, by show 0 < 1000; decide, ?_⟩⟩⟩
    have hb1 := s1 _ _ hb
    have m1 : ∀ b' u, b' ≠ b → H1 b' = some u → (upd H1 b (.ins a.Box dx (putF "x0" (.ref p0) []))) b' = some u := fun b' u n e => by rw [upd_ne n]; exact e
    have M1 : ∀ b' u, b' ≠ b → H b' = some u → (upd H1 b (.ins a.Box dx (putF "x0" (.ref p0) []))) b' = some u := fun b' u n e => m1 b' u n (s1 _ _ e)
    obtain ⟨q1, i1⟩ := hgood 1 (by omega) v1 rfl
    refine ⟨v1, _, rfl, .inl ⟨_, _, _, i1.move hb rfl M1, fun p1 H2 s2 g1 => ⟨_, dx, _, s2 _ _ upd_same, T.c_Box.cl, T.a_Box_x1, Nat.lt_of_le_of_lt (bl1 p0) (by decide), ?_⟩⟩⟩
    have m2 : ∀ b' u, b' ≠ b → H2 b' = some u → (upd H2 b (.ins a.Box dx (putF "x1" (.ref p1) (putF "x0" (.ref p0) [])))) b' = some u := fun b' u n e => by rw [upd_ne n]; exact e
    have M2 : ∀ b' u, b' ≠ b → H b' = some u → (upd H2 b (.ins a.Box dx (putF "x1" (.ref p1) (putF "x0" (.ref p0) [])))) b' = some u := fun b' u n e => m2 b' u n (s2 _ _ (M1 b' u n e))
    exact ⟨v2, _, rfl, .inr ⟨hbad v2 rfl _ M2, fun H' s' => k H' fun b' u n e => s' _ _ (M2 b' u n e)⟩⟩
  | 3, _ =>
    cases hnm
    obtain ⟨q0, i0⟩ := hgood 0 (by omega) v0 rfl
    refine ⟨v0, _, rfl, .inl ⟨_, _, _, i0, fun p0 H1 s1 g0 => ⟨_, dx, _, s1 _ _ hb, T.c_Box.cl, T.a_Box_x0, by show 0 < 1000; decide, ?_⟩⟩⟩
    have hb1 := s1 _ _ hb
    have m1 : ∀ b' u, b' ≠ b → H1 b' = some u → (upd H1 b (.ins a.Box dx (putF "x0" (.ref p0) []))) b' = some u := fun b' u n e => by rw [upd_ne n]; exact e
    have M1 : ∀ b' u, b' ≠ b → H b' = some u → (upd H1 b (.ins a.Box dx (putF "x0" (.ref p0) []))) b' = some u := fun b' u n e => m1 b' u n (s1 _ _ e)
    obtain ⟨q1, i1⟩ := hgood 1 (by omega) v1 rfl
    refine ⟨v1, _, rfl, .inl ⟨_, _, _, i1.move hb rfl M1, fun p1 H2 s2 g1 => ⟨_, dx, _, s2 _ _ upd_same, T.c_Box.cl, T.a_Box_x1, Nat.lt_of_le_of_lt (bl1 p0) (by decide), ?_⟩⟩⟩
    have m2 : ∀ b' u, b' ≠ b → H2 b' = some u → (upd H2 b (.ins a.Box dx (putF "x1" (.ref p1) (putF "x0" (.ref p0) [])))) b' = some u := fun b' u n e => by rw [upd_ne n]; exact e
    have M2 : ∀ b' u, b' ≠ b → H b' = some u → (upd H2 b (.ins a.Box dx (putF "x1" (.ref p1) (putF "x0" (.ref p0) [])))) b' = some u := fun b' u n e => m2 b' u n (s2 _ _ (M1 b' u n e))
    obtain ⟨q2, i2⟩ := hgood 2 (by omega) v2 rfl
    refine ⟨v2, _, rfl, .inl ⟨_, _, _, i2.move hb rfl M2, fun p2 H3 s3 g2 => ⟨_, dx, _, s3 _ _ upd_same, T.c_Box.cl, T.a_Box_y0, Nat.lt_of_le_of_lt (bl2 p0 p1) (by decide), ?_⟩⟩⟩
    have M3 : ∀ b' u, b' ≠ b → H b' = some u → (upd H3 b (.ins a.Box dx (putF "y0" (.ref p2) (putF "x1" (.ref p1) (putF "x0" (.ref p0) []))))) b' = some u := fun b' u n e => by rw [upd_ne n]; exact s3 _ _ (M2 b' u n e)
    exact ⟨v3, _, rfl, .inr ⟨hbad v3 rfl _ M3, fun H' s' => k H' fun b' u n e => s' _ _ (M3 b' u n e)⟩⟩
end
end Pf
end
section
namespace Pf
open PySem PySem.Spec PyProof.Rows L2 Ow StX
/-- the words of a place -/
def wordsP (q : Pl) : List Str := if q.s = 0 ∧ q.d = 0 then ["left", Str.ofString (toString q.o)] else if q.s = 2 ∧ q.d = 1 then ["right", Str.ofString (toString (-q.o))] else if q.s = 1 ∧ q.d = 0 then ["middle", Str.ofString (toString q.o)] else ["place", Str.ofString (toString q.s), Str.ofString (toString q.o), Str.ofString (toString q.d)]
def spWords : Sp := fun vs H Q _ => ∃ q : Pl, vs = [.int q.s, .int q.o, .int q.d] ∧ q.s.natAbs.log2 < 1000 ∧ q.o.natAbs.log2 < 1000 ∧ q.d.natAbs.log2 < 1000 ∧ ∀ l H', Same H H' → H' l = some (.lst ((wordsP q).map V.str)) → Q (.ref l) H'
theorem eqv2 (s o s' o' : Int) : PyData.eqv (.tuple [.int s, .int o]) (.tuple [.int s', .int o']) = decide (s = s' ∧ o = o') := by
  rw [Bool.eq_iff_iff, decide_eq_true_eq]
  simp [PyData.eqv, PyData.eqvAll]
section
variable {P : Program} {w : World} {K : PySem.W.Frag} {mg : Str → Option Value} {base : Heap} {a : Adr}
set_option maxHeartbeats 4000000
theorem ok_words (T : Txt K mg a) : FnR P w K mg base CX0 1 a.place_words spWords := by
  refine T.d_place_words.ok sc_place_words (fun _ _ _ _ _ _ us hl => match us, hl with | [_, _, _], _ => rfl) (fun vs H Q E h => by obtain ⟨q, rfl, _⟩ := h; rfl) (fun cdv A outer s H vs Q E hr h => ?_)
  obtain ⟨⟨s0, o0, d0⟩, rfl, ls, lo, ld, k⟩ := h
  refine ⟨_, (pss_cons (ps_if (pt_cmpR (op_eqD hr.units) (pe_tup (pa_cons (pv 0) (pa_cons (pv 2) pa_nil))) (pe_tup (pa_cons pe_int (pa_cons pe_int pa_nil))) (nomark _))
          (pss_one (ps_ret (pe_lst (pa_cons pe_str (pa_cons (pe_callTy call_str_int (by rfl) T.n_str (by decide +kernel) (pa_cons (pv 1) pa_nil)) pa_nil)))))
          pss_nil)
      (pss_cons (ps_if (pt_cmpR (op_eqD hr.units) (pe_tup (pa_cons (pv 0) (pa_cons (pv 2) pa_nil))) (pe_tup (pa_cons pe_int (pa_cons pe_int pa_nil))) (nomark _))
          (pss_one (ps_ret (pe_lst (pa_cons pe_str (pa_cons (pe_callTy call_str_int (by rfl) T.n_str (by decide +kernel) (pa_cons (pe_un un_neg (pv 1)) pa_nil)) pa_nil)))))
          pss_nil)
      (pss_cons (ps_if (pt_cmpR (op_eqD hr.units) (pe_tup (pa_cons (pv 0) (pa_cons (pv 2) pa_nil))) (pe_tup (pa_cons pe_int (pa_cons pe_int pa_nil))) (nomark _))
          (pss_one (ps_ret (pe_lst (pa_cons pe_str (pa_cons (pe_callTy call_str_int (by rfl) T.n_str (by decide +kernel) (pa_cons (pv 1) pa_nil)) pa_nil)))))
          pss_nil)
      (pss_one (ps_ret (pe_lst (pa_cons pe_str (pa_cons (pe_callTy call_str_int (by rfl) T.n_str (by decide +kernel) (pa_cons (pv 0) pa_nil)) (pa_cons (pe_callTy call_str_int (by rfl) T.n_str (by decide +kernel) (pa_cons (pv 1) pa_nil)) (pa_cons (pe_callTy call_str_int (by rfl) T.n_str (by decide +kernel) (pa_cons (pv 2) pa_nil)) pa_nil)))))))))), ?_⟩
  simp only [tSeq, tIfS, tTest, tB, tAnd, tOr, tNot, tAndV, tOrV, tNotV, tIf, tOp, tUn, tChain, rEq, rNe, rI0, rI, rU, tCallR, tCons, tNil, tC, tVar, tRet, tRetN, tTup_k, tLst_k, tCB, tNext, tAsg, gName, gTup, gCons, gNil, tDrop, tPar, tFld, ClX.tCVal, tPropR, rBin, rBinT, rNeOwn, rSetL_k, gSub, tMakeK_k, tMethR, rInO, tDNewK_k, tYes, wipe, tMakeR_k, tSMeth, tSMethK, rMulS, decide_true, tNever, sFld, rIsiT, and_false, rListOf, rTupOf, rLenSeq, rIxL, rIxT, rIxS, rCat_k, rRep_k, rSlL_k, rSlS, rNewStrs_k, rAppend_k, tBM, tBM0, tM0, tM1, tSl, tNoPart, tPart, tLc_k, tFor_k, iList, iTup, iEnumT, iRng1, iRng2, iRng2L, iStr, L2.start, List.map, List.length_cons, List.length_nil, List.cons_append, List.nil_append, List.getElem?_cons_succ, List.getElem?_cons_zero, Option.some.injEq, V.int.injEq, V.bl.injEq, V.str.injEq, V.ref.injEq, exists_eq_left', exists_eq_left, and_assoc, exists_and_left, exists_eq, exists_eq', true_and, and_true, List.set_cons_zero, List.set_cons_succ, List.set, decide_eq_true_eq, Bool.not_eq_true', if_true, if_false, rIx, cx_K, nox_K, List.replicate_succ, List.replicate_zero, Nat.reduceSub, Bool.true_eq_false, Bool.false_eq_true, Nat.reduceAdd, List.cons.injEq, reduceCtorEq, false_and, false_or, or_false, tAug, rSetO, rStrO, rIsKp, tXk, tDGet, tDIn, tDNotIn, sDPut, rUn, rBinI, rBinR, rJoin, tJs, tOrT, rIsi, tCallOI, rBinT, tFCall, tMakeL, tCMethK, ClX.tCMeth, tCall, tPar3]
  refine kNew.mk (by show 2 ≤ sizeLine; decide) fun t1 H1 f1 => kNew.mk (by show 2 ≤ sizeLine; decide) fun t2 H2 f2 => ?_
  refine ⟨.tuple [.int s0, .int d0], .tuple [.int 0, .int 0], .tup (.inl (.inl (f2.get f1.at_))) (.cons (.int _) (.cons (.int _) .nil)), .tup (.inl (.inl f2.at_)) (.cons (.int _) (.cons (.int _) .nil)), rfl, rfl, ?_⟩
  have s2 := f1.same.trans f2.same
  refine ⟨_, rfl, ?_⟩
  rw [eqv2]
  by_cases c1 : s0 = 0 ∧ d0 = 0
  · rw [if_pos (decide_eq_true c1)]
    refine ⟨Nat.lt_trans lo (by decide), kNew.mk (by show 2 ≤ sizeLine; decide) fun l H9 f9 => k l H9 (s2.trans f9.same) ?_⟩
    rw [f9.at_]
    unfold wordsP
    rw [if_pos c1]
    rfl
  rw [if_neg (by rw [decide_eq_false c1]; decide)]
  refine kNew.mk (by show 2 ≤ sizeLine; decide) fun t3 H3 f3 => kNew.mk (by show 2 ≤ sizeLine; decide) fun t4 H4 f4 => ?_
  refine ⟨.tuple [.int s0, .int d0], .tuple [.int 2, .int 1], .tup (.inl (.inl (f4.get f3.at_))) (.cons (.int _) (.cons (.int _) .nil)), .tup (.inl (.inl f4.at_)) (.cons (.int _) (.cons (.int _) .nil)), rfl, rfl, ?_⟩
  have s4 := (s2.trans f3.same).trans f4.same
  refine ⟨_, rfl, ?_⟩
  rw [eqv2]
  by_cases c2 : s0 = 2 ∧ d0 = 1
  · rw [if_pos (decide_eq_true c2)]
    refine ⟨by rw [Int.natAbs_neg]; exact Nat.lt_trans lo (by decide), kNew.mk (by show 2 ≤ sizeLine; decide) fun l H9 f9 => k l H9 (s4.trans f9.same) ?_⟩
    rw [f9.at_]
    unfold wordsP
    rw [if_neg c1, if_pos c2]
    rfl
  rw [if_neg (by rw [decide_eq_false c2]; decide)]
  refine kNew.mk (by show 2 ≤ sizeLine; decide) fun t5 H5 f5 => kNew.mk (by show 2 ≤ sizeLine; decide) fun t6 H6 f6 => ?_
  refine ⟨.tuple [.int s0, .int d0], .tuple [.int 1, .int 0], .tup (.inl (.inl (f6.get f5.at_))) (.cons (.int _) (.cons (.int _) .nil)), .tup (.inl (.inl f6.at_)) (.cons (.int _) (.cons (.int _) .nil)), rfl, rfl, ?_⟩
  have s6 := (s4.trans f5.same).trans f6.same
  refine ⟨_, rfl, ?_⟩
  rw [eqv2]
  by_cases c3 : s0 = 1 ∧ d0 = 0
  · rw [if_pos (decide_eq_true c3)]
    refine ⟨Nat.lt_trans lo (by decide), kNew.mk (by show 2 ≤ sizeLine; decide) fun l H9 f9 => k l H9 (s6.trans f9.same) ?_⟩
    rw [f9.at_]
    unfold wordsP
    rw [if_neg c1, if_neg c2, if_pos c3]
    rfl
  rw [if_neg (by rw [decide_eq_false c3]; decide)]
  refine ⟨Nat.lt_trans ls (by decide), Nat.lt_trans lo (by decide), Nat.lt_trans ld (by decide), kNew.mk (by show 4 ≤ sizeLine; decide) fun l H9 f9 => k l H9 (s6.trans f9.same) ?_⟩
  rw [f9.at_]
  unfold wordsP
  rw [if_neg c1, if_neg c2, if_neg c3]
  rfl
end
end Pf
end
section
namespace Pf
open PySem PySem.Spec PyProof.Rows L2 Ow StX
theorem PlaceAt.uniq {H : Hp} {C p : Addr} {q q' : Pl} (h : PlA H C p q) (h' : PlA H C p q') : q = q' := by
  obtain ⟨dx, e⟩ := h
  obtain ⟨dy, e'⟩ := h'
  rw [e] at e'
  have i := Option.some.inj e'
  injection i with i1 i2 i3
  have a1 := plF_slope q.s q.o q.d
  have a2 := plF_offset q.s q.o q.d
  have a3 := plF_odd q.s q.o q.d
  rw [i3, plF_slope] at a1
  rw [i3, plF_offset] at a2
  rw [i3, plF_odd] at a3
  obtain ⟨s, o, d⟩ := q
  obtain ⟨s', o', d'⟩ := q'
  injection Option.some.inj a1 with b1
  injection Option.some.inj a2 with b2
  injection Option.some.inj a3 with b3
  cases (show s' = s from b1)
  cases (show o' = o from b2)
  cases (show d' = d from b3)
  rfl
theorem pl_iff (q q' : Pl) : q = q' ↔ (q.s = q'.s ∧ q.o = q'.o ∧ q.d = q'.d) := by
  obtain ⟨s, o, d⟩ := q
  obtain ⟨s', o', d'⟩ := q'
  simp
theorem eqs_pl {C : Addr} {E : XK} {Q : Bool → Hp → Prop} : ∀ (zs : List ((Addr × Addr) × (Pl × Pl))) (H : Hp), (∀ z ∈ zs, PlA H C z.1.1 z.2.1 ∧ PlA H C z.1.2 z.2.2) → (∀ H', Same H H' → Q (zs.all fun z => decide (z.2.1 = z.2.2)) H') → kEqs C (spPEq C) E Q (zs.map Prod.fst) H
  | [], H, _, k => k H fun _ _ e => e
  | z :: r, H, h, k => by
    obtain ⟨⟨p, p'⟩, q, q'⟩ := z
    obtain ⟨g, g'⟩ := h _ List.mem_cons_self
    have hr : ∀ H', Same H H' → ∀ z ∈ r, PlA H' C z.1.1 z.2.1 ∧ PlA H' C z.1.2 z.2.2 := fun H' s z hz => ⟨(h z (List.mem_cons_of_mem _ hz)).1.same s, (h z (List.mem_cons_of_mem _ hz)).2.same s⟩
    have k' : ∀ H', Same H H' → Q (decide (q = q') && r.all fun z => decide (z.2.1 = z.2.2)) H' := fun H' s => by
      have z := k H' s
      rw [List.all_cons] at z
      exact z
    by_cases e : p = p'
    · subst e
      have eq := PlaceAt.uniq g g'
      refine .inl ⟨rfl, eqs_pl r H (hr H fun _ _ e => e) fun H' s => ?_⟩
      have z := k' H' s
      rw [decide_eq_true eq, Bool.true_and] at z
      exact z
    · refine .inr ⟨e, g.ins, g'.ins, p, p', q.s, q.o, q.d, q'.s, q'.o, q'.d, rfl, g, g', fun H1 s1 => ⟨_, rfl, fun hk => ?_, fun hk => ?_⟩⟩
      · have eq : q = q' := (pl_iff q q').mpr (of_decide_eq_true hk)
        refine eqs_pl r H1 (hr H1 s1) fun H' s => ?_
        have z := k' H' (s1.trans s)
        rw [decide_eq_true eq, Bool.true_and] at z
        exact z
      · have ne : ¬ q = q' := fun z => of_decide_eq_false hk ((pl_iff q q').mp z)
        have z := k' H1 s1
        rw [decide_eq_false ne, Bool.false_and] at z
        exact z
theorem bx_all (q q2 : Bx) (a b : List Addr) (ha : a.length = 4) (hb : b.length = 4) : (decide (q.x0 = q2.x0) && (decide (q.x1 = q2.x1) && (decide (q.y0 = q2.y0) && (decide (q.y1 = q2.y1) && true)))) = decide (q = q2) := by
  obtain ⟨x0, x1, y0, y1⟩ := q
  obtain ⟨x0', x1', y0', y1'⟩ := q2
  rw [Bool.eq_iff_iff]
  simp
section
variable {P : Program} {w : World} {K : PySem.W.Frag} {mg : Str → Option Value} {base : Heap} {a : Adr}
set_option maxHeartbeats 4000000
theorem ok_beq (T : Txt K mg a) : FnR P w K mg base CX0 6 a.Box_eq (spBEq a.Box a.Place) := by
  have G_box_places : FnR P w K mg base CX0 1 a.box_places (spBPlaces a.Box a.Place) := ok_bplaces T
  have G_Place_eq : FnR P w K mg base CX0 4 a.Place_eq (spPEq a.Place) := ok_p_eq T
  refine T.d_Box_eq.ok sc_Box_eq (fun _ _ _ _ _ _ us hl => match us, hl with | [_, _], _ => rfl) (fun vs H Q E h => by obtain ⟨b, b2, q, q2, rfl, _⟩ := h; rfl) (fun cdv A outer s H vs Q E hr h => ?_)
  obtain ⟨b, b2, q, q2, rfl, hb, hb2, k⟩ := h
  refine ⟨_, (pss_one (ps_ret (pe_and (pe_callB call_isi (by rfl) T.n_isinstance (by decide +kernel) (pa_cons (pv 1) (pa_cons (pe_glob (v := .ref a.Box) rfl T.m_Box rfl) pa_nil))) (pe_one (pe_cmpR (op_eqTO T.o_Place_eq T.f_Place_eq T.s_Place_not G_Place_eq (hr.mono (by decide)) pass0) (pe_callR G_box_places (hr.mono (by decide)) T.m_box_places T.k_box_places pass0 (pa_cons (pv 0) pa_nil)) (pe_callR G_box_places (hr.mono (by decide)) T.m_box_places T.k_box_places pass0 (pa_cons (pv 1) pa_nil)) (nomark _)))))), ?_⟩
  simp only [tSeq, tIfS, tTest, tB, tAnd, tOr, tNot, tAndV, tOrV, tNotV, tIf, tOp, tUn, tChain, rEq, rNe, rI0, rI, rU, tCallR, tCons, tNil, tC, tVar, tRet, tRetN, tTup_k, tLst_k, tCB, tNext, tAsg, gName, gTup, gCons, gNil, tDrop, tPar, tFld, ClX.tCVal, tPropR, rBin, rBinT, rNeOwn, rSetL_k, gSub, tMakeK_k, tMethR, rInO, tDNewK_k, tYes, wipe, tMakeR_k, tSMeth, tSMethK, rMulS, decide_true, tNever, sFld, rIsiT, and_false, rListOf, rTupOf, rLenSeq, rIxL, rIxT, rIxS, rCat_k, rRep_k, rSlL_k, rSlS, rNewStrs_k, rAppend_k, tBM, tBM0, tM0, tM1, tSl, tNoPart, tPart, tLc_k, tFor_k, iList, iTup, iEnumT, iRng1, iRng2, iRng2L, iStr, L2.start, List.map, List.length_cons, List.length_nil, List.cons_append, List.nil_append, List.getElem?_cons_succ, List.getElem?_cons_zero, Option.some.injEq, V.int.injEq, V.bl.injEq, V.str.injEq, V.ref.injEq, exists_eq_left', exists_eq_left, and_assoc, exists_and_left, exists_eq, exists_eq', true_and, and_true, List.set_cons_zero, List.set_cons_succ, List.set, decide_eq_true_eq, Bool.not_eq_true', if_true, if_false, rIx, cx_K, nox_K, List.replicate_succ, List.replicate_zero, Nat.reduceSub, Bool.true_eq_false, Bool.false_eq_true, Nat.reduceAdd, List.cons.injEq, reduceCtorEq, false_and, false_or, or_false, tAug, rSetO, rStrO, rIsKp, tXk, tDGet, tDIn, tDNotIn, sDPut, rUn, rBinI, rBinR, rJoin, tJs, tOrT, rIsi, tCallOI, rBinT, tFCall, tMakeL, tCMethK, ClX.tCMeth, tCall, tPar3]
  obtain ⟨p0, p1, p2, p3, hv⟩ := hb.v
  obtain ⟨r0, r1, r2, r3, hw⟩ := hb2.v
  obtain ⟨⟨dx, e1⟩, g0, g1, g2, g3⟩ := id hv
  obtain ⟨⟨dy, e2⟩, u0, u1, u2, u3⟩ := id hw
  refine ⟨_, _, .own _, T.c_Box.tyOf e2, true, kit_self, ?_⟩
  rw [if_pos rfl]
  refine ⟨b, q, p0, p1, p2, p3, rfl, hv, fun t H1 f1 => ⟨b2, q2, r0, r1, r2, r3, rfl, ⟨⟨dy, f1.get e2⟩, u0.same f1.same, u1.same f1.same, u2.same f1.same, u3.same f1.same⟩, fun t2 H2 f2 => ⟨t, t2, [p0, p1, p2, p3], [r0, r1, r2, r3], rfl, rfl, f2.get f1.at_, f2.at_, rfl, ?_⟩⟩⟩
  have s := f1.same.trans f2.same
  refine eqs_pl [((p0, r0), (q.x0, q2.x0)), ((p1, r1), (q.x1, q2.x1)), ((p2, r2), (q.y0, q2.y0)), ((p3, r3), (q.y1, q2.y1))] H2 (fun z hz => ?_) fun H' s' => ?_
  · simp only [List.mem_cons, List.not_mem_nil, or_false] at hz
    rcases hz with rfl | rfl | rfl | rfl
    · exact ⟨g0.same s, u0.same s⟩
    · exact ⟨g1.same s, u1.same s⟩
    · exact ⟨g2.same s, u2.same s⟩
    · exact ⟨g3.same s, u3.same s⟩
  · have z := k H' (s.trans s')
    rw [← bx_all q q2 [p0, p1, p2, p3] [r0, r1, r2, r3] rfl rfl] at z
    exact z
end
end Pf
end
section
namespace Pf
open PySem PySem.Spec PyProof.Rows L2 Ow StX
def LogP (q : Pl) : Prop := q.s.natAbs.log2 < 1000 ∧ q.o.natAbs.log2 < 1000 ∧ q.d.natAbs.log2 < 1000
def spPStr (C : Addr) : Sp := fun vs H Q _ => ∃ (p : Addr) (q : Pl), vs = [.ref p] ∧ PlA H C p q ∧ LogP q ∧ ∀ H', Same H H' → Q (.str (Txt.join " " (wordsP q))) H'
theorem int_txt {i : Int} (h : i.natAbs.log2 < 1000) : (Str.ofString (toString i)).length ≤ 1001 := by
  rw [PySem.ofString_length]
  exact int_text_length_le (k := 1000) (by decide) h
theorem words_len {q : Pl} (h : LogP q) : ((wordsP q).map fun x => x.length).sum + (wordsP q).length * ((" " : String) : Str).length ≤ 5000 := by
  have a1 := int_txt h.1
  have a2 := int_txt h.2.1
  have a3 := int_txt h.2.2
  have a4 := int_txt (i := -q.o) (by rw [Int.natAbs_neg]; exact h.2.1)
  have w1 : (("left" : String) : Str).length = 4 := by decide +kernel
  have w2 : (("right" : String) : Str).length = 5 := by decide +kernel
  have w3 : (("middle" : String) : Str).length = 6 := by decide +kernel
  have w4 : (("place" : String) : Str).length = 5 := by decide +kernel
  have w5 : ((" " : String) : Str).length = 1 := by decide +kernel
  unfold wordsP
  rw [w5]
  split
  · simp only [List.map_cons, List.map_nil, List.sum_cons, List.sum_nil, List.length_cons, List.length_nil, w1]
    omega
  split
  · simp only [List.map_cons, List.map_nil, List.sum_cons, List.sum_nil, List.length_cons, List.length_nil, w2]
    omega
  split
  · simp only [List.map_cons, List.map_nil, List.sum_cons, List.sum_nil, List.length_cons, List.length_nil, w3]
    omega
  · simp only [List.map_cons, List.map_nil, List.sum_cons, List.sum_nil, List.length_cons, List.length_nil, w4]
    omega
section
variable {P : Program} {w : World} {K : PySem.W.Frag} {mg : Str → Option Value} {base : Heap} {a : Adr}
set_option maxHeartbeats 4000000
theorem ok_pstr (T : Txt K mg a) : FnR P w K mg base CX0 2 a.Place_str (spPStr a.Place) := by
  have G_place_words : FnR P w K mg base CX0 1 a.place_words spWords := ok_words T
  refine T.d_Place_str.ok sc_Place_str (fun _ _ _ _ _ _ us hl => match us, hl with | [_], _ => rfl) (fun vs H Q E h => by obtain ⟨p, q, rfl, _⟩ := h; rfl) (fun cdv A outer s H vs Q E hr h => ?_)
  obtain ⟨p, q, rfl, ⟨dx, hp⟩, ⟨l1, l2, l3⟩, k⟩ := h
  refine ⟨_, (pss_one (ps_ret (pe_join pe_str (pe_callR G_place_words (hr.mono (by decide)) T.m_place_words T.k_place_words pass0 (pa_cons (pe_fld (pv 0) rfl) (pa_cons (pe_fld (pv 0) rfl) (pa_cons (pe_fld (pv 0) rfl) pa_nil))))))), ?_⟩
  simp only [tSeq, tIfS, tTest, tB, tAnd, tOr, tNot, tAndV, tOrV, tNotV, tIf, tOp, tUn, tChain, rEq, rNe, rI0, rI, rU, tCallR, tCons, tNil, tC, tVar, tRet, tRetN, tTup_k, tLst_k, tCB, tNext, tAsg, gName, gTup, gCons, gNil, tDrop, tPar, tFld, ClX.tCVal, tPropR, rBin, rBinT, rNeOwn, rSetL_k, gSub, tMakeK_k, tMethR, rInO, tDNewK_k, tYes, wipe, tMakeR_k, tSMeth, tSMethK, rMulS, decide_true, tNever, sFld, rIsiT, and_false, rListOf, rTupOf, rLenSeq, rIxL, rIxT, rIxS, rCat_k, rRep_k, rSlL_k, rSlS, rNewStrs_k, rAppend_k, tBM, tBM0, tM0, tM1, tSl, tNoPart, tPart, tLc_k, tFor_k, iList, iTup, iEnumT, iRng1, iRng2, iRng2L, iStr, L2.start, List.map, List.length_cons, List.length_nil, List.cons_append, List.nil_append, List.getElem?_cons_succ, List.getElem?_cons_zero, Option.some.injEq, V.int.injEq, V.bl.injEq, V.str.injEq, V.ref.injEq, exists_eq_left', exists_eq_left, and_assoc, exists_and_left, exists_eq, exists_eq', true_and, and_true, List.set_cons_zero, List.set_cons_succ, List.set, decide_eq_true_eq, Bool.not_eq_true', if_true, if_false, rIx, cx_K, nox_K, List.replicate_succ, List.replicate_zero, Nat.reduceSub, Bool.true_eq_false, Bool.false_eq_true, Nat.reduceAdd, List.cons.injEq, reduceCtorEq, false_and, false_or, or_false, tAug, rSetO, rStrO, rIsKp, tXk, tDGet, tDIn, tDNotIn, sDPut, rUn, rBinI, rBinR, rJoin, tJs, tOrT, rIsi, tCallOI, rBinT, tFCall, tMakeL, tCMethK, ClX.tCMeth, tCall, tPar3]
  exact ⟨_, _, _, hp, T.c_Place.cl, T.a_Place__slope, _, plF_slope .., _, _, _, hp, T.c_Place.cl, T.a_Place__offset, _, plF_offset .., _, _, _, hp, T.c_Place.cl, T.a_Place__odd, _, plF_odd .., q, rfl, l1, l2, l3, fun l H' s e => ⟨l, rfl, _, .inl (SqL.of e), Nat.le_trans (words_len ⟨l1, l2, l3⟩) (by decide), k H' s⟩⟩
end
end Pf
end
section
namespace Pf
open PySem PySem.Spec PyProof.Rows L2 Ow StX
abbrev plT (q : Pl) : Str := Txt.join " " (wordsP q)
theorem plT_len {q : Pl} (h : LogP q) : (plT q).length ≤ 5000 := by
  unfold plT
  rw [eq_of_beq (join_plain_closes " " (wordsP q))]
  exact Nat.le_trans (StrLaws.join_length_le _ _) (words_len h)
def bxTs (q : Bx) : List Str := [plT q.x0, plT q.x1, plT q.y0, plT q.y1]
def spBStr (B C : Addr) : Sp := fun vs H Q _ => ∃ (b : Addr) (q : Bx), vs = [.ref b] ∧ BoxAt H B C b q ∧ LogP q.x0 ∧ LogP q.x1 ∧ LogP q.y0 ∧ LogP q.y1 ∧ ∀ H', Same H H' → Q (.str (Txt.join " " (bxTs q))) H'
def spBEqO (K : PySem.W.Frag) (B C : Addr) : Sp := fun vs H Q _ => ∃ (b : Addr) (q : Bx) (v : V) (ty : Value), vs = [.ref b, v] ∧ BoxAt H B C b q ∧ TyX K H v ty ∧ PySem.W.kitOne K ty (.ref B) = some false ∧ Q (.bl false) H
/-- == with a box or with anything else -/
def spBEqA (K : PySem.W.Frag) (B C : Addr) : Sp := fun vs H Q E => spBEq B C vs H Q E ∨ spBEqO K B C vs H Q E
/-- a box whose mirror lies out of bounds: the first place is told -/
def spBInvX (B C Bp : Addr) : Sp := fun vs H Q E => ∃ (b : Addr) (q : Bx) (nm : Str), vs = [.ref b] ∧ BoxAt H B C b q ∧ ((¬ BdP (mirP q.x1) ∧ nm = "x0") ∨ (BdP (mirP q.x1) ∧ ¬ BdP (mirP q.x0) ∧ nm = "x1")) ∧ ∀ H', Same H H' → Out1 Bp "part" H' E (.str nm)
section
variable {P : Program} {w : World} {K : PySem.W.Frag} {mg : Str → Option Value} {base : Heap} {a : Adr}
set_option maxHeartbeats 4000000
theorem ok_bstr (T : Txt K mg a) : FnR P w K mg base CX0 5 a.Box_str (spBStr a.Box a.Place) := by
  have G_box_places : FnR P w K mg base CX0 1 a.box_places (spBPlaces a.Box a.Place) := ok_bplaces T
  have G_Place_str : FnR P w K mg base CX0 2 a.Place_str (spPStr a.Place) := ok_pstr T
  refine T.d_Box_str.ok sc_Box_str (fun _ _ _ _ _ _ us hl => match us, hl with | [_], _ => rfl) (fun vs H Q E h => by obtain ⟨b, q, rfl, _⟩ := h; rfl) (fun cdv A outer s H vs Q E hr h => ?_)
  obtain ⟨b, q, rfl, hb, h0, h1, h2, h3, k⟩ := h
  obtain ⟨p0, p1, p2, p3, hv⟩ := hb.v
  refine ⟨_, (pss_one (ps_ret (pe_join pe_str (pe_lc (own := [("place", 1)]) (g := gName 1) (by rfl) sc_Box_str.nd ((show PI _ _ _ (iTup K _) from pi_tup (pe_callR G_box_places (hr.mono (by decide)) T.m_box_places T.k_box_places pass0 (pa_cons (pv 0) pa_nil)))) (blkOk_by (own := [("place", 1)]) (N := ["self", "place"]) (sc := defScope s_Box_str) (by decide +kernel)) (fun _ _ _ _ _ => (pg_name (i := 1) sc_Box_str.nd rfl (Or.inl rfl))) (fun _ _ _ _ _ => pts_nil) (fun _ _ _ _ _ => (pe_callTy (call_strO T.o_Place_str T.f_Place_str G_Place_str (hr.mono (by decide)) pass0) (by rfl) T.n_str (by decide +kernel) (pa_cons (pv 1) pa_nil))))))), ?_⟩
  simp only [tSeq, tIfS, tTest, tB, tAnd, tOr, tNot, tAndV, tOrV, tNotV, tIf, tOp, tUn, tChain, rEq, rNe, rI0, rI, rU, tCallR, tCons, tNil, tC, tVar, tRet, tRetN, tTup_k, tLst_k, tCB, tNext, tAsg, gName, gTup, gCons, gNil, tDrop, tPar, tFld, ClX.tCVal, tPropR, rBin, rBinT, rNeOwn, rSetL_k, gSub, tMakeK_k, tMethR, rInO, tDNewK_k, tYes, wipe, tMakeR_k, tSMeth, tSMethK, rMulS, decide_true, tNever, sFld, rIsiT, and_false, rListOf, rTupOf, rLenSeq, rIxL, rIxT, rIxS, rCat_k, rRep_k, rSlL_k, rSlS, rNewStrs_k, rAppend_k, tBM, tBM0, tM0, tM1, tSl, tNoPart, tPart, tLc_k, tFor_k, iList, iTup, iEnumT, iRng1, iRng2, iRng2L, iStr, L2.start, List.map, List.length_cons, List.length_nil, List.cons_append, List.nil_append, List.getElem?_cons_succ, List.getElem?_cons_zero, Option.some.injEq, V.int.injEq, V.bl.injEq, V.str.injEq, V.ref.injEq, exists_eq_left', exists_eq_left, and_assoc, exists_and_left, exists_eq, exists_eq', true_and, and_true, List.set_cons_zero, List.set_cons_succ, List.set, decide_eq_true_eq, Bool.not_eq_true', if_true, if_false, rIx, cx_K, nox_K, List.replicate_succ, List.replicate_zero, Nat.reduceSub, Bool.true_eq_false, Bool.false_eq_true, Nat.reduceAdd, List.cons.injEq, reduceCtorEq, false_and, false_or, or_false, tAug, rSetO, rStrO, rIsKp, tXk, tDGet, tDIn, tDNotIn, sDPut, rUn, rBinI, rBinR, rJoin, tJs, tOrT, rIsi, tCallOI, rBinT, tFCall, tMakeL, tCMethK, ClX.tCMeth, tCall, tPar3]
  refine ⟨b, q, p0, p1, p2, p3, rfl, hv, fun t H1 f1 => ⟨t, rfl, ⟨_, .inl (.inl f1.at_)⟩, ?_⟩⟩
  refine kLc.map (walk_tup (xs := [.ref p0, .ref p1, .ref p2, .ref p3])) ((bxTs q).map V.str) rfl (fun H' s' => .inl (.inl (s' _ _ f1.at_))) (fun D j xv HA HB hj cl hY => ?_) fun l HA fA => ?_
  · obtain ⟨rfl, e⟩ := hY
    have hj : j < 4 := hj
    obtain ⟨_, g0, g1, g2, g3⟩ := hv
    have s := f1.same.trans cl.same
    obtain ⟨p, z, rfl, gz, hz, hzt⟩ : ∃ (p : Addr) (z : Pl), xv = .ref p ∧ PlA HB a.Place p z ∧ LogP z ∧ ((bxTs q).map V.str)[j]? = some (.str (plT z)) := by
      match j, hj with
      | 0, _ => cases e; exact ⟨p0, _, rfl, g0.same s, h0, rfl⟩
      | 1, _ => cases e; exact ⟨p1, _, rfl, g1.same s, h1, rfl⟩
      | 2, _ => cases e; exact ⟨p2, _, rfl, g2.same s, h2, rfl⟩
      | 3, _ => cases e; exact ⟨p3, _, rfl, g3.same s, h3, rfl⟩
    simp only [tSeq, tIfS, tTest, tB, tAnd, tOr, tNot, tAndV, tOrV, tNotV, tIf, tOp, tUn, tChain, rEq, rNe, rI0, rI, rU, tCallR, tCons, tNil, tC, tVar, tRet, tRetN, tTup_k, tLst_k, tCB, tNext, tAsg, gName, gTup, gCons, gNil, tDrop, tPar, tFld, ClX.tCVal, tPropR, rBin, rBinT, rNeOwn, rSetL_k, gSub, tMakeK_k, tMethR, rInO, tDNewK_k, tYes, wipe, tMakeR_k, tSMeth, tSMethK, rMulS, decide_true, tNever, sFld, rIsiT, and_false, rListOf, rTupOf, rLenSeq, rIxL, rIxT, rIxS, rCat_k, rRep_k, rSlL_k, rSlS, rNewStrs_k, rAppend_k, tBM, tBM0, tM0, tM1, tSl, tNoPart, tPart, tLc_k, tFor_k, iList, iTup, iEnumT, iRng1, iRng2, iRng2L, iStr, L2.start, List.map, List.length_cons, List.length_nil, List.cons_append, List.nil_append, List.getElem?_cons_succ, List.getElem?_cons_zero, Option.some.injEq, V.int.injEq, V.bl.injEq, V.str.injEq, V.ref.injEq, exists_eq_left', exists_eq_left, and_assoc, exists_and_left, exists_eq, exists_eq', true_and, and_true, List.set_cons_zero, List.set_cons_succ, List.set, decide_eq_true_eq, Bool.not_eq_true', if_true, if_false, rIx, cx_K, nox_K, List.replicate_succ, List.replicate_zero, Nat.reduceSub, Bool.true_eq_false, Bool.false_eq_true, Nat.reduceAdd, List.cons.injEq, reduceCtorEq, false_and, false_or, or_false, tAug, rSetO, rStrO, rIsKp, tXk, tDGet, tDIn, tDNotIn, sDPut, rUn, rBinI, rBinR, rJoin, tJs, tOrT, rIsi, tCallOI, rBinT, tFCall, tMakeL, tCMethK, ClX.tCMeth, tCall, tPar3]
    exact ⟨gz.ins, p, z, rfl, gz, hz, fun H' s' => ⟨_, rfl, kApp.at cl s' (by show 4 ≤ sizeLine; decide) hzt⟩⟩
  · refine ⟨l, rfl, bxTs q, .inl (SqL.of fA.at_), ?_, k HA (f1.same.trans fA.same)⟩
    have a0 := plT_len h0
    have a1 := plT_len h1
    have a2 := plT_len h2
    have a3 := plT_len h3
    have w5 : ((" " : String) : Str).length = 1 := by decide +kernel
    rw [w5]
    simp only [bxTs, List.map_cons, List.map_nil, List.sum_cons, List.sum_nil, List.length_cons, List.length_nil]
    omega
theorem ok_beqO (T : Txt K mg a) : FnR P w K mg base CX0 6 a.Box_eq (spBEqO K a.Box a.Place) := by
  have G_box_places : FnR P w K mg base CX0 1 a.box_places (spBPlaces a.Box a.Place) := ok_bplaces T
  have G_Place_eq : FnR P w K mg base CX0 4 a.Place_eq (spPEq a.Place) := ok_p_eq T
  refine T.d_Box_eq.ok sc_Box_eq (fun _ _ _ _ _ _ us hl => match us, hl with | [_, _], _ => rfl) (fun vs H Q E h => by obtain ⟨b, q, v, ty, rfl, _⟩ := h; rfl) (fun cdv A outer s H vs Q E hr h => ?_)
  obtain ⟨b, q, v, ty, rfl, hb, ht, hk, k⟩ := h
  refine ⟨_, (pss_one (ps_ret (pe_and (pe_callB call_isi (by rfl) T.n_isinstance (by decide +kernel) (pa_cons (pv 1) (pa_cons (pe_glob (v := .ref a.Box) rfl T.m_Box rfl) pa_nil))) (pe_one (pe_cmpR (op_eqTO T.o_Place_eq T.f_Place_eq T.s_Place_not G_Place_eq (hr.mono (by decide)) pass0) (pe_callR G_box_places (hr.mono (by decide)) T.m_box_places T.k_box_places pass0 (pa_cons (pv 0) pa_nil)) (pe_callR G_box_places (hr.mono (by decide)) T.m_box_places T.k_box_places pass0 (pa_cons (pv 1) pa_nil)) (nomark _)))))), ?_⟩
  simp only [tSeq, tIfS, tTest, tB, tAnd, tOr, tNot, tAndV, tOrV, tNotV, tIf, tOp, tUn, tChain, rEq, rNe, rI0, rI, rU, tCallR, tCons, tNil, tC, tVar, tRet, tRetN, tTup_k, tLst_k, tCB, tNext, tAsg, gName, gTup, gCons, gNil, tDrop, tPar, tFld, ClX.tCVal, tPropR, rBin, rBinT, rNeOwn, rSetL_k, gSub, tMakeK_k, tMethR, rInO, tDNewK_k, tYes, wipe, tMakeR_k, tSMeth, tSMethK, rMulS, decide_true, tNever, sFld, rIsiT, and_false, rListOf, rTupOf, rLenSeq, rIxL, rIxT, rIxS, rCat_k, rRep_k, rSlL_k, rSlS, rNewStrs_k, rAppend_k, tBM, tBM0, tM0, tM1, tSl, tNoPart, tPart, tLc_k, tFor_k, iList, iTup, iEnumT, iRng1, iRng2, iRng2L, iStr, L2.start, List.map, List.length_cons, List.length_nil, List.cons_append, List.nil_append, List.getElem?_cons_succ, List.getElem?_cons_zero, Option.some.injEq, V.int.injEq, V.bl.injEq, V.str.injEq, V.ref.injEq, exists_eq_left', exists_eq_left, and_assoc, exists_and_left, exists_eq, exists_eq', true_and, and_true, List.set_cons_zero, List.set_cons_succ, List.set, decide_eq_true_eq, Bool.not_eq_true', if_true, if_false, rIx, cx_K, nox_K, List.replicate_succ, List.replicate_zero, Nat.reduceSub, Bool.true_eq_false, Bool.false_eq_true, Nat.reduceAdd, List.cons.injEq, reduceCtorEq, false_and, false_or, or_false, tAug, rSetO, rStrO, rIsKp, tXk, tDGet, tDIn, tDNotIn, sDPut, rUn, rBinI, rBinR, rJoin, tJs, tOrT, rIsi, tCallOI, rBinT, tFCall, tMakeL, tCMethK, ClX.tCMeth, tCall, tPar3]
  refine ⟨_, _, .own _, ht, false, hk, ?_⟩
  rw [if_neg (by decide)]
  exact k
theorem ok_beqA (T : Txt K mg a) : FnR P w K mg base CX0 6 a.Box_eq (spBEqA K a.Box a.Place) := fun A outer s H us vs Q E hr e0 r h => by
  rcases h with h | h
  · exact ok_beq T A outer s H us vs Q E hr e0 r h
  · exact ok_beqO T A outer s H us vs Q E hr e0 r h
theorem ok_binvX (T : Txt K mg a) : FnR P w K mg base (CX P w) 13 a.Box_invert (spBInvX a.Box a.Place a.BadPlace) := by
  have G_Place_invert : FnR P w K mg base CX0 5 a.Place_invert (spPInv a.Place) := ok_p_inv T
  have G_Box_init : FnR P w K mg base (CX P w) 11 a.Box_init (spBInitX K a.Box a.Place a.BadPlace) := ok_bxinitX T
  refine T.d_Box_invert.okX sc_Box_invert (fun _ _ _ _ _ _ us hl => match us, hl with | [_], _ => rfl) (fun vs H Q E h => by obtain ⟨b, q, nm, rfl, _⟩ := h; rfl) (fun cdv A outer s H vs Q E hr h => ?_)
  obtain ⟨b, q, nm, rfl, ⟨dx, p0, p1, p2, p3, hb, h0, h1, h2, h3⟩, hd, k⟩ := h
  refine ⟨_, (pss_one (ps_ret (pe_makeRR T.M_Box G_Box_init (hr.mono (by decide)) T.m_Box (passUp (takes_of rfl rfl rfl rfl)) (pa_cons (pe_un (un_inv_own T.o_Place_invert T.f_Place_invert G_Place_invert (hr.mono (by decide)) pass0) (pe_fld (pv 0) rfl)) (pa_cons (pe_un (un_inv_own T.o_Place_invert T.f_Place_invert G_Place_invert (hr.mono (by decide)) pass0) (pe_fld (pv 0) rfl)) (pa_cons (pe_fld (pv 0) rfl) (pa_cons (pe_fld (pv 0) rfl) pa_nil))))))), ?_⟩
  simp only [tSeq, tIfS, tTest, tB, tAnd, tOr, tNot, tAndV, tOrV, tNotV, tIf, tOp, tUn, tChain, rEq, rNe, rI0, rI, rU, tCallR, tCons, tNil, tC, tVar, tRet, tRetN, tTup_k, tLst_k, tCB, tNext, tAsg, gName, gTup, gCons, gNil, tDrop, tPar, tFld, ClX.tCVal, tPropR, rBin, rBinT, rNeOwn, rSetL_k, gSub, tMakeK_k, tMethR, rInO, tDNewK_k, tYes, wipe, tMakeR_k, tSMeth, tSMethK, rMulS, decide_true, tNever, sFld, rIsiT, and_false, rListOf, rTupOf, rLenSeq, rIxL, rIxT, rIxS, rCat_k, rRep_k, rSlL_k, rSlS, rNewStrs_k, rAppend_k, tBM, tBM0, tM0, tM1, tSl, tNoPart, tPart, tLc_k, tFor_k, iList, iTup, iEnumT, iRng1, iRng2, iRng2L, iStr, L2.start, List.map, List.length_cons, List.length_nil, List.cons_append, List.nil_append, List.getElem?_cons_succ, List.getElem?_cons_zero, Option.some.injEq, V.int.injEq, V.bl.injEq, V.str.injEq, V.ref.injEq, exists_eq_left', exists_eq_left, and_assoc, exists_and_left, exists_eq, exists_eq', true_and, and_true, List.set_cons_zero, List.set_cons_succ, List.set, decide_eq_true_eq, Bool.not_eq_true', if_true, if_false, rIx, cx_K, nox_K, List.replicate_succ, List.replicate_zero, Nat.reduceSub, Bool.true_eq_false, Bool.false_eq_true, Nat.reduceAdd, List.cons.injEq, reduceCtorEq, false_and, false_or, or_false, tAug, rSetO, rStrO, rIsKp, tXk, tDGet, tDIn, tDNotIn, sDPut, rUn, rBinI, rBinR, rJoin, tJs, tOrT, rIsi, tCallOI, rBinT, tFCall, tMakeL, tCMethK, ClX.tCMeth, tCall, tPar3]
  refine ⟨_, dx, _, hb, T.c_Box.cl, T.a_Box_x1, _, bxF_x1 .., p1, rfl, h1.ins, p1, _, _, _, rfl, h1, fun m1 H1 s1 n1 g1 => ?_⟩
  refine ⟨_, dx, _, s1 _ _ hb, T.c_Box.cl, T.a_Box_x0, _, bxF_x0 .., p0, rfl, (h0.same s1).ins, p0, _, _, _, rfl, h0.same s1, fun m0 H2 s2 n2 g0 => ?_⟩
  have s12 := s1.trans s2
  refine ⟨_, dx, _, s12 _ _ hb, T.c_Box.cl, T.a_Box_y0, _, bxF_y0 .., _, dx, _, s12 _ _ hb, T.c_Box.cl, T.a_Box_y1, _, bxF_y1 .., ?_⟩
  refine kMake.mk fun x dx2 H3 s3 nx hx so => ?_
  have g1' : PlaceAt H2 a.Place m1 (2 - q.x1.s) (-q.x1.o) (1 - q.x1.d) := g1.same s2
  have out : ∀ H', (∀ b' o, b' ≠ x → H3 b' = some o → H' b' = some o) → Same H2 H' := fun H' m b' o e => m b' o (ne_of_none e nx) (s3 _ _ e)
  rcases hd with ⟨hn, rfl⟩ | ⟨hy, hn, rfl⟩
  · refine ⟨x, dx2, _, _, _, _, 0, "x0", rfl, hx, by decide, fun i hi => absurd hi (by omega), fun v hv H' m => ?_, rfl, fun H' m => k H' (s12.trans (out H' m))⟩
    cases hv
    exact .inr (.inl ⟨m1, _, _, _, rfl, g1'.same (out H' m), hn⟩)
  · refine ⟨x, dx2, _, _, _, _, 1, "x1", rfl, hx, by decide, fun i hi v hv => ?_, fun v hv H' m => ?_, rfl, fun H' m => k H' (s12.trans (out H' m))⟩
    · obtain rfl : i = 0 := by omega
      cases hv
      exact ⟨mirP q.x1, .inr ⟨m1, rfl, g1'.same s3⟩, hy⟩
    · cases hv
      exact .inr (.inl ⟨m0, _, _, _, rfl, g0.same (out H' m), hn⟩)
end
end Pf
end
section
namespace Pf
open PySem PySem.Spec PyProof.Rows L2 Ow StX
/-! ### a whole box, a box within -/
def insB (m : Int) : Bx := ⟨⟨0, m, 0⟩, ⟨2, -m, 1⟩, ⟨0, m, 0⟩, ⟨2, -m, 1⟩⟩
def spWhole (B C : Addr) : Sp := fun vs H Q _ => vs = [] ∧ NewB B C H (insB 0) Q
def spInside (K : PySem.W.Frag) (B C Bp : Addr) : Sp := fun vs H Q E => ∃ v : V, vs = [.ref B, v] ∧
  ((∃ m : Int, v = .int m ∧ Bd1 m ∧ NewB B C H (insB m) Q) ∨ (∃ m : Int, v = .int m ∧ ¬ Bd1 m ∧ ∀ H', Same H H' → Out1 Bp "part" H' E (.str "x0")) ∨ (NoInt K H v ∧ Out1 Bp "part" H E (.str "margin")))
theorem bd_zero : Bd1 0 := by decide
theorem bd_one : Bd1 1 := by decide
theorem bd_two : Bd1 2 := by decide
theorem bd_neg {m : Int} (h : Bd1 m) : Bd1 (-m) := by
  obtain ⟨h1, h2⟩ := h
  exact ⟨by omega, by omega⟩
/-- a box of four values, good or bad -/
def spBInitA (K : PySem.W.Frag) (B C Bp : Addr) : Sp := fun vs H Q E => spBInit K B C vs H Q E ∨ spBInitX K B C Bp vs H Q E
theorem newB_makeA {K : PySem.W.Frag} {B C Bp : Addr} {H : Hp} {v0 v1 v2 v3 : V} {q : Bx} {Q : VK} {E : XK} (i0 : InP K C H v0 q.x0) (i1 : InP K C H v1 q.x1) (i2 : InP K C H v2 q.y0) (i3 : InP K C H v3 q.y1) (k : NewB B C H q Q) : kMake B (spBInitA K B C Bp) E Q [v0, v1, v2, v3] H :=
  fun x dx nx nd ne => .inl (newB_make i0 i1 i2 i3 k x dx nx nd ne)
section
variable {P : Program} {w : World} {K : PySem.W.Frag} {mg : Str → Option Value} {base : Heap} {a : Adr}
set_option maxHeartbeats 4000000
theorem ok_bxinitA (T : Txt K mg a) : FnR P w K mg base (CX P w) 11 a.Box_init (spBInitA K a.Box a.Place a.BadPlace) := FnR.or (ok_bxinit T) (ok_bxinitX T)
theorem ok_whole (T : Txt K mg a) : FnR P w K mg base (CX P w) 13 a.Box_whole (spWhole a.Box a.Place) := by
  have G_Box_init : FnR P w K mg base (CX P w) 11 a.Box_init (spBInitA K a.Box a.Place a.BadPlace) := ok_bxinitA T
  obtain ⟨fl, FL⟩ := id T.d_from_left
  obtain ⟨fr, FR⟩ := id T.d_from_right
  have O_left := ok_leftX_fn (P := P) (w := w) (mg := mg) (base := base) T FL
  have O_right := ok_rightX_fn (P := P) (w := w) (mg := mg) (base := base) T FR
  obtain ⟨_, d_left, b_left⟩ := FL.binds1 (ps := ["k"]) 0 0 (by simp) rfl (fun T kV doc pm an cdv ct us its hu hi => match us, its, hu, hi with | [], [_], _, _ => ⟨_, rfl, rfl⟩)
  obtain ⟨_, d_right, b_right⟩ := FR.binds1 (ps := ["k"]) 0 0 (by simp) rfl (fun T kV doc pm an cdv ct us its hu hi => match us, its, hu, hi with | [], [_], _, _ => ⟨_, rfl, rfl⟩)
  refine T.d_Box_whole.okX sc_Box_whole (fun _ _ _ _ _ _ us hl => match us, hl with | [], _ => rfl) (fun vs H Q E h => by obtain ⟨rfl, _⟩ := h; rfl) (fun cdv A outer s H vs Q E hr h => ?_)
  obtain ⟨rfl, k⟩ := h
  refine ⟨_, (pss_one (ps_ret (pe_makeRR T.M_Box G_Box_init (hr.mono (by decide)) T.m_Box (passUp (takes_of rfl rfl rfl rfl)) (pa_cons (pe_call0 O_left (hr.mono (by decide)) (by rfl) T.m_from_left T.k_from_left b_left d_left (passUp (takes_of rfl rfl rfl rfl))) (pa_cons (pe_call0 O_right (hr.mono (by decide)) (by rfl) T.m_from_right T.k_from_right b_right d_right (passUp (takes_of rfl rfl rfl rfl))) (pa_cons (pe_call0 O_left (hr.mono (by decide)) (by rfl) T.m_from_left T.k_from_left b_left d_left (passUp (takes_of rfl rfl rfl rfl))) (pa_cons (pe_call0 O_right (hr.mono (by decide)) (by rfl) T.m_from_right T.k_from_right b_right d_right (passUp (takes_of rfl rfl rfl rfl))) pa_nil))))))), ?_⟩
  simp only [tSeq, tIfS, tTest, tB, tAnd, tOr, tNot, tAndV, tOrV, tNotV, tIf, tOp, tUn, tChain, rEq, rNe, rI0, rI, rU, tCallR, tCons, tNil, tC, tVar, tRet, tRetN, tTup_k, tLst_k, tCB, tNext, tAsg, gName, gTup, gCons, gNil, tDrop, tPar, tFld, ClX.tCVal, tPropR, rBin, rBinT, rNeOwn, rSetL_k, gSub, tMakeK_k, tMethR, rInO, tDNewK_k, tYes, wipe, tMakeR_k, tSMeth, tSMethK, rMulS, decide_true, tNever, sFld, rIsiT, and_false, rListOf, rTupOf, rLenSeq, rIxL, rIxT, rIxS, rCat_k, rRep_k, rSlL_k, rSlS, rNewStrs_k, rAppend_k, tBM, tBM0, tM0, tM1, tSl, tNoPart, tPart, tLc_k, tFor_k, iList, iTup, iEnumT, iRng1, iRng2, iRng2L, iStr, L2.start, List.map, List.length_cons, List.length_nil, List.cons_append, List.nil_append, List.getElem?_cons_succ, List.getElem?_cons_zero, Option.some.injEq, V.int.injEq, V.bl.injEq, V.str.injEq, V.ref.injEq, exists_eq_left', exists_eq_left, and_assoc, exists_and_left, exists_eq, exists_eq', true_and, and_true, List.set_cons_zero, List.set_cons_succ, List.set, decide_eq_true_eq, Bool.not_eq_true', if_true, if_false, rIx, cx_K, nox_K, List.replicate_succ, List.replicate_zero, Nat.reduceSub, Bool.true_eq_false, Bool.false_eq_true, Nat.reduceAdd, List.cons.injEq, reduceCtorEq, false_and, false_or, or_false, tAug, rSetO, rStrO, rIsKp, tXk, tDGet, tDIn, tDNotIn, sDPut, rUn, rBinI, rBinR, rJoin, tJs, tOrT, rIsi, tCallOI, rBinT, tFCall, tMakeL, tCMethK, ClX.tCMeth, tCall, tPar3]
  refine ⟨_, rfl, .inl ⟨0, rfl, fun p0 H1 s1 n1 g1 => ⟨_, rfl, .inl ⟨0, rfl, fun p1 H2 s2 n2 g2 => ⟨_, rfl, .inl ⟨0, rfl, fun p2 H3 s3 n3 g3 => ⟨_, rfl, .inl ⟨0, rfl, fun p3 H4 s4 n4 g4 => ?_⟩⟩⟩⟩⟩⟩⟩⟩
  refine newB_makeA (q := insB 0) ⟨.inr ⟨p0, rfl, ((g1.same s2).same s3).same s4⟩, bd_zero, bd_zero, bd_zero⟩ ⟨.inr ⟨p1, rfl, (g2.same s3).same s4⟩, bd_two, bd_zero, bd_one⟩ ⟨.inr ⟨p2, rfl, g3.same s4⟩, bd_zero, bd_zero, bd_zero⟩ ⟨.inr ⟨p3, rfl, g4⟩, bd_two, bd_zero, bd_one⟩ fun b H' s' n' hB => ?_
  have s := ((s1.trans s2).trans s3).trans s4
  exact k b H' (s.trans s') (s.free n') hB
theorem ok_inside_fn (T : Txt K mg a) : ∃ fd, FnOk P w K mg base (CX P w) 13 a.Box_inside fd ["cls", "margin"] (spInside K a.Box a.Place a.BadPlace) ∧ FunD K "inside" "Box.inside" (defArgs s_Box_inside) (defBody s_Box_inside) (defScope s_Box_inside) [] [] a.Box_inside fd := by
  have G_is_int : FnR P w K mg base CX0 1 a.is_int (spIntV K) := ok_intV T
  obtain ⟨_, O_BadPlace, B_BadPlace⟩ := ok_badplace (P := P) (w := w) (base := base) T
  have G_Box_init : FnR P w K mg base (CX P w) 11 a.Box_init (spBInitA K a.Box a.Place a.BadPlace) := ok_bxinitA T
  have G_from_left : FnR P w K mg base (CX P w) 5 a.from_left (spFromX K a.Place a.BadPlace fun i => (0, i, 0)) := ok_leftX T
  have G_from_right : FnR P w K mg base (CX P w) 5 a.from_right (spFromX K a.Place a.BadPlace fun i => (2, -i, 1)) := ok_rightX T
  obtain ⟨fd, FD⟩ := id T.d_Box_inside
  refine ⟨fd, FD.ok sc_Box_inside (fun vs H Q E h => by obtain ⟨v, rfl, _⟩ := h; rfl) (fun cdv A outer s H vs Q E hr h => ?_), FD⟩
  obtain ⟨v, rfl, h⟩ := h
  refine ⟨_, (pss_cons (ps_if (pt_not (pt_val (pe_callR G_is_int (hr.mono (by decide)) T.m_is_int T.k_is_int pass0 (pa_cons (pv 1) pa_nil))))
          (pss_one (ps_raise rfl (takes_of rfl rfl rfl rfl) (pmk_oex T.e_BadPlace.ox T.e_BadPlace.iC T.e_BadPlace.tI O_BadPlace (hr.mono (by decide)) B_BadPlace .nil pass0 rfl T.m_BadPlace (pa_cons pe_str pa_nil))))
          pss_nil)
      (pss_cons (ps_par (i := 2) (j := 3) (by rfl) sc_Box_inside.nd rfl rfl (by decide) rfl rfl (pa_cons (pe_callR G_from_left (hr.mono (by decide)) T.m_from_left T.k_from_left (passUp (takes_of rfl rfl rfl rfl)) (pa_cons (pv 1) pa_nil)) (pa_cons (pe_callR G_from_right (hr.mono (by decide)) T.m_from_right T.k_from_right (passUp (takes_of rfl rfl rfl rfl)) (pa_cons (pv 1) pa_nil)) pa_nil)) (by rfl))
      (pss_one (ps_ret (pe_makeL T.M_Box G_Box_init (hr.mono (by decide)) (i := 0) rfl (Or.inl rfl) (passUp (takes_of rfl rfl rfl rfl)) (pa_cons (pv 2) (pa_cons (pv 3) (pa_cons (pv 2) (pa_cons (pv 3) pa_nil))))))))), ?_⟩
  simp only [tSeq, tIfS, tTest, tB, tAnd, tOr, tNot, tAndV, tOrV, tNotV, tIf, tOp, tUn, tChain, rEq, rNe, rI0, rI, rU, tCallR, tCons, tNil, tC, tVar, tRet, tRetN, tTup_k, tLst_k, tCB, tNext, tAsg, gName, gTup, gCons, gNil, tDrop, tPar, tFld, ClX.tCVal, tPropR, rBin, rBinT, rNeOwn, rSetL_k, gSub, tMakeK_k, tMethR, rInO, tDNewK_k, tYes, wipe, tMakeR_k, tSMeth, tSMethK, rMulS, decide_true, tNever, sFld, rIsiT, and_false, rListOf, rTupOf, rLenSeq, rIxL, rIxT, rIxS, rCat_k, rRep_k, rSlL_k, rSlS, rNewStrs_k, rAppend_k, tBM, tBM0, tM0, tM1, tSl, tNoPart, tPart, tLc_k, tFor_k, iList, iTup, iEnumT, iRng1, iRng2, iRng2L, iStr, L2.start, List.map, List.length_cons, List.length_nil, List.cons_append, List.nil_append, List.getElem?_cons_succ, List.getElem?_cons_zero, Option.some.injEq, V.int.injEq, V.bl.injEq, V.str.injEq, V.ref.injEq, exists_eq_left', exists_eq_left, and_assoc, exists_and_left, exists_eq, exists_eq', true_and, and_true, List.set_cons_zero, List.set_cons_succ, List.set, decide_eq_true_eq, Bool.not_eq_true', if_true, if_false, rIx, cx_K, nox_K, List.replicate_succ, List.replicate_zero, Nat.reduceSub, Bool.true_eq_false, Bool.false_eq_true, Nat.reduceAdd, List.cons.injEq, reduceCtorEq, false_and, false_or, or_false, tAug, rSetO, rStrO, rIsKp, tXk, tDGet, tDIn, tDNotIn, sDPut, rUn, rBinI, rBinR, rJoin, tJs, tOrT, rIsi, tCallOI, rBinT, tFCall, tMakeL, tCMethK, ClX.tCMeth, tCall, tPar3]
  rcases h with ⟨m, rfl, hb, k⟩ | ⟨m, rfl, hb, k⟩ | ⟨hni, k⟩
  · refine ⟨_, rfl, .inl ⟨m, rfl, true, rfl, ?_⟩⟩
    rw [if_neg (by decide)]
    refine ⟨_, rfl, .inl ⟨m, rfl, fun p0 H1 s1 n1 g1 => ⟨_, rfl, .inl ⟨m, rfl, fun p1 H2 s2 n2 g2 => ?_⟩⟩⟩⟩
    have j0 : InP K a.Place H2 (.ref p0) ⟨0, m, 0⟩ := ⟨.inr ⟨p0, rfl, g1.same s2⟩, bd_zero, hb, bd_zero⟩
    have j1 : InP K a.Place H2 (.ref p1) ⟨2, -m, 1⟩ := ⟨.inr ⟨p1, rfl, g2⟩, bd_two, bd_neg hb, bd_one⟩
    exact newB_makeA (q := insB m) j0 j1 j0 j1 fun b H' s' n' hB => k b H' ((s1.trans s2).trans s') ((s1.trans s2).free n') hB
  · refine ⟨_, rfl, .inl ⟨m, rfl, true, rfl, ?_⟩⟩
    rw [if_neg (by decide)]
    refine ⟨_, rfl, .inl ⟨m, rfl, fun p0 H1 s1 n1 g1 => ⟨_, rfl, .inl ⟨m, rfl, fun p1 H2 s2 n2 g2 => ?_⟩⟩⟩⟩
    refine kMake.mk fun x dx H3 s3 nx hx so => .inr ?_
    have out : ∀ H', (∀ b' o, b' ≠ x → H3 b' = some o → H' b' = some o) → Same H2 H' := fun H' m b' o e => m b' o (ne_of_none e nx) (s3 _ _ e)
    refine ⟨x, dx, _, _, _, _, 0, "x0", rfl, hx, by decide, fun i hi => absurd hi (by omega), fun v hv H' m' => ?_, rfl, fun H' m' => k H' ((s1.trans s2).trans (out H' m'))⟩
    cases hv
    exact .inr (.inl ⟨p0, _, _, _, rfl, g1.same (s2.trans (out H' m')), fun z => hb z.2.1⟩)
  · refine ⟨_, rfl, .inr ⟨hni, false, rfl, ?_⟩⟩
    rw [if_pos rfl]
    exact err1_made k
theorem ok_inside (T : Txt K mg a) : FnR P w K mg base (CX P w) 13 a.Box_inside (spInside K a.Box a.Place a.BadPlace) := by
  obtain ⟨fd, O, FD⟩ := ok_inside_fn (P := P) (w := w) (base := base) T
  exact (O.raw (FD.bindsN (fun _ _ _ _ _ _ us hl => match us, hl with | [_, _], _ => rfl)) .nil).imp fun vs H Q E h => by rw [List.append_nil]; exact h
end
end Pf
end
section
namespace Pf
open PySem PySem.Spec PyProof.Rows L2 Ow StX
theorem tSeq_step {t u : TS} {D : Ends} {σ : L2.St} {H : Hp} (h : ∀ R : TS, R = u → t { D with nx := R D } σ H) : tSeq t u D σ H := h u rfl
def SameBut (d : Addr) (H H' : Hp) : Prop := ∀ b o, b ≠ d → H b = some o → H' b = some o
theorem SameBut.of {d : Addr} {H H' : Hp} (s : Same H H') : SameBut d H H' := fun b o _ e => s b o e
theorem SameBut.trans {d : Addr} {H H1 H2 : Hp} (x : SameBut d H H1) (y : SameBut d H1 H2) : SameBut d H H2 := fun b o n e => y b o n (x b o n e)
theorem SameBut.upd {d : Addr} {H : Hp} {o : HO} : SameBut d H (upd H d o) := fun b u n e => by rw [upd_ne n]; exact e
theorem same_new {H : Hp} {p : Addr} {o : HO} (h : H p = none) : Same H (upd H p o) := fun b u e => by rw [upd_ne (ne_of_none e h)]; exact e
theorem dp_ints {K : PySem.W.Frag} {H : Hp} : ∀ ns : List Int, DpAll K H (ns.map V.int) (ns.map PyData.int)
  | [] => .nil
  | i :: r => .cons (.int i) (dp_ints r)
theorem lay_ints : ∀ ns : List Int, PyData.canLayAll0 (ns.map PyData.int) = true ∧ PyData.depthAll (ns.map PyData.int) ≤ 1
  | [] => ⟨rfl, by simp [PyData.depthAll]⟩
  | i :: r => by
    obtain ⟨h1, h2⟩ := lay_ints r
    refine ⟨by simp only [List.map_cons, PyData.canLayAll0, PyData.canLay0, h1]; rfl, ?_⟩
    simp only [List.map_cons, PyData.depthAll, PyData.depth]
    omega
theorem shaped_ints (ns : List Int) : SeqAt.shaped (.list (ns.map PyData.int)) = true := by
  obtain ⟨h1, h2⟩ := lay_ints ns
  refine Bool.and_eq_true_iff.mpr ⟨h1, decide_eq_true ?_⟩
  simp only [PyData.depth]
  omega
theorem eqv_ints (ns : List Int) : PyData.eqv (.list (ns.map PyData.int)) (.list []) = decide (ns = []) := by
  cases ns with
  | nil => simp [PyData.eqv, PyData.eqvAll]
  | cons i r => simp [PyData.eqv, PyData.eqvAll]
def Pen (H : Hp) (p c : Addr) (n : Int) : Prop := ∃ (ns : List Int) (b r : Int), H p = some (.lst [.ref c, .int b, .int r]) ∧ H c = some (.lst (ns.map V.int)) ∧ c ≠ p ∧ ns.length ≤ 63 ∧ 0 ≤ b ∧ b ≤ n ∧ 0 ≤ r
theorem Pen.same {H H' : Hp} {p c : Addr} {n : Int} (x : Pen H p c n) (s : Same H H') : Pen H' p c n := by
  obtain ⟨ns, b, r, h1, h2, h⟩ := x
  exact ⟨ns, b, r, s _ _ h1, s _ _ h2, h⟩
theorem atI_any {xs : List V} {z : Int} (h0 : 0 ≤ z) (h1 : z < xs.length) : ∃ v, v ∈ xs ∧ atI xs z = some v := by
  obtain ⟨k, rfl⟩ : ∃ k : Nat, z = (k : Int) := ⟨z.toNat, by omega⟩
  have hk : k < xs.length := by omega
  exact ⟨xs[k], List.getElem_mem hk, atI_nat (List.getElem?_eq_getElem hk)⟩
theorem great0 {c : Int} (h : (10 : Int) ^ Int.toNat 18 ≤ if c < 0 then -c else c) : 0 ≤ 2 * ((if c < 0 then -c else c) - 10 ^ Int.toNat 18) + (if decide (c < 0) = true then 1 else 0) := by
  split <;> split <;> omega
theorem cmul64 {i j : Int} (h1 : i.natAbs < 2 ^ 64) (h2 : j.natAbs < 2 ^ 64) : CMulW i j := wide_mul h1 h2 (by decide) (by decide) (by decide)
theorem pw1 {c b : Int} (h0 : 0 ≤ b) (h1 : b < 1048576) : (c % 2147483563 + 44125 * b + 343).natAbs < 2 ^ 64 := by
  have a := Int.emod_nonneg c (show (2147483563 : Int) ≠ 0 by decide)
  have d := Int.emod_lt_of_pos c (show (0 : Int) < 2147483563 by decide)
  have e : (2 : Nat) ^ 64 = 18446744073709551616 := by decide
  rw [e]
  omega
theorem pw2 {M b : Int} (m0 : 0 ≤ M) (m1 : M < 2147483629) (h0 : 0 ≤ b) (h1 : b < 1048576) : (M * (2 * b + 167) + 53263 * b * b + 37).natAbs < 2 ^ 64 := by
  have e : (2 : Nat) ^ 64 = 18446744073709551616 := by decide
  have a1 : M * (2 * b + 167) ≤ 2147483647 * 2097319 := Int.mul_le_mul (by omega) (by omega) (by omega) (by omega)
  have a0 : 0 ≤ M * (2 * b + 167) := Int.mul_nonneg m0 (by omega)
  have b1 : 53263 * b * b ≤ 55850303488 * 1048576 := Int.mul_le_mul (by omega) (by omega) h0 (by omega)
  have b0 : 0 ≤ 53263 * b * b := Int.mul_nonneg (by omega) h0
  rw [e]
  omega
theorem in64 {x : Int} (h : 0 ≤ x) (h1 : x < 18446744073709551616) : x.natAbs < 2 ^ 64 := by
  have e : (2 : Nat) ^ 64 = 18446744073709551616 := by decide
  rw [e]
  omega
theorem pA : (0 : Int) < 2147483563 := by decide
theorem pB : (0 : Int) < 2147483629 := by decide
theorem pC : (0 : Int) < 2147483587 := by decide
theorem great1 {c : Int} (h : (10 : Int) ^ Int.toNat 18 ≤ if c < 0 then -c else c) : 0 ≤ 2 * ((if c < 0 then -c else c) - 10 ^ Int.toNat 18) + (if c < 0 then 1 else 0) := by
  split <;> omega
def spPDraw : Sp := fun vs H Q _ => ∃ (p c : Addr) (m n : Int), vs = [.ref p, .int m] ∧ Pen H p c n ∧ n < 1048576 ∧ 0 < m ∧ m < 1073741824 ∧ ∀ (z : Int) (H' : Hp), 0 ≤ z → z < m → SameBut p H H' → Pen H' p c (n + 1) → Q (.int z) H'
section
variable {P : Program} {w : World} {K : PySem.W.Frag} {mg : Str → Option Value} {base : Heap} {a : Adr}
set_option maxHeartbeats 4000000
theorem ok_pdraw (T : Txt K mg a) : FnR P w K mg base CX0 1 a._law_draw spPDraw := by
  refine T.d__law_draw.ok sc__law_draw (fun _ _ _ _ _ _ us hl => match us, hl with | [_, _], _ => rfl) (fun vs H Q E h => by obtain ⟨p, c, m, n, rfl, _⟩ := h; rfl) (fun cdv A outer s H vs Q E hr h => ?_)
  obtain ⟨p, c, m, n, rfl, ⟨ns, b, r, hp, hc, hcp, hns, hb, hbn, hr0⟩, hn, hm, hm2, k⟩ := h
  have hu := hu_of hr
  refine ⟨_, (pss_cons (ps_if (pt_cmpR op_gt (pe_ix ix_list (pv 0) pe_int (fun _ _ => rfl)) pe_int (nomark _))
          (pss_cons (ps_set (i := 2) sc__law_draw.nd rfl (Or.inl rfl) (pe_op op_mod (pe_callTy call_int1 (by rfl) T.n_int (by decide +kernel) (pa_cons (pe_ix ix_list (pv 0) pe_int (fun _ _ => rfl)) pa_nil)) (pv 1)))
          (pss_cons (ps_asg (pe_op op_fdiv (pe_callTy call_int1 (by rfl) T.n_int (by decide +kernel) (pa_cons (pe_ix ix_list (pv 0) pe_int (fun _ _ => rfl)) pa_nil)) (pv 1)) (pg_sub (pv 0) pe_int set_list))
          (pss_one (ps_ret (pv 2)))))
          pss_nil)
      (pss_cons (ps_set (i := 3) sc__law_draw.nd rfl (Or.inl rfl) (pe_ix ix_list (pv 0) pe_int (fun _ _ => rfl)))
      (pss_cons (ps_asg (pe_op op_add (pv 3) pe_int) (pg_sub (pv 0) pe_int set_list))
      (pss_cons (ps_set (i := 4) sc__law_draw.nd rfl (Or.inl rfl) (pe_op op_add (pe_op op_mulW pe_int (pv 3)) pe_int))
      (pss_cons (ps_if (pt_cmpR (op_neD hr.units) (pe_ix ix_list (pv 0) pe_int (fun _ _ => rfl)) (pe_lst pa_nil) (nomark _))
          (pss_one (ps_set (i := 4) sc__law_draw.nd rfl (Or.inl rfl) (pe_ix ix_list (pe_ix ix_list (pv 0) pe_int (fun _ _ => rfl)) (pe_op op_mod (pe_callTy call_int1 (by rfl) T.n_int (by decide +kernel) (pa_cons (pv 3) pa_nil)) (pe_callB call_len_seq (by rfl) T.n_len (by decide +kernel) (pa_cons (pe_ix ix_list (pv 0) pe_int (fun _ _ => rfl)) pa_nil))) (fun _ _ => rfl))))
          pss_nil)
      (pss_cons (ps_if (PW.pt (pw_and (pt_cmpR op_lt (pv 3) (pe_callB call_len_seq (by rfl) T.n_len (by decide +kernel) (pa_cons (pe_ix ix_list (pv 0) pe_int (fun _ _ => rfl)) pa_nil)) (nomark _)) (pw_and1 (pt_cmpR op_ge (pe_callB call_abs (by rfl) T.n_abs (by decide +kernel) (pa_cons (pv 4) pa_nil)) (pe_op op_pow pe_int pe_int) (nomark _)))))
          (pss_cons (ps_set (i := 5) sc__law_draw.nd rfl (Or.inl rfl) (pe_op op_add (pe_op op_mul pe_int (pe_op op_sub (pe_callB call_abs (by rfl) T.n_abs (by decide +kernel) (pa_cons (pv 4) pa_nil)) (pe_op op_pow pe_int pe_int))) (pe_callTy call_int1 (by rfl) T.n_int (by decide +kernel) (pa_cons (pe_cmpR op_lt (pv 4) pe_int (nomark _)) pa_nil))))
          (pss_cons (ps_asg (pe_op op_fdiv (pe_callTy call_int1 (by rfl) T.n_int (by decide +kernel) (pa_cons (pv 5) pa_nil)) (pv 1)) (pg_sub (pv 0) pe_int set_list))
          (pss_one (ps_ret (pe_op op_mod (pe_callTy call_int1 (by rfl) T.n_int (by decide +kernel) (pa_cons (pv 5) pa_nil)) (pv 1))))))
          pss_nil)
      (pss_cons (ps_set (i := 6) sc__law_draw.nd rfl (Or.inl rfl) (pe_op op_mod (pe_callTy call_int1 (by rfl) T.n_int (by decide +kernel) (pa_cons (pe_op op_pow (pe_op op_add (pe_op op_add (pe_op op_mod (pe_callTy call_int1 (by rfl) T.n_int (by decide +kernel) (pa_cons (pv 4) pa_nil)) pe_int) (pe_op op_mulW pe_int (pv 3))) pe_int) pe_int) pa_nil)) pe_int))
      (pss_cons (ps_set (i := 6) sc__law_draw.nd rfl (Or.inl rfl) (pe_op op_add (pe_op op_add (pe_op op_mulW (pv 6) (pe_op op_add (pe_op op_mulW pe_int (pv 3)) pe_int)) (pe_op op_mulW (pe_op op_mulW pe_int (pv 3)) (pv 3))) pe_int))
      (pss_one (ps_ret (pe_op op_mod (pe_callTy call_int1 (by rfl) T.n_int (by decide +kernel) (pa_cons (pe_op op_fdiv (pe_op op_mod (pe_callTy call_int1 (by rfl) T.n_int (by decide +kernel) (pa_cons (pe_op op_pow (pv 6) pe_int) pa_nil)) pe_int) pe_int) pa_nil)) (pv 1)))))))))))), ?_⟩
  refine tSeq_step fun R e1 => ?_
  simp only [tSeq, tIfS, tTest, tB, tAnd, tOr, tNot, tAndV, tOrV, tNotV, tIf, tOp, tUn, tChain, rEq, rNe, rI0, rI, rU, tCallR, tCons, tNil, tC, tVar, tRet, tRetN, tTup_k, tLst_k, tCB, tNext, tAsg, gName, gTup, gCons, gNil, tDrop, tPar, tFld, ClX.tCVal, tPropR, rBin, rBinT, rNeOwn, rSetL_k, gSub, tMakeK_k, tMethR, rInO, tDNewK_k, tYes, wipe, tMakeR_k, tSMeth, tSMethK, rMulS, decide_true, tNever, sFld, rIsiT, and_false, rListOf, rTupOf, rLenSeq, rIxL, rIxT, rIxS, rCat_k, rRep_k, rSlL_k, rSlS, rNewStrs_k, rAppend_k, tBM, tBM0, tM0, tM1, tSl, tNoPart, tPart, tLc_k, tFor_k, iList, iTup, iEnumT, iRng1, iRng2, iRng2L, iStr, L2.start, List.map, List.length_cons, List.length_nil, List.cons_append, List.nil_append, List.getElem?_cons_succ, List.getElem?_cons_zero, Option.some.injEq, V.int.injEq, V.bl.injEq, V.str.injEq, V.ref.injEq, exists_eq_left', exists_eq_left, and_assoc, exists_and_left, exists_eq, exists_eq', true_and, and_true, List.set_cons_zero, List.set_cons_succ, List.set, decide_eq_true_eq, Bool.not_eq_true', if_true, if_false, rIx, cx_K, nox_K, List.replicate_succ, List.replicate_zero, Nat.reduceSub, Bool.true_eq_false, Bool.false_eq_true, Nat.reduceAdd, List.cons.injEq, reduceCtorEq, false_and, false_or, or_false, tAug, rSetO, rStrO, rIsKp, tXk, tDGet, tDIn, tDNotIn, sDPut, rUn, rBinI, rBinR, rJoin, tJs, tOrT, rIsi, tCallOI, rBinT, tFCall, tMakeL, tCMethK, ClX.tCMeth, tCall, tPar3]
  refine ⟨_, SqL.of hp, _, rfl, _, rfl, ?_⟩
  by_cases h0 : 0 < r
  · rw [if_pos h0]
    refine ⟨_, SqL.of hp, _, rfl, .inl ⟨_, rfl, hm, _, SqL.of hp, _, rfl, .inl ⟨_, rfl, ⟨hm, hm2⟩, _, hp, _, rfl, ?_⟩⟩⟩
    exact k _ _ (Int.emod_nonneg _ (by omega)) (Int.emod_lt_of_pos _ hm) SameBut.upd ⟨ns, b, r / m, upd_same, by rw [upd_ne hcp]; exact hc, hcp, hns, hb, by omega, Int.ediv_nonneg hr0 (by omega)⟩
  rw [if_neg h0]
  subst e1
  refine tSeq_step fun R e1 => ?_
  simp only [tSeq, tIfS, tTest, tB, tAnd, tOr, tNot, tAndV, tOrV, tNotV, tIf, tOp, tUn, tChain, rEq, rNe, rI0, rI, rU, tCallR, tCons, tNil, tC, tVar, tRet, tRetN, tTup_k, tLst_k, tCB, tNext, tAsg, gName, gTup, gCons, gNil, tDrop, tPar, tFld, ClX.tCVal, tPropR, rBin, rBinT, rNeOwn, rSetL_k, gSub, tMakeK_k, tMethR, rInO, tDNewK_k, tYes, wipe, tMakeR_k, tSMeth, tSMethK, rMulS, decide_true, tNever, sFld, rIsiT, and_false, rListOf, rTupOf, rLenSeq, rIxL, rIxT, rIxS, rCat_k, rRep_k, rSlL_k, rSlS, rNewStrs_k, rAppend_k, tBM, tBM0, tM0, tM1, tSl, tNoPart, tPart, tLc_k, tFor_k, iList, iTup, iEnumT, iRng1, iRng2, iRng2L, iStr, L2.start, List.map, List.length_cons, List.length_nil, List.cons_append, List.nil_append, List.getElem?_cons_succ, List.getElem?_cons_zero, Option.some.injEq, V.int.injEq, V.bl.injEq, V.str.injEq, V.ref.injEq, exists_eq_left', exists_eq_left, and_assoc, exists_and_left, exists_eq, exists_eq', true_and, and_true, List.set_cons_zero, List.set_cons_succ, List.set, decide_eq_true_eq, Bool.not_eq_true', if_true, if_false, rIx, cx_K, nox_K, List.replicate_succ, List.replicate_zero, Nat.reduceSub, Bool.true_eq_false, Bool.false_eq_true, Nat.reduceAdd, List.cons.injEq, reduceCtorEq, false_and, false_or, or_false, tAug, rSetO, rStrO, rIsKp, tXk, tDGet, tDIn, tDNotIn, sDPut, rUn, rBinI, rBinR, rJoin, tJs, tOrT, rIsi, tCallOI, rBinT, tFCall, tMakeL, tCMethK, ClX.tCMeth, tCall, tPar3]
  refine ⟨_, SqL.of hp, _, rfl, ?_⟩
  subst e1
  refine tSeq_step fun R e1 => ?_
  simp only [tSeq, tIfS, tTest, tB, tAnd, tOr, tNot, tAndV, tOrV, tNotV, tIf, tOp, tUn, tChain, rEq, rNe, rI0, rI, rU, tCallR, tCons, tNil, tC, tVar, tRet, tRetN, tTup_k, tLst_k, tCB, tNext, tAsg, gName, gTup, gCons, gNil, tDrop, tPar, tFld, ClX.tCVal, tPropR, rBin, rBinT, rNeOwn, rSetL_k, gSub, tMakeK_k, tMethR, rInO, tDNewK_k, tYes, wipe, tMakeR_k, tSMeth, tSMethK, rMulS, decide_true, tNever, sFld, rIsiT, and_false, rListOf, rTupOf, rLenSeq, rIxL, rIxT, rIxS, rCat_k, rRep_k, rSlL_k, rSlS, rNewStrs_k, rAppend_k, tBM, tBM0, tM0, tM1, tSl, tNoPart, tPart, tLc_k, tFor_k, iList, iTup, iEnumT, iRng1, iRng2, iRng2L, iStr, L2.start, List.map, List.length_cons, List.length_nil, List.cons_append, List.nil_append, List.getElem?_cons_succ, List.getElem?_cons_zero, Option.some.injEq, V.int.injEq, V.bl.injEq, V.str.injEq, V.ref.injEq, exists_eq_left', exists_eq_left, and_assoc, exists_and_left, exists_eq, exists_eq', true_and, and_true, List.set_cons_zero, List.set_cons_succ, List.set, decide_eq_true_eq, Bool.not_eq_true', if_true, if_false, rIx, cx_K, nox_K, List.replicate_succ, List.replicate_zero, Nat.reduceSub, Bool.true_eq_false, Bool.false_eq_true, Nat.reduceAdd, List.cons.injEq, reduceCtorEq, false_and, false_or, or_false, tAug, rSetO, rStrO, rIsKp, tXk, tDGet, tDIn, tDNotIn, sDPut, rUn, rBinI, rBinR, rJoin, tJs, tOrT, rIsi, tCallOI, rBinT, tFCall, tMakeL, tCMethK, ClX.tCMeth, tCall, tPar3]
  refine ⟨_, hp, _, rfl, ?_⟩
  subst e1
  have e1 : upd H p (.lst [.ref c, .int (b + 1), .int r]) p = some (.lst [.ref c, .int (b + 1), .int r]) := upd_same
  have c1 : upd H p (.lst [.ref c, .int (b + 1), .int r]) c = some (.lst (ns.map V.int)) := by rw [upd_ne hcp]; exact hc
  have s1 : SameBut p H (upd H p (.lst [.ref c, .int (b + 1), .int r])) := SameBut.upd
  show tSeq _ _ _ _ (upd H p (.lst [.ref c, .int (b + 1), .int r]))
  generalize upd H p (.lst [.ref c, .int (b + 1), .int r]) = H1 at *
  refine tSeq_step fun R e2 => ?_
  simp only [tSeq, tIfS, tTest, tB, tAnd, tOr, tNot, tAndV, tOrV, tNotV, tIf, tOp, tUn, tChain, rEq, rNe, rI0, rI, rU, tCallR, tCons, tNil, tC, tVar, tRet, tRetN, tTup_k, tLst_k, tCB, tNext, tAsg, gName, gTup, gCons, gNil, tDrop, tPar, tFld, ClX.tCVal, tPropR, rBin, rBinT, rNeOwn, rSetL_k, gSub, tMakeK_k, tMethR, rInO, tDNewK_k, tYes, wipe, tMakeR_k, tSMeth, tSMethK, rMulS, decide_true, tNever, sFld, rIsiT, and_false, rListOf, rTupOf, rLenSeq, rIxL, rIxT, rIxS, rCat_k, rRep_k, rSlL_k, rSlS, rNewStrs_k, rAppend_k, tBM, tBM0, tM0, tM1, tSl, tNoPart, tPart, tLc_k, tFor_k, iList, iTup, iEnumT, iRng1, iRng2, iRng2L, iStr, L2.start, List.map, List.length_cons, List.length_nil, List.cons_append, List.nil_append, List.getElem?_cons_succ, List.getElem?_cons_zero, Option.some.injEq, V.int.injEq, V.bl.injEq, V.str.injEq, V.ref.injEq, exists_eq_left', exists_eq_left, and_assoc, exists_and_left, exists_eq, exists_eq', true_and, and_true, List.set_cons_zero, List.set_cons_succ, List.set, decide_eq_true_eq, Bool.not_eq_true', if_true, if_false, rIx, cx_K, nox_K, List.replicate_succ, List.replicate_zero, Nat.reduceSub, Bool.true_eq_false, Bool.false_eq_true, Nat.reduceAdd, List.cons.injEq, reduceCtorEq, false_and, false_or, or_false, tAug, rSetO, rStrO, rIsKp, tXk, tDGet, tDIn, tDNotIn, sDPut, rUn, rBinI, rBinR, rJoin, tJs, tOrT, rIsi, tCallOI, rBinT, tFCall, tMakeL, tCMethK, ClX.tCMeth, tCall, tPar3]
  refine ⟨cmul64 (by decide) (in64 hb (by omega)), ?_⟩
  subst e2
  refine tSeq_step fun R e2 => ?_
  simp only [tSeq, tIfS, tTest, tB, tAnd, tOr, tNot, tAndV, tOrV, tNotV, tIf, tOp, tUn, tChain, rEq, rNe, rI0, rI, rU, tCallR, tCons, tNil, tC, tVar, tRet, tRetN, tTup_k, tLst_k, tCB, tNext, tAsg, gName, gTup, gCons, gNil, tDrop, tPar, tFld, ClX.tCVal, tPropR, rBin, rBinT, rNeOwn, rSetL_k, gSub, tMakeK_k, tMethR, rInO, tDNewK_k, tYes, wipe, tMakeR_k, tSMeth, tSMethK, rMulS, decide_true, tNever, sFld, rIsiT, and_false, rListOf, rTupOf, rLenSeq, rIxL, rIxT, rIxS, rCat_k, rRep_k, rSlL_k, rSlS, rNewStrs_k, rAppend_k, tBM, tBM0, tM0, tM1, tSl, tNoPart, tPart, tLc_k, tFor_k, iList, iTup, iEnumT, iRng1, iRng2, iRng2L, iStr, L2.start, List.map, List.length_cons, List.length_nil, List.cons_append, List.nil_append, List.getElem?_cons_succ, List.getElem?_cons_zero, Option.some.injEq, V.int.injEq, V.bl.injEq, V.str.injEq, V.ref.injEq, exists_eq_left', exists_eq_left, and_assoc, exists_and_left, exists_eq, exists_eq', true_and, and_true, List.set_cons_zero, List.set_cons_succ, List.set, decide_eq_true_eq, Bool.not_eq_true', if_true, if_false, rIx, cx_K, nox_K, List.replicate_succ, List.replicate_zero, Nat.reduceSub, Bool.true_eq_false, Bool.false_eq_true, Nat.reduceAdd, List.cons.injEq, reduceCtorEq, false_and, false_or, or_false, tAug, rSetO, rStrO, rIsKp, tXk, tDGet, tDIn, tDNotIn, sDPut, rUn, rBinI, rBinR, rJoin, tJs, tOrT, rIsi, tCallOI, rBinT, tFCall, tMakeL, tCMethK, ClX.tCMeth, tCall, tPar3]
  refine ⟨_, SqL.of e1, _, rfl, kNew.mk (by show 0 ≤ sizeLine; decide) fun q H2 f2 => ?_⟩
  have e3 := f2.get e1
  have c3 := f2.get c1
  have s3 := s1.trans (SameBut.of f2.same)
  refine ⟨.list (ns.map .int), .list [], .lst (SqL.of c3) (dp_ints ns), .lst (SqL.of f2.at_) .nil, shaped_ints ns, rfl, ?_⟩
  rw [eqv_ints]
  have fin : ∀ cell : Int, R { nx := fun x H' => Q V.non H', rt := Q } [some (V.ref p), some (V.int m), none, some (V.int b), some (V.int cell), none, none] H2 := fun cell => by
    subst e2
    refine tSeq_step fun R e2 => ?_
    simp only [tSeq, tIfS, tTest, tB, tAnd, tOr, tNot, tAndV, tOrV, tNotV, tIf, tOp, tUn, tChain, rEq, rNe, rI0, rI, rU, tCallR, tCons, tNil, tC, tVar, tRet, tRetN, tTup_k, tLst_k, tCB, tNext, tAsg, gName, gTup, gCons, gNil, tDrop, tPar, tFld, ClX.tCVal, tPropR, rBin, rBinT, rNeOwn, rSetL_k, gSub, tMakeK_k, tMethR, rInO, tDNewK_k, tYes, wipe, tMakeR_k, tSMeth, tSMethK, rMulS, decide_true, tNever, sFld, rIsiT, and_false, rListOf, rTupOf, rLenSeq, rIxL, rIxT, rIxS, rCat_k, rRep_k, rSlL_k, rSlS, rNewStrs_k, rAppend_k, tBM, tBM0, tM0, tM1, tSl, tNoPart, tPart, tLc_k, tFor_k, iList, iTup, iEnumT, iRng1, iRng2, iRng2L, iStr, L2.start, List.map, List.length_cons, List.length_nil, List.cons_append, List.nil_append, List.getElem?_cons_succ, List.getElem?_cons_zero, Option.some.injEq, V.int.injEq, V.bl.injEq, V.str.injEq, V.ref.injEq, exists_eq_left', exists_eq_left, and_assoc, exists_and_left, exists_eq, exists_eq', true_and, and_true, List.set_cons_zero, List.set_cons_succ, List.set, decide_eq_true_eq, Bool.not_eq_true', if_true, if_false, rIx, cx_K, nox_K, List.replicate_succ, List.replicate_zero, Nat.reduceSub, Bool.true_eq_false, Bool.false_eq_true, Nat.reduceAdd, List.cons.injEq, reduceCtorEq, false_and, false_or, or_false, tAug, rSetO, rStrO, rIsKp, tXk, tDGet, tDIn, tDNotIn, sDPut, rUn, rBinI, rBinR, rJoin, tJs, tOrT, rIsi, tCallOI, rBinT, tFCall, tMakeL, tCMethK, ClX.tCMeth, tCall, tPar3]
    have go : R { nx := fun x H' => Q V.non H', rt := Q } [some (V.ref p), some (V.int m), none, some (V.int b), some (V.int cell), none, none] H2 := by
      subst e2
      refine tSeq_step fun R e2 => ?_
      simp only [tSeq, tIfS, tTest, tB, tAnd, tOr, tNot, tAndV, tOrV, tNotV, tIf, tOp, tUn, tChain, rEq, rNe, rI0, rI, rU, tCallR, tCons, tNil, tC, tVar, tRet, tRetN, tTup_k, tLst_k, tCB, tNext, tAsg, gName, gTup, gCons, gNil, tDrop, tPar, tFld, ClX.tCVal, tPropR, rBin, rBinT, rNeOwn, rSetL_k, gSub, tMakeK_k, tMethR, rInO, tDNewK_k, tYes, wipe, tMakeR_k, tSMeth, tSMethK, rMulS, decide_true, tNever, sFld, rIsiT, and_false, rListOf, rTupOf, rLenSeq, rIxL, rIxT, rIxS, rCat_k, rRep_k, rSlL_k, rSlS, rNewStrs_k, rAppend_k, tBM, tBM0, tM0, tM1, tSl, tNoPart, tPart, tLc_k, tFor_k, iList, iTup, iEnumT, iRng1, iRng2, iRng2L, iStr, L2.start, List.map, List.length_cons, List.length_nil, List.cons_append, List.nil_append, List.getElem?_cons_succ, List.getElem?_cons_zero, Option.some.injEq, V.int.injEq, V.bl.injEq, V.str.injEq, V.ref.injEq, exists_eq_left', exists_eq_left, and_assoc, exists_and_left, exists_eq, exists_eq', true_and, and_true, List.set_cons_zero, List.set_cons_succ, List.set, decide_eq_true_eq, Bool.not_eq_true', if_true, if_false, rIx, cx_K, nox_K, List.replicate_succ, List.replicate_zero, Nat.reduceSub, Bool.true_eq_false, Bool.false_eq_true, Nat.reduceAdd, List.cons.injEq, reduceCtorEq, false_and, false_or, or_false, tAug, rSetO, rStrO, rIsKp, tXk, tDGet, tDIn, tDNotIn, sDPut, rUn, rBinI, rBinR, rJoin, tJs, tOrT, rIsi, tCallOI, rBinT, tFCall, tMakeL, tCMethK, ClX.tCMeth, tCall, tPar3]
      refine .inl ⟨pA, cmul64 (by decide) (in64 hb (by omega)), ⟨by decide, by decide, pw1 hb (by omega)⟩, .inl ⟨pB, ?_⟩⟩
      generalize hM : (cell % 2147483563 + 44125 * b + 343) ^ Int.toNat 5 % 2147483629 = M
      have m0 : 0 ≤ M := by rw [← hM]; exact Int.emod_nonneg _ (by decide)
      have m1 : M < 2147483629 := by rw [← hM]; exact Int.emod_lt_of_pos _ pB
      subst e2
      simp only [tSeq, tIfS, tTest, tB, tAnd, tOr, tNot, tAndV, tOrV, tNotV, tIf, tOp, tUn, tChain, rEq, rNe, rI0, rI, rU, tCallR, tCons, tNil, tC, tVar, tRet, tRetN, tTup_k, tLst_k, tCB, tNext, tAsg, gName, gTup, gCons, gNil, tDrop, tPar, tFld, ClX.tCVal, tPropR, rBin, rBinT, rNeOwn, rSetL_k, gSub, tMakeK_k, tMethR, rInO, tDNewK_k, tYes, wipe, tMakeR_k, tSMeth, tSMethK, rMulS, decide_true, tNever, sFld, rIsiT, and_false, rListOf, rTupOf, rLenSeq, rIxL, rIxT, rIxS, rCat_k, rRep_k, rSlL_k, rSlS, rNewStrs_k, rAppend_k, tBM, tBM0, tM0, tM1, tSl, tNoPart, tPart, tLc_k, tFor_k, iList, iTup, iEnumT, iRng1, iRng2, iRng2L, iStr, L2.start, List.map, List.length_cons, List.length_nil, List.cons_append, List.nil_append, List.getElem?_cons_succ, List.getElem?_cons_zero, Option.some.injEq, V.int.injEq, V.bl.injEq, V.str.injEq, V.ref.injEq, exists_eq_left', exists_eq_left, and_assoc, exists_and_left, exists_eq, exists_eq', true_and, and_true, List.set_cons_zero, List.set_cons_succ, List.set, decide_eq_true_eq, Bool.not_eq_true', if_true, if_false, rIx, cx_K, nox_K, List.replicate_succ, List.replicate_zero, Nat.reduceSub, Bool.true_eq_false, Bool.false_eq_true, Nat.reduceAdd, List.cons.injEq, reduceCtorEq, false_and, false_or, or_false, tAug, rSetO, rStrO, rIsKp, tXk, tDGet, tDIn, tDNotIn, sDPut, rUn, rBinI, rBinR, rJoin, tJs, tOrT, rIsi, tCallOI, rBinT, tFCall, tMakeL, tCMethK, ClX.tCMeth, tCall, tPar3]
      have b6 : b.natAbs < 2 ^ 64 := in64 hb (by omega)
      refine ⟨cmul64 (by decide) b6, cmul64 (in64 m0 (by omega)) (in64 (by omega) (by omega)), cmul64 (by decide) b6, cmul64 (in64 (by omega) (by omega)) b6, ⟨by decide, by decide, pw2 m0 m1 hb (by omega)⟩, .inl ⟨pC, ⟨by decide, by decide⟩, .inl ⟨hm, ?_⟩⟩⟩
      exact k _ _ (Int.emod_nonneg _ (by omega)) (Int.emod_lt_of_pos _ hm) s3 ⟨ns, b + 1, r, e3, c3, hcp, hns, by omega, by omega, hr0⟩
    refine ⟨_, SqL.of e3, _, rfl, c, rfl, _, .inl (SqL.of c3), ?_⟩
    by_cases hb1 : b < ((ns.map V.int).length : Int)
    · rw [if_pos hb1]
      refine ⟨⟨by decide, by decide, by decide⟩, ?_⟩
      by_cases g0 : 10 ^ Int.toNat 18 ≤ if cell < 0 then -cell else cell
      · rw [if_pos g0]
        refine ⟨⟨by decide, by decide, by decide⟩, .inl ⟨by decide, by decide⟩, .inr (.inl ⟨⟨hm, hm2⟩, _, e3, _, rfl, ?_⟩)⟩
        refine .inl ⟨hm, ?_⟩
        exact k _ _ (Int.emod_nonneg _ (by omega)) (Int.emod_lt_of_pos _ hm) (s3.trans SameBut.upd) ⟨ns, b + 1, _, upd_same, by rw [upd_ne hcp]; exact c3, hcp, hns, by omega, by omega, Int.ediv_nonneg (great1 g0) (by omega)⟩
      · rw [if_neg g0]
        exact go
    · rw [if_neg hb1]
      exact go
  by_cases hne : ns = []
  · refine ⟨_, rfl, ?_⟩
    rw [decide_eq_true hne, if_neg (by decide)]
    exact fin _
  · refine ⟨_, rfl, ?_⟩
    rw [decide_eq_false hne, if_pos (by rfl)]
    have hlen : 0 < ns.length := by
      cases ns with
      | nil => exact absurd rfl hne
      | cons x y => exact Nat.succ_pos _
    obtain ⟨w, hw, hat⟩ := atI_any (xs := ns.map V.int) (z := b % (ns.length : Int)) (Int.emod_nonneg _ (by omega)) (by rw [List.length_map]; exact Int.emod_lt_of_pos _ (by omega))
    obtain ⟨cell, _, rfl⟩ := List.mem_map.mp hw
    refine ⟨_, SqL.of e3, _, rfl, .inl ⟨_, SqL.of e3, _, rfl, c, rfl, _, .inl (SqL.of c3), by rw [List.length_map]; omega, c, rfl, _, SqL.of c3, .int cell, by rw [List.length_map]; exact hat, fin _⟩⟩
end
end Pf
end
section
namespace Pf
open PySem PySem.Spec PyProof.Rows L2 Ow StX
theorem Pen.le {H : Hp} {p c : Addr} {n m : Int} (x : Pen H p c n) (h : n ≤ m) : Pen H p c m := by
  obtain ⟨ns, b, r, h1, h2, h3, h4, h5, h6, h7⟩ := x
  exact ⟨ns, b, r, h1, h2, h3, h4, h5, by omega, h7⟩
theorem Pen.at_p {H : Hp} {p c x : Addr} {n : Int} (P : Pen H p c n) (h : H x = none) : x ≠ p ∧ c ≠ x := by
  obtain ⟨ns, b, r, h1, h2, _⟩ := P
  exact ⟨fun e => (by rw [← e, h] at h1; cases h1), fun e => (by rw [e, h] at h2; cases h2)⟩
theorem Pen.put {H : Hp} {p c x : Addr} {n : Int} {o : HO} (P : Pen H p c n) (hp : x ≠ p) (hc : c ≠ x) : Pen (upd H x o) p c n := by
  obtain ⟨ns, b, r, h1, h2, h⟩ := P
  exact ⟨ns, b, r, by rw [upd_ne (Ne.symm hp)]; exact h1, by rw [upd_ne hc]; exact h2, h⟩
theorem Pen.ne {H : Hp} {p c t : Addr} {n : Int} {o : HO} (x : Pen H p c n) (h : H t = some o) (q : ∀ xs, o ≠ .lst xs) : t ≠ p := by
  obtain ⟨ns, b, r, h1, _⟩ := x
  exact ne_of h h1 (q _)
section
variable {P : Program} {w : World} {K : PySem.W.Frag} {mg : Str → Option Value} {base : Heap} {a : Adr}
set_option maxHeartbeats 4000000
theorem cut63 {ns : List Int} (h : ns.length ≤ 63) : cutV (ns.map V.int) none (some 63) = ns.map V.int := by
  have e1 : HT.sIx (ns.map V.int).length 0 none = 0 := rfl
  have e2 : (ns.map V.int).length ≤ HT.sIx (ns.map V.int).length (ns.map V.int).length (some 63) := by
    rw [List.length_map]
    unfold HT.sIx
    simp
    omega
  unfold cutV
  rw [e1, List.drop_zero, Nat.sub_zero]
  exact List.take_of_length_le e2
def spPen (K : PySem.W.Frag) : Sp := fun vs H Q _ => ∃ (sa : Addr) (ns : List Int), vs = [.ref sa] ∧ SqL K H sa (ns.map V.int) ∧ ns.length ≤ 63 ∧ ∀ (p c : Addr) (H' : Hp), Same H H' → H p = none → Pen H' p c 0 → Q (.ref p) H'
theorem ok_pen (T : Txt K mg a) : FnR P w K mg base CX0 1 a._law_pen (spPen K) := by
  refine T.d__law_pen.ok sc__law_pen (fun _ _ _ _ _ _ us hl => match us, hl with | [_], _ => rfl) (fun vs H Q E h => by obtain ⟨sa, ns, rfl, _⟩ := h; rfl) (fun cdv A outer s H vs Q E hr h => ?_)
  obtain ⟨sa, ns, rfl, hS, hns, k⟩ := h
  refine ⟨_, (pss_one (ps_ret (pe_lst (pa_cons (pe_callTy call_list_of (by rfl) T.n_list (by decide +kernel) (pa_cons (pe_slice sl_list (pv 0) po_none (po_some pe_int)) pa_nil)) (pa_cons pe_int (pa_cons pe_int pa_nil)))))), ?_⟩
  refine ⟨_, rfl, _, rfl, sa, _, rfl, hS, fun q hq => ?_⟩
  rw [cut63 hns]
  refine ⟨q, _, rfl, .inl (SqL.of upd_same), fun c hc => ⟨(by show 3 ≤ sizeLine; decide), fun p hp => ?_⟩⟩
  have m1 := same_new (o := .lst (ns.map V.int)) hq
  have m2 := same_new (o := .lst (ns.map V.int)) hc
  have m3 := same_new (o := .lst [.ref c, .int 0, .int 0]) hp
  have ec : upd (upd (upd H q (.lst (ns.map V.int))) c (.lst (ns.map V.int))) p (.lst [.ref c, .int 0, .int 0]) c = some (.lst (ns.map V.int)) := m3 _ _ upd_same
  refine k p c _ (m1.trans (m2.trans m3)) ?_ ⟨ns, 0, 0, upd_same, ec, ?_, hns, by decide, by decide, by decide⟩
  · cases e : H p with
    | none => rfl
    | some o =>
      have z := m2 _ _ (m1 _ _ e)
      rw [hp] at z
      cases z
  · intro e
    rw [e, upd_same] at hp
    cases hp
def spPick : Sp := fun vs H Q _ => ∃ (p c l : Addr) (n : Int) (xs : List V), vs = [.ref p, .ref l] ∧ Pen H p c n ∧ n < 1048576 ∧ H l = some (.lst xs) ∧ l ≠ p ∧ 0 < xs.length ∧ xs.length < 1073741824 ∧ ∀ (v : V) (H' : Hp), v ∈ xs → SameBut p H H' → Pen H' p c (n + 1) → Q v H'
theorem ok_pick (T : Txt K mg a) : FnR P w K mg base CX0 2 a._law_pick spPick := by
  have G__law_draw : FnR P w K mg base CX0 1 a._law_draw spPDraw := ok_pdraw T
  refine T.d__law_pick.ok sc__law_pick (fun _ _ _ _ _ _ us hl => match us, hl with | [_, _], _ => rfl) (fun vs H Q E h => by obtain ⟨p, c, l, n, xs, rfl, _⟩ := h; rfl) (fun cdv A outer s H vs Q E hr h => ?_)
  obtain ⟨p, c, l, n, xs, rfl, hP, hn, hl, hlp, h0, h1, k⟩ := h
  refine ⟨_, (pss_one (ps_ret (pe_ix ix_list (pv 1) (pe_callR G__law_draw (hr.mono (by decide)) T.m__law_draw T.k__law_draw pass0 (pa_cons (pv 0) (pa_cons (pe_callB call_len_seq (by rfl) T.n_len (by decide +kernel) (pa_cons (pv 1) pa_nil)) pa_nil))) (fun _ _ => rfl)))), ?_⟩
  refine ⟨_, rfl, _, rfl, _, rfl, l, _, rfl, .inl (SqL.of hl), p, c, xs.length, n, rfl, hP, hn, by omega, by omega, fun z H' z0 z1 sB hP' => ?_⟩
  obtain ⟨v, hv, hat⟩ := atI_any (xs := xs) z0 z1
  exact ⟨l, _, _, _, rfl, rfl, SqL.of (sB _ _ hlp hl), hat, k v H' hv sB hP'⟩
end
end Pf
end
section
namespace Pf
open PySem PySem.Spec PyProof.Rows L2 Ow StX
/-! ### drawn places -/
theorem Pen.keep {H H' : Hp} {p c t : Addr} {n : Int} {o : HO} (P : Pen H p c n) (s : SameBut p H H') (h : H t = some o) (q : ∀ xs, o ≠ .lst xs) : H' t = some o := s t _ (P.ne h q) h
def Sm1 (n : Int) : Prop := -100 ≤ n ∧ n ≤ 100
def SmP (q : Pl) : Prop := Sm1 q.s ∧ Sm1 q.o ∧ Sm1 q.d
theorem sm0 : Sm1 0 := ⟨by decide, by decide⟩
theorem sm1 : Sm1 1 := ⟨by decide, by decide⟩
theorem sm2 : Sm1 2 := ⟨by decide, by decide⟩
theorem Sm1.bd {n : Int} (h : Sm1 n) : Bd1 n := ⟨by have := h.1; omega, by have := h.2; omega⟩
theorem SmP.bd {q : Pl} (h : SmP q) : BdP q := ⟨h.1.bd, h.2.1.bd, h.2.2.bd⟩
theorem SmP.mir {q : Pl} (h : SmP q) : BdP (mirP q) := by
  obtain ⟨⟨a1, a2⟩, ⟨b1, b2⟩, c1, c2⟩ := h
  refine ⟨⟨?_, ?_⟩, ⟨?_, ?_⟩, ?_, ?_⟩
  all_goals (simp only [mirP]; omega)
def TupP (H : Hp) (t : Addr) (q : Pl) : Prop := H t = some (.tup [.int q.s, .int q.o, .int q.d])
theorem TupP.same {H H' : Hp} {t : Addr} {q : Pl} (h : TupP H t q) (s : Same H H') : TupP H' t q := s _ _ h
theorem TupP.pen {H H' : Hp} {p c t : Addr} {n : Int} {q : Pl} (h : TupP H t q) (P : Pen H p c n) (s : SameBut p H H') : TupP H' t q := P.keep s h (by intro _ z; cases z)
theorem PlaceAt.pen {H H' : Hp} {C p c t : Addr} {n : Int} {a b d : Int} (h : PlaceAt H C t a b d) (P : Pen H p c n) (s : SameBut p H H') : PlaceAt H' C t a b d := h.elim fun dx z => ⟨dx, P.keep s z (by intro _ z; cases z)⟩
theorem BoxAt.pen {H H' : Hp} {B C b p c : Addr} {n : Int} {q : Bx} (h : BoxAt H B C b q) (P : Pen H p c n) (s : SameBut p H H') : BoxAt H' B C b q := by
  obtain ⟨dx, p0, p1, p2, p3, e, h0, h1, h2, h3⟩ := h
  exact ⟨dx, p0, p1, p2, p3, P.keep s e (by intro _ z; cases z), h0.pen P s, h1.pen P s, h2.pen P s, h3.pen P s⟩
/-- a value that stands for a place: an int, or a Place -/
def InV (C : Addr) (H : Hp) (v : V) (q : Pl) : Prop := (v = .int q.o ∧ q.s = 0 ∧ q.d = 0) ∨ ∃ p, v = .ref p ∧ PlA H C p q
theorem InV.inp {K : PySem.W.Frag} {C : Addr} {H : Hp} {v : V} {q : Pl} (h : InV C H v q) (b : BdP q) : InP K C H v q := ⟨h, b⟩
theorem InV.same {C : Addr} {H H' : Hp} {v : V} {q : Pl} (h : InV C H v q) (s : Same H H') : InV C H' v q := h.imp id fun ⟨p, e, hp⟩ => ⟨p, e, hp.same s⟩
theorem InV.pen {C p c : Addr} {H H' : Hp} {n : Int} {v : V} {q : Pl} (h : InV C H v q) (P : Pen H p c n) (s : SameBut p H H') : InV C H' v q := h.imp id fun ⟨x, e, hp⟩ => ⟨x, e, hp.pen P s⟩
theorem InV.but {C l : Addr} {H H' : Hp} {v : V} {q : Pl} (h : InV C H v q) {xs : List V} (hl : H l = some (.lst xs)) (s : SameBut l H H') : InV C H' v q := h.imp id fun ⟨x, e, dx, hp⟩ => ⟨x, e, dx, s _ _ (fun z => by rw [z, hl] at hp; cases hp) hp⟩
def spPlaceL : Sp := fun vs H Q _ => ∃ (p c : Addr) (n : Int), vs = [.ref p] ∧ Pen H p c n ∧ n + 10 < 1048576 ∧ ∀ t q H', SmP q → SameBut p H H' → Pen H' p c (n + 4) → TupP H' t q → Q (.ref t) H'
def spAt : Sp := fun vs H Q _ => ∃ (t : Addr) (q : Pl) (n : Int), vs = [.ref t, .int n] ∧ TupP H t q ∧ MulsP q n ∧ Q (.int (plV q n)) H
def spBuiltP (C : Addr) : Sp := fun vs H Q _ => ∃ (p c t : Addr) (q : Pl) (n : Int), vs = [.ref p, .ref t] ∧ Pen H p c n ∧ n + 10 < 1048576 ∧ TupP H t q ∧ ∀ v H', SameBut p H H' → Pen H' p c (n + 1) → InV C H' v q → Q v H'
def spMirT : Sp := fun vs H Q _ => ∃ (t : Addr) (q : Pl), vs = [.ref t] ∧ TupP H t q ∧ ∀ t' H', Fresh H H' t' (.tup [.int (mirP q).s, .int (mirP q).o, .int (mirP q).d]) → Q (.ref t') H'
def spPartsL (C : Addr) : Sp := fun vs H Q _ => ∃ (x : Addr) (q : Pl), vs = [.ref x] ∧ PlA H C x q ∧ ∀ t H', Fresh H H' t (.tup [.int q.s, .int q.o, .int q.d]) → Q (.ref t) H'
section
variable {P : Program} {w : World} {K : PySem.W.Frag} {mg : Str → Option Value} {base : Heap} {a : Adr}
set_option maxHeartbeats 4000000
theorem ok_place (T : Txt K mg a) : FnR P w K mg base CX0 3 a._law_place spPlaceL := by
  have G__law_pick : FnR P w K mg base CX0 2 a._law_pick spPick := ok_pick T
  refine T.d__law_place.ok sc__law_place (fun _ _ _ _ _ _ us hl => match us, hl with | [_], _ => rfl) (fun vs H Q E h => by obtain ⟨p, c, n, rfl, _⟩ := h; rfl) (fun cdv A outer s H vs Q E hr h => ?_)
  obtain ⟨p, c, n, rfl, P0, hn, k⟩ := h
  refine ⟨_, (pss_cons (ps_set (i := 1) sc__law_place.nd rfl (Or.inl rfl) (pe_callR G__law_pick (hr.mono (by decide)) T.m__law_pick T.k__law_pick pass0 (pa_cons (pv 0) (pa_cons (pe_lst (pa_cons pe_int (pa_cons pe_int (pa_cons pe_int (pa_cons pe_int (pa_cons pe_int (pa_cons pe_int (pa_cons pe_int (pa_cons (pe_un un_neg pe_int) pa_nil))))))))) pa_nil))))
      (pss_one (ps_ret (pe_callR G__law_pick (hr.mono (by decide)) T.m__law_pick T.k__law_pick pass0 (pa_cons (pv 0) (pa_cons (pe_lst (pa_cons (pe_tup (pa_cons pe_int (pa_cons (pv 1) (pa_cons pe_int pa_nil)))) (pa_cons (pe_tup (pa_cons pe_int (pa_cons (pv 1) (pa_cons pe_int pa_nil)))) (pa_cons (pe_tup (pa_cons pe_int (pa_cons (pe_op op_sub pe_int (pv 1)) (pa_cons pe_int pa_nil)))) (pa_cons (pe_tup (pa_cons pe_int (pa_cons (pe_op op_sub pe_int (pv 1)) (pa_cons pe_int pa_nil)))) (pa_cons (pe_tup (pa_cons pe_int (pa_cons (pv 1) (pa_cons pe_int pa_nil)))) (pa_cons (pe_tup (pa_cons pe_int (pa_cons (pe_op op_sub pe_int (pv 1)) (pa_cons pe_int pa_nil)))) pa_nil))))))) pa_nil)))))), ?_⟩
  simp only [tSeq, tIfS, tTest, tB, tAnd, tOr, tNot, tAndV, tOrV, tNotV, tIf, tOp, tUn, tChain, rEq, rNe, rI0, rI, rU, tCallR, tCons, tNil, tC, tVar, tRet, tRetN, tTup_k, tLst_k, tCB, tNext, tAsg, gName, gTup, gCons, gNil, tDrop, tPar, tFld, ClX.tCVal, tPropR, rBin, rBinT, rNeOwn, rSetL_k, gSub, tMakeK_k, tMethR, rInO, tDNewK_k, tYes, wipe, tMakeR_k, tSMeth, tSMethK, rMulS, decide_true, tNever, sFld, rIsiT, and_false, rListOf, rTupOf, rLenSeq, rIxL, rIxT, rIxS, rCat_k, rRep_k, rSlL_k, rSlS, rNewStrs_k, rAppend_k, tBM, tBM0, tM0, tM1, tSl, tNoPart, tPart, tLc_k, tFor_k, iList, iTup, iEnumT, iRng1, iRng2, iRng2L, iStr, L2.start, List.map, List.length_cons, List.length_nil, List.cons_append, List.nil_append, List.getElem?_cons_succ, List.getElem?_cons_zero, Option.some.injEq, V.int.injEq, V.bl.injEq, V.str.injEq, V.ref.injEq, exists_eq_left', exists_eq_left, and_assoc, exists_and_left, exists_eq, exists_eq', true_and, and_true, List.set_cons_zero, List.set_cons_succ, List.set, decide_eq_true_eq, Bool.not_eq_true', if_true, if_false, rIx, cx_K, nox_K, List.replicate_succ, List.replicate_zero, Nat.reduceSub, Bool.true_eq_false, Bool.false_eq_true, Nat.reduceAdd, List.cons.injEq, reduceCtorEq, false_and, false_or, or_false, tAug, rSetO, rStrO, rIsKp, tXk, tDGet, tDIn, tDNotIn, sDPut, rUn, rBinI, rBinR, rJoin, tJs, tOrT, rIsi, tCallOI, rBinT, tFCall, tMakeL, tCMethK, ClX.tCMeth, tCall, tPar3]
  refine kNew.mk (by show 8 ≤ sizeLine; decide) fun l H1 f1 => ?_
  have P1 := P0.same f1.same
  refine ⟨p, c, l, n, _, rfl, P1, by omega, f1.at_, (P0.at_p f1.new).1, by show 0 < 8; decide, by show 8 < 1073741824; decide, fun v H2 hv s2 P2 => ?_⟩
  obtain ⟨m, rfl, m0, m1⟩ : ∃ m : Int, v = .int m ∧ -1 ≤ m ∧ m ≤ 4 := by
    simp only [List.mem_cons, List.not_mem_nil, or_false] at hv
    rcases hv with rfl | rfl | rfl | rfl | rfl | rfl | rfl | rfl <;> exact ⟨_, rfl, by decide, by decide⟩
  clear hv
  refine kNew.mk (by show 3 ≤ sizeLine; decide) fun t1 H3 f3 => kNew.mk (by show 3 ≤ sizeLine; decide) fun t2 H4 f4 => ⟨_, rfl, kNew.mk (by show 3 ≤ sizeLine; decide) fun t3 H5 f5 => ⟨_, rfl, kNew.mk (by show 3 ≤ sizeLine; decide) fun t4 H6 f6 => kNew.mk (by show 3 ≤ sizeLine; decide) fun t5 H7 f7 => ⟨_, rfl, kNew.mk (by show 3 ≤ sizeLine; decide) fun t6 H8 f8 => kNew.mk (by show 6 ≤ sizeLine; decide) fun l2 H9 f9 => ?_⟩⟩⟩
  have s78 := f8.same.trans f9.same
  have s67 := f7.same.trans s78
  have s56 := f6.same.trans s67
  have s45 := f5.same.trans s56
  have s34 := f4.same.trans s45
  have s39 := f3.same.trans s34
  have P9 := P2.same s39
  refine ⟨p, c, l2, n + 1, _, rfl, P9, by omega, f9.at_, ?_, by show 0 < 6; decide, by show 6 < 1073741824; decide, fun v H10 hv s10 P10 => ?_⟩
  · obtain ⟨_, _, _, h1, _⟩ := P9
    exact fun z => by
      rw [z] at f9
      obtain ⟨_, _, _, h1, _⟩ := P2.same (f3.same.trans (f4.same.trans (f5.same.trans (f6.same.trans (f7.same.trans f8.same)))))
      exact f9.ne h1 rfl
  have sB : SameBut p H H10 := ((SameBut.of f1.same).trans s2).trans ((SameBut.of s39).trans s10)
  have PE : Pen H10 p c (n + 4) := P10.le (by omega)
  have fin : ∀ (t : Addr) (q : Pl), SmP q → TupP H9 t q → Q (.ref t) H10 := fun t q hq ht => k t q H10 hq sB PE (ht.pen P9 s10)
  simp only [List.mem_cons, List.not_mem_nil, or_false] at hv
  rcases hv with rfl | rfl | rfl | rfl | rfl | rfl
  · exact fin _ ⟨0, m, 0⟩ ⟨sm0, ⟨by simp only; omega, by simp only; omega⟩, sm0⟩ (s34 _ _ f3.at_)
  · exact fin _ ⟨0, m, 0⟩ ⟨sm0, ⟨by simp only; omega, by simp only; omega⟩, sm0⟩ (s45 _ _ f4.at_)
  · exact fin _ ⟨2, 0 - m, 1⟩ ⟨sm2, ⟨by simp only; omega, by simp only; omega⟩, sm1⟩ (s56 _ _ f5.at_)
  · exact fin _ ⟨2, 0 - m, 1⟩ ⟨sm2, ⟨by simp only; omega, by simp only; omega⟩, sm1⟩ (s67 _ _ f6.at_)
  · exact fin _ ⟨1, m, 0⟩ ⟨sm1, ⟨by simp only; omega, by simp only; omega⟩, sm0⟩ (s78 _ _ f7.at_)
  · exact fin _ ⟨1, 0 - m, 1⟩ ⟨sm1, ⟨by simp only; omega, by simp only; omega⟩, sm1⟩ (f9.same _ _ f8.at_)
theorem ok_at (T : Txt K mg a) : FnR P w K mg base CX0 1 a._law_at spAt := by
  refine T.d__law_at.ok sc__law_at (fun _ _ _ _ _ _ us hl => match us, hl with | [_, _], _ => rfl) (fun vs H Q E h => by obtain ⟨t, q, n, rfl, _⟩ := h; rfl) (fun cdv A outer s H vs Q E hr h => ?_)
  obtain ⟨t, q, n, rfl, ht, ⟨m1, m2⟩, k⟩ := h
  refine ⟨_, (pss_one (ps_ret (pe_op op_add (pe_op op_add (pe_op op_mulW (pe_ix ix_tup (pv 0) pe_int (fun _ _ => rfl)) (pe_op op_fdiv (pv 1) pe_int)) (pe_ix ix_tup (pv 0) pe_int (fun _ _ => rfl))) (pe_op op_mulW (pe_ix ix_tup (pv 0) pe_int (fun _ _ => rfl)) (pe_callTy call_int1 (by rfl) T.n_int (by decide +kernel) (pa_cons (pe_op op_mod (pv 1) pe_int) pa_nil)))))), ?_⟩
  simp only [tSeq, tIfS, tTest, tB, tAnd, tOr, tNot, tAndV, tOrV, tNotV, tIf, tOp, tUn, tChain, rEq, rNe, rI0, rI, rU, tCallR, tCons, tNil, tC, tVar, tRet, tRetN, tTup_k, tLst_k, tCB, tNext, tAsg, gName, gTup, gCons, gNil, tDrop, tPar, tFld, ClX.tCVal, tPropR, rBin, rBinT, rNeOwn, rSetL_k, gSub, tMakeK_k, tMethR, rInO, tDNewK_k, tYes, wipe, tMakeR_k, tSMeth, tSMethK, rMulS, decide_true, tNever, sFld, rIsiT, and_false, rListOf, rTupOf, rLenSeq, rIxL, rIxT, rIxS, rCat_k, rRep_k, rSlL_k, rSlS, rNewStrs_k, rAppend_k, tBM, tBM0, tM0, tM1, tSl, tNoPart, tPart, tLc_k, tFor_k, iList, iTup, iEnumT, iRng1, iRng2, iRng2L, iStr, L2.start, List.map, List.length_cons, List.length_nil, List.cons_append, List.nil_append, List.getElem?_cons_succ, List.getElem?_cons_zero, Option.some.injEq, V.int.injEq, V.bl.injEq, V.str.injEq, V.ref.injEq, exists_eq_left', exists_eq_left, and_assoc, exists_and_left, exists_eq, exists_eq', true_and, and_true, List.set_cons_zero, List.set_cons_succ, List.set, decide_eq_true_eq, Bool.not_eq_true', if_true, if_false, rIx, cx_K, nox_K, List.replicate_succ, List.replicate_zero, Nat.reduceSub, Bool.true_eq_false, Bool.false_eq_true, Nat.reduceAdd, List.cons.injEq, reduceCtorEq, false_and, false_or, or_false, tAug, rSetO, rStrO, rIsKp, tXk, tDGet, tDIn, tDNotIn, sDPut, rUn, rBinI, rBinR, rJoin, tJs, tOrT, rIsi, tCallOI, rBinT, tFCall, tMakeL, tCMethK, ClX.tCMeth, tCall, tPar3]
  exact ⟨_, SqT.of ht, _, rfl, ⟨by decide, by decide⟩, _, rfl, m1, _, SqT.of ht, _, rfl, _, rfl, _, SqT.of ht, _, rfl, by decide, .inl ⟨_, rfl, m2, k⟩⟩
theorem ok_builtP (T : Txt K mg a) : FnR P w K mg base CX0 6 a._law_built_place (spBuiltP a.Place) := by
  have G__law_draw : FnR P w K mg base CX0 1 a._law_draw spPDraw := ok_pdraw T
  have G_Place_init : FnR P w K mg base (CX P w) 3 a.Place_init (spPInitX K a.Place a.BadPlace) := ok_p_initX T
  refine T.d__law_built_place.ok sc__law_built_place (fun _ _ _ _ _ _ us hl => match us, hl with | [_, _], _ => rfl) (fun vs H Q E h => by obtain ⟨p, c, t, q, n, rfl, _⟩ := h; rfl) (fun cdv A outer s H vs Q E hr h => ?_)
  obtain ⟨p, c, t, q, n, rfl, P0, hn, ht, k⟩ := h
  refine ⟨_, (pss_cons (ps_if (PW.pt (pw_and (pt_cmpR op_eq (pe_ix ix_tup (pv 1) pe_int (fun _ _ => rfl)) pe_int (nomark _)) (pw_and (pt_cmpR op_eq (pe_ix ix_tup (pv 1) pe_int (fun _ _ => rfl)) pe_int (nomark _)) (pw_and1 (pt_cmpR op_eq (pe_callR G__law_draw (hr.mono (by decide)) T.m__law_draw T.k__law_draw pass0 (pa_cons (pv 0) (pa_cons pe_int pa_nil))) pe_int (nomark _))))))
          (pss_one (ps_ret (pe_ix ix_tup (pv 1) pe_int (fun _ _ => rfl))))
          pss_nil)
      (pss_one (ps_ret (pe_makeRR T.M_Place G_Place_init (hr.mono (by decide)) T.m_Place (passUp LamX.takes0) (pa_cons (pe_ix ix_tup (pv 1) pe_int (fun _ _ => rfl)) (pa_cons (pe_ix ix_tup (pv 1) pe_int (fun _ _ => rfl)) (pa_cons (pe_ix ix_tup (pv 1) pe_int (fun _ _ => rfl)) pa_nil))))))), ?_⟩
  simp only [tSeq, tIfS, tTest, tB, tAnd, tOr, tNot, tAndV, tOrV, tNotV, tIf, tOp, tUn, tChain, rEq, rNe, rI0, rI, rU, tCallR, tCons, tNil, tC, tVar, tRet, tRetN, tTup_k, tLst_k, tCB, tNext, tAsg, gName, gTup, gCons, gNil, tDrop, tPar, tFld, ClX.tCVal, tPropR, rBin, rBinT, rNeOwn, rSetL_k, gSub, tMakeK_k, tMethR, rInO, tDNewK_k, tYes, wipe, tMakeR_k, tSMeth, tSMethK, rMulS, decide_true, tNever, sFld, rIsiT, and_false, rListOf, rTupOf, rLenSeq, rIxL, rIxT, rIxS, rCat_k, rRep_k, rSlL_k, rSlS, rNewStrs_k, rAppend_k, tBM, tBM0, tM0, tM1, tSl, tNoPart, tPart, tLc_k, tFor_k, iList, iTup, iEnumT, iRng1, iRng2, iRng2L, iStr, L2.start, List.map, List.length_cons, List.length_nil, List.cons_append, List.nil_append, List.getElem?_cons_succ, List.getElem?_cons_zero, Option.some.injEq, V.int.injEq, V.bl.injEq, V.str.injEq, V.ref.injEq, exists_eq_left', exists_eq_left, and_assoc, exists_and_left, exists_eq, exists_eq', true_and, and_true, List.set_cons_zero, List.set_cons_succ, List.set, decide_eq_true_eq, Bool.not_eq_true', if_true, if_false, rIx, cx_K, nox_K, List.replicate_succ, List.replicate_zero, Nat.reduceSub, Bool.true_eq_false, Bool.false_eq_true, Nat.reduceAdd, List.cons.injEq, reduceCtorEq, false_and, false_or, or_false, tAug, rSetO, rStrO, rIsKp, tXk, tDGet, tDIn, tDNotIn, sDPut, rUn, rBinI, rBinR, rJoin, tJs, tOrT, rIsi, tCallOI, rBinT, tFCall, tMakeL, tCMethK, ClX.tCMeth, tCall, tPar3]
  have mk : ∀ H1 (n1 : Int), SameBut p H H1 → Pen H1 p c (n + 1) → kMake a.Place (spPInitX K a.Place a.BadPlace) (fun cls d H => False) Q [.int q.s, .int q.o, .int q.d] H1 := fun H1 n1 s1 P1 =>
    newP_makeX fun x H2 s2 nx px => k _ H2 (s1.trans (SameBut.of s2)) (P1.same s2) (.inr ⟨x, rfl, px⟩)
  have at0 : SqT K H t [.int q.s, .int q.o, .int q.d] := SqT.of ht
  refine ⟨_, at0, _, rfl, rfl, ?_⟩
  by_cases h0 : V.int q.s = V.int 0
  · rw [if_pos h0]
    refine ⟨_, at0, _, rfl, rfl, ?_⟩
    by_cases h2 : V.int q.d = V.int 0
    · rw [if_pos h2]
      refine ⟨p, c, 2, n, rfl, P0, by omega, by decide, by decide, fun z H1 z0 z1 s1 P1 => ⟨rfl, ?_⟩⟩
      have at1 : SqT K H1 t [.int q.s, .int q.o, .int q.d] := SqT.of (ht.pen P0 s1)
      by_cases hz : V.int z = V.int 0
      · rw [if_pos hz]
        exact ⟨_, at1, _, rfl, k _ _ s1 P1 (.inl ⟨rfl, V.int.inj h0, V.int.inj h2⟩)⟩
      · rw [if_neg hz]
        exact ⟨_, at1, _, rfl, _, at1, _, rfl, _, at1, _, rfl, mk H1 0 s1 P1⟩
    · rw [if_neg h2]
      exact ⟨_, at0, _, rfl, _, at0, _, rfl, _, at0, _, rfl, mk H 0 (fun _ _ _ e => e) (P0.le (by omega))⟩
  · rw [if_neg h0]
    exact ⟨_, at0, _, rfl, _, at0, _, rfl, _, at0, _, rfl, mk H 0 (fun _ _ _ e => e) (P0.le (by omega))⟩
theorem ok_mirT (T : Txt K mg a) : FnR P w K mg base CX0 1 a._law_mirror_place spMirT := by
  refine T.d__law_mirror_place.ok sc__law_mirror_place (fun _ _ _ _ _ _ us hl => match us, hl with | [_], _ => rfl) (fun vs H Q E h => by obtain ⟨t, q, rfl, _⟩ := h; rfl) (fun cdv A outer s H vs Q E hr h => ?_)
  obtain ⟨t, q, rfl, ht, k⟩ := h
  refine ⟨_, (pss_one (ps_ret (pe_tup (pa_cons (pe_op op_sub pe_int (pe_ix ix_tup (pv 0) pe_int (fun _ _ => rfl))) (pa_cons (pe_op op_sub pe_int (pe_ix ix_tup (pv 0) pe_int (fun _ _ => rfl))) (pa_cons (pe_op op_sub pe_int (pe_ix ix_tup (pv 0) pe_int (fun _ _ => rfl))) pa_nil)))))), ?_⟩
  simp only [tSeq, tIfS, tTest, tB, tAnd, tOr, tNot, tAndV, tOrV, tNotV, tIf, tOp, tUn, tChain, rEq, rNe, rI0, rI, rU, tCallR, tCons, tNil, tC, tVar, tRet, tRetN, tTup_k, tLst_k, tCB, tNext, tAsg, gName, gTup, gCons, gNil, tDrop, tPar, tFld, ClX.tCVal, tPropR, rBin, rBinT, rNeOwn, rSetL_k, gSub, tMakeK_k, tMethR, rInO, tDNewK_k, tYes, wipe, tMakeR_k, tSMeth, tSMethK, rMulS, decide_true, tNever, sFld, rIsiT, and_false, rListOf, rTupOf, rLenSeq, rIxL, rIxT, rIxS, rCat_k, rRep_k, rSlL_k, rSlS, rNewStrs_k, rAppend_k, tBM, tBM0, tM0, tM1, tSl, tNoPart, tPart, tLc_k, tFor_k, iList, iTup, iEnumT, iRng1, iRng2, iRng2L, iStr, L2.start, List.map, List.length_cons, List.length_nil, List.cons_append, List.nil_append, List.getElem?_cons_succ, List.getElem?_cons_zero, Option.some.injEq, V.int.injEq, V.bl.injEq, V.str.injEq, V.ref.injEq, exists_eq_left', exists_eq_left, and_assoc, exists_and_left, exists_eq, exists_eq', true_and, and_true, List.set_cons_zero, List.set_cons_succ, List.set, decide_eq_true_eq, Bool.not_eq_true', if_true, if_false, rIx, cx_K, nox_K, List.replicate_succ, List.replicate_zero, Nat.reduceSub, Bool.true_eq_false, Bool.false_eq_true, Nat.reduceAdd, List.cons.injEq, reduceCtorEq, false_and, false_or, or_false, tAug, rSetO, rStrO, rIsKp, tXk, tDGet, tDIn, tDNotIn, sDPut, rUn, rBinI, rBinR, rJoin, tJs, tOrT, rIsi, tCallOI, rBinT, tFCall, tMakeL, tCMethK, ClX.tCMeth, tCall, tPar3]
  refine ⟨_, SqT.of ht, _, rfl, _, rfl, _, SqT.of ht, _, rfl, _, rfl, _, SqT.of ht, _, rfl, _, rfl, kNew.mk (by show 3 ≤ sizeLine; decide) fun t' H' f => ?_⟩
  rw [Int.zero_sub] at f
  exact k t' H' f
theorem ok_partsL (T : Txt K mg a) : FnR P w K mg base CX0 3 a._law_parts (spPartsL a.Place) := by
  have G_Place_slope : FnR P w K mg base CX0 1 a.Place_slope (spPSlope a.Place) := ok_p_slope T
  have G_Place_offset : FnR P w K mg base CX0 1 a.Place_offset (spPOffset a.Place) := ok_p_offset T
  have G_Place_odd : FnR P w K mg base CX0 1 a.Place_odd (spPOdd a.Place) := ok_p_odd T
  refine T.d__law_parts.ok sc__law_parts (fun _ _ _ _ _ _ us hl => match us, hl with | [_], _ => rfl) (fun vs H Q E h => by obtain ⟨x, q, rfl, _⟩ := h; rfl) (fun cdv A outer s H vs Q E hr h => ?_)
  obtain ⟨x, q, rfl, hx, k⟩ := h
  refine ⟨_, (pss_one (ps_ret (pe_tup (pa_cons (pe_propR (pv 0) T.c_Place.cl T.p_Place_slope G_Place_slope (hr.mono (by decide))  pass0) (pa_cons (pe_propR (pv 0) T.c_Place.cl T.p_Place_offset G_Place_offset (hr.mono (by decide))  pass0) (pa_cons (pe_propR (pv 0) T.c_Place.cl T.p_Place_odd G_Place_odd (hr.mono (by decide))  pass0) pa_nil)))))), ?_⟩
  simp only [tSeq, tIfS, tTest, tB, tAnd, tOr, tNot, tAndV, tOrV, tNotV, tIf, tOp, tUn, tChain, rEq, rNe, rI0, rI, rU, tCallR, tCons, tNil, tC, tVar, tRet, tRetN, tTup_k, tLst_k, tCB, tNext, tAsg, gName, gTup, gCons, gNil, tDrop, tPar, tFld, ClX.tCVal, tPropR, rBin, rBinT, rNeOwn, rSetL_k, gSub, tMakeK_k, tMethR, rInO, tDNewK_k, tYes, wipe, tMakeR_k, tSMeth, tSMethK, rMulS, decide_true, tNever, sFld, rIsiT, and_false, rListOf, rTupOf, rLenSeq, rIxL, rIxT, rIxS, rCat_k, rRep_k, rSlL_k, rSlS, rNewStrs_k, rAppend_k, tBM, tBM0, tM0, tM1, tSl, tNoPart, tPart, tLc_k, tFor_k, iList, iTup, iEnumT, iRng1, iRng2, iRng2L, iStr, L2.start, List.map, List.length_cons, List.length_nil, List.cons_append, List.nil_append, List.getElem?_cons_succ, List.getElem?_cons_zero, Option.some.injEq, V.int.injEq, V.bl.injEq, V.str.injEq, V.ref.injEq, exists_eq_left', exists_eq_left, and_assoc, exists_and_left, exists_eq, exists_eq', true_and, and_true, List.set_cons_zero, List.set_cons_succ, List.set, decide_eq_true_eq, Bool.not_eq_true', if_true, if_false, rIx, cx_K, nox_K, List.replicate_succ, List.replicate_zero, Nat.reduceSub, Bool.true_eq_false, Bool.false_eq_true, Nat.reduceAdd, List.cons.injEq, reduceCtorEq, false_and, false_or, or_false, tAug, rSetO, rStrO, rIsKp, tXk, tDGet, tDIn, tDNotIn, sDPut, rUn, rBinI, rBinR, rJoin, tJs, tOrT, rIsi, tCallOI, rBinT, tFCall, tMakeL, tCMethK, ClX.tCMeth, tCall, tPar3]
  obtain ⟨dx, e⟩ := id hx
  exact ⟨_, _, e, x, _, _, _, rfl, hx, _, _, e, x, _, _, _, rfl, hx, _, _, e, x, _, _, _, rfl, hx, kNew.mk (by show 3 ≤ sizeLine; decide) fun t H' f => k t H' f⟩
end
end Pf
end
section
namespace Pf
open PySem PySem.Spec PyProof.Rows L2 Ow StX
/-! ### four places, boxes of them -/
def FourT (H : Hp) (t : Addr) (q : Bx) : Prop := ∃ t0 t1 t2 t3, H t = some (.tup [.ref t0, .ref t1, .ref t2, .ref t3]) ∧ TupP H t0 q.x0 ∧ TupP H t1 q.x1 ∧ TupP H t2 q.y0 ∧ TupP H t3 q.y1
theorem FourT.same {H H' : Hp} {t : Addr} {q : Bx} (h : FourT H t q) (s : Same H H') : FourT H' t q := by
  obtain ⟨t0, t1, t2, t3, e, h0, h1, h2, h3⟩ := h
  exact ⟨t0, t1, t2, t3, s _ _ e, h0.same s, h1.same s, h2.same s, h3.same s⟩
theorem FourT.pen {H H' : Hp} {p c t : Addr} {n : Int} {q : Bx} (h : FourT H t q) (P : Pen H p c n) (s : SameBut p H H') : FourT H' t q := by
  obtain ⟨t0, t1, t2, t3, e, h0, h1, h2, h3⟩ := h
  exact ⟨t0, t1, t2, t3, P.keep s e (by intro _ z; cases z), h0.pen P s, h1.pen P s, h2.pen P s, h3.pen P s⟩
def BdB (q : Bx) : Prop := BdP q.x0 ∧ BdP q.x1 ∧ BdP q.y0 ∧ BdP q.y1
def SmB (q : Bx) : Prop := SmP q.x0 ∧ SmP q.x1 ∧ SmP q.y0 ∧ SmP q.y1
theorem SmB.bd {q : Bx} (h : SmB q) : BdB q := ⟨h.1.bd, h.2.1.bd, h.2.2.1.bd, h.2.2.2.bd⟩
def plOf (q : Bx) : List Pl := [q.x0, q.x1, q.y0, q.y1]
theorem nil_at {i : Nat} {v : V} {p : Prop} (h : ([] : List V)[i]? = some v) : p := by cases i <;> cases h
def spAnyP : Sp := fun vs H Q _ => ∃ (p c : Addr) (n : Int), vs = [.ref p] ∧ Pen H p c n ∧ n + 20 < 1048576 ∧ ∀ t q H', SmP q → SameBut p H H' → Pen H' p c (n + 5) → TupP H' t q → Q (.ref t) H'
def spFourL : Sp := fun vs H Q _ => ∃ (p c : Addr) (n : Int), vs = [.ref p] ∧ Pen H p c n ∧ n + 60 < 1048576 ∧ ∀ t q H', SmB q → SameBut p H H' → Pen H' p c (n + 20) → FourT H' t q → Q (.ref t) H'
def spBuiltB (B C : Addr) : Sp := fun vs H Q _ => ∃ (p c t : Addr) (q : Bx) (n : Int), vs = [.ref p, .ref t] ∧ Pen H p c n ∧ n + 40 < 1048576 ∧ FourT H t q ∧ BdB q ∧ ∀ b H', SameBut p H H' → Pen H' p c (n + 4) → BoxAt H' B C b q → Q (.ref b) H'
section
variable {P : Program} {w : World} {K : PySem.W.Frag} {mg : Str → Option Value} {base : Heap} {a : Adr}
set_option maxHeartbeats 4000000
theorem ok_anyP (T : Txt K mg a) : FnR P w K mg base CX0 4 a._law_any_place spAnyP := by
  have G__law_draw : FnR P w K mg base CX0 1 a._law_draw spPDraw := ok_pdraw T
  have G__law_place : FnR P w K mg base CX0 3 a._law_place spPlaceL := ok_place T
  refine T.d__law_any_place.ok sc__law_any_place (fun _ _ _ _ _ _ us hl => match us, hl with | [_], _ => rfl) (fun vs H Q E h => by obtain ⟨p, c, n, rfl, _⟩ := h; rfl) (fun cdv A outer s H vs Q E hr h => ?_)
  obtain ⟨p, c, n, rfl, P0, hn, k⟩ := h
  refine ⟨_, (pss_cons (ps_if (pt_cmpR op_gt (pe_callR G__law_draw (hr.mono (by decide)) T.m__law_draw T.k__law_draw pass0 (pa_cons (pv 0) (pa_cons pe_int pa_nil))) pe_int (nomark _))
          (pss_one (ps_ret (pe_callR G__law_place (hr.mono (by decide)) T.m__law_place T.k__law_place pass0 (pa_cons (pv 0) pa_nil))))
          pss_nil)
      (pss_one (ps_ret (pe_tup (pa_cons (pe_op op_sub (pe_callR G__law_draw (hr.mono (by decide)) T.m__law_draw T.k__law_draw pass0 (pa_cons (pv 0) (pa_cons pe_int pa_nil))) pe_int) (pa_cons (pe_op op_sub (pe_callR G__law_draw (hr.mono (by decide)) T.m__law_draw T.k__law_draw pass0 (pa_cons (pv 0) (pa_cons pe_int pa_nil))) pe_int) (pa_cons (pe_op op_sub (pe_callR G__law_draw (hr.mono (by decide)) T.m__law_draw T.k__law_draw pass0 (pa_cons (pv 0) (pa_cons pe_int pa_nil))) pe_int) pa_nil))))))), ?_⟩
  simp only [tSeq, tIfS, tTest, tB, tAnd, tOr, tNot, tAndV, tOrV, tNotV, tIf, tOp, tUn, tChain, rEq, rNe, rI0, rI, rU, tCallR, tCons, tNil, tC, tVar, tRet, tRetN, tTup_k, tLst_k, tCB, tNext, tAsg, gName, gTup, gCons, gNil, tDrop, tPar, tFld, ClX.tCVal, tPropR, rBin, rBinT, rNeOwn, rSetL_k, gSub, tMakeK_k, tMethR, rInO, tDNewK_k, tYes, wipe, tMakeR_k, tSMeth, tSMethK, rMulS, decide_true, tNever, sFld, rIsiT, and_false, rListOf, rTupOf, rLenSeq, rIxL, rIxT, rIxS, rCat_k, rRep_k, rSlL_k, rSlS, rNewStrs_k, rAppend_k, tBM, tBM0, tM0, tM1, tSl, tNoPart, tPart, tLc_k, tFor_k, iList, iTup, iEnumT, iRng1, iRng2, iRng2L, iStr, L2.start, List.map, List.length_cons, List.length_nil, List.cons_append, List.nil_append, List.getElem?_cons_succ, List.getElem?_cons_zero, Option.some.injEq, V.int.injEq, V.bl.injEq, V.str.injEq, V.ref.injEq, exists_eq_left', exists_eq_left, and_assoc, exists_and_left, exists_eq, exists_eq', true_and, and_true, List.set_cons_zero, List.set_cons_succ, List.set, decide_eq_true_eq, Bool.not_eq_true', if_true, if_false, rIx, cx_K, nox_K, List.replicate_succ, List.replicate_zero, Nat.reduceSub, Bool.true_eq_false, Bool.false_eq_true, Nat.reduceAdd, List.cons.injEq, reduceCtorEq, false_and, false_or, or_false, tAug, rSetO, rStrO, rIsKp, tXk, tDGet, tDIn, tDNotIn, sDPut, rUn, rBinI, rBinR, rJoin, tJs, tOrT, rIsi, tCallOI, rBinT, tFCall, tMakeL, tCMethK, ClX.tCMeth, tCall, tPar3]
  refine ⟨p, c, 4, n, rfl, P0, by omega, by decide, by decide, fun z H1 z0 z1 s1 P1 => ⟨z, rfl, ?_⟩⟩
  by_cases hz : 0 < z
  · rw [if_pos hz]
    exact ⟨p, c, n + 1, rfl, P1, by omega, fun t q H2 hq s2 P2 ht => k t q H2 hq (s1.trans s2) (P2.le (by omega)) ht⟩
  · rw [if_neg hz]
    refine ⟨p, c, 7, _, rfl, P1, by omega, by decide, by decide, fun x H2 x0 x1 s2 P2 => ⟨x, rfl, ?_⟩⟩
    refine ⟨p, c, 19, _, rfl, P2, by omega, by decide, by decide, fun y H3 y0 y1 s3 P3 => ⟨y, rfl, ?_⟩⟩
    refine ⟨p, c, 5, _, rfl, P3, by omega, by decide, by decide, fun u H4 u0 u1 s4 P4 => ⟨u, rfl, ?_⟩⟩
    refine kNew.mk (by show 3 ≤ sizeLine; decide) fun t H5 f5 => ?_
    exact k t ⟨x - 2, y - 9, u - 2⟩ H5 ⟨⟨by simp only; omega, by simp only; omega⟩, ⟨by simp only; omega, by simp only; omega⟩, by simp only; omega, by simp only; omega⟩ (((s1.trans s2).trans s3).trans (s4.trans (SameBut.of f5.same))) ((P4.same f5.same).le (by omega)) f5.at_
theorem ok_fourL (T : Txt K mg a) : FnR P w K mg base CX0 5 a._law_four spFourL := by
  have G__law_any_place : FnR P w K mg base CX0 4 a._law_any_place spAnyP := ok_anyP T
  refine T.d__law_four.ok sc__law_four (fun _ _ _ _ _ _ us hl => match us, hl with | [_], _ => rfl) (fun vs H Q E h => by obtain ⟨p, c, n, rfl, _⟩ := h; rfl) (fun cdv A outer s H vs Q E hr h => ?_)
  obtain ⟨p, c, n, rfl, P0, hn, k⟩ := h
  refine ⟨_, (pss_one (ps_ret (pe_tup (pa_cons (pe_callR G__law_any_place (hr.mono (by decide)) T.m__law_any_place T.k__law_any_place pass0 (pa_cons (pv 0) pa_nil)) (pa_cons (pe_callR G__law_any_place (hr.mono (by decide)) T.m__law_any_place T.k__law_any_place pass0 (pa_cons (pv 0) pa_nil)) (pa_cons (pe_callR G__law_any_place (hr.mono (by decide)) T.m__law_any_place T.k__law_any_place pass0 (pa_cons (pv 0) pa_nil)) (pa_cons (pe_callR G__law_any_place (hr.mono (by decide)) T.m__law_any_place T.k__law_any_place pass0 (pa_cons (pv 0) pa_nil)) pa_nil))))))), ?_⟩
  simp only [tSeq, tIfS, tTest, tB, tAnd, tOr, tNot, tAndV, tOrV, tNotV, tIf, tOp, tUn, tChain, rEq, rNe, rI0, rI, rU, tCallR, tCons, tNil, tC, tVar, tRet, tRetN, tTup_k, tLst_k, tCB, tNext, tAsg, gName, gTup, gCons, gNil, tDrop, tPar, tFld, ClX.tCVal, tPropR, rBin, rBinT, rNeOwn, rSetL_k, gSub, tMakeK_k, tMethR, rInO, tDNewK_k, tYes, wipe, tMakeR_k, tSMeth, tSMethK, rMulS, decide_true, tNever, sFld, rIsiT, and_false, rListOf, rTupOf, rLenSeq, rIxL, rIxT, rIxS, rCat_k, rRep_k, rSlL_k, rSlS, rNewStrs_k, rAppend_k, tBM, tBM0, tM0, tM1, tSl, tNoPart, tPart, tLc_k, tFor_k, iList, iTup, iEnumT, iRng1, iRng2, iRng2L, iStr, L2.start, List.map, List.length_cons, List.length_nil, List.cons_append, List.nil_append, List.getElem?_cons_succ, List.getElem?_cons_zero, Option.some.injEq, V.int.injEq, V.bl.injEq, V.str.injEq, V.ref.injEq, exists_eq_left', exists_eq_left, and_assoc, exists_and_left, exists_eq, exists_eq', true_and, and_true, List.set_cons_zero, List.set_cons_succ, List.set, decide_eq_true_eq, Bool.not_eq_true', if_true, if_false, rIx, cx_K, nox_K, List.replicate_succ, List.replicate_zero, Nat.reduceSub, Bool.true_eq_false, Bool.false_eq_true, Nat.reduceAdd, List.cons.injEq, reduceCtorEq, false_and, false_or, or_false, tAug, rSetO, rStrO, rIsKp, tXk, tDGet, tDIn, tDNotIn, sDPut, rUn, rBinI, rBinR, rJoin, tJs, tOrT, rIsi, tCallOI, rBinT, tFCall, tMakeL, tCMethK, ClX.tCMeth, tCall, tPar3]
  refine ⟨p, c, n, rfl, P0, by omega, fun t0 q0 H1 b0 s1 P1 h0 => ?_⟩
  refine ⟨p, c, _, rfl, P1, by omega, fun t1 q1 H2 b1 s2 P2 h1 => ?_⟩
  refine ⟨p, c, _, rfl, P2, by omega, fun t2 q2 H3 b2 s3 P3 h2 => ?_⟩
  refine ⟨p, c, _, rfl, P3, by omega, fun t3 q3 H4 b3 s4 P4 h3 => ?_⟩
  refine kNew.mk (by show 4 ≤ sizeLine; decide) fun t H5 f5 => ?_
  have h0' := (((h0.pen P1 s2).pen P2 s3).pen P3 s4).same f5.same
  have h1' := ((h1.pen P2 s3).pen P3 s4).same f5.same
  have h2' := (h2.pen P3 s4).same f5.same
  exact k t ⟨q0, q1, q2, q3⟩ H5 ⟨b0, b1, b2, b3⟩ ((((s1.trans s2).trans s3).trans s4).trans (SameBut.of f5.same)) ((P4.same f5.same).le (by omega)) ⟨t0, t1, t2, t3, f5.at_, h0', h1', h2', h3.same f5.same⟩
theorem ok_builtB (T : Txt K mg a) : FnR P w K mg base CX0 14 a._law_built_box (spBuiltB a.Box a.Place) := by
  have G__law_built_place : FnR P w K mg base CX0 6 a._law_built_place (spBuiltP a.Place) := ok_builtP T
  have G_Box_init : FnR P w K mg base (CX P w) 11 a.Box_init (spBInitA K a.Box a.Place a.BadPlace) := ok_bxinitA T
  refine T.d__law_built_box.ok sc__law_built_box (fun _ _ _ _ _ _ us hl => match us, hl with | [_, _], _ => rfl) (fun vs H Q E h => by obtain ⟨p, c, t, q, n, rfl, _⟩ := h; rfl) (fun cdv A outer s H vs Q E hr h => ?_)
  obtain ⟨p, c, t, q, n, rfl, P0, hn, ⟨t0, t1, t2, t3, ht, h0, h1, h2, h3⟩, ⟨b0, b1, b2, b3⟩, k⟩ := h
  refine ⟨_, (pss_cons (ps_setLc (i := 2) (own := [("_law_place_here", 3)]) (g := gName 3) (by rfl) sc__law_built_box.nd rfl rfl (sw_true rfl rfl rfl (by decide +kernel)) (pi_tup (pv 1)) (blkOk_by (own := [("_law_place_here", 3)]) (N := ["_law_pen_here", "_law_four_here", "_law_some", "_law_place_here"]) (sc := defScope s__law_built_box) (by decide +kernel)) (fun _ _ _ _ _ => (pg_name (i := 3) sc__law_built_box.nd rfl (Or.inl rfl))) (fun _ _ _ _ _ => pts_nil) (fun _ _ _ _ _ => (pe_callR G__law_built_place (hr.mono (by decide)) T.m__law_built_place T.k__law_built_place pass0 (pa_cons (pv 0) (pa_cons (pv 3) pa_nil)))))
      (pss_one (ps_ret (pe_makeRR T.M_Box G_Box_init (hr.mono (by decide)) T.m_Box (passUp LamX.takes0) (pa_cons (pe_ix ix_list (pv 2) pe_int (fun _ _ => rfl)) (pa_cons (pe_ix ix_list (pv 2) pe_int (fun _ _ => rfl)) (pa_cons (pe_ix ix_list (pv 2) pe_int (fun _ _ => rfl)) (pa_cons (pe_ix ix_list (pv 2) pe_int (fun _ _ => rfl)) pa_nil)))))))), ?_⟩
  simp only [tSeq, tIfS, tTest, tB, tAnd, tOr, tNot, tAndV, tOrV, tNotV, tIf, tOp, tUn, tChain, rEq, rNe, rI0, rI, rU, tCallR, tCons, tNil, tC, tVar, tRet, tRetN, tTup_k, tLst_k, tCB, tNext, tAsg, gName, gTup, gCons, gNil, tDrop, tPar, tFld, ClX.tCVal, tPropR, rBin, rBinT, rNeOwn, rSetL_k, gSub, tMakeK_k, tMethR, rInO, tDNewK_k, tYes, wipe, tMakeR_k, tSMeth, tSMethK, rMulS, decide_true, tNever, sFld, rIsiT, and_false, rListOf, rTupOf, rLenSeq, rIxL, rIxT, rIxS, rCat_k, rRep_k, rSlL_k, rSlS, rNewStrs_k, rAppend_k, tBM, tBM0, tM0, tM1, tSl, tNoPart, tPart, tLc_k, tFor_k, iList, iTup, iEnumT, iRng1, iRng2, iRng2L, iStr, L2.start, List.map, List.length_cons, List.length_nil, List.cons_append, List.nil_append, List.getElem?_cons_succ, List.getElem?_cons_zero, Option.some.injEq, V.int.injEq, V.bl.injEq, V.str.injEq, V.ref.injEq, exists_eq_left', exists_eq_left, and_assoc, exists_and_left, exists_eq, exists_eq', true_and, and_true, List.set_cons_zero, List.set_cons_succ, List.set, decide_eq_true_eq, Bool.not_eq_true', if_true, if_false, rIx, cx_K, nox_K, List.replicate_succ, List.replicate_zero, Nat.reduceSub, Bool.true_eq_false, Bool.false_eq_true, Nat.reduceAdd, List.cons.injEq, reduceCtorEq, false_and, false_or, or_false, tAug, rSetO, rStrO, rIsKp, tXk, tDGet, tDIn, tDNotIn, sDPut, rUn, rBinI, rBinR, rJoin, tJs, tOrT, rIsi, tCallOI, rBinT, tFCall, tMakeL, tCMethK, ClX.tCMeth, tCall, tPar3]
  refine ⟨⟨_, .inl (.inl ht)⟩, ?_⟩
  refine kLc.it (walk_tup (xs := [.ref t0, .ref t1, .ref t2, .ref t3])) (fun D j H' => ∃ vs : List V, vs.length = j ∧ SameBut p H H' ∧ Pen H' p c (n + (j : Nat)) ∧ D ≠ p ∧ c ≠ D ∧ H D = none ∧ H' D = some (.lst vs) ∧ ∀ i v, vs[i]? = some v → ∃ x, (plOf q)[i]? = some x ∧ InV a.Place H' v x)
    (fun D H' f => ⟨[], rfl, SameBut.of f.same, (P0.same f.same).le (by show n ≤ n + ((0 : Nat) : Int); omega), (P0.at_p f.new).1, (P0.at_p f.new).2, f.new, f.at_, fun i v h => nil_at h⟩) (fun D j H' hI => ?_) (fun D j xv H7 H8 hj hI hY => ?_) fun D H7 hI => ?_
  · obtain ⟨vs, hl, sB, P7, _⟩ := hI
    exact .inl (.inl (P0.keep sB ht (by intro _ z; cases z)))
  · obtain ⟨vs, hl, sB, P7, Dp, cD, nD, aD, hv⟩ := hI
    obtain ⟨rfl, e⟩ := hY
    have hj : j < 4 := hj
    obtain ⟨tt, x, rfl, hx, hq⟩ : ∃ (tt : Addr) (x : Pl), xv = .ref tt ∧ TupP H8 tt x ∧ (plOf q)[j]? = some x := by
      match j, hj with
      | 0, _ => cases e; exact ⟨t0, _, rfl, h0.pen P0 sB, rfl⟩
      | 1, _ => cases e; exact ⟨t1, _, rfl, h1.pen P0 sB, rfl⟩
      | 2, _ => cases e; exact ⟨t2, _, rfl, h2.pen P0 sB, rfl⟩
      | 3, _ => cases e; exact ⟨t3, _, rfl, h3.pen P0 sB, rfl⟩
    simp only [tSeq, tIfS, tTest, tB, tAnd, tOr, tNot, tAndV, tOrV, tNotV, tIf, tOp, tUn, tChain, rEq, rNe, rI0, rI, rU, tCallR, tCons, tNil, tC, tVar, tRet, tRetN, tTup_k, tLst_k, tCB, tNext, tAsg, gName, gTup, gCons, gNil, tDrop, tPar, tFld, ClX.tCVal, tPropR, rBin, rBinT, rNeOwn, rSetL_k, gSub, tMakeK_k, tMethR, rInO, tDNewK_k, tYes, wipe, tMakeR_k, tSMeth, tSMethK, rMulS, decide_true, tNever, sFld, rIsiT, and_false, rListOf, rTupOf, rLenSeq, rIxL, rIxT, rIxS, rCat_k, rRep_k, rSlL_k, rSlS, rNewStrs_k, rAppend_k, tBM, tBM0, tM0, tM1, tSl, tNoPart, tPart, tLc_k, tFor_k, iList, iTup, iEnumT, iRng1, iRng2, iRng2L, iStr, L2.start, List.map, List.length_cons, List.length_nil, List.cons_append, List.nil_append, List.getElem?_cons_succ, List.getElem?_cons_zero, Option.some.injEq, V.int.injEq, V.bl.injEq, V.str.injEq, V.ref.injEq, exists_eq_left', exists_eq_left, and_assoc, exists_and_left, exists_eq, exists_eq', true_and, and_true, List.set_cons_zero, List.set_cons_succ, List.set, decide_eq_true_eq, Bool.not_eq_true', if_true, if_false, rIx, cx_K, nox_K, List.replicate_succ, List.replicate_zero, Nat.reduceSub, Bool.true_eq_false, Bool.false_eq_true, Nat.reduceAdd, List.cons.injEq, reduceCtorEq, false_and, false_or, or_false, tAug, rSetO, rStrO, rIsKp, tXk, tDGet, tDIn, tDNotIn, sDPut, rUn, rBinI, rBinR, rJoin, tJs, tOrT, rIsi, tCallOI, rBinT, tFCall, tMakeL, tCMethK, ClX.tCMeth, tCall, tPar3]
    refine ⟨p, c, tt, x, n + (j : Nat), rfl, P7, by omega, hx, fun v H9 s9 P9 i9 => ?_⟩
    have a9 : H9 D = some (.lst vs) := s9 _ _ Dp aD
    refine ⟨vs, a9, Nat.lt_of_lt_of_le (show vs.length < 5 by omega) (by decide), vs ++ [v], by rw [List.length_append, hl]; rfl, fun b o nb e => ?_, ?_, Dp, cD, nD, upd_same, fun i u hu => ?_⟩
    · rw [upd_ne (ne_of_none e nD)]
      exact s9 _ _ nb (sB _ _ nb e)
    · exact (P9.le (by push_cast; omega)).put Dp cD
    · have sD : SameBut D H9 (upd H9 D (.lst (vs ++ [v]))) := SameBut.upd
      by_cases hi : i < vs.length
      · rw [List.getElem?_append_left hi] at hu
        obtain ⟨y, e1, e2⟩ := hv i u hu
        exact ⟨y, e1, (e2.pen P7 s9).but a9 sD⟩
      · rw [List.getElem?_append_right (by omega)] at hu
        have hi0 : i - vs.length = 0 := by
          match hz : i - vs.length with
          | 0 => rfl
          | m + 1 => rw [hz] at hu; cases hu
        rw [hi0] at hu
        cases hu
        have : i = j := by omega
        subst this
        exact ⟨x, hq, i9.but a9 sD⟩
  · obtain ⟨vs, hl, sB, P7, Dp, cD, nD, aD, hv⟩ := hI
    match vs, hl with
    | [v0, v1, v2, v3], _ =>
    obtain ⟨_, e0, i0⟩ := hv 0 v0 rfl
    obtain ⟨_, e1, i1⟩ := hv 1 v1 rfl
    obtain ⟨_, e2, i2⟩ := hv 2 v2 rfl
    obtain ⟨_, e3, i3⟩ := hv 3 v3 rfl
    cases e0
    cases e1
    cases e2
    cases e3
    simp only [tSeq, tIfS, tTest, tB, tAnd, tOr, tNot, tAndV, tOrV, tNotV, tIf, tOp, tUn, tChain, rEq, rNe, rI0, rI, rU, tCallR, tCons, tNil, tC, tVar, tRet, tRetN, tTup_k, tLst_k, tCB, tNext, tAsg, gName, gTup, gCons, gNil, tDrop, tPar, tFld, ClX.tCVal, tPropR, rBin, rBinT, rNeOwn, rSetL_k, gSub, tMakeK_k, tMethR, rInO, tDNewK_k, tYes, wipe, tMakeR_k, tSMeth, tSMethK, rMulS, decide_true, tNever, sFld, rIsiT, and_false, rListOf, rTupOf, rLenSeq, rIxL, rIxT, rIxS, rCat_k, rRep_k, rSlL_k, rSlS, rNewStrs_k, rAppend_k, tBM, tBM0, tM0, tM1, tSl, tNoPart, tPart, tLc_k, tFor_k, iList, iTup, iEnumT, iRng1, iRng2, iRng2L, iStr, L2.start, List.map, List.length_cons, List.length_nil, List.cons_append, List.nil_append, List.getElem?_cons_succ, List.getElem?_cons_zero, Option.some.injEq, V.int.injEq, V.bl.injEq, V.str.injEq, V.ref.injEq, exists_eq_left', exists_eq_left, and_assoc, exists_and_left, exists_eq, exists_eq', true_and, and_true, List.set_cons_zero, List.set_cons_succ, List.set, decide_eq_true_eq, Bool.not_eq_true', if_true, if_false, rIx, cx_K, nox_K, List.replicate_succ, List.replicate_zero, Nat.reduceSub, Bool.true_eq_false, Bool.false_eq_true, Nat.reduceAdd, List.cons.injEq, reduceCtorEq, false_and, false_or, or_false, tAug, rSetO, rStrO, rIsKp, tXk, tDGet, tDIn, tDNotIn, sDPut, rUn, rBinI, rBinR, rJoin, tJs, tOrT, rIsi, tCallOI, rBinT, tFCall, tMakeL, tCMethK, ClX.tCMeth, tCall, tPar3]
    have aD' := SqL.of (K := K) aD
    refine ⟨_, aD', v0, rfl, _, aD', v1, rfl, _, aD', v2, rfl, _, aD', v3, rfl, ?_⟩
    exact newB_makeA (i0.inp b0) (i1.inp b1) (i2.inp b2) (i3.inp b3) fun b H' s' nb hB => k b H' (sB.trans (SameBut.of s')) ((P7.same s').le (by simp)) hB
end
end Pf
end
section
namespace Pf
open PySem PySem.Spec PyProof.Rows L2 Ow StX
/-! ### what is asked with an error in view -/
/-- an error that is told by its class and its part -/
def Eer (BP BS : Addr) (Q : VK) : XK := fun cls d H1 => ∃ (C : Addr) (nm : Str) (dd : Addr) (fs : List (Str × V)) (v : V), cls = .ref C ∧ ((C = BP ∧ nm = "place") ∨ (C = BS ∧ nm = "size")) ∧ d = some dd ∧ H1 dd = some (.xd fs) ∧ fs.lookup ("part" : Str) = some v ∧ ∀ t H2, Same H1 H2 → H2 t = some (.tup [.str nm, v]) → Q (.ref t) H2
/-- what `_law_errors` makes of what it asks: a value in a list, or a wrong part, told by its name -/
def TTe (BP BS : Addr) (tl : XK → Hp → VK → Prop) (H : Hp) (Q : VK) : Prop := tl (Eer BP BS Q) H (fun v H1 => kNew HO.lst Q [v] H1)
theorem ask_set {X : Cx} {f c' : Addr} {q : Str} {tl : XK → Hp → VK → Prop} {W : WX} {n x : Str} {p1 p2 p3 ps : Pos} (hN : X.N.Nodup) (hi : X.N[2]? = some x) (hx : Loc X.env.scope x)
    (act : ∀ E : XK, (∀ cls d σ' H', E cls d H' → W cls d σ' H') → PE X (.Call (.Name n p1) [] [] p2) (fun σZ HZ Q => σZ[0]? = some (some (.ref f)) ∧ HZ c' = some (LamX.CodeO c' q) ∧ tl E HZ Q))
    (hs : swapsWith (.Call (.Name n p1) [] [] p2) (some (.Name x p3)) ps.line X.env = pure false := by rfl) (hf : X.fn x = true ∨ X.env.scope.names.lookup x = some .local := by first | exact .inl rfl | exact .inr rfl) :
    PSs X [.Assign [.Name x p3] (.Call (.Name n p1) [] [] p2) ps] (fun D σ H => ∃ Ech : XK, (∀ cls d σ' H', Ech cls d H' → W cls d σ' H') ∧ σ[0]? = some (some (.ref f)) ∧ H c' = some (LamX.CodeO c' q) ∧ tl Ech H (fun v H1 => D.nx (σ.set 2 (some v)) H1)) := by
  refine ⟨fun pins s' σ H' D I ⟨Ech, hW, h1, h2, h3⟩ => ?_⟩
  exact (pss_one (ps_set hN hi hx (act Ech hW) hs hf)).run pins s' σ H' D I ⟨h1, h2, h3⟩
theorem kit_ve {K : PySem.W.Frag} {C : Addr} (h : PySem.W.subIn K (.ref C) (.type "ValueError") = some true) : PySem.W.kitOne K (.ref C) (.type "ValueError") = some true := by
  unfold PySem.W.kitOne
  rw [if_neg (by simp)]
  exact h
section
set_option maxHeartbeats 4000000
theorem heard_gives {X : Cx} {a : Adr} {g : Addr} {cdv : Value} {q : Str} (T : Txt X.K X.mg a) : LamX.GivesTo X ["_law_ask", "_law_caught", "_law_found", "error", "_law_some"] "_law_errors" (defScope s__law_errors) g cdv (defBody s__law_errors) "_law_ask" q (TTe a.BadPlace a.BadSize) := by
  intro f c' s H Q tl act hc h
  refine ⟨_, (pss_cons (ps_set (i := 1) sc__law_errors.nd rfl (Or.inl rfl) pe_non)
      (pss_cons (ps_set (i := 2) sc__law_errors.nd rfl (Or.inl rfl) pe_non)
      (pss_cons (ps_try_keep rfl rfl sc__law_errors.nd LamX.takes0 (fun W pn xe tk _ => ask_set sc__law_errors.nd rfl (Or.inl rfl) fun E hW => act W pn xe E _ _ tk hW) (i := 3) rfl rfl ⟨rfl, by decide, .inl T.m_HoldError⟩ rfl (fun b oe cls d pn hz hf => pss_len 5 (by rfl) (pss_one (ps_set (i := 1) sc__law_errors.nd rfl (Or.inl rfl) (pv 3)))))
      (pss_cons (ps_if (pt_cmpR op_isN (pv 1) pe_non (nomark _))
          (pss_one (ps_ret (pe_lst (pa_cons (pv 2) pa_nil))))
          pss_nil)
      (pss_cons (ps_set (i := 4) sc__law_errors.nd rfl (Or.inl rfl) (pe_lst pa_nil))
      (pss_cons (ps_if (pt_val (pe_callB call_isKp (by rfl) T.n_isinstance (by decide +kernel) (pa_cons (pv 1) (pa_cons (pe_glob (v := .ref a.BadPlace) rfl T.m_BadPlace rfl) pa_nil))))
          (pss_one (ps_expr (pe_bm PySem.F.plainAttrs_list PySem.F.slot_list_append PySem.F.type_list_append mt_append (pv 4) (pa_cons (pe_tup (pa_cons pe_str (pa_cons (pe_xk (pv 1)) pa_nil))) pa_nil))))
          pss_nil)
      (pss_cons (ps_if (pt_val (pe_callB call_isKp (by rfl) T.n_isinstance (by decide +kernel) (pa_cons (pv 1) (pa_cons (pe_glob (v := .ref a.BadSize) rfl T.m_BadSize rfl) pa_nil))))
          (pss_one (ps_expr (pe_bm PySem.F.plainAttrs_list PySem.F.slot_list_append PySem.F.type_list_append mt_append (pv 4) (pa_cons (pe_tup (pa_cons pe_str (pa_cons (pe_xk (pv 1)) pa_nil))) pa_nil))))
          pss_nil)
      (pss_cons (ps_if (pt_val (pe_callB call_isKp (by rfl) T.n_isinstance (by decide +kernel) (pa_cons (pv 1) (pa_cons (pe_glob (v := .ref a.BadColour) rfl T.m_BadColour rfl) pa_nil))))
          (pss_one (ps_never))
          pss_nil)
      (pss_cons (ps_if (pt_val (pe_callB call_isKp (by rfl) T.n_isinstance (by decide +kernel) (pa_cons (pv 1) (pa_cons (pe_glob (v := .ref a.BadPixel) rfl T.m_BadPixel rfl) pa_nil))))
          (pss_one (ps_never))
          pss_nil)
      (pss_cons (ps_if (pt_val (pe_callB call_isKp (by rfl) T.n_isinstance (by decide +kernel) (pa_cons (pv 1) (pa_cons (pe_glob (v := .ref a.BadDeed) rfl T.m_BadDeed rfl) pa_nil))))
          (pss_one (ps_never))
          pss_nil)
      (pss_cons (ps_if (pt_val (pe_callB call_isKp (by rfl) T.n_isinstance (by decide +kernel) (pa_cons (pv 1) (pa_cons (pe_glob (v := .ref a.BadProgram) rfl T.m_BadProgram rfl) pa_nil))))
          (pss_one (ps_never))
          pss_nil)
      (pss_cons (ps_if (pt_val (pe_callB call_isKp (by rfl) T.n_isinstance (by decide +kernel) (pa_cons (pv 1) (pa_cons (pe_glob (v := .ref a.TooMany) rfl T.m_TooMany rfl) pa_nil))))
          (pss_one (ps_never))
          pss_nil)
      (pss_cons (ps_if (pt_val (pe_callB call_isKp (by rfl) T.n_isinstance (by decide +kernel) (pa_cons (pv 1) (pa_cons (pe_glob (v := .ref a.NoDeed) rfl T.m_NoDeed rfl) pa_nil))))
          (pss_one (ps_never))
          pss_nil)
      (pss_cons (ps_if (pt_val (pe_callB call_isKp (by rfl) T.n_isinstance (by decide +kernel) (pa_cons (pv 1) (pa_cons (pe_glob (v := .ref a.NoFlood) rfl T.m_NoFlood rfl) pa_nil))))
          (pss_one (ps_never))
          pss_nil)
      (pss_one (ps_ret (pe_ifExp (PW.pt (pw_and (pt_cmpR op_eq (pe_callB call_len_seq (by rfl) T.n_len (by decide +kernel) (pa_cons (pv 4) pa_nil)) pe_int (nomark _)) (pw_and1 (pt_val (pe_callB call_isKp (by rfl) T.n_isinstance (by decide +kernel) (pa_cons (pv 1) (pa_cons (pe_bltn (v := .ty "ValueError") (by rfl) T.n_ValueError (by decide +kernel) rfl) pa_nil))))))) (pe_ix ix_list (pv 4) pe_int (fun _ _ => rfl)) pe_str))))))))))))))))), ?_⟩
  simp only [tSeq, tIfS, tTest, tB, tAnd, tOr, tNot, tAndV, tOrV, tNotV, tIf, tOp, tUn, tChain, rEq, rNe, rI0, rI, rU, tCallR, tCons, tNil, tC, tVar, tRet, tRetN, tTup_k, tLst_k, tCB, tNext, tAsg, gName, gTup, gCons, gNil, tDrop, tPar, tFld, ClX.tCVal, tPropR, rBin, rBinT, rNeOwn, rSetL_k, gSub, tMakeK_k, tMethR, rInO, tDNewK_k, tYes, wipe, tMakeR_k, tSMeth, tSMethK, rMulS, decide_true, tNever, sFld, rIsiT, and_false, rListOf, rTupOf, rLenSeq, rIxL, rIxT, rIxS, rCat_k, rRep_k, rSlL_k, rSlS, rNewStrs_k, rAppend_k, tBM, tBM0, tM0, tM1, tSl, tNoPart, tPart, tLc_k, tFor_k, iList, iTup, iEnumT, iRng1, iRng2, iRng2L, iStr, L2.start, List.map, List.length_cons, List.length_nil, List.cons_append, List.nil_append, List.getElem?_cons_succ, List.getElem?_cons_zero, Option.some.injEq, V.int.injEq, V.bl.injEq, V.str.injEq, V.ref.injEq, exists_eq_left', exists_eq_left, and_assoc, exists_and_left, exists_eq, exists_eq', true_and, and_true, List.set_cons_zero, List.set_cons_succ, List.set, decide_eq_true_eq, Bool.not_eq_true', if_true, if_false, rIx, cx_K, nox_K, List.replicate_succ, List.replicate_zero, Nat.reduceSub, Bool.true_eq_false, Bool.false_eq_true, Nat.reduceAdd, List.cons.injEq, reduceCtorEq, false_and, false_or, or_false, tAug, rSetO, rStrO, rIsKp, tXk, tDGet, tDIn, tDNotIn, sDPut, rUn, rBinI, rBinR, rJoin, tJs, tOrT, rIsi, tCallOI, rBinT, tFCall, tMakeL, tCMethK, ClX.tCMeth, tCall, tPar3]
  refine ⟨_, fun cls d σ' H' hE => ?_, hc, h⟩
  obtain ⟨C, nm, dd, fs, v, rfl, hC, rfl, hdd, hv, k⟩ := hE
  have fin : PySem.W.exmOne X.K (.ref C) (.ref a.HoldError) = some true := by
    rcases hC with ⟨rfl, rfl⟩ | ⟨rfl, rfl⟩
    · exact T.xm_BadPlace_HoldError
    · exact T.xm_BadSize_HoldError
  refine ⟨true, fin, fun _ e hn hlen => ?_, fun z => by cases z⟩
  have hlen : σ'.length = 5 := by rw [List.length_set] at hlen; exact hlen
  obtain ⟨s0, s1, s2, s3, s4, rfl⟩ : ∃ s0 s1 s2 s3 s4, σ' = [s0, s1, s2, s3, s4] := by
    match σ', hlen with
    | [s0, s1, s2, s3, s4], _ => exact ⟨s0, s1, s2, s3, s4, rfl⟩
  have fe := fresh_upd (o := exk e (.ref C) (some dd)) hn
  rcases hC with ⟨rfl, rfl⟩ | ⟨rfl, rfl⟩
  · have kt : ∀ H1, H1 e = some (exk e (.ref a.BadPlace) (some dd)) → H1 dd = some (.xd fs) → KeptTy X.K H1 (.ref e) (.ref a.BadPlace) := fun H1 h1 h2 => ⟨e, a.BadPlace, some dd, rfl, rfl, h1, fun d hd => ⟨fs, by cases hd; exact h2⟩, T.xc_BadPlace, T.xi_BadPlace⟩
    simp only [tSeq, tIfS, tTest, tB, tAnd, tOr, tNot, tAndV, tOrV, tNotV, tIf, tOp, tUn, tChain, rEq, rNe, rI0, rI, rU, tCallR, tCons, tNil, tC, tVar, tRet, tRetN, tTup_k, tLst_k, tCB, tNext, tAsg, gName, gTup, gCons, gNil, tDrop, tPar, tFld, ClX.tCVal, tPropR, rBin, rBinT, rNeOwn, rSetL_k, gSub, tMakeK_k, tMethR, rInO, tDNewK_k, tYes, wipe, tMakeR_k, tSMeth, tSMethK, rMulS, decide_true, tNever, sFld, rIsiT, and_false, rListOf, rTupOf, rLenSeq, rIxL, rIxT, rIxS, rCat_k, rRep_k, rSlL_k, rSlS, rNewStrs_k, rAppend_k, tBM, tBM0, tM0, tM1, tSl, tNoPart, tPart, tLc_k, tFor_k, iList, iTup, iEnumT, iRng1, iRng2, iRng2L, iStr, L2.start, List.map, List.length_cons, List.length_nil, List.cons_append, List.nil_append, List.getElem?_cons_succ, List.getElem?_cons_zero, Option.some.injEq, V.int.injEq, V.bl.injEq, V.str.injEq, V.ref.injEq, exists_eq_left', exists_eq_left, and_assoc, exists_and_left, exists_eq, exists_eq', true_and, and_true, List.set_cons_zero, List.set_cons_succ, List.set, decide_eq_true_eq, Bool.not_eq_true', if_true, if_false, rIx, cx_K, nox_K, List.replicate_succ, List.replicate_zero, Nat.reduceSub, Bool.true_eq_false, Bool.false_eq_true, Nat.reduceAdd, List.cons.injEq, reduceCtorEq, false_and, false_or, or_false, tAug, rSetO, rStrO, rIsKp, tXk, tDGet, tDIn, tDNotIn, sDPut, rUn, rBinI, rBinR, rJoin, tJs, tOrT, rIsi, tCallOI, rBinT, tFCall, tMakeL, tCMethK, ClX.tCMeth, tCall, tPar3]
    refine kNew.mk (by show 0 ≤ sizeLine; decide) fun l H2 f2 => ?_
    have el := f2.ne fe.at_
    have dl := f2.ne (fe.get hdd)
    have e2 := f2.get fe.at_
    have d2 := f2.get (fe.get hdd)
    have s2 := fe.same.trans f2.same
    refine ⟨_, _, .own _, .inr (kt _ e2 d2), true, kit_self, ?_⟩
    rw [if_pos rfl]
    refine ⟨.inl ⟨rfl, _, SqL.of f2.at_⟩, _, T.xf_BadPlace, T.a_BadPlace_part, _, e2, _, d2, _, hv, kNew.mk (by show 2 ≤ sizeLine; decide) fun t H3 f3 => ?_⟩
    refine ⟨l, rfl, _, f3.get f2.at_, by show 0 < sizeLine; decide, kPut.mk fun H4 f4 => ?_⟩
    have e4 := f4.get el (f3.get e2)
    have d4 := f4.get dl (f3.get d2)
    have tl : t ≠ l := fun z => f3.ne f2.at_ z.symm
    have t4 := f4.get tl f3.at_
    have l4 := f4.at_
    have s4 : Same H' H4 := fun b o q => by
      have q2 := s2 _ _ q
      have nb : b ≠ l := fun z => by
        have := f2.new
        rw [← z, fe.get q] at this
        cases this
      exact f4.get nb (f3.get q2)
    refine ⟨_, _, .own _, .inr (kt _ e4 d4), false, kit_err T.xi_BadSize T.xt_BadSize T.xs_BadPlace_BadSize T.xn_BadPlace_BadSize, ?_⟩
    rw [if_neg (by decide)]
    refine ⟨_, _, .own _, .inr (kt _ e4 d4), false, kit_err T.xi_BadColour T.xt_BadColour T.xs_BadPlace_BadColour T.xn_BadPlace_BadColour, ?_⟩
    rw [if_neg (by decide)]
    refine ⟨_, _, .own _, .inr (kt _ e4 d4), false, kit_err T.xi_BadPixel T.xt_BadPixel T.xs_BadPlace_BadPixel T.xn_BadPlace_BadPixel, ?_⟩
    rw [if_neg (by decide)]
    refine ⟨_, _, .own _, .inr (kt _ e4 d4), false, kit_err T.xi_BadDeed T.xt_BadDeed T.xs_BadPlace_BadDeed T.xn_BadPlace_BadDeed, ?_⟩
    rw [if_neg (by decide)]
    refine ⟨_, _, .own _, .inr (kt _ e4 d4), false, kit_err T.xi_BadProgram T.xt_BadProgram T.xs_BadPlace_BadProgram T.xn_BadPlace_BadProgram, ?_⟩
    rw [if_neg (by decide)]
    refine ⟨_, _, .own _, .inr (kt _ e4 d4), false, kit_err T.xi_TooMany T.xt_TooMany T.xs_BadPlace_TooMany T.xn_BadPlace_TooMany, ?_⟩
    rw [if_neg (by decide)]
    refine ⟨_, _, .own _, .inr (kt _ e4 d4), false, kit_err T.xi_NoDeed T.xt_NoDeed T.xs_BadPlace_NoDeed T.xn_BadPlace_NoDeed, ?_⟩
    rw [if_neg (by decide)]
    refine ⟨_, _, .own _, .inr (kt _ e4 d4), false, kit_err T.xi_NoFlood T.xt_NoFlood T.xs_BadPlace_NoFlood T.xn_BadPlace_NoFlood, ?_⟩
    rw [if_neg (by decide)]
    refine ⟨l, rfl, _, .inl (SqL.of l4), rfl, ?_⟩
    rw [if_pos (by rfl)]
    refine ⟨_, _, .ty _, .inr (kt _ e4 d4), true, kit_ve T.xv_BadPlace, ?_⟩
    rw [if_pos rfl]
    exact ⟨l, rfl, _, SqL.of l4, _, rfl, k t H4 s4 t4⟩
  · have kt : ∀ H1, H1 e = some (exk e (.ref a.BadSize) (some dd)) → H1 dd = some (.xd fs) → KeptTy X.K H1 (.ref e) (.ref a.BadSize) := fun H1 h1 h2 => ⟨e, a.BadSize, some dd, rfl, rfl, h1, fun d hd => ⟨fs, by cases hd; exact h2⟩, T.xc_BadSize, T.xi_BadSize⟩
    simp only [tSeq, tIfS, tTest, tB, tAnd, tOr, tNot, tAndV, tOrV, tNotV, tIf, tOp, tUn, tChain, rEq, rNe, rI0, rI, rU, tCallR, tCons, tNil, tC, tVar, tRet, tRetN, tTup_k, tLst_k, tCB, tNext, tAsg, gName, gTup, gCons, gNil, tDrop, tPar, tFld, ClX.tCVal, tPropR, rBin, rBinT, rNeOwn, rSetL_k, gSub, tMakeK_k, tMethR, rInO, tDNewK_k, tYes, wipe, tMakeR_k, tSMeth, tSMethK, rMulS, decide_true, tNever, sFld, rIsiT, and_false, rListOf, rTupOf, rLenSeq, rIxL, rIxT, rIxS, rCat_k, rRep_k, rSlL_k, rSlS, rNewStrs_k, rAppend_k, tBM, tBM0, tM0, tM1, tSl, tNoPart, tPart, tLc_k, tFor_k, iList, iTup, iEnumT, iRng1, iRng2, iRng2L, iStr, L2.start, List.map, List.length_cons, List.length_nil, List.cons_append, List.nil_append, List.getElem?_cons_succ, List.getElem?_cons_zero, Option.some.injEq, V.int.injEq, V.bl.injEq, V.str.injEq, V.ref.injEq, exists_eq_left', exists_eq_left, and_assoc, exists_and_left, exists_eq, exists_eq', true_and, and_true, List.set_cons_zero, List.set_cons_succ, List.set, decide_eq_true_eq, Bool.not_eq_true', if_true, if_false, rIx, cx_K, nox_K, List.replicate_succ, List.replicate_zero, Nat.reduceSub, Bool.true_eq_false, Bool.false_eq_true, Nat.reduceAdd, List.cons.injEq, reduceCtorEq, false_and, false_or, or_false, tAug, rSetO, rStrO, rIsKp, tXk, tDGet, tDIn, tDNotIn, sDPut, rUn, rBinI, rBinR, rJoin, tJs, tOrT, rIsi, tCallOI, rBinT, tFCall, tMakeL, tCMethK, ClX.tCMeth, tCall, tPar3]
    refine kNew.mk (by show 0 ≤ sizeLine; decide) fun l H2 f2 => ?_
    have el := f2.ne fe.at_
    have dl := f2.ne (fe.get hdd)
    have e2 := f2.get fe.at_
    have d2 := f2.get (fe.get hdd)
    have s2 := fe.same.trans f2.same
    refine ⟨_, _, .own _, .inr (kt _ e2 d2), false, kit_err T.xi_BadPlace T.xt_BadPlace T.xs_BadSize_BadPlace T.xn_BadSize_BadPlace, ?_⟩
    rw [if_neg (by decide)]
    refine ⟨_, _, .own _, .inr (kt _ e2 d2), true, kit_self, ?_⟩
    rw [if_pos rfl]
    refine ⟨.inl ⟨rfl, _, SqL.of f2.at_⟩, _, T.xf_BadSize, T.a_BadSize_part, _, e2, _, d2, _, hv, kNew.mk (by show 2 ≤ sizeLine; decide) fun t H3 f3 => ?_⟩
    refine ⟨l, rfl, _, f3.get f2.at_, by show 0 < sizeLine; decide, kPut.mk fun H4 f4 => ?_⟩
    have e4 := f4.get el (f3.get e2)
    have d4 := f4.get dl (f3.get d2)
    have tl : t ≠ l := fun z => f3.ne f2.at_ z.symm
    have t4 := f4.get tl f3.at_
    have l4 := f4.at_
    have s4 : Same H' H4 := fun b o q => by
      have q2 := s2 _ _ q
      have nb : b ≠ l := fun z => by
        have := f2.new
        rw [← z, fe.get q] at this
        cases this
      exact f4.get nb (f3.get q2)
    refine ⟨_, _, .own _, .inr (kt _ e4 d4), false, kit_err T.xi_BadColour T.xt_BadColour T.xs_BadSize_BadColour T.xn_BadSize_BadColour, ?_⟩
    rw [if_neg (by decide)]
    refine ⟨_, _, .own _, .inr (kt _ e4 d4), false, kit_err T.xi_BadPixel T.xt_BadPixel T.xs_BadSize_BadPixel T.xn_BadSize_BadPixel, ?_⟩
    rw [if_neg (by decide)]
    refine ⟨_, _, .own _, .inr (kt _ e4 d4), false, kit_err T.xi_BadDeed T.xt_BadDeed T.xs_BadSize_BadDeed T.xn_BadSize_BadDeed, ?_⟩
    rw [if_neg (by decide)]
    refine ⟨_, _, .own _, .inr (kt _ e4 d4), false, kit_err T.xi_BadProgram T.xt_BadProgram T.xs_BadSize_BadProgram T.xn_BadSize_BadProgram, ?_⟩
    rw [if_neg (by decide)]
    refine ⟨_, _, .own _, .inr (kt _ e4 d4), false, kit_err T.xi_TooMany T.xt_TooMany T.xs_BadSize_TooMany T.xn_BadSize_TooMany, ?_⟩
    rw [if_neg (by decide)]
    refine ⟨_, _, .own _, .inr (kt _ e4 d4), false, kit_err T.xi_NoDeed T.xt_NoDeed T.xs_BadSize_NoDeed T.xn_BadSize_NoDeed, ?_⟩
    rw [if_neg (by decide)]
    refine ⟨_, _, .own _, .inr (kt _ e4 d4), false, kit_err T.xi_NoFlood T.xt_NoFlood T.xs_BadSize_NoFlood T.xn_BadSize_NoFlood, ?_⟩
    rw [if_neg (by decide)]
    refine ⟨l, rfl, _, .inl (SqL.of l4), rfl, ?_⟩
    rw [if_pos (by rfl)]
    refine ⟨_, _, .ty _, .inr (kt _ e4 d4), true, kit_ve T.xv_BadSize, ?_⟩
    rw [if_pos rfl]
    exact ⟨l, rfl, _, SqL.of l4, _, rfl, k t H4 s4 t4⟩
end
end Pf
end
section
namespace Pf
open PySem PySem.Spec PyProof.Rows L2 Ow StX
def Nar (i : Int) : Prop := i.natAbs < 2 ^ 140
def Wid (n : Int) : Prop := 1 ≤ n ∧ n < 2 ^ 101
theorem nar_mul {s n : Int} (hs : Nar s) (hn : Wid n) : CMulW s (n / 2) := by
  obtain ⟨h1, h2⟩ := hn
  refine wide_mul (a := 140) (b := 101) hs ?_ (by decide) (by decide) (by decide)
  have e : (2 : Int) ^ 101 = 2535301200456458802993406410752 := by decide
  have e2 : (2 : Nat) ^ 101 = 2535301200456458802993406410752 := by decide
  rw [e] at h2
  rw [e2]
  omega
theorem nar_mod {s n : Int} (hs : Nar s) : CMulW s (n % 2) := by
  refine wide_mul (a := 140) (b := 2) hs ?_ (by decide) (by decide) (by decide)
  omega
theorem val_fit {s o d n : Int} (hs : Nar s) (ho : Nar o) (hd : Nar d) (hn : Wid n) : (valP s o d n).natAbs < 2 ^ 250 := by
  obtain ⟨h1, h2⟩ := hn
  have e : (2 : Int) ^ 101 = 2535301200456458802993406410752 := by decide
  rw [e] at h2
  unfold valP
  have a1 : (s * (n / 2)).natAbs ≤ 2 ^ 140 * 2 ^ 101 := by
    rw [Int.natAbs_mul]
    exact Nat.mul_le_mul (Nat.le_of_lt hs) (by have e2 : (2 : Nat) ^ 101 = 2535301200456458802993406410752 := by decide
                                               rw [e2]; omega)
  have a2 : (d * (n % 2)).natAbs ≤ 2 ^ 140 * 2 := by
    rw [Int.natAbs_mul]
    exact Nat.mul_le_mul (Nat.le_of_lt hd) (by omega)
  have a3 : (s * (n / 2) + o + d * (n % 2)).natAbs ≤ (s * (n / 2)).natAbs + o.natAbs + (d * (n % 2)).natAbs := by omega
  have a4 : 2 ^ 140 * 2 ^ 101 + 2 ^ 140 + 2 ^ 140 * 2 < 2 ^ 250 := by decide
  unfold Nar at ho
  omega
/-! ### texts; whether a box is four told places -/
theorem bd_nar {n : Int} (h : Bd1 n) : Nar n := by
  obtain ⟨h1, h2⟩ := h
  have e : (1000000000000 : Nat) < 2 ^ 140 := by decide
  unfold Nar
  generalize (2 ^ 140 : Nat) = z at *
  omega
theorem nar_log {n : Int} (h : Nar n) : n.natAbs.log2 < 1000 := by
  by_cases e : n.natAbs = 0
  · rw [e]; decide
  · exact (Nat.log2_lt e).2 (Nat.lt_of_lt_of_le h (by decide))
theorem BdP.log {q : Pl} (h : BdP q) : LogP q := ⟨nar_log (bd_nar h.1), nar_log (bd_nar h.2.1), nar_log (bd_nar h.2.2)⟩
theorem BdP.muls {q : Pl} {n : Int} (h : BdP q) (hn : Wid n) : MulsP q n := ⟨nar_mul (bd_nar h.1) hn, nar_mod (bd_nar h.2.2)⟩
theorem BdP.val {q : Pl} {n : Int} (h : BdP q) (hn : Wid n) : (plV q n).natAbs < 2 ^ 250 := val_fit (bd_nar h.1) (bd_nar h.2.1) (bd_nar h.2.2) hn
theorem plT_join (q : Pl) : plT q = Str.join " " (wordsP q) := eq_of_beq (join_plain_closes " " (wordsP q))
theorem sp_left : ("left" : Str) ++ (" " : Str) = "left " := by decide +kernel
theorem sp_right : ("right" : Str) ++ (" " : Str) = "right " := by decide +kernel
theorem sp_middle : ("middle" : Str) ++ (" " : Str) = "middle " := by decide +kernel
theorem sp_place : ("place" : Str) ++ (" " : Str) = "place " := by decide +kernel
theorem plT_left {q : Pl} (h : q.s = 0 ∧ q.d = 0) : plT q = "left " ++ Str.ofString (toString q.o) := by
  rw [plT_join]
  unfold wordsP
  rw [if_pos h, ← sp_left]
  rfl
theorem plT_right {q : Pl} (h : q.s = 2 ∧ q.d = 1) : plT q = "right " ++ Str.ofString (toString (0 - q.o)) := by
  rw [plT_join, Int.zero_sub]
  unfold wordsP
  rw [if_neg (by omega), if_pos h, ← sp_right]
  rfl
theorem plT_middle {q : Pl} (h : q.s = 1 ∧ q.d = 0) : plT q = "middle " ++ Str.ofString (toString q.o) := by
  rw [plT_join]
  unfold wordsP
  rw [if_neg (by omega), if_neg (by omega), if_pos h, ← sp_middle]
  rfl
theorem plT_place {q : Pl} (h1 : ¬ (q.s = 0 ∧ q.d = 0)) (h2 : ¬ (q.s = 2 ∧ q.d = 1)) (h3 : ¬ (q.s = 1 ∧ q.d = 0)) : plT q = "place " ++ Str.ofString (toString q.s) ++ " " ++ Str.ofString (toString q.o) ++ " " ++ Str.ofString (toString q.d) := by
  rw [plT_join]
  unfold wordsP
  rw [if_neg h1, if_neg h2, if_neg h3, ← sp_place]
  simp only [Str.join, Str.append_assoc]
def spPText : Sp := fun vs H Q _ => ∃ (t : Addr) (q : Pl), vs = [.ref t] ∧ TupP H t q ∧ BdP q ∧ ∀ H', Same H H' → Q (.str (plT q)) H'
def spBText : Sp := fun vs H Q _ => ∃ (t : Addr) (q : Bx), vs = [.ref t] ∧ FourT H t q ∧ BdB q ∧ ∀ H', Same H H' → Q (.str (Txt.join " " (bxTs q))) H'
def endsV (q : Bx) (w h : Int) : List V := [.int (plV q.x0 w), .int (plV q.x1 w), .int (plV q.y0 h), .int (plV q.y1 h)]
def spEnds : Sp := fun vs H Q _ => ∃ (t : Addr) (q : Bx) (w h : Int), vs = [.ref t, .int w, .int h] ∧ FourT H t q ∧ BdB q ∧ Wid w ∧ Wid h ∧ ∀ t' H', Fresh H H' t' (.tup (endsV q w h)) → Q (.ref t') H'
section
variable {P : Program} {w : World} {K : PySem.W.Frag} {mg : Str → Option Value} {base : Heap} {a : Adr}
set_option maxHeartbeats 4000000
theorem ok_ptext (T : Txt K mg a) : FnR P w K mg base CX0 1 a._law_place_text spPText := by
  refine T.d__law_place_text.ok sc__law_place_text (fun _ _ _ _ _ _ us hl => match us, hl with | [_], _ => rfl) (fun vs H Q E h => by obtain ⟨t, q, rfl, _⟩ := h; rfl) (fun cdv A outer s H vs Q E hr h => ?_)
  obtain ⟨t, q, rfl, ht, hb, k⟩ := h
  have lg := hb.log
  refine ⟨_, (pss_cons (ps_if (pt_cmpR (op_eqD hr.units) (pe_tup (pa_cons (pe_ix ix_tup (pv 0) pe_int (fun _ _ => rfl)) (pa_cons (pe_ix ix_tup (pv 0) pe_int (fun _ _ => rfl)) pa_nil))) (pe_tup (pa_cons pe_int (pa_cons pe_int pa_nil))) (nomark _))
          (pss_one (ps_ret (pe_op op_add_str pe_str (pe_callTy call_str_int (by rfl) T.n_str (by decide +kernel) (pa_cons (pe_ix ix_tup (pv 0) pe_int (fun _ _ => rfl)) pa_nil)))))
          pss_nil)
      (pss_cons (ps_if (pt_cmpR (op_eqD hr.units) (pe_tup (pa_cons (pe_ix ix_tup (pv 0) pe_int (fun _ _ => rfl)) (pa_cons (pe_ix ix_tup (pv 0) pe_int (fun _ _ => rfl)) pa_nil))) (pe_tup (pa_cons pe_int (pa_cons pe_int pa_nil))) (nomark _))
          (pss_one (ps_ret (pe_op op_add_str pe_str (pe_callTy call_str_int (by rfl) T.n_str (by decide +kernel) (pa_cons (pe_op op_sub pe_int (pe_ix ix_tup (pv 0) pe_int (fun _ _ => rfl))) pa_nil)))))
          pss_nil)
      (pss_cons (ps_if (pt_cmpR (op_eqD hr.units) (pe_tup (pa_cons (pe_ix ix_tup (pv 0) pe_int (fun _ _ => rfl)) (pa_cons (pe_ix ix_tup (pv 0) pe_int (fun _ _ => rfl)) pa_nil))) (pe_tup (pa_cons pe_int (pa_cons pe_int pa_nil))) (nomark _))
          (pss_one (ps_ret (pe_op op_add_str pe_str (pe_callTy call_str_int (by rfl) T.n_str (by decide +kernel) (pa_cons (pe_ix ix_tup (pv 0) pe_int (fun _ _ => rfl)) pa_nil)))))
          pss_nil)
      (pss_one (ps_ret (pe_op op_add_str (pe_op op_add_str (pe_op op_add_str (pe_op op_add_str (pe_op op_add_str pe_str (pe_callTy call_str_int (by rfl) T.n_str (by decide +kernel) (pa_cons (pe_ix ix_tup (pv 0) pe_int (fun _ _ => rfl)) pa_nil))) pe_str) (pe_callTy call_str_int (by rfl) T.n_str (by decide +kernel) (pa_cons (pe_ix ix_tup (pv 0) pe_int (fun _ _ => rfl)) pa_nil))) pe_str) (pe_callTy call_str_int (by rfl) T.n_str (by decide +kernel) (pa_cons (pe_ix ix_tup (pv 0) pe_int (fun _ _ => rfl)) pa_nil)))))))), ?_⟩
  simp only [tSeq, tIfS, tTest, tB, tAnd, tOr, tNot, tAndV, tOrV, tNotV, tIf, tOp, tUn, tChain, rEq, rNe, rI0, rI, rU, tCallR, tCons, tNil, tC, tVar, tRet, tRetN, tTup_k, tLst_k, tCB, tNext, tAsg, gName, gTup, gCons, gNil, tDrop, tPar, tFld, ClX.tCVal, tPropR, rBin, rBinT, rNeOwn, rSetL_k, gSub, tMakeK_k, tMethR, rInO, tDNewK_k, tYes, wipe, tMakeR_k, tSMeth, tSMethK, rMulS, decide_true, tNever, sFld, rIsiT, and_false, rListOf, rTupOf, rLenSeq, rIxL, rIxT, rIxS, rCat_k, rRep_k, rSlL_k, rSlS, rNewStrs_k, rAppend_k, tBM, tBM0, tM0, tM1, tSl, tNoPart, tPart, tLc_k, tFor_k, iList, iTup, iEnumT, iRng1, iRng2, iRng2L, iStr, L2.start, List.map, List.length_cons, List.length_nil, List.cons_append, List.nil_append, List.getElem?_cons_succ, List.getElem?_cons_zero, Option.some.injEq, V.int.injEq, V.bl.injEq, V.str.injEq, V.ref.injEq, exists_eq_left', exists_eq_left, and_assoc, exists_and_left, exists_eq, exists_eq', true_and, and_true, List.set_cons_zero, List.set_cons_succ, List.set, decide_eq_true_eq, Bool.not_eq_true', if_true, if_false, rIx, cx_K, nox_K, List.replicate_succ, List.replicate_zero, Nat.reduceSub, Bool.true_eq_false, Bool.false_eq_true, Nat.reduceAdd, List.cons.injEq, reduceCtorEq, false_and, false_or, or_false, tAug, rSetO, rStrO, rIsKp, tXk, tDGet, tDIn, tDNotIn, sDPut, rUn, rBinI, rBinR, rJoin, tJs, tOrT, rIsi, tCallOI, rBinT, tFCall, tMakeL, tCMethK, ClX.tCMeth, tCall, tPar3]
  have z0 : Same H H := fun _ _ e => e
  have at_ : ∀ H', Same H H' → SqT K H' t [.int q.s, .int q.o, .int q.d] := fun H' s => SqT.of (ht.same s)
  have lo : (0 - q.o).natAbs.log2 < 1000 := by
    have e : (0 - q.o).natAbs = q.o.natAbs := by omega
    rw [e]
    exact lg.2.1
  have ln := int_txt lo
  have l1 := int_txt lg.1
  have l2 := int_txt lg.2.1
  have l3 := int_txt lg.2.2
  have w1 : ("left " : Str).length = 5 := by decide +kernel
  have w2 : ("right " : Str).length = 6 := by decide +kernel
  have w3 : ("middle " : Str).length = 7 := by decide +kernel
  have w4 : ("place " : Str).length = 6 := by decide +kernel
  have w5 : (" " : Str).length = 1 := by decide +kernel
  have big : 5000 ≤ sizeLine := by decide
  refine ⟨_, at_ _ z0, _, rfl, _, at_ _ z0, _, rfl, kNew.mk (by show 2 ≤ sizeLine; decide) fun t1 H1 f1 => kNew.mk (by show 2 ≤ sizeLine; decide) fun t2 H2 f2 => ?_⟩
  refine ⟨.tuple [.int q.s, .int q.d], .tuple [.int 0, .int 0], .tup (.inl (.inl (f2.get f1.at_))) (.cons (.int _) (.cons (.int _) .nil)), .tup (.inl (.inl f2.at_)) (.cons (.int _) (.cons (.int _) .nil)), rfl, rfl, _, rfl, ?_⟩
  have s2 := f1.same.trans f2.same
  rw [eqv2]
  by_cases c1 : q.s = 0 ∧ q.d = 0
  · rw [if_pos (decide_eq_true c1)]
    have z := k H2 s2
    rw [plT_left c1] at z
    exact ⟨_, at_ _ s2, _, rfl, _, rfl, Nat.lt_trans lg.2.1 (by decide), by omega, z⟩
  rw [if_neg (by rw [decide_eq_false c1]; decide)]
  refine ⟨_, at_ _ s2, _, rfl, _, at_ _ s2, _, rfl, kNew.mk (by show 2 ≤ sizeLine; decide) fun t3 H3 f3 => kNew.mk (by show 2 ≤ sizeLine; decide) fun t4 H4 f4 => ?_⟩
  refine ⟨.tuple [.int q.s, .int q.d], .tuple [.int 2, .int 1], .tup (.inl (.inl (f4.get f3.at_))) (.cons (.int _) (.cons (.int _) .nil)), .tup (.inl (.inl f4.at_)) (.cons (.int _) (.cons (.int _) .nil)), rfl, rfl, _, rfl, ?_⟩
  have s4 := (s2.trans f3.same).trans f4.same
  rw [eqv2]
  by_cases c2 : q.s = 2 ∧ q.d = 1
  · rw [if_pos (decide_eq_true c2)]
    have z := k H4 s4
    rw [plT_right c2] at z
    exact ⟨_, at_ _ s4, _, rfl, _, rfl, Nat.lt_trans lo (by decide), by omega, z⟩
  rw [if_neg (by rw [decide_eq_false c2]; decide)]
  refine ⟨_, at_ _ s4, _, rfl, _, at_ _ s4, _, rfl, kNew.mk (by show 2 ≤ sizeLine; decide) fun t5 H5 f5 => kNew.mk (by show 2 ≤ sizeLine; decide) fun t6 H6 f6 => ?_⟩
  refine ⟨.tuple [.int q.s, .int q.d], .tuple [.int 1, .int 0], .tup (.inl (.inl (f6.get f5.at_))) (.cons (.int _) (.cons (.int _) .nil)), .tup (.inl (.inl f6.at_)) (.cons (.int _) (.cons (.int _) .nil)), rfl, rfl, _, rfl, ?_⟩
  have s6 := (s4.trans f5.same).trans f6.same
  rw [eqv2]
  by_cases c3 : q.s = 1 ∧ q.d = 0
  · rw [if_pos (decide_eq_true c3)]
    have z := k H6 s6
    rw [plT_middle c3] at z
    exact ⟨_, at_ _ s6, _, rfl, _, rfl, Nat.lt_trans lg.2.1 (by decide), by omega, z⟩
  rw [if_neg (by rw [decide_eq_false c3]; decide)]
  have z := k H6 s6
  rw [plT_place c1 c2 c3] at z
  refine ⟨_, at_ _ s6, _, rfl, _, rfl, Nat.lt_trans lg.1 (by decide), by omega, ?_, _, at_ _ s6, _, rfl, _, rfl, Nat.lt_trans lg.2.1 (by decide), ?_, ?_, _, at_ _ s6, _, rfl, _, rfl, Nat.lt_trans lg.2.2 (by decide), ?_, z⟩
  all_goals (simp only [Str.length_append]; omega)
theorem ok_btext (T : Txt K mg a) : FnR P w K mg base CX0 3 a._law_box_text spBText := by
  have G__law_place_text : FnR P w K mg base CX0 1 a._law_place_text spPText := ok_ptext T
  refine T.d__law_box_text.ok sc__law_box_text (fun _ _ _ _ _ _ us hl => match us, hl with | [_], _ => rfl) (fun vs H Q E h => by obtain ⟨t, q, rfl, _⟩ := h; rfl) (fun cdv A outer s H vs Q E hr h => ?_)
  obtain ⟨t, q, rfl, ⟨t0, t1, t2, t3, ht, h0, h1, h2, h3⟩, ⟨b0, b1, b2, b3⟩, k⟩ := h
  refine ⟨_, (pss_one (ps_ret (pe_join pe_str (pe_lc (own := [("_law_place_here", 1)]) (g := gName 1) (by rfl) sc__law_box_text.nd (pi_tup (pv 0)) (blkOk_by (own := [("_law_place_here", 1)]) (N := ["_law_box", "_law_place_here"]) (sc := defScope s__law_box_text) (by decide +kernel)) (fun _ _ _ _ _ => (pg_name (i := 1) sc__law_box_text.nd rfl (Or.inl rfl))) (fun _ _ _ _ _ => pts_nil) (fun _ _ _ _ _ => (pe_callR G__law_place_text (hr.mono (by decide)) T.m__law_place_text T.k__law_place_text pass0 (pa_cons (pv 1) pa_nil))))))), ?_⟩
  simp only [tSeq, tIfS, tTest, tB, tAnd, tOr, tNot, tAndV, tOrV, tNotV, tIf, tOp, tUn, tChain, rEq, rNe, rI0, rI, rU, tCallR, tCons, tNil, tC, tVar, tRet, tRetN, tTup_k, tLst_k, tCB, tNext, tAsg, gName, gTup, gCons, gNil, tDrop, tPar, tFld, ClX.tCVal, tPropR, rBin, rBinT, rNeOwn, rSetL_k, gSub, tMakeK_k, tMethR, rInO, tDNewK_k, tYes, wipe, tMakeR_k, tSMeth, tSMethK, rMulS, decide_true, tNever, sFld, rIsiT, and_false, rListOf, rTupOf, rLenSeq, rIxL, rIxT, rIxS, rCat_k, rRep_k, rSlL_k, rSlS, rNewStrs_k, rAppend_k, tBM, tBM0, tM0, tM1, tSl, tNoPart, tPart, tLc_k, tFor_k, iList, iTup, iEnumT, iRng1, iRng2, iRng2L, iStr, L2.start, List.map, List.length_cons, List.length_nil, List.cons_append, List.nil_append, List.getElem?_cons_succ, List.getElem?_cons_zero, Option.some.injEq, V.int.injEq, V.bl.injEq, V.str.injEq, V.ref.injEq, exists_eq_left', exists_eq_left, and_assoc, exists_and_left, exists_eq, exists_eq', true_and, and_true, List.set_cons_zero, List.set_cons_succ, List.set, decide_eq_true_eq, Bool.not_eq_true', if_true, if_false, rIx, cx_K, nox_K, List.replicate_succ, List.replicate_zero, Nat.reduceSub, Bool.true_eq_false, Bool.false_eq_true, Nat.reduceAdd, List.cons.injEq, reduceCtorEq, false_and, false_or, or_false, tAug, rSetO, rStrO, rIsKp, tXk, tDGet, tDIn, tDNotIn, sDPut, rUn, rBinI, rBinR, rJoin, tJs, tOrT, rIsi, tCallOI, rBinT, tFCall, tMakeL, tCMethK, ClX.tCMeth, tCall, tPar3]
  refine ⟨⟨_, .inl (.inl ht)⟩, ?_⟩
  refine kLc.map (walk_tup (xs := [.ref t0, .ref t1, .ref t2, .ref t3])) ((bxTs q).map V.str) rfl (fun H' s' => .inl (.inl (s' _ _ ht))) (fun D j xv HA HB hj cl hY => ?_) fun l HA fA => ?_
  · obtain ⟨rfl, e⟩ := hY
    have hj : j < 4 := hj
    have s := cl.same
    obtain ⟨x, z, rfl, gz, hz, hzt⟩ : ∃ (x : Addr) (z : Pl), xv = .ref x ∧ TupP HB x z ∧ BdP z ∧ ((bxTs q).map V.str)[j]? = some (.str (plT z)) := by
      match j, hj with
      | 0, _ => cases e; exact ⟨t0, _, rfl, h0.same s, b0, rfl⟩
      | 1, _ => cases e; exact ⟨t1, _, rfl, h1.same s, b1, rfl⟩
      | 2, _ => cases e; exact ⟨t2, _, rfl, h2.same s, b2, rfl⟩
      | 3, _ => cases e; exact ⟨t3, _, rfl, h3.same s, b3, rfl⟩
    simp only [tSeq, tIfS, tTest, tB, tAnd, tOr, tNot, tAndV, tOrV, tNotV, tIf, tOp, tUn, tChain, rEq, rNe, rI0, rI, rU, tCallR, tCons, tNil, tC, tVar, tRet, tRetN, tTup_k, tLst_k, tCB, tNext, tAsg, gName, gTup, gCons, gNil, tDrop, tPar, tFld, ClX.tCVal, tPropR, rBin, rBinT, rNeOwn, rSetL_k, gSub, tMakeK_k, tMethR, rInO, tDNewK_k, tYes, wipe, tMakeR_k, tSMeth, tSMethK, rMulS, decide_true, tNever, sFld, rIsiT, and_false, rListOf, rTupOf, rLenSeq, rIxL, rIxT, rIxS, rCat_k, rRep_k, rSlL_k, rSlS, rNewStrs_k, rAppend_k, tBM, tBM0, tM0, tM1, tSl, tNoPart, tPart, tLc_k, tFor_k, iList, iTup, iEnumT, iRng1, iRng2, iRng2L, iStr, L2.start, List.map, List.length_cons, List.length_nil, List.cons_append, List.nil_append, List.getElem?_cons_succ, List.getElem?_cons_zero, Option.some.injEq, V.int.injEq, V.bl.injEq, V.str.injEq, V.ref.injEq, exists_eq_left', exists_eq_left, and_assoc, exists_and_left, exists_eq, exists_eq', true_and, and_true, List.set_cons_zero, List.set_cons_succ, List.set, decide_eq_true_eq, Bool.not_eq_true', if_true, if_false, rIx, cx_K, nox_K, List.replicate_succ, List.replicate_zero, Nat.reduceSub, Bool.true_eq_false, Bool.false_eq_true, Nat.reduceAdd, List.cons.injEq, reduceCtorEq, false_and, false_or, or_false, tAug, rSetO, rStrO, rIsKp, tXk, tDGet, tDIn, tDNotIn, sDPut, rUn, rBinI, rBinR, rJoin, tJs, tOrT, rIsi, tCallOI, rBinT, tFCall, tMakeL, tCMethK, ClX.tCMeth, tCall, tPar3]
    exact ⟨x, z, rfl, gz, hz, fun H' s' => kApp.at cl s' (by show 4 ≤ sizeLine; decide) hzt⟩
  · refine ⟨l, rfl, bxTs q, .inl (SqL.of fA.at_), ?_, k HA fA.same⟩
    have a0 := plT_len b0.log
    have a1 := plT_len b1.log
    have a2 := plT_len b2.log
    have a3 := plT_len b3.log
    have w5 : ((" " : String) : Str).length = 1 := by decide +kernel
    rw [w5]
    simp only [bxTs, List.map_cons, List.map_nil, List.sum_cons, List.sum_nil, List.length_cons, List.length_nil]
    omega
theorem ok_ends (T : Txt K mg a) : FnR P w K mg base CX0 2 a._law_ends spEnds := by
  have G__law_at : FnR P w K mg base CX0 1 a._law_at spAt := ok_at T
  refine T.d__law_ends.ok sc__law_ends (fun _ _ _ _ _ _ us hl => match us, hl with | [_, _, _], _ => rfl) (fun vs H Q E h => by obtain ⟨t, q, w, h, rfl, _⟩ := h; rfl) (fun cdv A outer s H vs Q E hr h => ?_)
  obtain ⟨t, q, wd, hg, rfl, ⟨t0, t1, t2, t3, ht, h0, h1, h2, h3⟩, ⟨b0, b1, b2, b3⟩, hw, hh, k⟩ := h
  refine ⟨_, (pss_one (ps_ret (pe_tup (pa_cons (pe_callR G__law_at (hr.mono (by decide)) T.m__law_at T.k__law_at pass0 (pa_cons (pe_ix ix_tup (pv 0) pe_int (fun _ _ => rfl)) (pa_cons (pv 1) pa_nil))) (pa_cons (pe_callR G__law_at (hr.mono (by decide)) T.m__law_at T.k__law_at pass0 (pa_cons (pe_ix ix_tup (pv 0) pe_int (fun _ _ => rfl)) (pa_cons (pv 1) pa_nil))) (pa_cons (pe_callR G__law_at (hr.mono (by decide)) T.m__law_at T.k__law_at pass0 (pa_cons (pe_ix ix_tup (pv 0) pe_int (fun _ _ => rfl)) (pa_cons (pv 2) pa_nil))) (pa_cons (pe_callR G__law_at (hr.mono (by decide)) T.m__law_at T.k__law_at pass0 (pa_cons (pe_ix ix_tup (pv 0) pe_int (fun _ _ => rfl)) (pa_cons (pv 2) pa_nil))) pa_nil))))))), ?_⟩
  simp only [tSeq, tIfS, tTest, tB, tAnd, tOr, tNot, tAndV, tOrV, tNotV, tIf, tOp, tUn, tChain, rEq, rNe, rI0, rI, rU, tCallR, tCons, tNil, tC, tVar, tRet, tRetN, tTup_k, tLst_k, tCB, tNext, tAsg, gName, gTup, gCons, gNil, tDrop, tPar, tFld, ClX.tCVal, tPropR, rBin, rBinT, rNeOwn, rSetL_k, gSub, tMakeK_k, tMethR, rInO, tDNewK_k, tYes, wipe, tMakeR_k, tSMeth, tSMethK, rMulS, decide_true, tNever, sFld, rIsiT, and_false, rListOf, rTupOf, rLenSeq, rIxL, rIxT, rIxS, rCat_k, rRep_k, rSlL_k, rSlS, rNewStrs_k, rAppend_k, tBM, tBM0, tM0, tM1, tSl, tNoPart, tPart, tLc_k, tFor_k, iList, iTup, iEnumT, iRng1, iRng2, iRng2L, iStr, L2.start, List.map, List.length_cons, List.length_nil, List.cons_append, List.nil_append, List.getElem?_cons_succ, List.getElem?_cons_zero, Option.some.injEq, V.int.injEq, V.bl.injEq, V.str.injEq, V.ref.injEq, exists_eq_left', exists_eq_left, and_assoc, exists_and_left, exists_eq, exists_eq', true_and, and_true, List.set_cons_zero, List.set_cons_succ, List.set, decide_eq_true_eq, Bool.not_eq_true', if_true, if_false, rIx, cx_K, nox_K, List.replicate_succ, List.replicate_zero, Nat.reduceSub, Bool.true_eq_false, Bool.false_eq_true, Nat.reduceAdd, List.cons.injEq, reduceCtorEq, false_and, false_or, or_false, tAug, rSetO, rStrO, rIsKp, tXk, tDGet, tDIn, tDNotIn, sDPut, rUn, rBinI, rBinR, rJoin, tJs, tOrT, rIsi, tCallOI, rBinT, tFCall, tMakeL, tCMethK, ClX.tCMeth, tCall, tPar3]
  have z0 : Same H H := fun _ _ e => e
  have at_ := SqT.of (K := K) ht
  refine ⟨_, at_, _, rfl, t0, q.x0, wd, rfl, h0, b0.muls hw, _, at_, _, rfl, t1, q.x1, wd, rfl, h1, b1.muls hw, _, at_, _, rfl, t2, q.y0, hg, rfl, h2, b2.muls hh, _, at_, _, rfl, t3, q.y1, hg, rfl, h3, b3.muls hh, kNew.mk (by show 4 ≤ sizeLine; decide) fun t' H' f => k t' H' f⟩
end
end Pf
end
section
namespace Pf
open PySem PySem.Spec PyProof.Rows L2 Ow StX
/-! ### a box is four told places -/
def plD (q : Pl) : PyData := .tuple [.int q.s, .int q.o, .int q.d]
def bxD (q : Bx) : PyData := .list [plD q.x0, plD q.x1, plD q.y0, plD q.y1]
def endsD (q : Bx) (w h : Int) : PyData := .tuple [.int (plV q.x0 w), .int (plV q.x1 w), .int (plV q.y0 h), .int (plV q.y1 h)]
theorem int_leaf {i : Int} (h : i.natAbs < 2 ^ 250) : PyData.showable (.int i) = true ∧ PyData.leavesShort 251 (.int i) = true ∧ PyData.weight (.int i) ≤ 300 := by
  have hl : i.natAbs.log2 < 250 := by
    by_cases z : i.natAbs = 0
    · rw [z]; decide
    · exact (Nat.log2_lt z).2 h
  refine ⟨decide_eq_true (Nat.lt_trans hl (by decide)), ?_, ?_⟩
  · simp only [PyData.leavesShort, decide_eq_true_eq]
    show (Str.ofString (toString i)).length ≤ 251
    rw [PySem.ofString_length]
    exact int_text_length_le (k := 250) (by decide) hl
  · simp only [PyData.weight]
    split <;> omega
theorem bd_leaf {i : Int} (h : Bd1 i) : i.natAbs < 2 ^ 250 := Nat.lt_of_lt_of_le (bd_nar h) (by decide)
theorem repr_data {K : PySem.W.Frag} {H : Hp} {v : V} {d : PyData} {Q : VK} (hd : Dp K H v d) (h1 : d.showable = true) (h2 : d.hasDict = false) (h3 : d.depth ≤ 8) (h4 : PyData.leavesShort 251 d = true) (h5 : d.weight ≤ 6000) (k : Q (.str d.shown) H) : rReprD K [v] H Q := by
  refine ⟨_, d, rfl, hd, h1, h2, h3, ?_, k⟩
  exact Nat.le_trans (PyData.shown_le 251 (by decide) _ h4) (Nat.le_trans (Nat.add_le_add_right (Nat.mul_le_mul_left 253 h5) 251) (by decide))
theorem plD_ok {q : Pl} (h : BdP q) : (plD q).showable = true ∧ (plD q).hasDict = false ∧ PyData.leavesShort 251 (plD q) = true ∧ (plD q).weight ≤ 904 ∧ (plD q).depth ≤ 1 := by
  obtain ⟨a1, a2, a3⟩ := int_leaf (bd_leaf h.1)
  obtain ⟨b1, b2, b3⟩ := int_leaf (bd_leaf h.2.1)
  obtain ⟨c1, c2, c3⟩ := int_leaf (bd_leaf h.2.2)
  refine ⟨by simp only [plD, PyData.showable, PyData.showableAll] at *; simp [*], rfl, by simp only [plD, PyData.leavesShort, PyData.leavesShortAll] at *; simp [*], ?_, by simp [plD, PyData.depth, PyData.depthAll]⟩
  have e : (plD q).weight = (PyData.weight (.int q.s) + 1 + (PyData.weight (.int q.o) + 1 + (PyData.weight (.int q.d) + 1 + 0))) := by simp only [plD, PyData.weight, PyData.weightAll]
  rw [e]
  omega
theorem repr_bx {K : PySem.W.Frag} {H : Hp} {l t0 t1 t2 t3 : Addr} {q : Bx} {Q : VK} (hl : H l = some (.lst [.ref t0, .ref t1, .ref t2, .ref t3])) (h0 : TupP H t0 q.x0) (h1 : TupP H t1 q.x1) (h2 : TupP H t2 q.y0) (h3 : TupP H t3 q.y1) (hb : BdB q) (k : Q (.str (bxD q).shown) H) : rReprD K [.ref l] H Q := by
  obtain ⟨b0, b1, b2, b3⟩ := hb
  obtain ⟨a01, a02, a03, a04, a05⟩ := plD_ok b0
  obtain ⟨a11, a12, a13, a14, a15⟩ := plD_ok b1
  obtain ⟨a21, a22, a23, a24, a25⟩ := plD_ok b2
  obtain ⟨a31, a32, a33, a34, a35⟩ := plD_ok b3
  have one : ∀ {t : Addr} {p : Pl}, TupP H t p → Dp K H (.ref t) (plD p) := fun h => .tup (SqT.of h) (.cons (.int _) (.cons (.int _) (.cons (.int _) .nil)))
  refine repr_data (d := bxD q) (.lst (SqL.of hl) (.cons (one h0) (.cons (one h1) (.cons (one h2) (.cons (one h3) .nil))))) ?_ ?_ ?_ ?_ ?_ k
  · show (PyData.showable (plD q.x0) && (PyData.showable (plD q.x1) && (PyData.showable (plD q.y0) && (PyData.showable (plD q.y1) && true)))) = true
    rw [a01, a11, a21, a31]; rfl
  · rfl
  · simp only [bxD, PyData.depth, PyData.depthAll]; omega
  · show (PyData.leavesShort 251 (plD q.x0) && (PyData.leavesShort 251 (plD q.x1) && (PyData.leavesShort 251 (plD q.y0) && (PyData.leavesShort 251 (plD q.y1) && true)))) = true
    rw [a03, a13, a23, a33]; rfl
  · have e : (bxD q).weight = ((plD q.x0).weight + 1 + ((plD q.x1).weight + 1 + ((plD q.y0).weight + 1 + ((plD q.y1).weight + 1 + 0)))) := by simp only [bxD, PyData.weight, PyData.weightAll]
    rw [e]
    omega
theorem repr_ends {K : PySem.W.Frag} {H : Hp} {t : Addr} {q : Bx} {w h : Int} {Q : VK} (ht : H t = some (.tup (endsV q w h))) (hb : BdB q) (hw : Wid w) (hh : Wid h) (k : Q (.str (endsD q w h).shown) H) : rReprD K [.ref t] H Q := by
  obtain ⟨b0, b1, b2, b3⟩ := hb
  obtain ⟨a1, a2, a3⟩ := int_leaf (b0.val hw)
  obtain ⟨c1, c2, c3⟩ := int_leaf (b1.val hw)
  obtain ⟨d1, d2, d3⟩ := int_leaf (b2.val hh)
  obtain ⟨e1, e2, e3⟩ := int_leaf (b3.val hh)
  refine repr_data (d := endsD q w h) (.tup (SqT.of ht) (.cons (.int _) (.cons (.int _) (.cons (.int _) (.cons (.int _) .nil))))) ?_ rfl (by simp [endsD, PyData.depth, PyData.depthAll]) ?_ ?_ k
  · show (PyData.showable (.int (plV q.x0 w)) && (PyData.showable (.int (plV q.x1 w)) && (PyData.showable (.int (plV q.y0 h)) && (PyData.showable (.int (plV q.y1 h)) && true)))) = true
    rw [a1, c1, d1, e1]; rfl
  · show (PyData.leavesShort 251 (.int (plV q.x0 w)) && (PyData.leavesShort 251 (.int (plV q.x1 w)) && (PyData.leavesShort 251 (.int (plV q.y0 h)) && (PyData.leavesShort 251 (.int (plV q.y1 h)) && true)))) = true
    rw [a2, c2, d2, e2]; rfl
  · have e : (endsD q w h).weight = (PyData.weight (.int (plV q.x0 w)) + 1 + (PyData.weight (.int (plV q.x1 w)) + 1 + (PyData.weight (.int (plV q.y0 h)) + 1 + (PyData.weight (.int (plV q.y1 h)) + 1 + 0)))) := by simp only [endsD, PyData.weight, PyData.weightAll]
    rw [e]
    omega
/-- a list of sizes -/
def SizesAt (H : Hp) (l : Addr) (zs : List (Int × Int)) : Prop := ∃ ts : List Addr, H l = some (.lst (ts.map V.ref)) ∧ ts.length = zs.length ∧ ∀ i : Nat, ∀ t z, ts[i]? = some t → zs[i]? = some z → H t = some (.tup [.int z.1, .int z.2])
theorem BoxAt.ins {H : Hp} {B C b : Addr} {q : Bx} (h : BoxAt H B C b q) : InsAt H b B := by
  obtain ⟨dx, p0, p1, p2, p3, e, _⟩ := h
  exact ⟨dx, _, e⟩
def spIs (B C : Addr) : Sp := fun vs H Q _ => ∃ (b t l : Addr) (q : Bx) (zs : List (Int × Int)), vs = [.ref b, .ref t, .ref l] ∧ BoxAt H B C b q ∧ FourT H t q ∧ BdB q ∧ SizesAt H l zs ∧ (∀ z ∈ zs, Wid z.1 ∧ Wid z.2) ∧ ∀ H', Same H H' → Q (.bl true) H'
section
variable {P : Program} {w : World} {K : PySem.W.Frag} {mg : Str → Option Value} {base : Heap} {a : Adr}
set_option maxHeartbeats 4000000
theorem ok_is (T : Txt K mg a) : FnG P w K mg base CX0 8 a._law_is (spIs a.Box a.Place) := by
  have G__law_parts : FnR P w K mg base CX0 3 a._law_parts (spPartsL a.Place) := ok_partsL T
  have G_Box_str : FnR P w K mg base CX0 5 a.Box_str (spBStr a.Box a.Place) := ok_bstr T
  have G_Box_call : FnR P w K mg base (CX P w) 6 a.Box_call (spBCall a.Box a.Place) := ok_bcall T
  have G__law_box_text : FnR P w K mg base CX0 3 a._law_box_text spBText := ok_btext T
  have G__law_ends : FnR P w K mg base CX0 2 a._law_ends spEnds := ok_ends T
  refine T.d__law_is.okG sc__law_is (fun _ _ _ _ _ _ us hl => match us, hl with | [_, _, _], _ => rfl) (fun vs H Q E h => by obtain ⟨b, t, l, q, zs, rfl, _⟩ := h; rfl) (fun cdv A outer s H vs Q E hr hg h => ?_)
  obtain ⟨b, t, l, q, zs, rfl, hb, ht, bd, hl, hz, k⟩ := h
  refine ⟨_, (pss_cons (ps_set (i := 3) sc__law_is.nd rfl (Or.inl rfl) (pe_lst (pa_cons (pe_callR G__law_parts (hr.mono (by decide)) T.m__law_parts T.k__law_parts pass0 (pa_cons (pe_fld (pv 0) rfl) pa_nil)) (pa_cons (pe_callR G__law_parts (hr.mono (by decide)) T.m__law_parts T.k__law_parts pass0 (pa_cons (pe_fld (pv 0) rfl) pa_nil)) (pa_cons (pe_callR G__law_parts (hr.mono (by decide)) T.m__law_parts T.k__law_parts pass0 (pa_cons (pe_fld (pv 0) rfl) pa_nil)) (pa_cons (pe_callR G__law_parts (hr.mono (by decide)) T.m__law_parts T.k__law_parts pass0 (pa_cons (pe_fld (pv 0) rfl) pa_nil)) pa_nil))))))
      (pss_cons (ps_if (PW.pt (pw_or (pt_cmpR op_ne (pe_callB (call_reprD (by exact hg) hr.units) (by rfl) T.n_repr (by decide +kernel) (pa_cons (pv 3) pa_nil)) (pe_callB (call_reprD (by exact hg) hr.units) (by rfl) T.n_repr (by decide +kernel) (pa_cons (pe_callTy call_listK (by rfl) T.n_list (by decide +kernel) (pa_cons (pv 1) pa_nil)) pa_nil)) (nomark _)) (pw_or1 (pt_cmpR op_ne (pe_callTy (call_strO T.o_Box_str T.f_Box_str G_Box_str (hr.mono (by decide)) pass0) (by rfl) T.n_str (by decide +kernel) (pa_cons (pv 0) pa_nil)) (pe_callR G__law_box_text (hr.mono (by decide)) T.m__law_box_text T.k__law_box_text pass0 (pa_cons (pv 1) pa_nil)) (nomark _)))))
          (pss_one (ps_ret pe_bl))
          pss_nil)
      (pss_cons (ps_for PassesOwn.never rfl (pi_list (pv 2)) (pg_tup rfl (pgs_cons (pg_name (i := 4) sc__law_is.nd rfl (Or.inl rfl)) (pgs_cons (pg_name (i := 5) sc__law_is.nd rfl (Or.inl rfl)) pgs_nil)))
          (pss_one (ps_if (pt_cmpR op_ne (pe_callB (call_reprD (by exact hg) hr.units) (by rfl) T.n_repr (by decide +kernel) (pa_cons (pe_callOI (pv 0) ⟨T.o_Box_call, T.f_Box_call, T.fi_Box_call⟩ G_Box_call (hr.mono (by decide)) (passUp LamX.takes0) (pa_cons (pv 4) (pa_cons (pv 5) pa_nil))) pa_nil)) (pe_callB (call_reprD (by exact hg) hr.units) (by rfl) T.n_repr (by decide +kernel) (pa_cons (pe_callR G__law_ends (hr.mono (by decide)) T.m__law_ends T.k__law_ends pass0 (pa_cons (pv 1) (pa_cons (pv 4) (pa_cons (pv 5) pa_nil)))) pa_nil)) (nomark _))
              (pss_one (ps_ret pe_bl))
              pss_nil)))
      (pss_one (ps_ret pe_bl))))), ?_⟩
  refine tSeq_step fun R e1 => ?_
  simp only [tSeq, tIfS, tTest, tB, tAnd, tOr, tNot, tAndV, tOrV, tNotV, tIf, tOp, tUn, tChain, rEq, rNe, rI0, rI, rU, tCallR, tCons, tNil, tC, tVar, tRet, tRetN, tTup_k, tLst_k, tCB, tNext, tAsg, gName, gTup, gCons, gNil, tDrop, tPar, tFld, ClX.tCVal, tPropR, rBin, rBinT, rNeOwn, rSetL_k, gSub, tMakeK_k, tMethR, rInO, tDNewK_k, tYes, wipe, tMakeR_k, tSMeth, tSMethK, rMulS, decide_true, tNever, sFld, rIsiT, and_false, rListOf, rTupOf, rLenSeq, rIxL, rIxT, rIxS, rCat_k, rRep_k, rSlL_k, rSlS, rNewStrs_k, rAppend_k, tBM, tBM0, tM0, tM1, tSl, tNoPart, tPart, tLc_k, tFor_k, iList, iTup, iEnumT, iRng1, iRng2, iRng2L, iStr, L2.start, List.map, List.length_cons, List.length_nil, List.cons_append, List.nil_append, List.getElem?_cons_succ, List.getElem?_cons_zero, Option.some.injEq, V.int.injEq, V.bl.injEq, V.str.injEq, V.ref.injEq, exists_eq_left', exists_eq_left, and_assoc, exists_and_left, exists_eq, exists_eq', true_and, and_true, List.set_cons_zero, List.set_cons_succ, List.set, decide_eq_true_eq, Bool.not_eq_true', if_true, if_false, rIx, cx_K, nox_K, List.replicate_succ, List.replicate_zero, Nat.reduceSub, Bool.true_eq_false, Bool.false_eq_true, Nat.reduceAdd, List.cons.injEq, reduceCtorEq, false_and, false_or, or_false, tAug, rSetO, rStrO, rIsKp, tXk, tDGet, tDIn, tDNotIn, sDPut, rUn, rBinI, rBinR, rJoin, tJs, tOrT, rIsi, tCallOI, rBinT, tFCall, tMakeL, tCMethK, ClX.tCMeth, tCall, tPar3]
  obtain ⟨dx, p0, p1, p2, p3, e, g0, g1, g2, g3⟩ := id hb
  have cl := T.c_Box.cl
  refine ⟨_, dx, _, e, cl, T.a_Box_x0, _, bxF_x0 .., p0, q.x0, rfl, g0, fun u0 H1 f1 => ?_⟩
  refine ⟨_, dx, _, f1.get e, cl, T.a_Box_x1, _, bxF_x1 .., p1, q.x1, rfl, g1.same f1.same, fun u1 H2 f2 => ?_⟩
  have s2 := f1.same.trans f2.same
  refine ⟨_, dx, _, s2 _ _ e, cl, T.a_Box_y0, _, bxF_y0 .., p2, q.y0, rfl, g2.same s2, fun u2 H3 f3 => ?_⟩
  have s3 := s2.trans f3.same
  refine ⟨_, dx, _, s3 _ _ e, cl, T.a_Box_y1, _, bxF_y1 .., p3, q.y1, rfl, g3.same s3, fun u3 H4 f4 => ?_⟩
  refine kNew.mk (by show 4 ≤ sizeLine; decide) fun lp H5 f5 => ?_
  have s45 := f4.same.trans f5.same
  have s35 := f3.same.trans s45
  have s25 := f2.same.trans s35
  have s5 := f1.same.trans s25
  have v0 : TupP H5 u0 q.x0 := s25 _ _ f1.at_
  have v1 : TupP H5 u1 q.x1 := s35 _ _ f2.at_
  have v2 : TupP H5 u2 q.y0 := s45 _ _ f3.at_
  have v3 : TupP H5 u3 q.y1 := f5.same _ _ f4.at_
  have lp5 := f5.at_
  subst e1
  refine tSeq_step fun R e1 => ?_
  simp only [tSeq, tIfS, tTest, tB, tAnd, tOr, tNot, tAndV, tOrV, tNotV, tIf, tOp, tUn, tChain, rEq, rNe, rI0, rI, rU, tCallR, tCons, tNil, tC, tVar, tRet, tRetN, tTup_k, tLst_k, tCB, tNext, tAsg, gName, gTup, gCons, gNil, tDrop, tPar, tFld, ClX.tCVal, tPropR, rBin, rBinT, rNeOwn, rSetL_k, gSub, tMakeK_k, tMethR, rInO, tDNewK_k, tYes, wipe, tMakeR_k, tSMeth, tSMethK, rMulS, decide_true, tNever, sFld, rIsiT, and_false, rListOf, rTupOf, rLenSeq, rIxL, rIxT, rIxS, rCat_k, rRep_k, rSlL_k, rSlS, rNewStrs_k, rAppend_k, tBM, tBM0, tM0, tM1, tSl, tNoPart, tPart, tLc_k, tFor_k, iList, iTup, iEnumT, iRng1, iRng2, iRng2L, iStr, L2.start, List.map, List.length_cons, List.length_nil, List.cons_append, List.nil_append, List.getElem?_cons_succ, List.getElem?_cons_zero, Option.some.injEq, V.int.injEq, V.bl.injEq, V.str.injEq, V.ref.injEq, exists_eq_left', exists_eq_left, and_assoc, exists_and_left, exists_eq, exists_eq', true_and, and_true, List.set_cons_zero, List.set_cons_succ, List.set, decide_eq_true_eq, Bool.not_eq_true', if_true, if_false, rIx, cx_K, nox_K, List.replicate_succ, List.replicate_zero, Nat.reduceSub, Bool.true_eq_false, Bool.false_eq_true, Nat.reduceAdd, List.cons.injEq, reduceCtorEq, false_and, false_or, or_false, tAug, rSetO, rStrO, rIsKp, tXk, tDGet, tDIn, tDNotIn, sDPut, rUn, rBinI, rBinR, rJoin, tJs, tOrT, rIsi, tCallOI, rBinT, tFCall, tMakeL, tCMethK, ClX.tCMeth, tCall, tPar3]
  refine repr_bx lp5 v0 v1 v2 v3 bd ?_
  obtain ⟨t0, t1, t2, t3, te, h0, h1, h2, h3⟩ := id ht
  refine ⟨_, .inr (SqT.of (s5 _ _ te)), kN.mk fun l2 H6 f6 => ?_⟩
  have s6 := s5.trans f6.same
  refine repr_bx f6.at_ (h0.same s6) (h1.same s6) (h2.same s6) (h3.same s6) bd ⟨rfl, ?_⟩
  rw [decide_eq_true rfl, if_neg (by decide)]
  refine ⟨(hb.same s6).ins, b, q, rfl, hb.same s6, bd.1.log, bd.2.1.log, bd.2.2.1.log, bd.2.2.2.log, fun H7 s7 => ⟨_, rfl, t, q, rfl, (ht.same s6).same s7, bd, fun H8 s8 => ⟨rfl, ?_⟩⟩⟩
  rw [decide_eq_true rfl, if_neg (by decide)]
  have s := (s6.trans s7).trans s8
  subst e1
  simp only [tSeq, tIfS, tTest, tB, tAnd, tOr, tNot, tAndV, tOrV, tNotV, tIf, tOp, tUn, tChain, rEq, rNe, rI0, rI, rU, tCallR, tCons, tNil, tC, tVar, tRet, tRetN, tTup_k, tLst_k, tCB, tNext, tAsg, gName, gTup, gCons, gNil, tDrop, tPar, tFld, ClX.tCVal, tPropR, rBin, rBinT, rNeOwn, rSetL_k, gSub, tMakeK_k, tMethR, rInO, tDNewK_k, tYes, wipe, tMakeR_k, tSMeth, tSMethK, rMulS, decide_true, tNever, sFld, rIsiT, and_false, rListOf, rTupOf, rLenSeq, rIxL, rIxT, rIxS, rCat_k, rRep_k, rSlL_k, rSlS, rNewStrs_k, rAppend_k, tBM, tBM0, tM0, tM1, tSl, tNoPart, tPart, tLc_k, tFor_k, iList, iTup, iEnumT, iRng1, iRng2, iRng2L, iStr, L2.start, List.map, List.length_cons, List.length_nil, List.cons_append, List.nil_append, List.getElem?_cons_succ, List.getElem?_cons_zero, Option.some.injEq, V.int.injEq, V.bl.injEq, V.str.injEq, V.ref.injEq, exists_eq_left', exists_eq_left, and_assoc, exists_and_left, exists_eq, exists_eq', true_and, and_true, List.set_cons_zero, List.set_cons_succ, List.set, decide_eq_true_eq, Bool.not_eq_true', if_true, if_false, rIx, cx_K, nox_K, List.replicate_succ, List.replicate_zero, Nat.reduceSub, Bool.true_eq_false, Bool.false_eq_true, Nat.reduceAdd, List.cons.injEq, reduceCtorEq, false_and, false_or, or_false, tAug, rSetO, rStrO, rIsKp, tXk, tDGet, tDIn, tDNotIn, sDPut, rUn, rBinI, rBinR, rJoin, tJs, tOrT, rIsi, tCallOI, rBinT, tFCall, tMakeL, tCMethK, ClX.tCMeth, tCall, tPar3]
  obtain ⟨ts, hl', hlen, hall⟩ := hl
  refine ⟨⟨_, SqL.of (s _ _ hl')⟩, ?_⟩
  refine kFor.it (walk_list (xs := ts.map V.ref)) (fun i σ H' => Same H H' ∧ ∃ v4 v5, σ = [some (.ref b), some (.ref t), some (.ref l), some (.ref lp), v4, v5]) ⟨s, _, _, rfl⟩ (fun i σ H' _ hP => SqL.of (hP.1 _ _ hl')) (fun i xv σ Ha Hb hi hP hY => ?_) fun σ Ha hP => ?_
  · obtain ⟨sa, v4, v5, rfl⟩ := hP
    obtain ⟨rfl, e⟩ := hY
    rw [List.length_map] at hi
    obtain ⟨tt, et, rfl⟩ : ∃ tt, ts[i]? = some tt ∧ xv = .ref tt := by
      rw [List.getElem?_map, List.getElem?_eq_getElem hi] at e
      exact ⟨_, List.getElem?_eq_getElem hi, (Option.some.inj e).symm⟩
    obtain ⟨z, ez⟩ : ∃ z, zs[i]? = some z := ⟨_, List.getElem?_eq_getElem (by omega)⟩
    have htt := sa _ _ (hall i tt z et ez)
    obtain ⟨wz, hzz⟩ := hz z (List.mem_of_getElem? ez)
    simp only [tSeq, tIfS, tTest, tB, tAnd, tOr, tNot, tAndV, tOrV, tNotV, tIf, tOp, tUn, tChain, rEq, rNe, rI0, rI, rU, tCallR, tCons, tNil, tC, tVar, tRet, tRetN, tTup_k, tLst_k, tCB, tNext, tAsg, gName, gTup, gCons, gNil, tDrop, tPar, tFld, ClX.tCVal, tPropR, rBin, rBinT, rNeOwn, rSetL_k, gSub, tMakeK_k, tMethR, rInO, tDNewK_k, tYes, wipe, tMakeR_k, tSMeth, tSMethK, rMulS, decide_true, tNever, sFld, rIsiT, and_false, rListOf, rTupOf, rLenSeq, rIxL, rIxT, rIxS, rCat_k, rRep_k, rSlL_k, rSlS, rNewStrs_k, rAppend_k, tBM, tBM0, tM0, tM1, tSl, tNoPart, tPart, tLc_k, tFor_k, iList, iTup, iEnumT, iRng1, iRng2, iRng2L, iStr, L2.start, List.map, List.length_cons, List.length_nil, List.cons_append, List.nil_append, List.getElem?_cons_succ, List.getElem?_cons_zero, Option.some.injEq, V.int.injEq, V.bl.injEq, V.str.injEq, V.ref.injEq, exists_eq_left', exists_eq_left, and_assoc, exists_and_left, exists_eq, exists_eq', true_and, and_true, List.set_cons_zero, List.set_cons_succ, List.set, decide_eq_true_eq, Bool.not_eq_true', if_true, if_false, rIx, cx_K, nox_K, List.replicate_succ, List.replicate_zero, Nat.reduceSub, Bool.true_eq_false, Bool.false_eq_true, Nat.reduceAdd, List.cons.injEq, reduceCtorEq, false_and, false_or, or_false, tAug, rSetO, rStrO, rIsKp, tXk, tDGet, tDIn, tDNotIn, sDPut, rUn, rBinI, rBinR, rJoin, tJs, tOrT, rIsi, tCallOI, rBinT, tFCall, tMakeL, tCMethK, ClX.tCMeth, tCall, tPar3]
    refine ⟨_, SqT.of htt, rfl, _, _, rfl, _, _, rfl, rfl, (hb.same sa).ins, b, q, z.1, z.2, rfl, hb.same sa, wz.1, hzz.1, bd.1.muls wz, bd.2.1.muls wz, bd.2.2.1.muls hzz, bd.2.2.2.muls hzz, fun t' H9 f9 => ?_⟩
    refine repr_ends (q := q) f9.at_ bd wz hzz ⟨t, q, z.1, z.2, rfl, (ht.same sa).same f9.same, bd, wz, hzz, fun t2 H10 f10 => repr_ends f10.at_ bd wz hzz ⟨rfl, ?_⟩⟩
    rw [decide_eq_true rfl, if_neg (by decide)]
    exact (sa.trans f9.same).trans f10.same
  · obtain ⟨sa, v4, v5, rfl⟩ := hP
    simp only [tSeq, tIfS, tTest, tB, tAnd, tOr, tNot, tAndV, tOrV, tNotV, tIf, tOp, tUn, tChain, rEq, rNe, rI0, rI, rU, tCallR, tCons, tNil, tC, tVar, tRet, tRetN, tTup_k, tLst_k, tCB, tNext, tAsg, gName, gTup, gCons, gNil, tDrop, tPar, tFld, ClX.tCVal, tPropR, rBin, rBinT, rNeOwn, rSetL_k, gSub, tMakeK_k, tMethR, rInO, tDNewK_k, tYes, wipe, tMakeR_k, tSMeth, tSMethK, rMulS, decide_true, tNever, sFld, rIsiT, and_false, rListOf, rTupOf, rLenSeq, rIxL, rIxT, rIxS, rCat_k, rRep_k, rSlL_k, rSlS, rNewStrs_k, rAppend_k, tBM, tBM0, tM0, tM1, tSl, tNoPart, tPart, tLc_k, tFor_k, iList, iTup, iEnumT, iRng1, iRng2, iRng2L, iStr, L2.start, List.map, List.length_cons, List.length_nil, List.cons_append, List.nil_append, List.getElem?_cons_succ, List.getElem?_cons_zero, Option.some.injEq, V.int.injEq, V.bl.injEq, V.str.injEq, V.ref.injEq, exists_eq_left', exists_eq_left, and_assoc, exists_and_left, exists_eq, exists_eq', true_and, and_true, List.set_cons_zero, List.set_cons_succ, List.set, decide_eq_true_eq, Bool.not_eq_true', if_true, if_false, rIx, cx_K, nox_K, List.replicate_succ, List.replicate_zero, Nat.reduceSub, Bool.true_eq_false, Bool.false_eq_true, Nat.reduceAdd, List.cons.injEq, reduceCtorEq, false_and, false_or, or_false, tAug, rSetO, rStrO, rIsKp, tXk, tDGet, tDIn, tDNotIn, sDPut, rUn, rBinI, rBinR, rJoin, tJs, tOrT, rIsi, tCallOI, rBinT, tFCall, tMakeL, tCMethK, ClX.tCMeth, tCall, tPar3]
    exact k _ sa
end
end Pf
end
section
namespace Pf
open PySem PySem.Spec PyProof.Rows L2 Ow StX
/-! ### wrong values -/
abbrev lamQ1 : Str := (Str.ofString "_law_refused_right" ++ Str.ofString ".<locals>.") ++ Str.ofString "<lambda>"
abbrev lamQ2 : Str := (Str.ofString "_law_bounds_right" ++ Str.ofString ".<locals>.") ++ Str.ofString "<lambda>"
abbrev lamQ3 : Str := (Str.ofString "_law_far_margins_right" ++ Str.ofString ".<locals>.") ++ Str.ofString "<lambda>"
abbrev TLs (T1 T2 T3 : Addr) : List (Addr × Str) := [(T1, lamQ1), (T2, lamQ2), (T3, lamQ3)]
structure Nes (T1 T2 T3 : Addr) : Prop where
  h12 : T1 ≠ T2
  h13 : T1 ≠ T3
  h23 : T2 ≠ T3
theorem in_TL1 (T1 T2 T3 : Addr) : (T1, lamQ1) ∈ TLs T1 T2 T3 := by simp [TLs]
theorem in_TL2 (T1 T2 T3 : Addr) : (T2, lamQ2) ∈ TLs T1 T2 T3 := by simp [TLs]
theorem in_TL3 (T1 T2 T3 : Addr) : (T3, lamQ3) ∈ TLs T1 T2 T3 := by simp [TLs]
theorem un_TL1 {T1 T2 T3 : Addr} (n : Nes T1 T2 T3) (p : Addr × Str) (hp : p ∈ TLs T1 T2 T3) (e : p.1 = T1) : p.2 = lamQ1 := by
  simp only [TLs, List.mem_cons, List.not_mem_nil, or_false] at hp
  rcases hp with rfl | rfl | rfl
  · rfl
  · exact absurd e.symm n.h12
  · exact absurd e.symm n.h13
theorem un_TL2 {T1 T2 T3 : Addr} (n : Nes T1 T2 T3) (p : Addr × Str) (hp : p ∈ TLs T1 T2 T3) (e : p.1 = T2) : p.2 = lamQ2 := by
  simp only [TLs, List.mem_cons, List.not_mem_nil, or_false] at hp
  rcases hp with rfl | rfl | rfl
  · exact absurd e n.h12
  · rfl
  · exact absurd e.symm n.h23
theorem un_TL3 {T1 T2 T3 : Addr} (n : Nes T1 T2 T3) (p : Addr × Str) (hp : p ∈ TLs T1 T2 T3) (e : p.1 = T3) : p.2 = lamQ3 := by
  simp only [TLs, List.mem_cons, List.not_mem_nil, or_false] at hp
  rcases hp with rfl | rfl | rfl
  · exact absurd e n.h13
  · exact absurd e n.h23
  · rfl
/-- _law_errors(lambda: body) -/
theorem pe_heard {X : Cx} {a : Adr} {c T : Addr} {k : Nat} {TL : List (Addr × Str)} {params : Arguments} {body : Expr} {scope : Scope} {t : XK → TE} {p lpos pos : Pos} (D : Txt X.K X.mg a) (hg : Gl X "_law_errors") (TB : LamX.TabB X.base X.mg c T) (hcode : X.env.code = .ref c) (hmT : (T, X.env.qual ++ Str.ofString "<lambda>") ∈ TL)
    (hu : ∀ p : Addr × Str, p ∈ TL → p.1 = T → p.2 = X.env.qual ++ Str.ofString "<lambda>") (hr : Room (k + 2) X.A) (L : LamX.LamS X.env.scope scope) (hdef : defaultsOf params X.env = ([], []))
    (hbind : ∀ (q : Str) (cl : List (Str × Addr)) (pm cv ctv : Value), bindArgs (PySem.W.kla_fn (Str.ofString "<lambda>") q params body scope cl pm cv ctv) ⟨[], []⟩ = pure [])
    (hbody : ∀ (A : Around) (outer : List Env) (s : Shared) (H : Hp) (E : XK) (f c' : Addr), Room k (A.deeper (LamX.lamEnv X scope s.heap.objs.size f c')) → PE (LamX.lamCx X A outer s H E scope f c') body (t E)) :
    PE X (.Call (.Name "_law_errors" p) [.Lambda params body scope lpos] [] pos) (LamX.tLam TL (TTe a.BadPlace a.BadSize) t) := by
  obtain ⟨fd, FD⟩ := id D.d__law_errors
  have hb : Binds X.K fd ["_law_ask"] [] := FD.bindsN (fun _ _ _ _ _ _ us hl => match us, hl with | [_], _ => rfl)
  obtain ⟨oc, od, dV, kV, doc, pm, an, cdv, ct, osl, rfl, lk, hcd, _, _⟩ := FD.ex
  exact LamX.pe_lamcall hg D.m__law_errors D.k__law_errors lk hcd hb sc__law_errors rfl (Or.inl rfl) (heard_gives D) TB hcode hmT hu hr L hdef hbind hbody
theorem sql_same {K : PySem.W.Frag} {H H' : Hp} {a : Addr} {xs : List V} (e : Same H H') (h : SqL K H a xs) : SqL K H' a xs := h.elim (fun h => .inl (h.elim (fun h => .inl (e _ _ h)) fun ⟨o, h⟩ => .inr ⟨o, e _ _ h⟩)) fun h => .inr h
def spMirL (K : PySem.W.Frag) : Sp := fun vs H Q _ => ∃ (t t0 t1 t2 t3 : Addr) (q : Bx), vs = [.ref t] ∧ (SqL K H t [.ref t0, .ref t1, .ref t2, .ref t3] ∨ SqT K H t [.ref t0, .ref t1, .ref t2, .ref t3]) ∧ TupP H t0 q.x0 ∧ TupP H t1 q.x1 ∧ TupP H t2 q.y0 ∧ TupP H t3 q.y1 ∧ ∀ t' H', Same H H' → FourT H' t' (mirB q) → Q (.ref t') H'
section
variable {P : Program} {w : World} {K : PySem.W.Frag} {mg : Str → Option Value} {base : Heap} {a : Adr}
set_option maxHeartbeats 4000000
theorem ok_mirL (T : Txt K mg a) : FnR P w K mg base CX0 2 a._law_mirrored (spMirL K) := by
  have G__law_mirror_place : FnR P w K mg base CX0 1 a._law_mirror_place spMirT := ok_mirT T
  refine T.d__law_mirrored.ok sc__law_mirrored (fun _ _ _ _ _ _ us hl => match us, hl with | [_], _ => rfl) (fun vs H Q E h => by obtain ⟨t, t0, t1, t2, t3, q, rfl, _⟩ := h; rfl) (fun cdv A outer s H vs Q E hr h => ?_)
  obtain ⟨t, t0, t1, t2, t3, q, rfl, ht, h0, h1, h2, h3, k⟩ := h
  refine ⟨_, (pss_one (ps_ret (pe_tup (pa_cons (pe_callR G__law_mirror_place (hr.mono (by decide)) T.m__law_mirror_place T.k__law_mirror_place pass0 (pa_cons (pe_ix ix_seq (pv 0) pe_int (fun _ _ => rfl)) pa_nil)) (pa_cons (pe_callR G__law_mirror_place (hr.mono (by decide)) T.m__law_mirror_place T.k__law_mirror_place pass0 (pa_cons (pe_ix ix_seq (pv 0) pe_int (fun _ _ => rfl)) pa_nil)) (pa_cons (pe_ix ix_seq (pv 0) pe_int (fun _ _ => rfl)) (pa_cons (pe_ix ix_seq (pv 0) pe_int (fun _ _ => rfl)) pa_nil))))))), ?_⟩
  simp only [tSeq, tIfS, tTest, tB, tAnd, tOr, tNot, tAndV, tOrV, tNotV, tIf, tOp, tUn, tChain, rEq, rNe, rI0, rI, rU, tCallR, tCons, tNil, tC, tVar, tRet, tRetN, tTup_k, tLst_k, tCB, tNext, tAsg, gName, gTup, gCons, gNil, tDrop, tPar, tFld, ClX.tCVal, tPropR, rBin, rBinT, rNeOwn, rSetL_k, gSub, tMakeK_k, tMethR, rInO, tDNewK_k, tYes, wipe, tMakeR_k, tSMeth, tSMethK, rMulS, decide_true, tNever, sFld, rIsiT, and_false, rListOf, rTupOf, rLenSeq, rIxL, rIxT, rIxS, rCat_k, rRep_k, rSlL_k, rSlS, rNewStrs_k, rAppend_k, tBM, tBM0, tM0, tM1, tSl, tNoPart, tPart, tLc_k, tFor_k, iList, iTup, iEnumT, iRng1, iRng2, iRng2L, iStr, L2.start, List.map, List.length_cons, List.length_nil, List.cons_append, List.nil_append, List.getElem?_cons_succ, List.getElem?_cons_zero, Option.some.injEq, V.int.injEq, V.bl.injEq, V.str.injEq, V.ref.injEq, exists_eq_left', exists_eq_left, and_assoc, exists_and_left, exists_eq, exists_eq', true_and, and_true, List.set_cons_zero, List.set_cons_succ, List.set, decide_eq_true_eq, Bool.not_eq_true', if_true, if_false, rIx, cx_K, nox_K, List.replicate_succ, List.replicate_zero, Nat.reduceSub, Bool.true_eq_false, Bool.false_eq_true, Nat.reduceAdd, List.cons.injEq, reduceCtorEq, false_and, false_or, or_false, tAug, rSetO, rStrO, rIsKp, tXk, tDGet, tDIn, tDNotIn, sDPut, rUn, rBinI, rBinR, rJoin, tJs, tOrT, rIsi, tCallOI, rBinT, tFCall, tMakeL, tCMethK, ClX.tCMeth, tCall, tPar3]
  rcases ht with ht | ht
  · refine .inl ⟨_, ht, _, rfl, t1, q.x1, rfl, h1, fun m1 H1 f1 => .inl ⟨_, sql_same f1.same ht, _, rfl, t0, q.x0, rfl, h0.same f1.same, fun m0 H2 f2 => ?_⟩⟩
    have s2 := f1.same.trans f2.same
    refine .inl ⟨_, sql_same s2 ht, _, rfl, .inl ⟨_, sql_same s2 ht, _, rfl, kNew.mk (by show 4 ≤ sizeLine; decide) fun t' H' f => ?_⟩⟩
    exact k t' H' (s2.trans f.same) ⟨m1, m0, t2, t3, f.at_, f.get (f2.get f1.at_), f.get f2.at_, h2.same (s2.trans f.same), h3.same (s2.trans f.same)⟩
  · refine .inr (.inl ⟨_, ht, _, rfl, t1, q.x1, rfl, h1, fun m1 H1 f1 => .inr (.inl ⟨_, Same.tup f1.same ht, _, rfl, t0, q.x0, rfl, h0.same f1.same, fun m0 H2 f2 => ?_⟩)⟩)
    have s2 := f1.same.trans f2.same
    refine .inr (.inl ⟨_, Same.tup s2 ht, _, rfl, .inr (.inl ⟨_, Same.tup s2 ht, _, rfl, kNew.mk (by show 4 ≤ sizeLine; decide) fun t' H' f => ?_⟩)⟩)
    exact k t' H' (s2.trans f.same) ⟨m1, m0, t2, t3, f.at_, f.get (f2.get f1.at_), f.get f2.at_, h2.same (s2.trans f.same), h3.same (s2.trans f.same)⟩
end
end Pf
end
section
namespace Pf
open PySem PySem.Spec PyProof.Rows L2 Ow StX
theorem rPowK_lit (k : Nat) {H : Hp} {Q : VK} (h : k ≤ 100) (q : Q (.int (powC k)) H) : rPowK k (.int 10) (.int (k : Nat)) H Q := ⟨rfl, rfl, h, q⟩
theorem powC_pos (k : Nat) : 0 < powC k := by
  unfold powC
  exact Int.pow_pos (by decide)
def ExtB (p : Addr) (H H' : Hp) : Prop := ∀ b o, b ≠ p → H b = some o → (∀ ps, o ≠ .tbl ps) → H' b = some o
theorem ExtB.same {p : Addr} {H H' : Hp} (s : Same H H') : ExtB p H H' := fun b o _ e _ => s b o e
theorem ExtB.but {p : Addr} {H H' : Hp} (s : SameBut p H H') : ExtB p H H' := fun b o n e _ => s b o n e
theorem ExtB.ext {p : Addr} {H H' : Hp} (s : LamX.ExtN H H') : ExtB p H H' := fun b o _ e n => s b o e n
theorem ExtB.trans {p : Addr} {H H1 H2 : Hp} (x : ExtB p H H1) (y : ExtB p H1 H2) : ExtB p H H2 := fun b o n e z => y b o n (x b o n e z) z
theorem tabs_but {TL : List (Addr × Str)} {H H' : Hp} {d : Addr} {o : HO} (t : LamX.Tabs TL H) (h : H d = some o) (h1 : ∀ ps, o ≠ .tbl ps) (h2 : ∀ f, o ≠ .ext f) (s : SameBut d H H') : LamX.Tabs TL H' := fun p hp => by
  obtain ⟨ps, e1, e2, e3⟩ := t p hp
  have ne : ∀ {b : Addr} {u : HO}, H b = some u → u ≠ o → b ≠ d := fun e n z => by
    rw [z, h] at e
    exact n (Option.some.inj e).symm
  refine ⟨ps, s _ _ (ne e1 fun z => h1 _ z.symm) e1, e2, fun pos cv hc => ?_⟩
  obtain ⟨c, q1, q2⟩ := e3 pos cv hc
  exact ⟨c, q1, s _ _ (ne q2 fun z => by unfold LamX.CodeO at z; exact h2 _ z.symm) q2⟩
theorem tabs_same {TL : List (Addr × Str)} {H H' : Hp} (t : LamX.Tabs TL H) (s : Same H H') : LamX.Tabs TL H' := fun p hp => by
  obtain ⟨ps, e1, e2, e3⟩ := t p hp
  exact ⟨ps, s _ _ e1, e2, fun pos cv hc => (e3 pos cv hc).elim fun c q => ⟨c, q.1, s _ _ q.2⟩⟩
theorem Pen.obj {H : Hp} {p c : Addr} {n : Int} (P : Pen H p c n) : ∃ b r : Int, H p = some (.lst [.ref c, .int b, .int r]) := by
  obtain ⟨ns, b, r, h1, _⟩ := P
  exact ⟨b, r, h1⟩
theorem tabs_pen {TL : List (Addr × Str)} {H H' : Hp} {p c : Addr} {n : Int} (t : LamX.Tabs TL H) (P : Pen H p c n) (s : SameBut p H H') : LamX.Tabs TL H' := by
  obtain ⟨b, r, h⟩ := P.obj
  exact tabs_but t h (fun _ z => by cases z) (fun _ z => by cases z) s
theorem Pen.ext {H H' : Hp} {p c : Addr} {n : Int} (P : Pen H p c n) (s : LamX.ExtN H H') : Pen H' p c n := by
  obtain ⟨ns, b, r, e1, e2, e⟩ := P
  exact ⟨ns, b, r, s _ _ e1 (fun _ z => by cases z), s _ _ e2 (fun _ z => by cases z), e⟩
/-! ### wrong values are refused -/
theorem tabs_pen3 {TL : List (Addr × Str)} {H H' : Hp} {p c : Addr} {n : Int} (t : LamX.Tabs TL H) (P : Pen H p c n) (s : SameBut p H H') : LamX.Tabs TL H' := tabs_pen t P s
/-- what stays known in a turn: the pen, the tables, the box -/
structure Wd (TL : List (Addr × Str)) (B C p c b : Addr) (q : Bx) (H0 : Hp) (n : Int) (H : Hp) : Prop where
  pen : Pen H p c n
  tab : LamX.Tabs TL H
  box : BoxAt H B C b q
  since : ExtB p H0 H
theorem PlaceAt.extB {H H' : Hp} {C p c t : Addr} {n : Int} {a b d : Int} (h : PlaceAt H C t a b d) (P : Pen H p c n) (s : ExtB p H H') : PlaceAt H' C t a b d := h.elim fun dx z => ⟨dx, s _ _ (P.ne z (by intro _ z; cases z)) z (by intro _ z; cases z)⟩
theorem BoxAt.extB {H H' : Hp} {B C b p c : Addr} {n : Int} {q : Bx} (h : BoxAt H B C b q) (P : Pen H p c n) (s : ExtB p H H') : BoxAt H' B C b q := by
  obtain ⟨dx, p0, p1, p2, p3, e, h0, h1, h2, h3⟩ := h
  exact ⟨dx, p0, p1, p2, p3, s _ _ (P.ne e (by intro _ z; cases z)) e (by intro _ z; cases z), h0.extB P s, h1.extB P s, h2.extB P s, h3.extB P s⟩
theorem InV.extB {C p c : Addr} {H H' : Hp} {n : Int} {v : V} {q : Pl} (h : InV C H v q) (P : Pen H p c n) (s : ExtB p H H') : InV C H' v q := h.imp id fun ⟨x, e, hp⟩ => ⟨x, e, hp.extB P s⟩
theorem Wd.on {TL : List (Addr × Str)} {B C p c b : Addr} {q : Bx} {H0 H H' : Hp} {n : Int} (x : Wd TL B C p c b q H0 n H) (s : Same H H') : Wd TL B C p c b q H0 n H' :=
  ⟨x.pen.same s, tabs_same x.tab s, x.box.same s, x.since.trans (ExtB.same s)⟩
theorem Wd.go {TL : List (Addr × Str)} {B C p c b : Addr} {q : Bx} {H0 H H' : Hp} {n m : Int} (x : Wd TL B C p c b q H0 n H) (s : SameBut p H H') (P : Pen H' p c m) : Wd TL B C p c b q H0 m H' :=
  ⟨P, tabs_pen x.tab x.pen s, x.box.pen x.pen s, x.since.trans (ExtB.but s)⟩
theorem Wd.ext {TL : List (Addr × Str)} {B C p c b : Addr} {q : Bx} {H0 H H' : Hp} {n : Int} (x : Wd TL B C p c b q H0 n H) (s : LamX.ExtN H H') (t : LamX.Tabs TL H') : Wd TL B C p c b q H0 n H' :=
  ⟨x.pen.ext s, t, x.box.extB x.pen (ExtB.ext s), x.since.trans (ExtB.ext s)⟩
theorem Wd.le {TL : List (Addr × Str)} {B C p c b : Addr} {q : Bx} {H0 H : Hp} {n m : Int} (x : Wd TL B C p c b q H0 n H) (h : n ≤ m) : Wd TL B C p c b q H0 m H := ⟨x.pen.le h, x.tab, x.box, x.since⟩
/-- a value that is no place and no margin, as drawn -/
inductive OddP (H : Hp) : V → Prop
  | non : OddP H .non
  | str (z : Str) : OddP H (.str z)
  | bl (k : Bool) : OddP H (.bl k)
  | tup {t : Addr} : H t = some (.tup [.int 0, .int 1]) → OddP H (.ref t)
  | lst {t : Addr} : H t = some (.lst [.int 2]) → OddP H (.ref t)
  | dic {t : Addr} : H t = some (.dK []) → OddP H (.ref t)
theorem OddP.of {H H' : Hp} {v : V} (h : OddP H v) (s : ∀ b o, H b = some o → (o = .tup [.int 0, .int 1] ∨ o = .lst [.int 2] ∨ o = .dK []) → H' b = some o) : OddP H' v := by
  cases h with
  | non => exact .non
  | str z => exact .str z
  | bl k => exact .bl k
  | tup h => exact .tup (s _ _ h (.inl rfl))
  | lst h => exact .lst (s _ _ h (.inr (.inl rfl)))
  | dic h => exact .dic (s _ _ h (.inr (.inr rfl)))
theorem OddP.same {H H' : Hp} {v : V} (h : OddP H v) (s : Same H H') : OddP H' v := h.of fun b o e _ => s b o e
theorem OddP.extB {H H' : Hp} {v : V} {p c : Addr} {n : Int} (h : OddP H v) (P : Pen H p c n) (s : ExtB p H H') : OddP H' v := h.of fun b o e q => s b o (fun z => by
  obtain ⟨b', r, hp⟩ := P.obj
  rw [z, hp] at e
  rcases q with q | q | q <;> rw [q] at e <;> cases e) e fun ps z => by rcases q with q | q | q <;> rw [q] at z <;> cases z
theorem OddP.noInt {K : PySem.W.Frag} {H : Hp} {v : V} (h : OddP H v) : NoInt K H v := by
  cases h with
  | non => exact .non
  | str z => exact .str
  | bl k => exact .bl
  | tup h => exact .tup h
  | lst h => exact .lst h
  | dic h => exact .dict h
theorem OddP.noPl {K : PySem.W.Frag} {mg : Str → Option Value} {a : Adr} (T : Txt K mg a) {H : Hp} {v : V} (h : OddP H v) : NoPl K a.Place H v := by
  refine ⟨h.noInt, ?_⟩
  cases h with
  | non => exact ⟨_, .base .non, kit_ty_own T.c_Place T.q_Place_none⟩
  | str z => exact ⟨_, .base (.str z), kit_ty_own T.c_Place T.q_Place_str⟩
  | bl k => exact ⟨_, .base (.bl k), kit_ty_own T.c_Place T.q_Place_bool⟩
  | tup h => exact ⟨_, .base (.tup h), kit_ty_own T.c_Place T.s_Place_tuple⟩
  | lst h => exact ⟨_, .base (.lst h), kit_ty_own T.c_Place T.q_Place_list⟩
  | dic h => exact ⟨_, .base (.dK h), kit_ty_own T.c_Place T.q_Place_dict⟩
/-- a value that is no size, as drawn -/
inductive OddZ (H : Hp) : V → Prop
  | int {i : Int} : i < 1 → OddZ H (.int i)
  | non : OddZ H .non
  | str (z : Str) : OddZ H (.str z)
  | bl (k : Bool) : OddZ H (.bl k)
  | tup {t : Addr} : H t = some (.tup [.int 1]) → OddZ H (.ref t)
theorem OddZ.of {H H' : Hp} {v : V} (h : OddZ H v) (s : ∀ b o, H b = some o → o = .tup [.int 1] → H' b = some o) : OddZ H' v := by
  cases h with
  | int h => exact .int h
  | non => exact .non
  | str z => exact .str z
  | bl k => exact .bl k
  | tup h => exact .tup (s _ _ h rfl)
theorem OddZ.same {H H' : Hp} {v : V} (h : OddZ H v) (s : Same H H') : OddZ H' v := h.of fun b o e _ => s b o e
theorem OddZ.extB {H H' : Hp} {v : V} {p c : Addr} {n : Int} (h : OddZ H v) (P : Pen H p c n) (s : ExtB p H H') : OddZ H' v := h.of fun b o e q => s b o (fun z => by
  obtain ⟨b', r, hp⟩ := P.obj
  rw [z, hp] at e
  rw [q] at e; cases e) e fun ps z => by rw [q] at z; cases z
theorem OddZ.bad {K : PySem.W.Frag} {H : Hp} {v : V} (h : OddZ H v) : BadSz K H v := by
  cases h with
  | int h => exact .inr ⟨_, rfl, h⟩
  | non => exact .inl .non
  | str z => exact .inl .str
  | bl k => exact .inl .bl
  | tup h => exact .inl (.tup h)
theorem err_place {BP BS : Addr} {H : Hp} {Q : VK} {z : Str} (k : ∀ t H2, Same H H2 → H2 t = some (.tup [.str "place", .str z]) → Q (.ref t) H2) : Out1 BP "part" H (Eer BP BS Q) (.str z) := fun dd hd =>
  ⟨BP, "place", dd, _, .str z, rfl, .inl ⟨rfl, rfl⟩, rfl, upd_same, rfl, fun t H2 s e => k t H2 ((fresh_upd hd).same.trans s) e⟩
theorem err_size {BP BS : Addr} {H : Hp} {Q : VK} {z : Str} (k : ∀ t H2, Same H H2 → H2 t = some (.tup [.str "size", .str z]) → Q (.ref t) H2) : Out1 BS "part" H (Eer BP BS Q) (.str z) := fun dd hd =>
  ⟨BS, "size", dd, _, .str z, rfl, .inr ⟨rfl, rfl⟩, rfl, upd_same, rfl, fun t H2 s e => k t H2 ((fresh_upd hd).same.trans s) e⟩
theorem x0y {i : Nat} (h : i < 4) : ∃ nm : Str, atI [V.str "x0", .str "x1", .str "y0", .str "y1"] (i : Int) = some (.str nm) ∧ ([("x0" : Str), "x1", "y0", "y1"])[i]? = some nm ∧ SeqAt.shaped (.tuple [.str "place", .str nm]) = true := by
  match i, h with
  | 0, _ => exact ⟨"x0", rfl, rfl, by decide +kernel⟩
  | 1, _ => exact ⟨"x1", rfl, rfl, by decide +kernel⟩
  | 2, _ => exact ⟨"y0", rfl, rfl, by decide +kernel⟩
  | 3, _ => exact ⟨"y1", rfl, rfl, by decide +kernel⟩
theorem bd_small {i : Nat} (h : i < 4) : BdP ⟨0, (i : Nat), 0⟩ := by
  refine ⟨bd_zero, ⟨?_, ?_⟩, bd_zero⟩
  · show -1000000000000 ≤ ((i : Nat) : Int); omega
  · show ((i : Nat) : Int) ≤ 1000000000000; omega
theorem ne_same {K : PySem.W.Frag} {H : Hp} {t td : Addr} {w nm : Str} {Q : VK} (h : H t = some (.tup [.str w, .str nm])) (h' : H td = some (.tup [.str w, .str nm])) (sh : SeqAt.shaped (.tuple [.str w, .str nm]) = true) (k : Q (.bl false) H) : rNeD K (.ref t) (.ref td) H Q := by
  refine ⟨.tuple [.str w, .str nm], .tuple [.str w, .str nm], .tup (.inl (.inl h)) (.cons (.str _) (.cons (.str _) .nil)), .tup (.inl (.inl h')) (.cons (.str _) (.cons (.str _) .nil)), sh, sh, ?_⟩
  have e : PyData.eqv (.tuple [.str w, .str nm]) (.tuple [.str w, .str nm]) = true := by simp [PyData.eqv, PyData.eqvAll]
  rw [e]
  exact k
theorem eq_same {K : PySem.W.Frag} {H : Hp} {t td : Addr} {w nm : Str} {Q : VK} (h : H t = some (.tup [.str w, .str nm])) (h' : H td = some (.tup [.str w, .str nm])) (sh : SeqAt.shaped (.tuple [.str w, .str nm]) = true) (k : Q (.bl true) H) : rEqD K (.ref t) (.ref td) H Q := by
  refine ⟨.tuple [.str w, .str nm], .tuple [.str w, .str nm], .tup (.inl (.inl h)) (.cons (.str _) (.cons (.str _) .nil)), .tup (.inl (.inl h')) (.cons (.str _) (.cons (.str _) .nil)), sh, sh, ?_⟩
  have e : PyData.eqv (.tuple [.str w, .str nm]) (.tuple [.str w, .str nm]) = true := by simp [PyData.eqv, PyData.eqvAll]
  rw [e]
  exact k
def spRefB (T1 T2 T3 B C : Addr) : Sp := fun vs H Q _ => ∃ (p c b : Addr) (q : Bx) (n : Int), vs = [.ref p, .ref b] ∧ Wd (TLs T1 T2 T3) B C p c b q H n H ∧ n + 100 < 1048576 ∧ ∀ H', Wd (TLs T1 T2 T3) B C p c b q H (n + 20) H' → Q (.bl true) H'
section
variable {P : Program} {w : World} {K : PySem.W.Frag} {mg : Str → Option Value} {base : Heap} {a : Adr}
set_option maxHeartbeats 4000000
theorem ok_refB (T : Txt K mg a) {c1 Tb1 Tb2 Tb3 : Addr} (nes : Nes Tb1 Tb2 Tb3) (FC : FnC K "_law_refused_right" "_law_refused_right" s__law_refused_right a._law_refused_right c1) (TB1 : LamX.TabB base mg c1 Tb1) : FnG P w K mg base CX0 30 a._law_refused_right (spRefB Tb1 Tb2 Tb3 a.Box a.Place) := by
  have G__law_draw : FnR P w K mg base CX0 1 a._law_draw spPDraw := ok_pdraw T
  have G__law_pick : FnR P w K mg base CX0 2 a._law_pick spPick := ok_pick T
  have G__law_built_place : FnR P w K mg base CX0 6 a._law_built_place (spBuiltP a.Place) := ok_builtP T
  have G_Box_init : FnR P w K mg base (CX P w) 11 a.Box_init (spBInitA K a.Box a.Place a.BadPlace) := ok_bxinitA T
  have G_inside : FnR P w K mg base (CX P w) 13 a.Box_inside (spInside K a.Box a.Place a.BadPlace) := ok_inside T
  have G_Box_call : FnR P w K mg base (CX P w) 6 a.Box_call (spBCallX K a.BadSize) := ok_bcallX T
  refine FC.okG sc__law_refused_right (fun _ _ _ _ _ _ us hl => match us, hl with | [_, _], _ => rfl) (fun vs H Q E h => by obtain ⟨p, c, b, q, n, rfl, _⟩ := h; rfl) (fun A outer s H vs Q E hr hg h => ?_)
  obtain ⟨p, c, b, q, n, rfl, W0, hn, k⟩ := h
  refine ⟨_, (pss_cons (ps_set (i := 4) sc__law_refused_right.nd rfl (Or.inr rfl) (pe_callR G__law_pick (hr.mono (by decide)) T.m__law_pick T.k__law_pick pass0 (pa_cons (pv 0) (pa_cons (pe_lst (pa_cons pe_non (pa_cons pe_str (pa_cons pe_bl (pa_cons (pe_tup (pa_cons pe_int (pa_cons pe_int pa_nil))) (pa_cons (pe_lst (pa_cons pe_int pa_nil)) (pa_cons pe_dnewK (pa_cons pe_str (pa_cons pe_bl pa_nil))))))))) pa_nil))))
      (pss_cons (ps_set (i := 2) sc__law_refused_right.nd rfl (Or.inr rfl) (pe_callR G__law_draw (hr.mono (by decide)) T.m__law_draw T.k__law_draw pass0 (pa_cons (pv 0) (pa_cons pe_int pa_nil))))
      (pss_cons (ps_set (i := 6) sc__law_refused_right.nd rfl (Or.inr rfl) (pe_lc (own := [("_law_k", 7)]) (g := gName 7) (by rfl) sc__law_refused_right.nd (pi_range1 rfl T.n_range (pa_cons pe_int pa_nil)) (blkOk_by (own := [("_law_k", 7)]) (N := ["_law_pen_here", "_law_box", "_law_at_here", "_law_due", "_law_odd", "_law_size", "_law_some", "_law_k"]) (sc := defScope s__law_refused_right) (by decide +kernel)) (fun _ _ _ _ _ => (pg_name (i := 7) sc__law_refused_right.nd rfl (Or.inl rfl))) (fun _ _ _ _ _ => pts_nil) (fun _ _ _ _ _ => (pe_ifExp (pt_cmpR op_ge (pv 7) (pv 2) (nomark _)) (pv 4) (pe_callR G__law_built_place (hr.mono (by decide)) T.m__law_built_place T.k__law_built_place pass0 (pa_cons (pv 0) (pa_cons (pe_tup (pa_cons pe_int (pa_cons (pv 7) (pa_cons pe_int pa_nil)))) pa_nil)))))))
      (pss_cons (ps_set (i := 3) sc__law_refused_right.nd rfl (Or.inl rfl) (pe_tup (pa_cons pe_str (pa_cons (pe_ix ix_list (pe_lst (pa_cons pe_str (pa_cons pe_str (pa_cons pe_str (pa_cons pe_str pa_nil))))) (pv 2) (fun _ _ => rfl)) pa_nil))))
      (pss_cons (ps_if (pt_cmpR (op_neD hr.units) (pe_heard (k := 20) (TL := TLs Tb1 Tb2 Tb3) T rfl TB1 rfl (in_TL1 _ _ _) (un_TL1 nes) (hr.mono (by decide)) (LamX.lamS_by (sc := defScope s__law_refused_right) (by decide +kernel)) rfl (fun _ _ _ _ _ => rfl) (fun A outer s H E f c' hr' => pe_makeRR T.M_Box G_Box_init (hr'.mono (by decide)) T.m_Box (passUp (takes_of rfl rfl rfl rfl)) (pa_cons (pe_ix (show IxR _ (rIxL K) from ix_list) (pv 6) pe_int (fun _ _ => rfl)) (pa_cons (pe_ix (show IxR _ (rIxL K) from ix_list) (pv 6) pe_int (fun _ _ => rfl)) (pa_cons (pe_ix (show IxR _ (rIxL K) from ix_list) (pv 6) pe_int (fun _ _ => rfl)) (pa_cons (pe_ix (show IxR _ (rIxL K) from ix_list) (pv 6) pe_int (fun _ _ => rfl)) pa_nil)))))) (pv 3) (nomark _))
          (pss_one (ps_ret pe_bl))
          pss_nil)
      (pss_cons (ps_if (pt_cmpR (op_neD hr.units) (pe_heard (k := 20) (TL := TLs Tb1 Tb2 Tb3) T rfl TB1 rfl (in_TL1 _ _ _) (un_TL1 nes) (hr.mono (by decide)) (LamX.lamS_by (sc := defScope s__law_refused_right) (by decide +kernel)) rfl (fun _ _ _ _ _ => rfl) (fun A outer s H E f c' hr' => ClX.pe_cmeth (pe_glob (v := .ref a.Box) rfl T.m_Box rfl) T.cr_Box T.cm_inside G_inside (hr'.mono (by decide)) (passUp (takes_of rfl rfl rfl rfl)) (pa_cons (pv 4) pa_nil))) (pe_tup (pa_cons pe_str (pa_cons pe_str pa_nil))) (nomark _))
          (pss_one (ps_ret pe_bl))
          pss_nil)
      (pss_cons (ps_set (i := 5) sc__law_refused_right.nd rfl (Or.inr rfl) (pe_callR G__law_pick (hr.mono (by decide)) T.m__law_pick T.k__law_pick pass0 (pa_cons (pv 0) (pa_cons (pe_lst (pa_cons pe_int (pa_cons (pe_un un_neg pe_int) (pa_cons pe_non (pa_cons pe_bl (pa_cons pe_str (pa_cons (pe_tup (pa_cons pe_int pa_nil)) (pa_cons (pe_op op_sub pe_int (pe_op (op_powK 30) pe_int pe_int)) pa_nil)))))))) pa_nil))))
      (pss_cons (ps_if (pt_cmpR (op_neD hr.units) (pe_heard (k := 20) (TL := TLs Tb1 Tb2 Tb3) T rfl TB1 rfl (in_TL1 _ _ _) (un_TL1 nes) (hr.mono (by decide)) (LamX.lamS_by (sc := defScope s__law_refused_right) (by decide +kernel)) rfl (fun _ _ _ _ _ => rfl) (fun A outer s H E f c' hr' => pe_callOI (pv 1) ⟨T.o_Box_call, T.f_Box_call, T.fi_Box_call⟩ G_Box_call (hr'.mono (by decide)) (passUp (takes_of rfl rfl rfl rfl)) (pa_cons (pv 5) (pa_cons (pv 5) pa_nil)))) (pe_tup (pa_cons pe_str (pa_cons pe_str pa_nil))) (nomark _))
          (pss_one (ps_ret pe_bl))
          pss_nil)
      (pss_one (ps_ret (pe_cmpR (op_eqD hr.units) (pe_heard (k := 20) (TL := TLs Tb1 Tb2 Tb3) T rfl TB1 rfl (in_TL1 _ _ _) (un_TL1 nes) (hr.mono (by decide)) (LamX.lamS_by (sc := defScope s__law_refused_right) (by decide +kernel)) rfl (fun _ _ _ _ _ => rfl) (fun A outer s H E f c' hr' => pe_callOI (pv 1) ⟨T.o_Box_call, T.f_Box_call, T.fi_Box_call⟩ G_Box_call (hr'.mono (by decide)) (passUp (takes_of rfl rfl rfl rfl)) (pa_cons pe_int (pa_cons (pv 5) pa_nil)))) (pe_tup (pa_cons pe_str (pa_cons pe_str pa_nil))) (nomark _)))))))))))), ?_⟩
  refine tSeq_step fun R e1 => ?_
  simp only [tSeq, tIfS, tTest, tB, tAnd, tOr, tNot, tAndV, tOrV, tNotV, tIf, tOp, tUn, tChain, rEq, rNe, rI0, rI, rU, tCallR, tCons, tNil, tC, tVar, tRet, tRetN, tTup_k, tLst_k, tCB, tNext, tAsg, gName, gTup, gCons, gNil, tDrop, tPar, tFld, ClX.tCVal, tPropR, rBin, rBinT, rNeOwn, rSetL_k, gSub, tMakeK_k, tMethR, rInO, tDNewK_k, tYes, wipe, tMakeR_k, tSMeth, tSMethK, rMulS, decide_true, tNever, sFld, rIsiT, and_false, rListOf, rTupOf, rLenSeq, rIxL, rIxT, rIxS, rCat_k, rRep_k, rSlL_k, rSlS, rNewStrs_k, rAppend_k, tBM, tBM0, tM0, tM1, tSl, tNoPart, tPart, tLc_k, tFor_k, iList, iTup, iEnumT, iRng1, iRng2, iRng2L, iStr, L2.start, List.map, List.length_cons, List.length_nil, List.cons_append, List.nil_append, List.getElem?_cons_succ, List.getElem?_cons_zero, Option.some.injEq, V.int.injEq, V.bl.injEq, V.str.injEq, V.ref.injEq, exists_eq_left', exists_eq_left, and_assoc, exists_and_left, exists_eq, exists_eq', true_and, and_true, List.set_cons_zero, List.set_cons_succ, List.set, decide_eq_true_eq, Bool.not_eq_true', if_true, if_false, rIx, cx_K, nox_K, List.replicate_succ, List.replicate_zero, Nat.reduceSub, Bool.true_eq_false, Bool.false_eq_true, Nat.reduceAdd, List.cons.injEq, reduceCtorEq, false_and, false_or, or_false, tAug, rSetO, rStrO, rIsKp, tXk, tDGet, tDIn, tDNotIn, sDPut, rUn, rBinI, rBinR, rJoin, tJs, tOrT, rIsi, tCallOI, rBinT, tFCall, tMakeL, tCMethK, ClX.tCMeth, tCall, tPar3]
  refine kNew.mk (by show 2 ≤ sizeLine; decide) fun a1 H1 f1 => kNew.mk (by show 1 ≤ sizeLine; decide) fun a2 H2 f2 => kN.mk fun a3 H3 f3 => kNew.mk (by show 8 ≤ sizeLine; decide) fun lo H4 f4 => ?_
  have W4 := (((W0.on f1.same).on f2.same).on f3.same).on f4.same
  have nlo := (((W0.on f1.same).on f2.same).on f3.same).pen.at_p f4.new
  refine ⟨p, c, lo, n, _, rfl, W4.pen, by omega, f4.at_, nlo.1, by show 0 < 8; decide, by show 8 < 1073741824; decide, fun v H5 hv s5 P5 => ?_⟩
  have W5 := W4.go s5 P5
  have od : OddP H5 v := by
    have o1 : OddP H5 (.ref a1) := .tup (W4.pen.keep s5 (f4.get (f3.get (f2.get f1.at_))) (by intro _ z; cases z))
    have n2 : a2 ≠ p := (((W0.on f1.same)).pen.at_p f2.new).1
    have o2 : OddP H5 (.ref a2) := .lst (s5 _ _ n2 (f4.get (f3.get f2.at_)))
    have o3 : OddP H5 (.ref a3) := .dic (W4.pen.keep s5 (f4.get f3.at_) (by intro _ z; cases z))
    simp only [List.mem_cons, List.not_mem_nil, or_false] at hv
    rcases hv with rfl | rfl | rfl | rfl | rfl | rfl | rfl | rfl
    · exact .non
    · exact .str _
    · exact .bl _
    · exact o1
    · exact o2
    · exact o3
    · exact .str _
    · exact .bl _
  clear hv nlo W4 s5 P5 f1 f2 f3 f4
  subst e1
  refine tSeq_step fun R e1 => ?_
  simp only [tSeq, tIfS, tTest, tB, tAnd, tOr, tNot, tAndV, tOrV, tNotV, tIf, tOp, tUn, tChain, rEq, rNe, rI0, rI, rU, tCallR, tCons, tNil, tC, tVar, tRet, tRetN, tTup_k, tLst_k, tCB, tNext, tAsg, gName, gTup, gCons, gNil, tDrop, tPar, tFld, ClX.tCVal, tPropR, rBin, rBinT, rNeOwn, rSetL_k, gSub, tMakeK_k, tMethR, rInO, tDNewK_k, tYes, wipe, tMakeR_k, tSMeth, tSMethK, rMulS, decide_true, tNever, sFld, rIsiT, and_false, rListOf, rTupOf, rLenSeq, rIxL, rIxT, rIxS, rCat_k, rRep_k, rSlL_k, rSlS, rNewStrs_k, rAppend_k, tBM, tBM0, tM0, tM1, tSl, tNoPart, tPart, tLc_k, tFor_k, iList, iTup, iEnumT, iRng1, iRng2, iRng2L, iStr, L2.start, List.map, List.length_cons, List.length_nil, List.cons_append, List.nil_append, List.getElem?_cons_succ, List.getElem?_cons_zero, Option.some.injEq, V.int.injEq, V.bl.injEq, V.str.injEq, V.ref.injEq, exists_eq_left', exists_eq_left, and_assoc, exists_and_left, exists_eq, exists_eq', true_and, and_true, List.set_cons_zero, List.set_cons_succ, List.set, decide_eq_true_eq, Bool.not_eq_true', if_true, if_false, rIx, cx_K, nox_K, List.replicate_succ, List.replicate_zero, Nat.reduceSub, Bool.true_eq_false, Bool.false_eq_true, Nat.reduceAdd, List.cons.injEq, reduceCtorEq, false_and, false_or, or_false, tAug, rSetO, rStrO, rIsKp, tXk, tDGet, tDIn, tDNotIn, sDPut, rUn, rBinI, rBinR, rJoin, tJs, tOrT, rIsi, tCallOI, rBinT, tFCall, tMakeL, tCMethK, ClX.tCMeth, tCall, tPar3]
  refine ⟨p, c, 4, _, rfl, W5.pen, by omega, by decide, by decide, fun z H6 z0 z1 s6 P6 => ?_⟩
  have W6 := W5.go s6 P6
  have od6 := od.extB W5.pen (ExtB.but s6)
  clear od s6 P6
  subst e1
  obtain ⟨m, rfl⟩ : ∃ m : Nat, z = (m : Int) := ⟨z.toNat, by omega⟩
  have hm : m < 4 := by omega
  clear z0 z1
  refine tSeq_step fun R e1 => ?_
  simp only [tSeq, tIfS, tTest, tB, tAnd, tOr, tNot, tAndV, tOrV, tNotV, tIf, tOp, tUn, tChain, rEq, rNe, rI0, rI, rU, tCallR, tCons, tNil, tC, tVar, tRet, tRetN, tTup_k, tLst_k, tCB, tNext, tAsg, gName, gTup, gCons, gNil, tDrop, tPar, tFld, ClX.tCVal, tPropR, rBin, rBinT, rNeOwn, rSetL_k, gSub, tMakeK_k, tMethR, rInO, tDNewK_k, tYes, wipe, tMakeR_k, tSMeth, tSMethK, rMulS, decide_true, tNever, sFld, rIsiT, and_false, rListOf, rTupOf, rLenSeq, rIxL, rIxT, rIxS, rCat_k, rRep_k, rSlL_k, rSlS, rNewStrs_k, rAppend_k, tBM, tBM0, tM0, tM1, tSl, tNoPart, tPart, tLc_k, tFor_k, iList, iTup, iEnumT, iRng1, iRng2, iRng2L, iStr, L2.start, List.map, List.length_cons, List.length_nil, List.cons_append, List.nil_append, List.getElem?_cons_succ, List.getElem?_cons_zero, Option.some.injEq, V.int.injEq, V.bl.injEq, V.str.injEq, V.ref.injEq, exists_eq_left', exists_eq_left, and_assoc, exists_and_left, exists_eq, exists_eq', true_and, and_true, List.set_cons_zero, List.set_cons_succ, List.set, decide_eq_true_eq, Bool.not_eq_true', if_true, if_false, rIx, cx_K, nox_K, List.replicate_succ, List.replicate_zero, Nat.reduceSub, Bool.true_eq_false, Bool.false_eq_true, Nat.reduceAdd, List.cons.injEq, reduceCtorEq, false_and, false_or, or_false, tAug, rSetO, rStrO, rIsKp, tXk, tDGet, tDIn, tDNotIn, sDPut, rUn, rBinI, rBinR, rJoin, tJs, tOrT, rIsi, tCallOI, rBinT, tFCall, tMakeL, tCMethK, ClX.tCMeth, tCall, tPar3]
  refine ⟨by decide, by decide, ?_⟩
  refine kLc.it walk_range (fun D j H' => ∃ vs : List V, vs.length = j ∧ SameBut p H6 H' ∧ Pen H' p c (n + 2 + (j : Nat)) ∧ D ≠ p ∧ c ≠ D ∧ H6 D = none ∧ H' D = some (.lst vs) ∧ ∀ i u, vs[i]? = some u → (i < m → InV a.Place H' u ⟨0, (i : Nat), 0⟩) ∧ (m ≤ i → u = v))
    (fun D H' f => ⟨[], rfl, SameBut.of f.same, (W6.pen.same f.same).le (by show n + 1 + 1 ≤ n + 2 + ((0 : Nat) : Int); omega), (W6.pen.at_p f.new).1, (W6.pen.at_p f.new).2, f.new, f.at_, fun i u h => nil_at h⟩) (fun _ _ _ _ => trivial) (fun D j xv H7 H8 hj hI hY => ?_) fun D H7 hI => ?_
  · obtain ⟨vs, hl, sB, P7, Dp, cD, nD, aD, hv⟩ := hI
    obtain ⟨rfl, rfl⟩ := hY
    have hj : j < 4 := hj
    simp only [tSeq, tIfS, tTest, tB, tAnd, tOr, tNot, tAndV, tOrV, tNotV, tIf, tOp, tUn, tChain, rEq, rNe, rI0, rI, rU, tCallR, tCons, tNil, tC, tVar, tRet, tRetN, tTup_k, tLst_k, tCB, tNext, tAsg, gName, gTup, gCons, gNil, tDrop, tPar, tFld, ClX.tCVal, tPropR, rBin, rBinT, rNeOwn, rSetL_k, gSub, tMakeK_k, tMethR, rInO, tDNewK_k, tYes, wipe, tMakeR_k, tSMeth, tSMethK, rMulS, decide_true, tNever, sFld, rIsiT, and_false, rListOf, rTupOf, rLenSeq, rIxL, rIxT, rIxS, rCat_k, rRep_k, rSlL_k, rSlS, rNewStrs_k, rAppend_k, tBM, tBM0, tM0, tM1, tSl, tNoPart, tPart, tLc_k, tFor_k, iList, iTup, iEnumT, iRng1, iRng2, iRng2L, iStr, L2.start, List.map, List.length_cons, List.length_nil, List.cons_append, List.nil_append, List.getElem?_cons_succ, List.getElem?_cons_zero, Option.some.injEq, V.int.injEq, V.bl.injEq, V.str.injEq, V.ref.injEq, exists_eq_left', exists_eq_left, and_assoc, exists_and_left, exists_eq, exists_eq', true_and, and_true, List.set_cons_zero, List.set_cons_succ, List.set, decide_eq_true_eq, Bool.not_eq_true', if_true, if_false, rIx, cx_K, nox_K, List.replicate_succ, List.replicate_zero, Nat.reduceSub, Bool.true_eq_false, Bool.false_eq_true, Nat.reduceAdd, List.cons.injEq, reduceCtorEq, false_and, false_or, or_false, tAug, rSetO, rStrO, rIsKp, tXk, tDGet, tDIn, tDNotIn, sDPut, rUn, rBinI, rBinR, rJoin, tJs, tOrT, rIsi, tCallOI, rBinT, tFCall, tMakeL, tCMethK, ClX.tCMeth, tCall, tPar3]
    have add : ∀ y H9, SameBut p H8 H9 → Pen H9 p c (n + 2 + ((j + 1 : Nat) : Int)) → ((j < m → InV a.Place H9 y ⟨0, (j : Nat), 0⟩) ∧ (m ≤ j → y = v)) → kApp D (fun H' => ∃ vs : List V, vs.length = j + 1 ∧ SameBut p H6 H' ∧ Pen H' p c (n + 2 + ((j + 1 : Nat) : Int)) ∧ D ≠ p ∧ c ≠ D ∧ H6 D = none ∧ H' D = some (.lst vs) ∧ ∀ i u, vs[i]? = some u → (i < m → InV a.Place H' u ⟨0, (i : Nat), 0⟩) ∧ (m ≤ i → u = v)) y H9 := fun y H9 s9 P9 hy => by
      have a9 := s9 _ _ Dp aD
      refine ⟨vs, a9, Nat.lt_of_lt_of_le (show vs.length < 5 by omega) (by decide), vs ++ [y], by rw [List.length_append, hl]; rfl, fun b o nb e => ?_, P9.put Dp cD, Dp, cD, nD, upd_same, fun i u hu => ?_⟩
      · rw [upd_ne (ne_of_none e nD)]
        exact s9 _ _ nb (sB _ _ nb e)
      · have sD : SameBut D H9 (upd H9 D (.lst (vs ++ [y]))) := SameBut.upd
        by_cases hi : i < vs.length
        · rw [List.getElem?_append_left hi] at hu
          obtain ⟨g1, g2⟩ := hv i u hu
          exact ⟨fun h => ((g1 h).pen P7 s9).but a9 sD, g2⟩
        · rw [List.getElem?_append_right (by omega)] at hu
          have hi0 : i - vs.length = 0 := by
            match hz : i - vs.length with
            | 0 => rfl
            | m + 1 => rw [hz] at hu; cases hu
          rw [hi0] at hu
          cases hu
          have : i = j := by omega
          subst this
          exact ⟨fun h => (hy.1 h).but a9 sD, hy.2⟩
    by_cases hmj : (m : Int) ≤ 0 + (j : Int)
    · rw [if_pos hmj]
      exact add v H8 (fun _ _ _ e => e) (P7.le (by push_cast; omega)) ⟨fun h => absurd h (by omega), fun _ => rfl⟩
    · rw [if_neg hmj]
      refine kNew.mk (by show 3 ≤ sizeLine; decide) fun t H9 f9 => ⟨p, c, t, ⟨0, 0 + (j : Int), 0⟩, _, rfl, P7.same f9.same, by omega, f9.at_, fun y H10 s10 P10 i10 => ?_⟩
      exact add y H10 ((SameBut.of f9.same).trans s10) (P10.le (by push_cast; omega)) ⟨fun _ => by rw [Int.zero_add] at i10; exact i10, fun h => absurd h (by omega)⟩
  · obtain ⟨vs, hl, sB, P7, Dp, cD, nD, aD, hv⟩ := hI
    have W7 := W6.go sB P7
    have od7 := od6.extB W6.pen (ExtB.but sB)
    clear od6 W6 W5 sB P7 cD nD
    subst e1
    refine tSeq_step fun R e1 => ?_
    simp only [tSeq, tIfS, tTest, tB, tAnd, tOr, tNot, tAndV, tOrV, tNotV, tIf, tOp, tUn, tChain, rEq, rNe, rI0, rI, rU, tCallR, tCons, tNil, tC, tVar, tRet, tRetN, tTup_k, tLst_k, tCB, tNext, tAsg, gName, gTup, gCons, gNil, tDrop, tPar, tFld, ClX.tCVal, tPropR, rBin, rBinT, rNeOwn, rSetL_k, gSub, tMakeK_k, tMethR, rInO, tDNewK_k, tYes, wipe, tMakeR_k, tSMeth, tSMethK, rMulS, decide_true, tNever, sFld, rIsiT, and_false, rListOf, rTupOf, rLenSeq, rIxL, rIxT, rIxS, rCat_k, rRep_k, rSlL_k, rSlS, rNewStrs_k, rAppend_k, tBM, tBM0, tM0, tM1, tSl, tNoPart, tPart, tLc_k, tFor_k, iList, iTup, iEnumT, iRng1, iRng2, iRng2L, iStr, L2.start, List.map, List.length_cons, List.length_nil, List.cons_append, List.nil_append, List.getElem?_cons_succ, List.getElem?_cons_zero, Option.some.injEq, V.int.injEq, V.bl.injEq, V.str.injEq, V.ref.injEq, exists_eq_left', exists_eq_left, and_assoc, exists_and_left, exists_eq, exists_eq', true_and, and_true, List.set_cons_zero, List.set_cons_succ, List.set, decide_eq_true_eq, Bool.not_eq_true', if_true, if_false, rIx, cx_K, nox_K, List.replicate_succ, List.replicate_zero, Nat.reduceSub, Bool.true_eq_false, Bool.false_eq_true, Nat.reduceAdd, List.cons.injEq, reduceCtorEq, false_and, false_or, or_false, tAug, rSetO, rStrO, rIsKp, tXk, tDGet, tDIn, tDNotIn, sDPut, rUn, rBinI, rBinR, rJoin, tJs, tOrT, rIsi, tCallOI, rBinT, tFCall, tMakeL, tCMethK, ClX.tCMeth, tCall, tPar3]
    refine kNew.mk (by show 4 ≤ sizeLine; decide) fun ln H8 f8 => ?_
    obtain ⟨nm, hn1, hn2, hsh⟩ := x0y hm
    refine ⟨ln, rfl, _, SqL.of f8.at_, _, hn1, kNew.mk (by show 2 ≤ sizeLine; decide) fun td H9 f9 => ?_⟩
    have W9 := (W7.on f8.same).on f9.same
    have od9 := (od7.same f8.same).same f9.same
    have s79 := f8.same.trans f9.same
    have aD9 := s79 _ _ aD
    have hv9 : ∀ i u, vs[i]? = some u → (i < m → InV a.Place H9 u ⟨0, (i : Nat), 0⟩) ∧ (m ≤ i → u = v) := fun i u hu => ⟨fun h => ((hv i u hu).1 h).same s79, (hv i u hu).2⟩
    have td9 := f9.at_
    clear hv aD W7 od7 f8 f9 s79
    subst e1
    refine tSeq_step fun R e1 => ?_
    simp only [tSeq, tIfS, tTest, tB, tAnd, tOr, tNot, tAndV, tOrV, tNotV, tIf, tOp, tUn, tChain, rEq, rNe, rI0, rI, rU, tCallR, tCons, tNil, tC, tVar, tRet, tRetN, tTup_k, tLst_k, tCB, tNext, tAsg, gName, gTup, gCons, gNil, tDrop, tPar, tFld, ClX.tCVal, tPropR, rBin, rBinT, rNeOwn, rSetL_k, gSub, tMakeK_k, tMethR, rInO, tDNewK_k, tYes, wipe, tMakeR_k, tSMeth, tSMethK, rMulS, decide_true, tNever, sFld, rIsiT, and_false, rListOf, rTupOf, rLenSeq, rIxL, rIxT, rIxS, rCat_k, rRep_k, rSlL_k, rSlS, rNewStrs_k, rAppend_k, tBM, tBM0, tM0, tM1, tSl, tNoPart, tPart, tLc_k, tFor_k, iList, iTup, iEnumT, iRng1, iRng2, iRng2L, iStr, L2.start, List.map, List.length_cons, List.length_nil, List.cons_append, List.nil_append, List.getElem?_cons_succ, List.getElem?_cons_zero, Option.some.injEq, V.int.injEq, V.bl.injEq, V.str.injEq, V.ref.injEq, exists_eq_left', exists_eq_left, and_assoc, exists_and_left, exists_eq, exists_eq', true_and, and_true, List.set_cons_zero, List.set_cons_succ, List.set, decide_eq_true_eq, Bool.not_eq_true', if_true, if_false, rIx, cx_K, nox_K, List.replicate_succ, List.replicate_zero, Nat.reduceSub, Bool.true_eq_false, Bool.false_eq_true, Nat.reduceAdd, List.cons.injEq, reduceCtorEq, false_and, false_or, or_false, tAug, rSetO, rStrO, rIsKp, tXk, tDGet, tDIn, tDNotIn, sDPut, rUn, rBinI, rBinR, rJoin, tJs, tOrT, rIsi, tCallOI, rBinT, tFCall, tMakeL, tCMethK, ClX.tCMeth, tCall, tPar3]
    refine ⟨W9.tab, fun H10 e10 t10 => ?_⟩
    have W10 := W9.ext e10 t10
    have od10 := od9.extB W9.pen (ExtB.ext e10)
    have aD10 := e10 _ _ aD9 (fun _ z => by cases z)
    have td10 := e10 _ _ td9 (fun _ z => by cases z)
    have hv10 : ∀ i u, vs[i]? = some u → (i < m → InV a.Place H10 u ⟨0, (i : Nat), 0⟩) ∧ (m ≤ i → u = v) := fun i u hu => ⟨fun h => ((hv9 i u hu).1 h).extB W9.pen (ExtB.ext e10), (hv9 i u hu).2⟩
    clear hv9 aD9 W9 od9 td9 e10 t10
    unfold TTe
    simp only [tSeq, tIfS, tTest, tB, tAnd, tOr, tNot, tAndV, tOrV, tNotV, tIf, tOp, tUn, tChain, rEq, rNe, rI0, rI, rU, tCallR, tCons, tNil, tC, tVar, tRet, tRetN, tTup_k, tLst_k, tCB, tNext, tAsg, gName, gTup, gCons, gNil, tDrop, tPar, tFld, ClX.tCVal, tPropR, rBin, rBinT, rNeOwn, rSetL_k, gSub, tMakeK_k, tMethR, rInO, tDNewK_k, tYes, wipe, tMakeR_k, tSMeth, tSMethK, rMulS, decide_true, tNever, sFld, rIsiT, and_false, rListOf, rTupOf, rLenSeq, rIxL, rIxT, rIxS, rCat_k, rRep_k, rSlL_k, rSlS, rNewStrs_k, rAppend_k, tBM, tBM0, tM0, tM1, tSl, tNoPart, tPart, tLc_k, tFor_k, iList, iTup, iEnumT, iRng1, iRng2, iRng2L, iStr, L2.start, List.map, List.length_cons, List.length_nil, List.cons_append, List.nil_append, List.getElem?_cons_succ, List.getElem?_cons_zero, Option.some.injEq, V.int.injEq, V.bl.injEq, V.str.injEq, V.ref.injEq, exists_eq_left', exists_eq_left, and_assoc, exists_and_left, exists_eq, exists_eq', true_and, and_true, List.set_cons_zero, List.set_cons_succ, List.set, decide_eq_true_eq, Bool.not_eq_true', if_true, if_false, rIx, cx_K, nox_K, List.replicate_succ, List.replicate_zero, Nat.reduceSub, Bool.true_eq_false, Bool.false_eq_true, Nat.reduceAdd, List.cons.injEq, reduceCtorEq, false_and, false_or, or_false, tAug, rSetO, rStrO, rIsKp, tXk, tDGet, tDIn, tDNotIn, sDPut, rUn, rBinI, rBinR, rJoin, tJs, tOrT, rIsi, tCallOI, rBinT, tFCall, tMakeL, tCMethK, ClX.tCMeth, tCall, tPar3]
    match vs, hl with
    | [v0, v1, v2, v3], _ =>
    have sq := SqL.of (K := K) aD10
    refine ⟨_, sq, v0, rfl, _, sq, v1, rfl, _, sq, v2, rfl, _, sq, v3, rfl, ?_⟩
    refine kMake.mk fun x dx H11 s11 nx hx so => .inr ?_
    have out : ∀ H', (∀ b' o, b' ≠ x → H11 b' = some o → H' b' = some o) → Same H10 H' := fun H' m' b' o e => m' b' o (ne_of_none e nx) (s11 _ _ e)
    refine ⟨x, dx, v0, v1, v2, v3, m, nm, rfl, hx, hm, fun i hi u hu => ⟨⟨0, (i : Nat), 0⟩, (((hv10 i u hu).1 hi).same s11).inp (bd_small (by omega))⟩, fun u hu H' m' => ?_, hn2, fun H' m' => err_place fun t H12 s12 e12 => ?_⟩
    · rw [(hv10 m u hu).2 (Nat.le_refl m)]
      exact .inr (.inr ((od10.same (out H' m')).noPl T))
    have s := (out H' m').trans s12
    refine ne_same e12 (s _ _ td10) hsh ⟨_, rfl, ?_⟩
    rw [if_neg (by decide)]
    have W12 := W10.on s
    have od12 := od10.same s
    clear W10 od10 hv10 sq aD10 td10 e12 s12 s11 out
    subst e1
    refine tSeq_step fun R e1 => ?_
    simp only [tSeq, tIfS, tTest, tB, tAnd, tOr, tNot, tAndV, tOrV, tNotV, tIf, tOp, tUn, tChain, rEq, rNe, rI0, rI, rU, tCallR, tCons, tNil, tC, tVar, tRet, tRetN, tTup_k, tLst_k, tCB, tNext, tAsg, gName, gTup, gCons, gNil, tDrop, tPar, tFld, ClX.tCVal, tPropR, rBin, rBinT, rNeOwn, rSetL_k, gSub, tMakeK_k, tMethR, rInO, tDNewK_k, tYes, wipe, tMakeR_k, tSMeth, tSMethK, rMulS, decide_true, tNever, sFld, rIsiT, and_false, rListOf, rTupOf, rLenSeq, rIxL, rIxT, rIxS, rCat_k, rRep_k, rSlL_k, rSlS, rNewStrs_k, rAppend_k, tBM, tBM0, tM0, tM1, tSl, tNoPart, tPart, tLc_k, tFor_k, iList, iTup, iEnumT, iRng1, iRng2, iRng2L, iStr, L2.start, List.map, List.length_cons, List.length_nil, List.cons_append, List.nil_append, List.getElem?_cons_succ, List.getElem?_cons_zero, Option.some.injEq, V.int.injEq, V.bl.injEq, V.str.injEq, V.ref.injEq, exists_eq_left', exists_eq_left, and_assoc, exists_and_left, exists_eq, exists_eq', true_and, and_true, List.set_cons_zero, List.set_cons_succ, List.set, decide_eq_true_eq, Bool.not_eq_true', if_true, if_false, rIx, cx_K, nox_K, List.replicate_succ, List.replicate_zero, Nat.reduceSub, Bool.true_eq_false, Bool.false_eq_true, Nat.reduceAdd, List.cons.injEq, reduceCtorEq, false_and, false_or, or_false, tAug, rSetO, rStrO, rIsKp, tXk, tDGet, tDIn, tDNotIn, sDPut, rUn, rBinI, rBinR, rJoin, tJs, tOrT, rIsi, tCallOI, rBinT, tFCall, tMakeL, tCMethK, ClX.tCMeth, tCall, tPar3]
    refine ⟨W12.tab, fun H20 e20 t20 => ?_⟩
    have W20 := W12.ext e20 t20
    have od20 := od12.extB W12.pen (ExtB.ext e20)
    clear W12 od12 e20 t20
    unfold TTe
    simp only [tSeq, tIfS, tTest, tB, tAnd, tOr, tNot, tAndV, tOrV, tNotV, tIf, tOp, tUn, tChain, rEq, rNe, rI0, rI, rU, tCallR, tCons, tNil, tC, tVar, tRet, tRetN, tTup_k, tLst_k, tCB, tNext, tAsg, gName, gTup, gCons, gNil, tDrop, tPar, tFld, ClX.tCVal, tPropR, rBin, rBinT, rNeOwn, rSetL_k, gSub, tMakeK_k, tMethR, rInO, tDNewK_k, tYes, wipe, tMakeR_k, tSMeth, tSMethK, rMulS, decide_true, tNever, sFld, rIsiT, and_false, rListOf, rTupOf, rLenSeq, rIxL, rIxT, rIxS, rCat_k, rRep_k, rSlL_k, rSlS, rNewStrs_k, rAppend_k, tBM, tBM0, tM0, tM1, tSl, tNoPart, tPart, tLc_k, tFor_k, iList, iTup, iEnumT, iRng1, iRng2, iRng2L, iStr, L2.start, List.map, List.length_cons, List.length_nil, List.cons_append, List.nil_append, List.getElem?_cons_succ, List.getElem?_cons_zero, Option.some.injEq, V.int.injEq, V.bl.injEq, V.str.injEq, V.ref.injEq, exists_eq_left', exists_eq_left, and_assoc, exists_and_left, exists_eq, exists_eq', true_and, and_true, List.set_cons_zero, List.set_cons_succ, List.set, decide_eq_true_eq, Bool.not_eq_true', if_true, if_false, rIx, cx_K, nox_K, List.replicate_succ, List.replicate_zero, Nat.reduceSub, Bool.true_eq_false, Bool.false_eq_true, Nat.reduceAdd, List.cons.injEq, reduceCtorEq, false_and, false_or, or_false, tAug, rSetO, rStrO, rIsKp, tXk, tDGet, tDIn, tDNotIn, sDPut, rUn, rBinI, rBinR, rJoin, tJs, tOrT, rIsi, tCallOI, rBinT, tFCall, tMakeL, tCMethK, ClX.tCMeth, tCall, tPar3]
    refine ⟨v, rfl, .inr (.inr ⟨od20.noInt, err_place fun t H21 s21 e21 => kNew.mk (by show 2 ≤ sizeLine; decide) fun td2 H22 f22 => ?_⟩)⟩
    refine ne_same (f22.get e21) f22.at_ (by decide +kernel) ⟨_, rfl, ?_⟩
    rw [if_neg (by decide)]
    have W22 := W20.on (s21.trans f22.same)
    clear W20 od20 s21 e21 f22
    subst e1
    refine tSeq_step fun R e1 => ?_
    simp only [tIfS, tTest, tB, tAnd, tOr, tNot, tAndV, tOrV, tNotV, tIf, tOp, tUn, tChain, rEq, rNe, rI0, rI, rU, tCallR, tCons, tNil, tC, tVar, tRet, tRetN, tTup_k, tLst_k, tCB, tNext, tAsg, gName, gTup, gCons, gNil, tDrop, tPar, tFld, ClX.tCVal, tPropR, rBin, rBinT, rNeOwn, rSetL_k, gSub, tMakeK_k, tMethR, rInO, tDNewK_k, tYes, wipe, tMakeR_k, tSMeth, tSMethK, rMulS, decide_true, tNever, sFld, rIsiT, and_false, rListOf, rTupOf, rLenSeq, rIxL, rIxT, rIxS, rCat_k, rRep_k, rSlL_k, rSlS, rNewStrs_k, rAppend_k, tBM, tBM0, tM0, tM1, tSl, tNoPart, tPart, tLc_k, tFor_k, iList, iTup, iEnumT, iRng1, iRng2, iRng2L, iStr, L2.start, List.map, List.length_cons, List.length_nil, List.cons_append, List.nil_append, List.getElem?_cons_succ, List.getElem?_cons_zero, Option.some.injEq, V.int.injEq, V.bl.injEq, V.str.injEq, V.ref.injEq, exists_eq_left', exists_eq_left, and_assoc, exists_and_left, exists_eq, exists_eq', true_and, and_true, List.set_cons_zero, List.set_cons_succ, List.set, decide_eq_true_eq, Bool.not_eq_true', if_true, if_false, rIx, cx_K, nox_K, List.replicate_succ, List.replicate_zero, Nat.reduceSub, Bool.true_eq_false, Bool.false_eq_true, Nat.reduceAdd, List.cons.injEq, reduceCtorEq, false_and, false_or, or_false, tAug, rSetO, rStrO, rIsKp, tXk, tDGet, tDIn, tDNotIn, sDPut, rUn, rBinI, rBinR, rJoin, tJs, tOrT, rIsi, tCallOI, rBinT, tFCall, tMakeL, tCMethK, ClX.tCMeth, tCall, tPar3]
    refine kNew.mk (by show 1 ≤ sizeLine; decide) fun a1 H1 f1 => rPowK_lit 30 (by decide) ⟨_, rfl, kNew.mk (by show 7 ≤ sizeLine; decide) fun lo H2 f2 => ?_⟩
    have W23 := (W22.on f1.same).on f2.same
    have nlo := (W22.on f1.same).pen.at_p f2.new
    refine ⟨p, c, lo, _, _, rfl, W23.pen, by omega, f2.at_, nlo.1, by show 0 < 7; decide, by show 7 < 1073741824; decide, fun u H24 hu s24 P24 => ?_⟩
    have W24 := W23.go s24 P24
    have oz : OddZ H24 u := by
      have o1 : OddZ H24 (.ref a1) := .tup (W23.pen.keep s24 (f2.get f1.at_) (by intro _ z; cases z))
      have pp := powC_pos 30
      simp only [List.mem_cons, List.not_mem_nil, or_false] at hu
      rcases hu with rfl | rfl | rfl | rfl | rfl | rfl | rfl
      · exact .int (by decide)
      · exact .int (by decide)
      · exact .non
      · exact .bl _
      · exact .str _
      · exact o1
      · exact .int (by omega)
    clear hu nlo W22 W23 s24 P24 f1 f2
    subst e1
    refine tSeq_step fun R e1 => ?_
    simp only [tSeq, tIfS, tTest, tB, tAnd, tOr, tNot, tAndV, tOrV, tNotV, tIf, tOp, tUn, tChain, rEq, rNe, rI0, rI, rU, tCallR, tCons, tNil, tC, tVar, tRet, tRetN, tTup_k, tLst_k, tCB, tNext, tAsg, gName, gTup, gCons, gNil, tDrop, tPar, tFld, ClX.tCVal, tPropR, rBin, rBinT, rNeOwn, rSetL_k, gSub, tMakeK_k, tMethR, rInO, tDNewK_k, tYes, wipe, tMakeR_k, tSMeth, tSMethK, rMulS, decide_true, tNever, sFld, rIsiT, and_false, rListOf, rTupOf, rLenSeq, rIxL, rIxT, rIxS, rCat_k, rRep_k, rSlL_k, rSlS, rNewStrs_k, rAppend_k, tBM, tBM0, tM0, tM1, tSl, tNoPart, tPart, tLc_k, tFor_k, iList, iTup, iEnumT, iRng1, iRng2, iRng2L, iStr, L2.start, List.map, List.length_cons, List.length_nil, List.cons_append, List.nil_append, List.getElem?_cons_succ, List.getElem?_cons_zero, Option.some.injEq, V.int.injEq, V.bl.injEq, V.str.injEq, V.ref.injEq, exists_eq_left', exists_eq_left, and_assoc, exists_and_left, exists_eq, exists_eq', true_and, and_true, List.set_cons_zero, List.set_cons_succ, List.set, decide_eq_true_eq, Bool.not_eq_true', if_true, if_false, rIx, cx_K, nox_K, List.replicate_succ, List.replicate_zero, Nat.reduceSub, Bool.true_eq_false, Bool.false_eq_true, Nat.reduceAdd, List.cons.injEq, reduceCtorEq, false_and, false_or, or_false, tAug, rSetO, rStrO, rIsKp, tXk, tDGet, tDIn, tDNotIn, sDPut, rUn, rBinI, rBinR, rJoin, tJs, tOrT, rIsi, tCallOI, rBinT, tFCall, tMakeL, tCMethK, ClX.tCMeth, tCall, tPar3]
    refine ⟨W24.tab, fun H30 e30 t30 => ?_⟩
    have W30 := W24.ext e30 t30
    have oz30 := oz.extB W24.pen (ExtB.ext e30)
    clear W24 oz e30 t30
    unfold TTe
    simp only [tSeq, tIfS, tTest, tB, tAnd, tOr, tNot, tAndV, tOrV, tNotV, tIf, tOp, tUn, tChain, rEq, rNe, rI0, rI, rU, tCallR, tCons, tNil, tC, tVar, tRet, tRetN, tTup_k, tLst_k, tCB, tNext, tAsg, gName, gTup, gCons, gNil, tDrop, tPar, tFld, ClX.tCVal, tPropR, rBin, rBinT, rNeOwn, rSetL_k, gSub, tMakeK_k, tMethR, rInO, tDNewK_k, tYes, wipe, tMakeR_k, tSMeth, tSMethK, rMulS, decide_true, tNever, sFld, rIsiT, and_false, rListOf, rTupOf, rLenSeq, rIxL, rIxT, rIxS, rCat_k, rRep_k, rSlL_k, rSlS, rNewStrs_k, rAppend_k, tBM, tBM0, tM0, tM1, tSl, tNoPart, tPart, tLc_k, tFor_k, iList, iTup, iEnumT, iRng1, iRng2, iRng2L, iStr, L2.start, List.map, List.length_cons, List.length_nil, List.cons_append, List.nil_append, List.getElem?_cons_succ, List.getElem?_cons_zero, Option.some.injEq, V.int.injEq, V.bl.injEq, V.str.injEq, V.ref.injEq, exists_eq_left', exists_eq_left, and_assoc, exists_and_left, exists_eq, exists_eq', true_and, and_true, List.set_cons_zero, List.set_cons_succ, List.set, decide_eq_true_eq, Bool.not_eq_true', if_true, if_false, rIx, cx_K, nox_K, List.replicate_succ, List.replicate_zero, Nat.reduceSub, Bool.true_eq_false, Bool.false_eq_true, Nat.reduceAdd, List.cons.injEq, reduceCtorEq, false_and, false_or, or_false, tAug, rSetO, rStrO, rIsKp, tXk, tDGet, tDIn, tDNotIn, sDPut, rUn, rBinI, rBinR, rJoin, tJs, tOrT, rIsi, tCallOI, rBinT, tFCall, tMakeL, tCMethK, ClX.tCMeth, tCall, tPar3]
    refine ⟨W30.box.ins, b, u, u, rfl, .inl ⟨oz30.bad, err_size fun t H31 s31 e31 => kNew.mk (by show 2 ≤ sizeLine; decide) fun td3 H32 f32 => ?_⟩⟩
    refine ne_same (f32.get e31) f32.at_ (by decide +kernel) ⟨_, rfl, ?_⟩
    rw [if_neg (by decide)]
    have W32 := W30.on (s31.trans f32.same)
    have oz32 := oz30.same (s31.trans f32.same)
    clear W30 oz30 s31 e31 f32
    subst e1
    simp only [tSeq, tIfS, tTest, tB, tAnd, tOr, tNot, tAndV, tOrV, tNotV, tIf, tOp, tUn, tChain, rEq, rNe, rI0, rI, rU, tCallR, tCons, tNil, tC, tVar, tRet, tRetN, tTup_k, tLst_k, tCB, tNext, tAsg, gName, gTup, gCons, gNil, tDrop, tPar, tFld, ClX.tCVal, tPropR, rBin, rBinT, rNeOwn, rSetL_k, gSub, tMakeK_k, tMethR, rInO, tDNewK_k, tYes, wipe, tMakeR_k, tSMeth, tSMethK, rMulS, decide_true, tNever, sFld, rIsiT, and_false, rListOf, rTupOf, rLenSeq, rIxL, rIxT, rIxS, rCat_k, rRep_k, rSlL_k, rSlS, rNewStrs_k, rAppend_k, tBM, tBM0, tM0, tM1, tSl, tNoPart, tPart, tLc_k, tFor_k, iList, iTup, iEnumT, iRng1, iRng2, iRng2L, iStr, L2.start, List.map, List.length_cons, List.length_nil, List.cons_append, List.nil_append, List.getElem?_cons_succ, List.getElem?_cons_zero, Option.some.injEq, V.int.injEq, V.bl.injEq, V.str.injEq, V.ref.injEq, exists_eq_left', exists_eq_left, and_assoc, exists_and_left, exists_eq, exists_eq', true_and, and_true, List.set_cons_zero, List.set_cons_succ, List.set, decide_eq_true_eq, Bool.not_eq_true', if_true, if_false, rIx, cx_K, nox_K, List.replicate_succ, List.replicate_zero, Nat.reduceSub, Bool.true_eq_false, Bool.false_eq_true, Nat.reduceAdd, List.cons.injEq, reduceCtorEq, false_and, false_or, or_false, tAug, rSetO, rStrO, rIsKp, tXk, tDGet, tDIn, tDNotIn, sDPut, rUn, rBinI, rBinR, rJoin, tJs, tOrT, rIsi, tCallOI, rBinT, tFCall, tMakeL, tCMethK, ClX.tCMeth, tCall, tPar3]
    refine ⟨W32.tab, fun H40 e40 t40 => ?_⟩
    have W40 := W32.ext e40 t40
    have oz40 := oz32.extB W32.pen (ExtB.ext e40)
    clear W32 oz32 e40 t40
    unfold TTe
    simp only [tSeq, tIfS, tTest, tB, tAnd, tOr, tNot, tAndV, tOrV, tNotV, tIf, tOp, tUn, tChain, rEq, rNe, rI0, rI, rU, tCallR, tCons, tNil, tC, tVar, tRet, tRetN, tTup_k, tLst_k, tCB, tNext, tAsg, gName, gTup, gCons, gNil, tDrop, tPar, tFld, ClX.tCVal, tPropR, rBin, rBinT, rNeOwn, rSetL_k, gSub, tMakeK_k, tMethR, rInO, tDNewK_k, tYes, wipe, tMakeR_k, tSMeth, tSMethK, rMulS, decide_true, tNever, sFld, rIsiT, and_false, rListOf, rTupOf, rLenSeq, rIxL, rIxT, rIxS, rCat_k, rRep_k, rSlL_k, rSlS, rNewStrs_k, rAppend_k, tBM, tBM0, tM0, tM1, tSl, tNoPart, tPart, tLc_k, tFor_k, iList, iTup, iEnumT, iRng1, iRng2, iRng2L, iStr, L2.start, List.map, List.length_cons, List.length_nil, List.cons_append, List.nil_append, List.getElem?_cons_succ, List.getElem?_cons_zero, Option.some.injEq, V.int.injEq, V.bl.injEq, V.str.injEq, V.ref.injEq, exists_eq_left', exists_eq_left, and_assoc, exists_and_left, exists_eq, exists_eq', true_and, and_true, List.set_cons_zero, List.set_cons_succ, List.set, decide_eq_true_eq, Bool.not_eq_true', if_true, if_false, rIx, cx_K, nox_K, List.replicate_succ, List.replicate_zero, Nat.reduceSub, Bool.true_eq_false, Bool.false_eq_true, Nat.reduceAdd, List.cons.injEq, reduceCtorEq, false_and, false_or, or_false, tAug, rSetO, rStrO, rIsKp, tXk, tDGet, tDIn, tDNotIn, sDPut, rUn, rBinI, rBinR, rJoin, tJs, tOrT, rIsi, tCallOI, rBinT, tFCall, tMakeL, tCMethK, ClX.tCMeth, tCall, tPar3]
    refine ⟨W40.box.ins, b, .int 3, u, rfl, .inr ⟨3, rfl, by decide, oz40.bad, err_size fun t H41 s41 e41 => kNew.mk (by show 2 ≤ sizeLine; decide) fun td4 H42 f42 => ?_⟩⟩
    refine eq_same (f42.get e41) f42.at_ (by decide +kernel) ?_
    exact k _ ((W40.on (s41.trans f42.same)).le (by omega))
end
theorem powC12 : powC 12 = 1000000000000 := by
  unfold powC
  decide
theorem bd_ins {m : Int} (h : Bd1 m) : BdB (insB m) := ⟨⟨bd_zero, h, bd_zero⟩, ⟨bd_two, bd_neg h, bd_one⟩, ⟨bd_zero, h, bd_zero⟩, bd_two, bd_neg h, bd_one⟩
instance (n : Int) : Decidable (Wid n) := inferInstanceAs (Decidable (_ ∧ _))
theorem sizes_of {H : Hp} {l : Addr} (ts : List Addr) (zs : List (Int × Int)) (hl : H l = some (.lst (ts.map V.ref))) (h : ∀ p ∈ ts.zip zs, H p.1 = some (.tup [.int p.2.1, .int p.2.2])) (hn : ts.length = zs.length) : SizesAt H l zs :=
  ⟨ts, hl, hn, fun i t z ht hz => h (t, z) (List.mem_of_getElem? (List.getElem?_zip_eq_some.mpr ⟨ht, hz⟩))⟩
end Pf
end
section
namespace Pf
open PySem PySem.Spec PyProof.Rows L2 Ow StX
theorem tabs_upd {TL : List (Addr × Str)} {H : Hp} {l : Addr} {xs ys : List V} (t : LamX.Tabs TL H) (hl : H l = some (.lst xs)) : LamX.Tabs TL (upd H l (.lst ys)) := fun p hp => by
  obtain ⟨ps, h1, h2, h3⟩ := t p hp
  have ne : ∀ {b : Addr} {u : HO}, H b = some u → (∀ zs, u ≠ .lst zs) → (upd H l (.lst ys)) b = some u := fun {b u} e n => by
    rw [upd_ne (fun q => by rw [q, hl] at e; exact n xs (Option.some.inj e).symm)]
    exact e
  refine ⟨ps, ne h1 (fun _ z => by cases z), h2, fun pos cv hc => ?_⟩
  obtain ⟨c, e1, e2⟩ := h3 pos cv hc
  exact ⟨c, e1, ne e2 fun _ z => by unfold LamX.CodeO at z; cases z⟩
theorem ix4 {k : Nat} (h : k < 4) : ixN 4 (k : Int) = some k := by
  match k, h with
  | 0, _ => rfl
  | 1, _ => rfl
  | 2, _ => rfl
  | 3, _ => rfl
/-! ### bounds -/
/-- the four places of the bounds' box: f at the part of the place at, ints elsewhere -/
def uniP (f : Int) (part : Nat) : Pl := ⟨if part = 0 then f else 0, if part = 1 then f else 0, if part = 2 then f else 0⟩
def bndP (f : Int) (at_ part k : Nat) : Pl := if k = at_ then uniP f part else ⟨0, (k : Nat), 0⟩
def bndB (f : Int) (at_ part : Nat) : Bx := ⟨bndP f at_ part 0, bndP f at_ part 1, bndP f at_ part 2, bndP f at_ part 3⟩
theorem bd_uni {f : Int} {part : Nat} (h : Bd1 f) : BdP (uniP f part) := by
  refine ⟨?_, ?_, ?_⟩
  all_goals (show Bd1 (ite _ _ _); split; first | exact h | exact bd_zero)
  all_goals first | exact h | exact bd_zero
theorem bd_bnd {f : Int} {at_ part k : Nat} (h : Bd1 f) (hk : k < 4) : BdP (bndP f at_ part k) := by
  unfold bndP
  split
  · exact bd_uni h
  · refine ⟨bd_zero, ⟨?_, ?_⟩, bd_zero⟩
    · show -1000000000000 ≤ ((k : Nat) : Int); omega
    · show ((k : Nat) : Int) ≤ 1000000000000; omega
theorem bd_bndB {f : Int} {at_ part : Nat} (h : Bd1 f) : BdB (bndB f at_ part) := ⟨bd_bnd h (by decide), bd_bnd h (by decide), bd_bnd h (by decide), bd_bnd h (by decide)⟩
theorem abs64 {f : Int} (h1 : -10000000000000 ≤ f) (h2 : f ≤ 10000000000000) : f.natAbs < 2 ^ 64 := by
  have e : (2 : Nat) ^ 64 = 18446744073709551616 := by decide
  rw [e]
  omega
theorem one64 (p : Prop) [Decidable p] : (if p then 1 else 0 : Int).natAbs < 2 ^ 64 := by
  split <;> decide
theorem uni_at {f : Int} {part j : Nat} (hj : j < 3) : ([V.int (uniP f part).s, .int (uniP f part).o, .int (uniP f part).d])[j]? = some (.int (f * if (0 : Int) + (j : Int) = (part : Int) then 1 else 0)) := by
  have e : ∀ k : Nat, (if part = k then f else 0) = f * (if (0 : Int) + (k : Int) = (part : Int) then 1 else 0) := fun k => by
    by_cases h : part = k
    · rw [if_pos h, if_pos (by omega), Int.mul_one]
    · rw [if_neg h, if_neg (by omega), Int.mul_zero]
  match j, hj with
  | 0, _ => exact congrArg (fun x => some (V.int x)) (e 0)
  | 1, _ => exact congrArg (fun x => some (V.int x)) (e 1)
  | 2, _ => exact congrArg (fun x => some (V.int x)) (e 2)
def TupV (f : Int) (at_ part : Nat) (H : Hp) (k : Nat) (v : V) : Prop := ∃ t, v = .ref t ∧ TupP H t (bndP f at_ part k)
theorem tupV_stays (f : Int) (at_ part : Nat) : Stays (TupV f at_ part) := ⟨fun ⟨t, e, h⟩ s => ⟨t, e, h.same s⟩, fun ⟨t, e, h⟩ hl => ⟨t, e, by
  unfold TupP at *
  rw [upd_ne (fun z => by rw [z, hl] at h; cases h)]
  exact h⟩⟩
def PlaV (C : Addr) (f : Int) (at_ part : Nat) (H : Hp) (k : Nat) (v : V) : Prop := ∃ x, v = .ref x ∧ PlA H C x (bndP f at_ part k)
theorem plaV_stays (C : Addr) (f : Int) (at_ part : Nat) : Stays (PlaV C f at_ part) := ⟨fun ⟨t, e, h⟩ s => ⟨t, e, h.same s⟩, fun ⟨t, e, dx, h⟩ hl => ⟨t, e, dx, by
  rw [upd_ne (fun z => by rw [z, hl] at h; cases h)]
  exact h⟩⟩
theorem powC9 : powC 9 = 1000000000 := by
  unfold powC
  decide
theorem bd_mir {f : Int} {at_ part k : Nat} (hf : f = 1000000000000 ∨ f = -1000000000000) (hp : part < 3) (hk : k < 4) : BdP (mirP (bndP f at_ part k)) ↔ ¬ (k = at_ ∧ f < 0 ∧ part ≠ 1) := by
  unfold BdP Bd Bd1 mirP bndP uniP
  by_cases h : k = at_
  · rw [if_pos h]
    match part, hp with
    | 0, _ => simp only [if_true]; rcases hf with rfl | rfl <;> simp [h]
    | 1, _ => rcases hf with rfl | rfl <;> simp [h]
    | 2, _ => rcases hf with rfl | rfl <;> simp [h]
  · rw [if_neg h]
    simp only
    omega
/-- .. and at the end: the list of four values, the bad one at its place -/
structure Lf (a : Adr) (TL : List (Addr × Str)) (H0 : Hp) (p c lp : Addr) (ws : List V) (at_ : Nat) (n : Int) (H : Hp) : Prop where
  pen : Pen H p c n
  tab : LamX.Tabs TL H
  since : ExtB p H0 H
  lp : H lp = some (.lst ws)
  good : ∀ i, i < at_ → ∃ x z, ws[i]? = some (.ref x) ∧ PlA H a.Place x z ∧ BdP z
  bad : ∃ v, ws[at_]? = some v ∧ ((∃ i : Int, v = .int i ∧ ¬ Bd1 i) ∨ ∃ x z, v = .ref x ∧ PlA H a.Place x z ∧ ¬ BdP z)
theorem Lf.ext {a : Adr} {TL : List (Addr × Str)} {H0 H H' : Hp} {p c lp : Addr} {ws : List V} {at_ : Nat} {n : Int} (x : Lf a TL H0 p c lp ws at_ n H) (s : LamX.ExtN H H') (t : LamX.Tabs TL H') : Lf a TL H0 p c lp ws at_ n H' :=
  ⟨x.pen.ext s, t, x.since.trans (ExtB.ext s), s _ _ x.lp (by intro _ z; cases z), fun i hi => (x.good i hi).imp fun y => fun ⟨z, e, g, b⟩ => ⟨z, e, g.extB x.pen (ExtB.ext s), b⟩, by
    obtain ⟨v, e, h | ⟨y, z, e2, g, b⟩⟩ := x.bad
    · exact ⟨v, e, .inl h⟩
    · exact ⟨v, e, .inr ⟨y, z, e2, g.extB x.pen (ExtB.ext s), b⟩⟩⟩
theorem PlaceAt.updL {H : Hp} {C t l : Addr} {a b d : Int} {xs ys : List V} (h : PlaceAt H C t a b d) (hl : H l = some (.lst xs)) : PlaceAt (upd H l (.lst ys)) C t a b d := h.elim fun dx e => ⟨dx, by
  rw [upd_ne (fun z => by rw [z, hl] at e; cases e)]
  exact e⟩
theorem newP_mk {K : PySem.W.Frag} {C B : Addr} {H : Hp} {s o d : Int} {Q : VK} {E : XK} (k : NewP C H s o d Q) : kMake C (spPInitX K C B) E Q [.int s, .int o, .int d] H := newP_makeX k
/-- what stays known while bounds are tried -/
structure Bf (K : PySem.W.Frag) (a : Adr) (TL : List (Addr × Str)) (H0 : Hp) (p c b ls lp tb t0 t1 t2 t3 r0 r1 r2 r3 : Addr) (q : Bx) (u : Pl) (n : Int) (H : Hp) : Prop where
  pen : Pen H p c n
  tab : LamX.Tabs TL H
  since : ExtB p H0 H
  tb : TupP H tb u
  ls : H ls = some (.lst [.ref t0, .ref t1, .ref t2, .ref t3])
  lp : H lp = some (.lst [.ref r0, .ref r1, .ref r2, .ref r3])
  box : BoxAt H a.Box a.Place b q
  h0 : TupP H t0 q.x0
  h1 : TupP H t1 q.x1
  h2 : TupP H t2 q.y0
  h3 : TupP H t3 q.y1
  g0 : PlA H a.Place r0 q.x0
  g1 : PlA H a.Place r1 q.x1
  g2 : PlA H a.Place r2 q.y0
  g3 : PlA H a.Place r3 q.y1
section
variable {K : PySem.W.Frag} {a : Adr} {TL : List (Addr × Str)} {H0 H H' : Hp} {p c b ls lp tb t0 t1 t2 t3 r0 r1 r2 r3 : Addr} {q : Bx} {u : Pl} {n m : Int}
theorem Bf.on (x : Bf K a TL H0 p c b ls lp tb t0 t1 t2 t3 r0 r1 r2 r3 q u n H) (s : Same H H') : Bf K a TL H0 p c b ls lp tb t0 t1 t2 t3 r0 r1 r2 r3 q u n H' :=
  ⟨x.pen.same s, tabs_same x.tab s, x.since.trans (ExtB.same s), x.tb.same s, s _ _ x.ls, s _ _ x.lp, x.box.same s, x.h0.same s, x.h1.same s, x.h2.same s, x.h3.same s, x.g0.same s, x.g1.same s, x.g2.same s, x.g3.same s⟩
theorem TupP.ext {t : Addr} {q : Pl} (h : TupP H t q) (s : LamX.ExtN H H') : TupP H' t q := s _ _ h (by intro _ z; cases z)
theorem Bf.ext (x : Bf K a TL H0 p c b ls lp tb t0 t1 t2 t3 r0 r1 r2 r3 q u n H) (s : LamX.ExtN H H') (t : LamX.Tabs TL H') : Bf K a TL H0 p c b ls lp tb t0 t1 t2 t3 r0 r1 r2 r3 q u n H' :=
  ⟨x.pen.ext s, t, x.since.trans (ExtB.ext s), x.tb.ext s, s _ _ x.ls (by intro _ z; cases z), s _ _ x.lp (by intro _ z; cases z), x.box.extB x.pen (ExtB.ext s), x.h0.ext s, x.h1.ext s, x.h2.ext s, x.h3.ext s, x.g0.extB x.pen (ExtB.ext s), x.g1.extB x.pen (ExtB.ext s), x.g2.extB x.pen (ExtB.ext s), x.g3.extB x.pen (ExtB.ext s)⟩
end
def spBnd (T1 T2 T3 : Addr) : Sp := fun vs H Q _ => ∃ (p c : Addr) (n : Int), vs = [.ref p] ∧ Pen H p c n ∧ LamX.Tabs (TLs T1 T2 T3) H ∧ n + 100 < 1048576 ∧ ∀ H', ExtB p H H' → Pen H' p c (n + 20) → LamX.Tabs (TLs T1 T2 T3) H' → Q (.bl true) H'
section
variable {P : Program} {w : World} {K : PySem.W.Frag} {mg : Str → Option Value} {base : Heap} {a : Adr}
set_option maxHeartbeats 4000000
theorem ok_bounds (T : Txt K mg a) {c2 Tb1 Tb2 Tb3 : Addr} (nes : Nes Tb1 Tb2 Tb3) (FC : FnC K "_law_bounds_right" "_law_bounds_right" s__law_bounds_right a._law_bounds_right c2) (TB2 : LamX.TabB base mg c2 Tb2) : FnG P w K mg base CX0 30 a._law_bounds_right (spBnd Tb1 Tb2 Tb3) := by
  have G__law_draw : FnR P w K mg base CX0 1 a._law_draw spPDraw := ok_pdraw T
  have G__law_pick : FnR P w K mg base CX0 2 a._law_pick spPick := ok_pick T
  have G_Place_init : FnR P w K mg base (CX P w) 3 a.Place_init (spPInitX K a.Place a.BadPlace) := ok_p_initX T
  have G_Box_init : FnR P w K mg base (CX P w) 11 a.Box_init (spBInitA K a.Box a.Place a.BadPlace) := ok_bxinitA T
  have G_Box_invert : FnR P w K mg base (CX P w) 13 a.Box_invert (fun vs H Q E => spBInv a.Box a.Place vs H Q E ∨ spBInvX a.Box a.Place a.BadPlace vs H Q E) := FnR.or (ok_binv T) (ok_binvX T)
  have G__law_is : FnG P w K mg base CX0 8 a._law_is (spIs a.Box a.Place) := ok_is T
  have G__law_mirrored : FnR P w K mg base CX0 2 a._law_mirrored (spMirL K) := ok_mirL T
  refine FC.okG sc__law_bounds_right (fun _ _ _ _ _ _ us hl => match us, hl with | [_], _ => rfl) (fun vs H Q E h => by obtain ⟨p, c, n, rfl, _⟩ := h; rfl) (fun A outer s H vs Q E hr hg h => ?_)
  obtain ⟨p, c, n, rfl, P0, T0, hn, k⟩ := h
  refine ⟨_, (pss_cons (ps_asg (pe_tup (pa_cons (pe_callR G__law_pick (hr.mono (by decide)) T.m__law_pick T.k__law_pick pass0 (pa_cons (pv 0) (pa_cons (pe_lst (pa_cons (pe_op (op_powK 12) pe_int pe_int) (pa_cons (pe_op op_sub pe_int (pe_op (op_powK 12) pe_int pe_int)) pa_nil))) pa_nil))) (pa_cons (pe_callR G__law_draw (hr.mono (by decide)) T.m__law_draw T.k__law_draw pass0 (pa_cons (pv 0) (pa_cons pe_int pa_nil))) (pa_cons (pe_callR G__law_draw (hr.mono (by decide)) T.m__law_draw T.k__law_draw pass0 (pa_cons (pv 0) (pa_cons pe_int pa_nil))) pa_nil)))) (pg_tup rfl (pgs_cons (pg_name (i := 1) sc__law_bounds_right.nd rfl (Or.inr rfl)) (pgs_cons (pg_name (i := 2) sc__law_bounds_right.nd rfl (Or.inr rfl)) (pgs_cons (pg_name (i := 3) sc__law_bounds_right.nd rfl (Or.inr rfl)) pgs_nil)))))
      (pss_cons (ps_set (i := 4) sc__law_bounds_right.nd rfl (Or.inr rfl) (pe_ifExp (pt_cmpR op_gt (pv 1) pe_int (nomark _)) pe_int (pe_un un_neg pe_int)))
      (pss_cons (ps_set (i := 5) sc__law_bounds_right.nd rfl (Or.inr rfl) (pe_callTy call_tupleK (by rfl) T.n_tuple (by decide +kernel) (pa_cons (pe_lc (own := [("_law_k", 14)]) (g := gName 14) (by rfl) sc__law_bounds_right.nd (pi_range1 rfl T.n_range (pa_cons pe_int pa_nil)) (blkOk_by (own := [("_law_k", 14)]) (N := ["_law_pen_here", "_law_far", "_law_at_here", "_law_part", "_law_step", "_law_near", "_law_beyond", "_law_some", "_law_heard", "_law_is_let", "_law_name", "_law_odd", "_law_box", "_law_places", "_law_k", "_law_one"]) (sc := defScope s__law_bounds_right) (by decide +kernel)) (fun _ _ _ _ _ => (pg_name (i := 14) sc__law_bounds_right.nd rfl (Or.inl rfl))) (fun _ _ _ _ _ => pts_nil) (fun _ _ _ _ _ => (pe_op op_mulW (pv 1) (pe_callTy call_int1 (by rfl) T.n_int (by decide +kernel) (pa_cons (pe_cmpR op_eq (pv 14) (pv 3) (nomark _)) pa_nil))))) pa_nil)))
      (pss_cons (ps_set (i := 6) sc__law_bounds_right.nd rfl (Or.inl rfl) (pe_callTy call_tupleK (by rfl) T.n_tuple (by decide +kernel) (pa_cons (pe_lc (own := [("_law_k", 14)]) (g := gName 14) (by rfl) sc__law_bounds_right.nd (pi_range1 rfl T.n_range (pa_cons pe_int pa_nil)) (blkOk_by (own := [("_law_k", 14)]) (N := ["_law_pen_here", "_law_far", "_law_at_here", "_law_part", "_law_step", "_law_near", "_law_beyond", "_law_some", "_law_heard", "_law_is_let", "_law_name", "_law_odd", "_law_box", "_law_places", "_law_k", "_law_one"]) (sc := defScope s__law_bounds_right) (by decide +kernel)) (fun _ _ _ _ _ => (pg_name (i := 14) sc__law_bounds_right.nd rfl (Or.inl rfl))) (fun _ _ _ _ _ => pts_nil) (fun _ _ _ _ _ => (pe_op op_mulW (pe_op op_add (pv 1) (pv 4)) (pe_callTy call_int1 (by rfl) T.n_int (by decide +kernel) (pa_cons (pe_cmpR op_eq (pv 14) (pv 3) (nomark _)) pa_nil))))) pa_nil)))
      (pss_cons (ps_setLc (i := 7) (own := [("_law_k", 14)]) (g := gName 14) (by rfl) sc__law_bounds_right.nd rfl rfl (sw_true rfl rfl rfl (by decide +kernel)) (pi_range1 rfl T.n_range (pa_cons pe_int pa_nil)) (blkOk_by (own := [("_law_k", 14)]) (N := ["_law_pen_here", "_law_far", "_law_at_here", "_law_part", "_law_step", "_law_near", "_law_beyond", "_law_some", "_law_heard", "_law_is_let", "_law_name", "_law_odd", "_law_box", "_law_places", "_law_k", "_law_one"]) (sc := defScope s__law_bounds_right) (by decide +kernel)) (fun _ _ _ _ _ => (pg_name (i := 14) sc__law_bounds_right.nd rfl (Or.inl rfl))) (fun _ _ _ _ _ => pts_nil) (fun _ _ _ _ _ => (pe_ifExp (pt_cmpR op_eq (pv 14) (pv 2) (nomark _)) (pv 5) (pe_tup (pa_cons pe_int (pa_cons (pv 14) (pa_cons pe_int pa_nil)))))))
      (pss_cons (ps_set (i := 13) sc__law_bounds_right.nd rfl (Or.inr rfl) (pe_lc (own := [("_law_one", 15)]) (g := gName 15) (by rfl) sc__law_bounds_right.nd (pi_list (pv 7)) (blkOk_by (own := [("_law_one", 15)]) (N := ["_law_pen_here", "_law_far", "_law_at_here", "_law_part", "_law_step", "_law_near", "_law_beyond", "_law_some", "_law_heard", "_law_is_let", "_law_name", "_law_odd", "_law_box", "_law_places", "_law_k", "_law_one"]) (sc := defScope s__law_bounds_right) (by decide +kernel)) (fun _ _ _ _ _ => (pg_name (i := 15) sc__law_bounds_right.nd rfl (Or.inl rfl))) (fun _ _ _ _ _ => pts_nil) (fun _ _ _ _ _ => (pe_makeRR T.M_Place G_Place_init (hr.mono (by decide)) T.m_Place (passUp LamX.takes0) (pa_cons (pe_ix (ix_tupK (K := K) rfl) (pv 15) pe_int (fun _ _ => rfl)) (pa_cons (pe_ix (ix_tupK (K := K) rfl) (pv 15) pe_int (fun _ _ => rfl)) (pa_cons (pe_ix (ix_tupK (K := K) rfl) (pv 15) pe_int (fun _ _ => rfl)) pa_nil)))))))
      (pss_cons (ps_set (i := 12) sc__law_bounds_right.nd rfl (Or.inr rfl) (pe_makeRR T.M_Box G_Box_init (hr.mono (by decide)) T.m_Box (passUp LamX.takes0) (pa_cons (pe_ix ix_list (pv 13) pe_int (fun _ _ => rfl)) (pa_cons (pe_ix ix_list (pv 13) pe_int (fun _ _ => rfl)) (pa_cons (pe_ix ix_list (pv 13) pe_int (fun _ _ => rfl)) (pa_cons (pe_ix ix_list (pv 13) pe_int (fun _ _ => rfl)) pa_nil))))))
      (pss_cons (ps_if (pt_not (pt_val (pe_callG G__law_is (hr.mono (by decide)) (by exact hg) T.m__law_is T.k__law_is pass0 (pa_cons (pv 12) (pa_cons (pe_callTy call_tupleK (by rfl) T.n_tuple (by decide +kernel) (pa_cons (pv 7) pa_nil)) (pa_cons (pe_lst (pa_cons (pe_tup (pa_cons pe_int (pa_cons pe_int pa_nil))) (pa_cons (pe_tup (pa_cons (pe_op (op_powK 9) pe_int pe_int) (pa_cons (pe_op op_add (pe_op (op_powK 9) pe_int pe_int) pe_int) pa_nil))) pa_nil))) pa_nil))))))
          (pss_one (ps_ret pe_bl))
          pss_nil)
      (pss_cons (ps_set (i := 8) sc__law_bounds_right.nd rfl (Or.inl rfl) (pe_heard (k := 20) (TL := TLs Tb1 Tb2 Tb3) T rfl TB2 rfl (in_TL2 _ _ _) (un_TL2 nes) (hr.mono (by decide)) (LamX.lamS_by (sc := defScope s__law_bounds_right) (by decide +kernel)) rfl (fun _ _ _ _ _ => rfl) (fun A outer s H E f c' hr' => pe_un (un_inv_own T.o_Box_invert T.f_Box_invert G_Box_invert (hr'.mono (by decide)) (passUp (takes_of rfl rfl rfl rfl)) ) (pv 12))))
      (pss_cons (ps_set (i := 9) sc__law_bounds_right.nd rfl (Or.inl rfl) (pe_or (pe_cmpR op_gt (pv 2) pe_int (nomark _)) (pe_or (pe_cmpR op_gt (pv 1) pe_int (nomark _)) (pe_one (pe_cmpR op_eq (pv 3) pe_int (nomark _))))))
      (pss_cons (ps_if (PW.pt (pw_and (pt_val (pv 9)) (pw_and1 (PW.pt (pw_or (pt_not (pt_val (pe_callB call_isi (by rfl) T.n_isinstance (by decide +kernel) (pa_cons (pv 8) (pa_cons (pe_bltn (v := .ty "list") (by rfl) T.n_list (by decide +kernel) rfl) pa_nil))))) (pw_or1 (pt_not (pt_val (pe_callG G__law_is (hr.mono (by decide)) (by exact hg) T.m__law_is T.k__law_is pass0 (pa_cons (pe_ix ix_list (pv 8) pe_int (fun _ _ => rfl)) (pa_cons (pe_callR G__law_mirrored (hr.mono (by decide)) T.m__law_mirrored T.k__law_mirrored pass0 (pa_cons (pv 7) pa_nil)) (pa_cons (pe_lst (pa_cons (pe_tup (pa_cons pe_int (pa_cons pe_int pa_nil))) pa_nil)) pa_nil))))))))))))
          (pss_one (ps_ret pe_bl))
          pss_nil)
      (pss_cons (ps_if (PW.pt (pw_and (pt_not (pt_val (pv 9))) (pw_and1 (pt_cmpR (op_neD hr.units) (pv 8) (pe_tup (pa_cons pe_str (pa_cons (pe_ix ix_list (pe_lst (pa_cons pe_str (pa_cons pe_str pa_nil))) (pv 2) (fun _ _ => rfl)) pa_nil))) (nomark _)))))
          (pss_one (ps_ret pe_bl))
          pss_nil)
      (pss_cons (ps_par (i := 10) (j := 11) (by rfl) sc__law_bounds_right.nd rfl rfl (by decide) rfl rfl (pa_cons (pe_ix ix_list (pe_lst (pa_cons pe_str (pa_cons pe_str (pa_cons pe_str (pa_cons pe_str pa_nil))))) (pv 2) (fun _ _ => rfl)) (pa_cons (pe_makeRR T.M_Place G_Place_init (hr.mono (by decide)) T.m_Place (passUp LamX.takes0) (pa_cons (pe_ix ix_tup (pv 6) pe_int (fun _ _ => rfl)) (pa_cons (pe_ix ix_tup (pv 6) pe_int (fun _ _ => rfl)) (pa_cons (pe_ix ix_tup (pv 6) pe_int (fun _ _ => rfl)) pa_nil)))) pa_nil)) (by rfl))
      (pss_cons (ps_asg (pe_ifExp (PW.pt (pw_or (pt_cmpR op_ne (pv 3) pe_int (nomark _)) (pw_or1 (pt_cmpR op_eq (pe_callR G__law_draw (hr.mono (by decide)) T.m__law_draw T.k__law_draw pass0 (pa_cons (pv 0) (pa_cons pe_int pa_nil))) pe_int (nomark _))))) (pv 11) (pe_ix ix_tup (pv 6) pe_int (fun _ _ => rfl))) (pg_sub (pv 13) (pv 2) set_list))
      (pss_one (ps_ret (pe_cmpR (op_eqD hr.units) (pe_heard (k := 20) (TL := TLs Tb1 Tb2 Tb3) T rfl TB2 rfl (in_TL2 _ _ _) (un_TL2 nes) (hr.mono (by decide)) (LamX.lamS_by (sc := defScope s__law_bounds_right) (by decide +kernel)) rfl (fun _ _ _ _ _ => rfl) (fun A outer s H E f c' hr' => pe_makeRR T.M_Box G_Box_init (hr'.mono (by decide)) T.m_Box (passUp (takes_of rfl rfl rfl rfl)) (pa_cons (pe_ix (show IxR _ (rIxL K) from ix_list) (pv 13) pe_int (fun _ _ => rfl)) (pa_cons (pe_ix (show IxR _ (rIxL K) from ix_list) (pv 13) pe_int (fun _ _ => rfl)) (pa_cons (pe_ix (show IxR _ (rIxL K) from ix_list) (pv 13) pe_int (fun _ _ => rfl)) (pa_cons (pe_ix (show IxR _ (rIxL K) from ix_list) (pv 13) pe_int (fun _ _ => rfl)) pa_nil)))))) (pe_tup (pa_cons pe_str (pa_cons (pv 10) pa_nil))) (nomark _)))))))))))))))))), ?_⟩
  refine tSeq_step fun R e1 => ?_
  simp only [tIfS, tTest, tB, tAnd, tOr, tNot, tAndV, tOrV, tNotV, tIf, tOp, tUn, tChain, rEq, rNe, rI0, rI, rU, tCallR, tCons, tNil, tC, tVar, tRet, tRetN, tTup_k, tLst_k, tCB, tNext, tAsg, gName, gTup, gCons, gNil, tDrop, tPar, tFld, ClX.tCVal, tPropR, rBin, rBinT, rNeOwn, rSetL_k, gSub, tMakeK_k, tMethR, rInO, tDNewK_k, tYes, wipe, tMakeR_k, tSMeth, tSMethK, rMulS, decide_true, tNever, sFld, rIsiT, and_false, rListOf, rTupOf, rLenSeq, rIxL, rIxT, rIxS, rCat_k, rRep_k, rSlL_k, rSlS, rNewStrs_k, rAppend_k, tBM, tBM0, tM0, tM1, tSl, tNoPart, tPart, tLc_k, tFor_k, iList, iTup, iEnumT, iRng1, iRng2, iRng2L, iStr, L2.start, List.map, List.length_cons, List.length_nil, List.cons_append, List.nil_append, List.getElem?_cons_succ, List.getElem?_cons_zero, Option.some.injEq, V.int.injEq, V.bl.injEq, V.str.injEq, V.ref.injEq, exists_eq_left', exists_eq_left, and_assoc, exists_and_left, exists_eq, exists_eq', true_and, and_true, List.set_cons_zero, List.set_cons_succ, List.set, decide_eq_true_eq, Bool.not_eq_true', if_true, if_false, rIx, cx_K, nox_K, List.replicate_succ, List.replicate_zero, Nat.reduceSub, Bool.true_eq_false, Bool.false_eq_true, Nat.reduceAdd, List.cons.injEq, reduceCtorEq, false_and, false_or, or_false, tAug, rSetO, rStrO, rIsKp, tXk, tDGet, tDIn, tDNotIn, sDPut, rUn, rBinI, rBinR, rJoin, tJs, tOrT, rIsi, tCallOI, rBinT, tFCall, tMakeL, tCMethK, ClX.tCMeth, tCall, tPar3]
  refine rPowK_lit 12 (by decide) (rPowK_lit 12 (by decide) ⟨_, rfl, kNew.mk (by show 2 ≤ sizeLine; decide) fun l1 H1 f1 => ?_⟩)
  have pk := powC12
  generalize powC 12 = ten at *
  subst pk
  have n1 := P0.at_p f1.new
  refine ⟨p, c, l1, n, _, rfl, P0.same f1.same, by omega, f1.at_, n1.1, by show 0 < 2; decide, by show 2 < 1073741824; decide, fun v H2 hv s2 P2 => ?_⟩
  refine ⟨p, c, 4, _, rfl, P2, by omega, by decide, by decide, fun z3 H3 z30 z31 s3 P3 => ?_⟩
  refine ⟨p, c, 3, _, rfl, P3, by omega, by decide, by decide, fun z4 H4 z40 z41 s4 P4 => ?_⟩
  obtain ⟨at_, rfl⟩ : ∃ m : Nat, z3 = (m : Int) := ⟨z3.toNat, by omega⟩
  obtain ⟨part, rfl⟩ : ∃ m : Nat, z4 = (m : Int) := ⟨z4.toNat, by omega⟩
  have ha : at_ < 4 := by omega
  have hp3 : part < 3 := by omega
  obtain ⟨f, rfl, hf⟩ : ∃ f : Int, v = .int f ∧ (f = 1000000000000 ∨ f = -1000000000000) := by
    simp only [List.mem_cons, List.not_mem_nil, or_false] at hv
    rcases hv with rfl | rfl
    · exact ⟨_, rfl, .inl rfl⟩
    · exact ⟨_, rfl, .inr rfl⟩
  have sB := ((SameBut.of f1.same).trans s2).trans (s3.trans s4)
  have T4 := tabs_pen T0 P0 sB
  have X4 : ExtB p H H4 := ExtB.but sB
  clear hv n1 f1 s2 s3 s4 P2 P3 sB z30 z31 z40 z41
  refine kNew.mk (by show 3 ≤ sizeLine; decide) fun l2 H5 f5 => ⟨l2, rfl, _, SqT.of f5.at_, rfl, _, _, rfl, _, _, rfl, _, _, rfl, rfl, ?_⟩
  have P5 := P4.same f5.same
  have T5 := tabs_same T4 f5.same
  have X5 := X4.trans (ExtB.same f5.same)
  clear f5 P4 T4 X4
  subst e1
  refine tSeq_step fun R e1 => ?_
  simp only [tSeq, tIfS, tTest, tB, tAnd, tOr, tNot, tAndV, tOrV, tNotV, tIf, tOp, tUn, tChain, rEq, rNe, rI0, rI, rU, tCallR, tCons, tNil, tC, tVar, tRet, tRetN, tTup_k, tLst_k, tCB, tNext, tAsg, gName, gTup, gCons, gNil, tDrop, tPar, tFld, ClX.tCVal, tPropR, rBin, rBinT, rNeOwn, rSetL_k, gSub, tMakeK_k, tMethR, rInO, tDNewK_k, tYes, wipe, tMakeR_k, tSMeth, tSMethK, rMulS, decide_true, tNever, sFld, rIsiT, and_false, rListOf, rTupOf, rLenSeq, rIxL, rIxT, rIxS, rCat_k, rRep_k, rSlL_k, rSlS, rNewStrs_k, rAppend_k, tBM, tBM0, tM0, tM1, tSl, tNoPart, tPart, tLc_k, tFor_k, iList, iTup, iEnumT, iRng1, iRng2, iRng2L, iStr, L2.start, List.map, List.length_cons, List.length_nil, List.cons_append, List.nil_append, List.getElem?_cons_succ, List.getElem?_cons_zero, Option.some.injEq, V.int.injEq, V.bl.injEq, V.str.injEq, V.ref.injEq, exists_eq_left', exists_eq_left, and_assoc, exists_and_left, exists_eq, exists_eq', true_and, and_true, List.set_cons_zero, List.set_cons_succ, List.set, decide_eq_true_eq, Bool.not_eq_true', if_true, if_false, rIx, cx_K, nox_K, List.replicate_succ, List.replicate_zero, Nat.reduceSub, Bool.true_eq_false, Bool.false_eq_true, Nat.reduceAdd, List.cons.injEq, reduceCtorEq, false_and, false_or, or_false, tAug, rSetO, rStrO, rIsKp, tXk, tDGet, tDIn, tDNotIn, sDPut, rUn, rBinI, rBinR, rJoin, tJs, tOrT, rIsi, tCallOI, rBinT, tFCall, tMakeL, tCMethK, ClX.tCMeth, tCall, tPar3]
  suffices go : ∀ st : Int, ((0 < f ∧ st = 1) ∨ (¬ 0 < f ∧ st = -1)) → R { nx := fun x H' => Q V.non H', rt := Q } [some (V.ref p), some (V.int f), some (V.int (at_ : Nat)), some (V.int (part : Nat)), some (V.int st), none, none, none, none, none, none, none, none, none, none, none] H5 by
    by_cases h : 0 < f
    · rw [if_pos h]; exact go 1 (.inl ⟨h, rfl⟩)
    · rw [if_neg h]; exact go (-1) (.inr ⟨h, rfl⟩)
  intro st hst
  subst e1
  refine tSeq_step fun R e1 => ?_
  simp only [tSeq, tIfS, tTest, tB, tAnd, tOr, tNot, tAndV, tOrV, tNotV, tIf, tOp, tUn, tChain, rEq, rNe, rI0, rI, rU, tCallR, tCons, tNil, tC, tVar, tRet, tRetN, tTup_k, tLst_k, tCB, tNext, tAsg, gName, gTup, gCons, gNil, tDrop, tPar, tFld, ClX.tCVal, tPropR, rBin, rBinT, rNeOwn, rSetL_k, gSub, tMakeK_k, tMethR, rInO, tDNewK_k, tYes, wipe, tMakeR_k, tSMeth, tSMethK, rMulS, decide_true, tNever, sFld, rIsiT, and_false, rListOf, rTupOf, rLenSeq, rIxL, rIxT, rIxS, rCat_k, rRep_k, rSlL_k, rSlS, rNewStrs_k, rAppend_k, tBM, tBM0, tM0, tM1, tSl, tNoPart, tPart, tLc_k, tFor_k, iList, iTup, iEnumT, iRng1, iRng2, iRng2L, iStr, L2.start, List.map, List.length_cons, List.length_nil, List.cons_append, List.nil_append, List.getElem?_cons_succ, List.getElem?_cons_zero, Option.some.injEq, V.int.injEq, V.bl.injEq, V.str.injEq, V.ref.injEq, exists_eq_left', exists_eq_left, and_assoc, exists_and_left, exists_eq, exists_eq', true_and, and_true, List.set_cons_zero, List.set_cons_succ, List.set, decide_eq_true_eq, Bool.not_eq_true', if_true, if_false, rIx, cx_K, nox_K, List.replicate_succ, List.replicate_zero, Nat.reduceSub, Bool.true_eq_false, Bool.false_eq_true, Nat.reduceAdd, List.cons.injEq, reduceCtorEq, false_and, false_or, or_false, tAug, rSetO, rStrO, rIsKp, tXk, tDGet, tDIn, tDNotIn, sDPut, rUn, rBinI, rBinR, rJoin, tJs, tOrT, rIsi, tCallOI, rBinT, tFCall, tMakeL, tCMethK, ClX.tCMeth, tCall, tPar3]
  refine ⟨by decide, by decide, ?_⟩
  refine kLc.map walk_range [.int (uniP f part).s, .int (uniP f part).o, .int (uniP f part).d] rfl (fun _ _ => trivial) (fun D j xv HA HB hj cl hY => ?_) fun l3 H6 f6 => ?_
  · obtain ⟨rfl, rfl⟩ := hY
    have hj : j < 3 := hj
    simp only [tSeq, tIfS, tTest, tB, tAnd, tOr, tNot, tAndV, tOrV, tNotV, tIf, tOp, tUn, tChain, rEq, rNe, rI0, rI, rU, tCallR, tCons, tNil, tC, tVar, tRet, tRetN, tTup_k, tLst_k, tCB, tNext, tAsg, gName, gTup, gCons, gNil, tDrop, tPar, tFld, ClX.tCVal, tPropR, rBin, rBinT, rNeOwn, rSetL_k, gSub, tMakeK_k, tMethR, rInO, tDNewK_k, tYes, wipe, tMakeR_k, tSMeth, tSMethK, rMulS, decide_true, tNever, sFld, rIsiT, and_false, rListOf, rTupOf, rLenSeq, rIxL, rIxT, rIxS, rCat_k, rRep_k, rSlL_k, rSlS, rNewStrs_k, rAppend_k, tBM, tBM0, tM0, tM1, tSl, tNoPart, tPart, tLc_k, tFor_k, iList, iTup, iEnumT, iRng1, iRng2, iRng2L, iStr, L2.start, List.map, List.length_cons, List.length_nil, List.cons_append, List.nil_append, List.getElem?_cons_succ, List.getElem?_cons_zero, Option.some.injEq, V.int.injEq, V.bl.injEq, V.str.injEq, V.ref.injEq, exists_eq_left', exists_eq_left, and_assoc, exists_and_left, exists_eq, exists_eq', true_and, and_true, List.set_cons_zero, List.set_cons_succ, List.set, decide_eq_true_eq, Bool.not_eq_true', if_true, if_false, rIx, cx_K, nox_K, List.replicate_succ, List.replicate_zero, Nat.reduceSub, Bool.true_eq_false, Bool.false_eq_true, Nat.reduceAdd, List.cons.injEq, reduceCtorEq, false_and, false_or, or_false, tAug, rSetO, rStrO, rIsKp, tXk, tDGet, tDIn, tDNotIn, sDPut, rUn, rBinI, rBinR, rJoin, tJs, tOrT, rIsi, tCallOI, rBinT, tFCall, tMakeL, tCMethK, ClX.tCMeth, tCall, tPar3]
    exact ⟨rfl, .inr ⟨cmul64 (abs64 (by omega) (by omega)) (one64 _), kApp.at cl (fun _ _ e => e) (by show 3 ≤ sizeLine; decide) (uni_at hj)⟩⟩
  refine ⟨l3, rfl, _, .inl ⟨SqL.of f6.at_, kN.mk fun tn H7 f7 => ?_⟩⟩
  have P7 := (P5.same f6.same).same f7.same
  have T7 := tabs_same (tabs_same T5 f6.same) f7.same
  have X7 := X5.trans (ExtB.same (f6.same.trans f7.same))
  have tn7 : TupP H7 tn (uniP f part) := f7.at_
  clear f6 f7 P5 T5 X5
  subst e1
  refine tSeq_step fun R e1 => ?_
  simp only [tSeq, tIfS, tTest, tB, tAnd, tOr, tNot, tAndV, tOrV, tNotV, tIf, tOp, tUn, tChain, rEq, rNe, rI0, rI, rU, tCallR, tCons, tNil, tC, tVar, tRet, tRetN, tTup_k, tLst_k, tCB, tNext, tAsg, gName, gTup, gCons, gNil, tDrop, tPar, tFld, ClX.tCVal, tPropR, rBin, rBinT, rNeOwn, rSetL_k, gSub, tMakeK_k, tMethR, rInO, tDNewK_k, tYes, wipe, tMakeR_k, tSMeth, tSMethK, rMulS, decide_true, tNever, sFld, rIsiT, and_false, rListOf, rTupOf, rLenSeq, rIxL, rIxT, rIxS, rCat_k, rRep_k, rSlL_k, rSlS, rNewStrs_k, rAppend_k, tBM, tBM0, tM0, tM1, tSl, tNoPart, tPart, tLc_k, tFor_k, iList, iTup, iEnumT, iRng1, iRng2, iRng2L, iStr, L2.start, List.map, List.length_cons, List.length_nil, List.cons_append, List.nil_append, List.getElem?_cons_succ, List.getElem?_cons_zero, Option.some.injEq, V.int.injEq, V.bl.injEq, V.str.injEq, V.ref.injEq, exists_eq_left', exists_eq_left, and_assoc, exists_and_left, exists_eq, exists_eq', true_and, and_true, List.set_cons_zero, List.set_cons_succ, List.set, decide_eq_true_eq, Bool.not_eq_true', if_true, if_false, rIx, cx_K, nox_K, List.replicate_succ, List.replicate_zero, Nat.reduceSub, Bool.true_eq_false, Bool.false_eq_true, Nat.reduceAdd, List.cons.injEq, reduceCtorEq, false_and, false_or, or_false, tAug, rSetO, rStrO, rIsKp, tXk, tDGet, tDIn, tDNotIn, sDPut, rUn, rBinI, rBinR, rJoin, tJs, tOrT, rIsi, tCallOI, rBinT, tFCall, tMakeL, tCMethK, ClX.tCMeth, tCall, tPar3]
  refine ⟨by decide, by decide, ?_⟩
  refine kLc.map walk_range [.int (uniP (f + st) part).s, .int (uniP (f + st) part).o, .int (uniP (f + st) part).d] rfl (fun _ _ => trivial) (fun D j xv HA HB hj cl hY => ?_) fun l4 H8 f8 => ?_
  · obtain ⟨rfl, rfl⟩ := hY
    have hj : j < 3 := hj
    simp only [tSeq, tIfS, tTest, tB, tAnd, tOr, tNot, tAndV, tOrV, tNotV, tIf, tOp, tUn, tChain, rEq, rNe, rI0, rI, rU, tCallR, tCons, tNil, tC, tVar, tRet, tRetN, tTup_k, tLst_k, tCB, tNext, tAsg, gName, gTup, gCons, gNil, tDrop, tPar, tFld, ClX.tCVal, tPropR, rBin, rBinT, rNeOwn, rSetL_k, gSub, tMakeK_k, tMethR, rInO, tDNewK_k, tYes, wipe, tMakeR_k, tSMeth, tSMethK, rMulS, decide_true, tNever, sFld, rIsiT, and_false, rListOf, rTupOf, rLenSeq, rIxL, rIxT, rIxS, rCat_k, rRep_k, rSlL_k, rSlS, rNewStrs_k, rAppend_k, tBM, tBM0, tM0, tM1, tSl, tNoPart, tPart, tLc_k, tFor_k, iList, iTup, iEnumT, iRng1, iRng2, iRng2L, iStr, L2.start, List.map, List.length_cons, List.length_nil, List.cons_append, List.nil_append, List.getElem?_cons_succ, List.getElem?_cons_zero, Option.some.injEq, V.int.injEq, V.bl.injEq, V.str.injEq, V.ref.injEq, exists_eq_left', exists_eq_left, and_assoc, exists_and_left, exists_eq, exists_eq', true_and, and_true, List.set_cons_zero, List.set_cons_succ, List.set, decide_eq_true_eq, Bool.not_eq_true', if_true, if_false, rIx, cx_K, nox_K, List.replicate_succ, List.replicate_zero, Nat.reduceSub, Bool.true_eq_false, Bool.false_eq_true, Nat.reduceAdd, List.cons.injEq, reduceCtorEq, false_and, false_or, or_false, tAug, rSetO, rStrO, rIsKp, tXk, tDGet, tDIn, tDNotIn, sDPut, rUn, rBinI, rBinR, rJoin, tJs, tOrT, rIsi, tCallOI, rBinT, tFCall, tMakeL, tCMethK, ClX.tCMeth, tCall, tPar3]
    exact ⟨rfl, .inr ⟨cmul64 (abs64 (by omega) (by omega)) (one64 _), kApp.at cl (fun _ _ e => e) (by show 3 ≤ sizeLine; decide) (uni_at hj)⟩⟩
  refine ⟨l4, rfl, _, .inl ⟨SqL.of f8.at_, kN.mk fun tb H9 f9 => ?_⟩⟩
  have s79 := f8.same.trans f9.same
  have P9 := P7.same s79
  have T9 := tabs_same T7 s79
  have X9 := X7.trans (ExtB.same s79)
  have tn9 := tn7.same s79
  have tb9 : TupP H9 tb (uniP (f + st) part) := f9.at_
  clear f8 f9 P7 T7 X7 tn7 s79
  subst e1
  refine tSeq_step fun R e1 => ?_
  simp only [tSeq, tIfS, tTest, tB, tAnd, tOr, tNot, tAndV, tOrV, tNotV, tIf, tOp, tUn, tChain, rEq, rNe, rI0, rI, rU, tCallR, tCons, tNil, tC, tVar, tRet, tRetN, tTup_k, tLst_k, tCB, tNext, tAsg, gName, gTup, gCons, gNil, tDrop, tPar, tFld, ClX.tCVal, tPropR, rBin, rBinT, rNeOwn, rSetL_k, gSub, tMakeK_k, tMethR, rInO, tDNewK_k, tYes, wipe, tMakeR_k, tSMeth, tSMethK, rMulS, decide_true, tNever, sFld, rIsiT, and_false, rListOf, rTupOf, rLenSeq, rIxL, rIxT, rIxS, rCat_k, rRep_k, rSlL_k, rSlS, rNewStrs_k, rAppend_k, tBM, tBM0, tM0, tM1, tSl, tNoPart, tPart, tLc_k, tFor_k, iList, iTup, iEnumT, iRng1, iRng2, iRng2L, iStr, L2.start, List.map, List.length_cons, List.length_nil, List.cons_append, List.nil_append, List.getElem?_cons_succ, List.getElem?_cons_zero, Option.some.injEq, V.int.injEq, V.bl.injEq, V.str.injEq, V.ref.injEq, exists_eq_left', exists_eq_left, and_assoc, exists_and_left, exists_eq, exists_eq', true_and, and_true, List.set_cons_zero, List.set_cons_succ, List.set, decide_eq_true_eq, Bool.not_eq_true', if_true, if_false, rIx, cx_K, nox_K, List.replicate_succ, List.replicate_zero, Nat.reduceSub, Bool.true_eq_false, Bool.false_eq_true, Nat.reduceAdd, List.cons.injEq, reduceCtorEq, false_and, false_or, or_false, tAug, rSetO, rStrO, rIsKp, tXk, tDGet, tDIn, tDNotIn, sDPut, rUn, rBinI, rBinR, rJoin, tJs, tOrT, rIsi, tCallOI, rBinT, tFCall, tMakeL, tCMethK, ClX.tCMeth, tCall, tPar3]
  refine ⟨by decide, by decide, ?_⟩
  refine kLc.objs walk_range (TupV f at_ part) (fun _ _ => trivial) (fun D j xv HA HB hj cl hY => ?_) fun ls H10 acc ha4 f10 hv10 => ?_
  · obtain ⟨rfl, rfl⟩ := hY
    have hj : j < 4 := hj
    simp only [tSeq, tIfS, tTest, tB, tAnd, tOr, tNot, tAndV, tOrV, tNotV, tIf, tOp, tUn, tChain, rEq, rNe, rI0, rI, rU, tCallR, tCons, tNil, tC, tVar, tRet, tRetN, tTup_k, tLst_k, tCB, tNext, tAsg, gName, gTup, gCons, gNil, tDrop, tPar, tFld, ClX.tCVal, tPropR, rBin, rBinT, rNeOwn, rSetL_k, gSub, tMakeK_k, tMethR, rInO, tDNewK_k, tYes, wipe, tMakeR_k, tSMeth, tSMethK, rMulS, decide_true, tNever, sFld, rIsiT, and_false, rListOf, rTupOf, rLenSeq, rIxL, rIxT, rIxS, rCat_k, rRep_k, rSlL_k, rSlS, rNewStrs_k, rAppend_k, tBM, tBM0, tM0, tM1, tSl, tNoPart, tPart, tLc_k, tFor_k, iList, iTup, iEnumT, iRng1, iRng2, iRng2L, iStr, L2.start, List.map, List.length_cons, List.length_nil, List.cons_append, List.nil_append, List.getElem?_cons_succ, List.getElem?_cons_zero, Option.some.injEq, V.int.injEq, V.bl.injEq, V.str.injEq, V.ref.injEq, exists_eq_left', exists_eq_left, and_assoc, exists_and_left, exists_eq, exists_eq', true_and, and_true, List.set_cons_zero, List.set_cons_succ, List.set, decide_eq_true_eq, Bool.not_eq_true', if_true, if_false, rIx, cx_K, nox_K, List.replicate_succ, List.replicate_zero, Nat.reduceSub, Bool.true_eq_false, Bool.false_eq_true, Nat.reduceAdd, List.cons.injEq, reduceCtorEq, false_and, false_or, or_false, tAug, rSetO, rStrO, rIsKp, tXk, tDGet, tDIn, tDNotIn, sDPut, rUn, rBinI, rBinR, rJoin, tJs, tOrT, rIsi, tCallOI, rBinT, tFCall, tMakeL, tCMethK, ClX.tCMeth, tCall, tPar3]
    have sc : Same H9 HB := by
      obtain ⟨_, _, c, _⟩ := cl
      exact c.same
    have j5 : j < sizeLine := Nat.lt_of_lt_of_le (show j < 5 by omega) (by decide)
    refine ⟨rfl, ?_⟩
    by_cases h : (0 : Int) + (j : Int) = (at_ : Int)
    · rw [if_pos h]
      refine LcOf.add (tupV_stays f at_ part) cl (fun _ _ e => e) j5 ⟨tn, rfl, ?_⟩
      unfold bndP
      rw [if_pos (by omega)]
      exact tn9.same sc
    · rw [if_neg h]
      refine kNew.mk (by show 3 ≤ sizeLine; decide) fun t H' f' => LcOf.add (tupV_stays f at_ part) cl f'.same j5 ⟨t, rfl, ?_⟩
      rw [Int.zero_add] at f'
      unfold bndP
      rw [if_neg (by omega)]
      exact f'.at_
  have P10 := P9.same f10.same
  have T10 := tabs_same T9 f10.same
  have X10 := X9.trans (ExtB.same f10.same)
  have tb10 := tb9.same f10.same
  have ls10 := f10.at_
  clear f10 P9 T9 X9 tn9 tb9
  subst e1
  refine tSeq_step fun R e1 => ?_
  simp only [tSeq, tIfS, tTest, tB, tAnd, tOr, tNot, tAndV, tOrV, tNotV, tIf, tOp, tUn, tChain, rEq, rNe, rI0, rI, rU, tCallR, tCons, tNil, tC, tVar, tRet, tRetN, tTup_k, tLst_k, tCB, tNext, tAsg, gName, gTup, gCons, gNil, tDrop, tPar, tFld, ClX.tCVal, tPropR, rBin, rBinT, rNeOwn, rSetL_k, gSub, tMakeK_k, tMethR, rInO, tDNewK_k, tYes, wipe, tMakeR_k, tSMeth, tSMethK, rMulS, decide_true, tNever, sFld, rIsiT, and_false, rListOf, rTupOf, rLenSeq, rIxL, rIxT, rIxS, rCat_k, rRep_k, rSlL_k, rSlS, rNewStrs_k, rAppend_k, tBM, tBM0, tM0, tM1, tSl, tNoPart, tPart, tLc_k, tFor_k, iList, iTup, iEnumT, iRng1, iRng2, iRng2L, iStr, L2.start, List.map, List.length_cons, List.length_nil, List.cons_append, List.nil_append, List.getElem?_cons_succ, List.getElem?_cons_zero, Option.some.injEq, V.int.injEq, V.bl.injEq, V.str.injEq, V.ref.injEq, exists_eq_left', exists_eq_left, and_assoc, exists_and_left, exists_eq, exists_eq', true_and, and_true, List.set_cons_zero, List.set_cons_succ, List.set, decide_eq_true_eq, Bool.not_eq_true', if_true, if_false, rIx, cx_K, nox_K, List.replicate_succ, List.replicate_zero, Nat.reduceSub, Bool.true_eq_false, Bool.false_eq_true, Nat.reduceAdd, List.cons.injEq, reduceCtorEq, false_and, false_or, or_false, tAug, rSetO, rStrO, rIsKp, tXk, tDGet, tDIn, tDNotIn, sDPut, rUn, rBinI, rBinR, rJoin, tJs, tOrT, rIsi, tCallOI, rBinT, tFCall, tMakeL, tCMethK, ClX.tCMeth, tCall, tPar3]
  have tv10 : ∀ k, k < 4 → ∃ t, acc[k]? = some (.ref t) ∧ TupP H10 t (bndP f at_ part k) := fun k hk => by
    have e := List.getElem?_eq_getElem (show k < acc.length by omega)
    obtain ⟨t, e1, e2⟩ := hv10 k _ e
    exact ⟨t, by rw [e, e1], e2⟩
  refine ⟨⟨_, SqL.of ls10⟩, ?_⟩
  refine kLc.objs (walk_list (xs := acc)) (PlaV a.Place f at_ part) (fun H' s' => SqL.of (s' _ _ ls10)) (fun D j xv HA HB hj cl hY => ?_) fun lp H11 ps hp4 f11 hv11 => ?_
  · obtain ⟨rfl, e⟩ := hY
    rw [ha4] at hj
    have sc : Same H10 HB := by
      obtain ⟨_, _, c, _⟩ := cl
      exact c.same
    have j5 : j < sizeLine := Nat.lt_of_lt_of_le (show j < 5 by omega) (by decide)
    obtain ⟨t, e1, e2⟩ := tv10 j hj
    rw [e1] at e
    cases e
    have sq := SqT.of (K := K) (e2.same sc)
    simp only [tSeq, tIfS, tTest, tB, tAnd, tOr, tNot, tAndV, tOrV, tNotV, tIf, tOp, tUn, tChain, rEq, rNe, rI0, rI, rU, tCallR, tCons, tNil, tC, tVar, tRet, tRetN, tTup_k, tLst_k, tCB, tNext, tAsg, gName, gTup, gCons, gNil, tDrop, tPar, tFld, ClX.tCVal, tPropR, rBin, rBinT, rNeOwn, rSetL_k, gSub, tMakeK_k, tMethR, rInO, tDNewK_k, tYes, wipe, tMakeR_k, tSMeth, tSMethK, rMulS, decide_true, tNever, sFld, rIsiT, and_false, rListOf, rTupOf, rLenSeq, rIxL, rIxT, rIxS, rCat_k, rRep_k, rSlL_k, rSlS, rNewStrs_k, rAppend_k, tBM, tBM0, tM0, tM1, tSl, tNoPart, tPart, tLc_k, tFor_k, iList, iTup, iEnumT, iRng1, iRng2, iRng2L, iStr, L2.start, List.map, List.length_cons, List.length_nil, List.cons_append, List.nil_append, List.getElem?_cons_succ, List.getElem?_cons_zero, Option.some.injEq, V.int.injEq, V.bl.injEq, V.str.injEq, V.ref.injEq, exists_eq_left', exists_eq_left, and_assoc, exists_and_left, exists_eq, exists_eq', true_and, and_true, List.set_cons_zero, List.set_cons_succ, List.set, decide_eq_true_eq, Bool.not_eq_true', if_true, if_false, rIx, cx_K, nox_K, List.replicate_succ, List.replicate_zero, Nat.reduceSub, Bool.true_eq_false, Bool.false_eq_true, Nat.reduceAdd, List.cons.injEq, reduceCtorEq, false_and, false_or, or_false, tAug, rSetO, rStrO, rIsKp, tXk, tDGet, tDIn, tDNotIn, sDPut, rUn, rBinI, rBinR, rJoin, tJs, tOrT, rIsi, tCallOI, rBinT, tFCall, tMakeL, tCMethK, ClX.tCMeth, tCall, tPar3]
    refine ⟨_, sq, _, rfl, _, sq, _, rfl, _, sq, _, rfl, ?_⟩
    exact newP_makeX fun x H2 s2 nx px => LcOf.add (plaV_stays a.Place f at_ part) cl s2 j5 ⟨x, rfl, px⟩
  have P11 := P10.same f11.same
  have T11 := tabs_same T10 f11.same
  have X11 := X10.trans (ExtB.same f11.same)
  have tb11 := tb10.same f11.same
  have ls11 := f11.get ls10
  have lp11 := f11.at_
  have nlp := (P10.at_p f11.new)
  have nwl : ∀ o, H lp = some o → (∀ ps, o ≠ .tbl ps) → False := fun o e q => by
    have z := X10 lp o nlp.1 e q
    rw [f11.new] at z
    cases z
  have tv11 : ∀ k, k < 4 → ∃ t, acc[k]? = some (.ref t) ∧ TupP H11 t (bndP f at_ part k) := fun k hk => by
    obtain ⟨t, e1, e2⟩ := tv10 k hk
    exact ⟨t, e1, e2.same f11.same⟩
  have pv11 : ∀ k, k < 4 → ∃ t, ps[k]? = some (.ref t) ∧ PlA H11 a.Place t (bndP f at_ part k) := fun k hk => by
    have e := List.getElem?_eq_getElem (show k < ps.length by omega)
    obtain ⟨t, e1, e2⟩ := hv11 k _ e
    exact ⟨t, by rw [e, e1], e2⟩
  clear f11 P10 T10 X10 tb10 ls10 tv10 hv10 hv11
  subst e1
  refine tSeq_step fun R e1 => ?_
  simp only [tSeq, tIfS, tTest, tB, tAnd, tOr, tNot, tAndV, tOrV, tNotV, tIf, tOp, tUn, tChain, rEq, rNe, rI0, rI, rU, tCallR, tCons, tNil, tC, tVar, tRet, tRetN, tTup_k, tLst_k, tCB, tNext, tAsg, gName, gTup, gCons, gNil, tDrop, tPar, tFld, ClX.tCVal, tPropR, rBin, rBinT, rNeOwn, rSetL_k, gSub, tMakeK_k, tMethR, rInO, tDNewK_k, tYes, wipe, tMakeR_k, tSMeth, tSMethK, rMulS, decide_true, tNever, sFld, rIsiT, and_false, rListOf, rTupOf, rLenSeq, rIxL, rIxT, rIxS, rCat_k, rRep_k, rSlL_k, rSlS, rNewStrs_k, rAppend_k, tBM, tBM0, tM0, tM1, tSl, tNoPart, tPart, tLc_k, tFor_k, iList, iTup, iEnumT, iRng1, iRng2, iRng2L, iStr, L2.start, List.map, List.length_cons, List.length_nil, List.cons_append, List.nil_append, List.getElem?_cons_succ, List.getElem?_cons_zero, Option.some.injEq, V.int.injEq, V.bl.injEq, V.str.injEq, V.ref.injEq, exists_eq_left', exists_eq_left, and_assoc, exists_and_left, exists_eq, exists_eq', true_and, and_true, List.set_cons_zero, List.set_cons_succ, List.set, decide_eq_true_eq, Bool.not_eq_true', if_true, if_false, rIx, cx_K, nox_K, List.replicate_succ, List.replicate_zero, Nat.reduceSub, Bool.true_eq_false, Bool.false_eq_true, Nat.reduceAdd, List.cons.injEq, reduceCtorEq, false_and, false_or, or_false, tAug, rSetO, rStrO, rIsKp, tXk, tDGet, tDIn, tDNotIn, sDPut, rUn, rBinI, rBinR, rJoin, tJs, tOrT, rIsi, tCallOI, rBinT, tFCall, tMakeL, tCMethK, ClX.tCMeth, tCall, tPar3]
  have hfb : Bd1 f := by rcases hf with rfl | rfl <;> exact ⟨by decide, by decide⟩
  have bd := bd_bndB (at_ := at_) (part := part) hfb
  obtain ⟨r0, e0, g0⟩ := pv11 0 (by decide)
  obtain ⟨r1, e1', g1⟩ := pv11 1 (by decide)
  obtain ⟨r2, e2, g2⟩ := pv11 2 (by decide)
  obtain ⟨r3, e3, g3⟩ := pv11 3 (by decide)
  obtain ⟨t0, d0, h0⟩ := tv11 0 (by decide)
  obtain ⟨t1, d1, h1⟩ := tv11 1 (by decide)
  obtain ⟨t2, d2, h2⟩ := tv11 2 (by decide)
  obtain ⟨t3, d3, h3⟩ := tv11 3 (by decide)
  have hp4 : ps.length = 4 := hp4.trans ha4
  have ha4 : acc.length = 4 := ha4
  obtain ⟨w0, w1, w2, w3, rfl⟩ : ∃ w0 w1 w2 w3, ps = [w0, w1, w2, w3] := by
    match ps, hp4 with
    | [a, b, c, d], _ => exact ⟨a, b, c, d, rfl⟩
  obtain rfl : w0 = V.ref r0 := Option.some.inj e0
  obtain rfl : w1 = V.ref r1 := Option.some.inj e1'
  obtain rfl : w2 = V.ref r2 := Option.some.inj e2
  obtain rfl : w3 = V.ref r3 := Option.some.inj e3
  obtain ⟨w0, w1, w2, w3, rfl⟩ : ∃ w0 w1 w2 w3, acc = [w0, w1, w2, w3] := by
    match acc, ha4 with
    | [a, b, c, d], _ => exact ⟨a, b, c, d, rfl⟩
  obtain rfl : w0 = V.ref t0 := Option.some.inj d0
  obtain rfl : w1 = V.ref t1 := Option.some.inj d1
  obtain rfl : w2 = V.ref t2 := Option.some.inj d2
  obtain rfl : w3 = V.ref t3 := Option.some.inj d3
  have sq := SqL.of (K := K) lp11
  refine ⟨_, sq, _, rfl, _, sq, _, rfl, _, sq, _, rfl, _, sq, _, rfl, ?_⟩
  refine newB_makeA (q := bndB f at_ part) ⟨.inr ⟨r0, rfl, g0⟩, bd.1⟩ ⟨.inr ⟨r1, rfl, g1⟩, bd.2.1⟩ ⟨.inr ⟨r2, rfl, g2⟩, bd.2.2.1⟩ ⟨.inr ⟨r3, rfl, g3⟩, bd.2.2.2⟩ fun b H12 s12 nb hB => ?_
  have P12 := P11.same s12
  have T12 := tabs_same T11 s12
  have X12 := X11.trans (ExtB.same s12)
  have tb12 := tb11.same s12
  have ls12 := s12 _ _ ls11
  have lp12 := s12 _ _ lp11
  have g0' := g0.same s12
  have g1' := g1.same s12
  have g2' := g2.same s12
  have g3' := g3.same s12
  have h0' := h0.same s12
  have h1' := h1.same s12
  have h2' := h2.same s12
  have h3' := h3.same s12
  clear P11 T11 X11 tb11 ls11 lp11 h0 h1 h2 h3 sq pv11 tv11 nb s12 g0 g1 g2 g3
  subst e1
  refine tSeq_step fun R e1 => ?_
  simp only [tIfS, tTest, tB, tAnd, tOr, tNot, tAndV, tOrV, tNotV, tIf, tOp, tUn, tChain, rEq, rNe, rI0, rI, rU, tCallR, tCons, tNil, tC, tVar, tRet, tRetN, tTup_k, tLst_k, tCB, tNext, tAsg, gName, gTup, gCons, gNil, tDrop, tPar, tFld, ClX.tCVal, tPropR, rBin, rBinT, rNeOwn, rSetL_k, gSub, tMakeK_k, tMethR, rInO, tDNewK_k, tYes, wipe, tMakeR_k, tSMeth, tSMethK, rMulS, decide_true, tNever, sFld, rIsiT, and_false, rListOf, rTupOf, rLenSeq, rIxL, rIxT, rIxS, rCat_k, rRep_k, rSlL_k, rSlS, rNewStrs_k, rAppend_k, tBM, tBM0, tM0, tM1, tSl, tNoPart, tPart, tLc_k, tFor_k, iList, iTup, iEnumT, iRng1, iRng2, iRng2L, iStr, L2.start, List.map, List.length_cons, List.length_nil, List.cons_append, List.nil_append, List.getElem?_cons_succ, List.getElem?_cons_zero, Option.some.injEq, V.int.injEq, V.bl.injEq, V.str.injEq, V.ref.injEq, exists_eq_left', exists_eq_left, and_assoc, exists_and_left, exists_eq, exists_eq', true_and, and_true, List.set_cons_zero, List.set_cons_succ, List.set, decide_eq_true_eq, Bool.not_eq_true', if_true, if_false, rIx, cx_K, nox_K, List.replicate_succ, List.replicate_zero, Nat.reduceSub, Bool.true_eq_false, Bool.false_eq_true, Nat.reduceAdd, List.cons.injEq, reduceCtorEq, false_and, false_or, or_false, tAug, rSetO, rStrO, rIsKp, tXk, tDGet, tDIn, tDNotIn, sDPut, rUn, rBinI, rBinR, rJoin, tJs, tOrT, rIsi, tCallOI, rBinT, tFCall, tMakeL, tCMethK, ClX.tCMeth, tCall, tPar3]
  refine ⟨_, .inl ⟨SqL.of ls12, kN.mk fun tq H13 f13 => kNew.mk (by show 2 ≤ sizeLine; decide) fun z0 H14 f14 => rPowK_lit 9 (by decide) (rPowK_lit 9 (by decide) ⟨_, rfl, kNew.mk (by show 2 ≤ sizeLine; decide) fun z1 H15 f15 => kNew.mk (by show 2 ≤ sizeLine; decide) fun lz H16 f16 => ?_⟩)⟩⟩
  rw [powC9] at f15
  have s56 := f15.same.trans f16.same
  have s46 := f14.same.trans s56
  have s36 := f13.same.trans s46
  refine ⟨b, tq, lz, bndB f at_ part, [(1, 2), (1000000000, 1000000000 + 1)], rfl, hB.same s36, ⟨t0, t1, t2, t3, s46 _ _ f13.at_, h0'.same s36, h1'.same s36, h2'.same s36, h3'.same s36⟩, bd, sizes_of [z0, z1] [(1, 2), (1000000000, 1000000000 + 1)] f16.at_ ?_ rfl, ?_, fun H17 s17 => ⟨_, rfl, ?_⟩⟩
  · intro p hp
    simp only [List.zip_cons_cons, List.zip_nil_right, List.mem_cons, List.not_mem_nil, or_false] at hp
    rcases hp with rfl | rfl
    · exact s56 _ _ f14.at_
    · exact f16.same _ _ f15.at_
  · intro z hz
    simp only [List.mem_cons, List.not_mem_nil, or_false] at hz
    rcases hz with rfl | rfl
    · exact ⟨by decide, by decide⟩
    · exact ⟨by decide, by decide⟩
  rw [if_neg (by decide)]
  have s := s36.trans s17
  have B17 : Bf K a (TLs Tb1 Tb2 Tb3) H p c b ls lp tb t0 t1 t2 t3 r0 r1 r2 r3 (bndB f at_ part) (uniP (f + st) part) (n + 1 + 1 + 1) H17 := ⟨P12.same s, tabs_same T12 s, X12.trans (ExtB.same s), tb12.same s, s _ _ ls12, s _ _ lp12, hB.same s, h0'.same s, h1'.same s, h2'.same s, h3'.same s, g0'.same s, g1'.same s, g2'.same s, g3'.same s⟩
  clear P12 T12 X12 tb12 ls12 lp12 hB h0' h1' h2' h3' s f13 f14 f15 f16 s56 s46 s36 s17
  subst e1
  refine tSeq_step fun R e1 => ?_
  simp only [tSeq, tIfS, tTest, tB, tAnd, tOr, tNot, tAndV, tOrV, tNotV, tIf, tOp, tUn, tChain, rEq, rNe, rI0, rI, rU, tCallR, tCons, tNil, tC, tVar, tRet, tRetN, tTup_k, tLst_k, tCB, tNext, tAsg, gName, gTup, gCons, gNil, tDrop, tPar, tFld, ClX.tCVal, tPropR, rBin, rBinT, rNeOwn, rSetL_k, gSub, tMakeK_k, tMethR, rInO, tDNewK_k, tYes, wipe, tMakeR_k, tSMeth, tSMethK, rMulS, decide_true, tNever, sFld, rIsiT, and_false, rListOf, rTupOf, rLenSeq, rIxL, rIxT, rIxS, rCat_k, rRep_k, rSlL_k, rSlS, rNewStrs_k, rAppend_k, tBM, tBM0, tM0, tM1, tSl, tNoPart, tPart, tLc_k, tFor_k, iList, iTup, iEnumT, iRng1, iRng2, iRng2L, iStr, L2.start, List.map, List.length_cons, List.length_nil, List.cons_append, List.nil_append, List.getElem?_cons_succ, List.getElem?_cons_zero, Option.some.injEq, V.int.injEq, V.bl.injEq, V.str.injEq, V.ref.injEq, exists_eq_left', exists_eq_left, and_assoc, exists_and_left, exists_eq, exists_eq', true_and, and_true, List.set_cons_zero, List.set_cons_succ, List.set, decide_eq_true_eq, Bool.not_eq_true', if_true, if_false, rIx, cx_K, nox_K, List.replicate_succ, List.replicate_zero, Nat.reduceSub, Bool.true_eq_false, Bool.false_eq_true, Nat.reduceAdd, List.cons.injEq, reduceCtorEq, false_and, false_or, or_false, tAug, rSetO, rStrO, rIsKp, tXk, tDGet, tDIn, tDNotIn, sDPut, rUn, rBinI, rBinR, rJoin, tJs, tOrT, rIsi, tCallOI, rBinT, tFCall, tMakeL, tCMethK, ClX.tCMeth, tCall, tPar3]
  refine ⟨B17.tab, fun H20 e20 t20 => ?_⟩
  have B20 := B17.ext e20 t20
  clear B17 e20 t20
  unfold TTe
  simp only [tSeq, tIfS, tTest, tB, tAnd, tOr, tNot, tAndV, tOrV, tNotV, tIf, tOp, tUn, tChain, rEq, rNe, rI0, rI, rU, tCallR, tCons, tNil, tC, tVar, tRet, tRetN, tTup_k, tLst_k, tCB, tNext, tAsg, gName, gTup, gCons, gNil, tDrop, tPar, tFld, ClX.tCVal, tPropR, rBin, rBinT, rNeOwn, rSetL_k, gSub, tMakeK_k, tMethR, rInO, tDNewK_k, tYes, wipe, tMakeR_k, tSMeth, tSMethK, rMulS, decide_true, tNever, sFld, rIsiT, and_false, rListOf, rTupOf, rLenSeq, rIxL, rIxT, rIxS, rCat_k, rRep_k, rSlL_k, rSlS, rNewStrs_k, rAppend_k, tBM, tBM0, tM0, tM1, tSl, tNoPart, tPart, tLc_k, tFor_k, iList, iTup, iEnumT, iRng1, iRng2, iRng2L, iStr, L2.start, List.map, List.length_cons, List.length_nil, List.cons_append, List.nil_append, List.getElem?_cons_succ, List.getElem?_cons_zero, Option.some.injEq, V.int.injEq, V.bl.injEq, V.str.injEq, V.ref.injEq, exists_eq_left', exists_eq_left, and_assoc, exists_and_left, exists_eq, exists_eq', true_and, and_true, List.set_cons_zero, List.set_cons_succ, List.set, decide_eq_true_eq, Bool.not_eq_true', if_true, if_false, rIx, cx_K, nox_K, List.replicate_succ, List.replicate_zero, Nat.reduceSub, Bool.true_eq_false, Bool.false_eq_true, Nat.reduceAdd, List.cons.injEq, reduceCtorEq, false_and, false_or, or_false, tAug, rSetO, rStrO, rIsKp, tXk, tDGet, tDIn, tDNotIn, sDPut, rUn, rBinI, rBinR, rJoin, tJs, tOrT, rIsi, tCallOI, rBinT, tFCall, tMakeL, tCMethK, ClX.tCMeth, tCall, tPar3]
  by_cases hl : 1 < at_ ∨ 0 < f ∨ part = 1
  · have m1 : BdP (mirP (bndB f at_ part).x1) := (bd_mir hf hp3 (by decide)).mpr fun z => by omega
    have m0 : BdP (mirP (bndB f at_ part).x0) := (bd_mir hf hp3 (by decide)).mpr fun z => by omega
    refine ⟨B20.box.ins, .inl ⟨b, _, rfl, B20.box, m1, m0, bd.2.2.1, bd.2.2.2, fun b2 H21 s21 n21 hB2 => kNew.mk (by show 1 ≤ sizeLine; decide) fun lh H22 f22 => ?_⟩⟩
    have B22 := (B20.on s21).on f22.same
    have hB22 := hB2.same f22.same
    have lh22 := f22.at_
    clear B20 hB2 s21 f22
    subst e1
    refine tSeq_step fun R e1 => ?_
    simp only [tSeq, tIfS, tTest, tB, tAnd, tOr, tNot, tAndV, tOrV, tNotV, tIf, tOp, tUn, tChain, rEq, rNe, rI0, rI, rU, tCallR, tCons, tNil, tC, tVar, tRet, tRetN, tTup_k, tLst_k, tCB, tNext, tAsg, gName, gTup, gCons, gNil, tDrop, tPar, tFld, ClX.tCVal, tPropR, rBin, rBinT, rNeOwn, rSetL_k, gSub, tMakeK_k, tMethR, rInO, tDNewK_k, tYes, wipe, tMakeR_k, tSMeth, tSMethK, rMulS, decide_true, tNever, sFld, rIsiT, and_false, rListOf, rTupOf, rLenSeq, rIxL, rIxT, rIxS, rCat_k, rRep_k, rSlL_k, rSlS, rNewStrs_k, rAppend_k, tBM, tBM0, tM0, tM1, tSl, tNoPart, tPart, tLc_k, tFor_k, iList, iTup, iEnumT, iRng1, iRng2, iRng2L, iStr, L2.start, List.map, List.length_cons, List.length_nil, List.cons_append, List.nil_append, List.getElem?_cons_succ, List.getElem?_cons_zero, Option.some.injEq, V.int.injEq, V.bl.injEq, V.str.injEq, V.ref.injEq, exists_eq_left', exists_eq_left, and_assoc, exists_and_left, exists_eq, exists_eq', true_and, and_true, List.set_cons_zero, List.set_cons_succ, List.set, decide_eq_true_eq, Bool.not_eq_true', if_true, if_false, rIx, cx_K, nox_K, List.replicate_succ, List.replicate_zero, Nat.reduceSub, Bool.true_eq_false, Bool.false_eq_true, Nat.reduceAdd, List.cons.injEq, reduceCtorEq, false_and, false_or, or_false, tAug, rSetO, rStrO, rIsKp, tXk, tDGet, tDIn, tDNotIn, sDPut, rUn, rBinI, rBinR, rJoin, tJs, tOrT, rIsi, tCallOI, rBinT, tFCall, tMakeL, tCMethK, ClX.tCMeth, tCall, tPar3]
    suffices go : R { nx := fun x H' => Q V.non H', rt := Q } [some (V.ref p), some (V.int f), some (V.int (at_ : Nat)), some (V.int (part : Nat)), some (V.int st), some (V.ref tn), some (V.ref tb), some (V.ref ls), some (V.ref lh), some (V.bl true), none, none, some (V.ref b), some (V.ref lp), none, none] H22 by
      by_cases a1 : (1 : Int) < (at_ : Int)
      · rw [if_pos a1]; exact go
      · rw [if_neg a1]
        by_cases a2 : 0 < f
        · rw [if_pos a2]; exact go
        · rw [if_neg a2, decide_eq_true (show (part : Int) = 1 by omega)]
          exact ⟨rfl, go⟩
    subst e1
    refine tSeq_step fun R e1 => ?_
    simp only [tSeq, tIfS, tTest, tB, tAnd, tOr, tNot, tAndV, tOrV, tNotV, tIf, tOp, tUn, tChain, rEq, rNe, rI0, rI, rU, tCallR, tCons, tNil, tC, tVar, tRet, tRetN, tTup_k, tLst_k, tCB, tNext, tAsg, gName, gTup, gCons, gNil, tDrop, tPar, tFld, ClX.tCVal, tPropR, rBin, rBinT, rNeOwn, rSetL_k, gSub, tMakeK_k, tMethR, rInO, tDNewK_k, tYes, wipe, tMakeR_k, tSMeth, tSMethK, rMulS, decide_true, tNever, sFld, rIsiT, and_false, rListOf, rTupOf, rLenSeq, rIxL, rIxT, rIxS, rCat_k, rRep_k, rSlL_k, rSlS, rNewStrs_k, rAppend_k, tBM, tBM0, tM0, tM1, tSl, tNoPart, tPart, tLc_k, tFor_k, iList, iTup, iEnumT, iRng1, iRng2, iRng2L, iStr, L2.start, List.map, List.length_cons, List.length_nil, List.cons_append, List.nil_append, List.getElem?_cons_succ, List.getElem?_cons_zero, Option.some.injEq, V.int.injEq, V.bl.injEq, V.str.injEq, V.ref.injEq, exists_eq_left', exists_eq_left, and_assoc, exists_and_left, exists_eq, exists_eq', true_and, and_true, List.set_cons_zero, List.set_cons_succ, List.set, decide_eq_true_eq, Bool.not_eq_true', if_true, if_false, rIx, cx_K, nox_K, List.replicate_succ, List.replicate_zero, Nat.reduceSub, Bool.true_eq_false, Bool.false_eq_true, Nat.reduceAdd, List.cons.injEq, reduceCtorEq, false_and, false_or, or_false, tAug, rSetO, rStrO, rIsKp, tXk, tDGet, tDIn, tDNotIn, sDPut, rUn, rBinI, rBinR, rJoin, tJs, tOrT, rIsi, tCallOI, rBinT, tFCall, tMakeL, tCMethK, ClX.tCMeth, tCall, tPar3]
    refine ⟨_, _, .ty _, .base (.lst lh22), true, kit_self, ?_⟩
    rw [if_neg (by decide)]
    refine ⟨_, SqL.of lh22, _, rfl, ls, t0, t1, t2, t3, bndB f at_ part, rfl, .inl (SqL.of B22.ls), B22.h0, B22.h1, B22.h2, B22.h3, fun tm H23 s23 fm => kNew.mk (by show 2 ≤ sizeLine; decide) fun z4 H24 f24 => kNew.mk (by show 1 ≤ sizeLine; decide) fun l4 H25 f25 => ?_⟩
    have s45 := f24.same.trans f25.same
    have s35 := s23.trans s45
    refine ⟨b2, tm, l4, mirB (bndB f at_ part), [(3, 4)], rfl, hB22.same s35, fm.same s45, ⟨m1, m0, bd.2.2.1, bd.2.2.2⟩, sizes_of [z4] [(3, 4)] f25.at_ ?_ rfl, ?_, fun H26 s26 => ⟨_, rfl, ?_⟩⟩
    · intro p hp
      simp only [List.zip_cons_cons, List.zip_nil_right, List.mem_cons, List.not_mem_nil, or_false] at hp
      rcases hp with rfl
      exact f25.get f24.at_
    · intro z hz
      simp only [List.mem_cons, List.not_mem_nil, or_false] at hz
      rcases hz with rfl
      exact ⟨by decide, by decide⟩
    rw [if_neg (by decide)]
    have B26 := B22.on (s35.trans s26)
    clear B22 hB22 lh22 s45 s35 s26 fm f24 f25
    subst e1
    refine tSeq_step fun R e1 => ?_
    simp only [tSeq, tIfS, tTest, tB, tAnd, tOr, tNot, tAndV, tOrV, tNotV, tIf, tOp, tUn, tChain, rEq, rNe, rI0, rI, rU, tCallR, tCons, tNil, tC, tVar, tRet, tRetN, tTup_k, tLst_k, tCB, tNext, tAsg, gName, gTup, gCons, gNil, tDrop, tPar, tFld, ClX.tCVal, tPropR, rBin, rBinT, rNeOwn, rSetL_k, gSub, tMakeK_k, tMethR, rInO, tDNewK_k, tYes, wipe, tMakeR_k, tSMeth, tSMethK, rMulS, decide_true, tNever, sFld, rIsiT, and_false, rListOf, rTupOf, rLenSeq, rIxL, rIxT, rIxS, rCat_k, rRep_k, rSlL_k, rSlS, rNewStrs_k, rAppend_k, tBM, tBM0, tM0, tM1, tSl, tNoPart, tPart, tLc_k, tFor_k, iList, iTup, iEnumT, iRng1, iRng2, iRng2L, iStr, L2.start, List.map, List.length_cons, List.length_nil, List.cons_append, List.nil_append, List.getElem?_cons_succ, List.getElem?_cons_zero, Option.some.injEq, V.int.injEq, V.bl.injEq, V.str.injEq, V.ref.injEq, exists_eq_left', exists_eq_left, and_assoc, exists_and_left, exists_eq, exists_eq', true_and, and_true, List.set_cons_zero, List.set_cons_succ, List.set, decide_eq_true_eq, Bool.not_eq_true', if_true, if_false, rIx, cx_K, nox_K, List.replicate_succ, List.replicate_zero, Nat.reduceSub, Bool.true_eq_false, Bool.false_eq_true, Nat.reduceAdd, List.cons.injEq, reduceCtorEq, false_and, false_or, or_false, tAug, rSetO, rStrO, rIsKp, tXk, tDGet, tDIn, tDNotIn, sDPut, rUn, rBinI, rBinR, rJoin, tJs, tOrT, rIsi, tCallOI, rBinT, tFCall, tMakeL, tCMethK, ClX.tCMeth, tCall, tPar3]
    subst e1
    refine tSeq_step fun R e1 => ?_
    simp only [tSeq, tIfS, tTest, tB, tAnd, tOr, tNot, tAndV, tOrV, tNotV, tIf, tOp, tUn, tChain, rEq, rNe, rI0, rI, rU, tCallR, tCons, tNil, tC, tVar, tRet, tRetN, tTup_k, tLst_k, tCB, tNext, tAsg, gName, gTup, gCons, gNil, tDrop, tPar, tFld, ClX.tCVal, tPropR, rBin, rBinT, rNeOwn, rSetL_k, gSub, tMakeK_k, tMethR, rInO, tDNewK_k, tYes, wipe, tMakeR_k, tSMeth, tSMethK, rMulS, decide_true, tNever, sFld, rIsiT, and_false, rListOf, rTupOf, rLenSeq, rIxL, rIxT, rIxS, rCat_k, rRep_k, rSlL_k, rSlS, rNewStrs_k, rAppend_k, tBM, tBM0, tM0, tM1, tSl, tNoPart, tPart, tLc_k, tFor_k, iList, iTup, iEnumT, iRng1, iRng2, iRng2L, iStr, L2.start, List.map, List.length_cons, List.length_nil, List.cons_append, List.nil_append, List.getElem?_cons_succ, List.getElem?_cons_zero, Option.some.injEq, V.int.injEq, V.bl.injEq, V.str.injEq, V.ref.injEq, exists_eq_left', exists_eq_left, and_assoc, exists_and_left, exists_eq, exists_eq', true_and, and_true, List.set_cons_zero, List.set_cons_succ, List.set, decide_eq_true_eq, Bool.not_eq_true', if_true, if_false, rIx, cx_K, nox_K, List.replicate_succ, List.replicate_zero, Nat.reduceSub, Bool.true_eq_false, Bool.false_eq_true, Nat.reduceAdd, List.cons.injEq, reduceCtorEq, false_and, false_or, or_false, tAug, rSetO, rStrO, rIsKp, tXk, tDGet, tDIn, tDNotIn, sDPut, rUn, rBinI, rBinR, rJoin, tJs, tOrT, rIsi, tCallOI, rBinT, tFCall, tMakeL, tCMethK, ClX.tCMeth, tCall, tPar3]
    refine kNew.mk (by show 4 ≤ sizeLine; decide) fun l7 H27 f27 => ?_
    obtain ⟨nn, hn1, hn2, hsn⟩ := x0y ha
    have B27 := B26.on f27.same
    have sqb := SqT.of (K := K) B27.tb
    refine ⟨l7, rfl, _, SqL.of f27.at_, _, hn1, _, sqb, _, rfl, _, sqb, _, rfl, _, sqb, _, rfl, ?_⟩
    refine newP_mk fun od H28 s28 nod pod => ?_
    have B28 := B27.on s28
    have nlp28 : lp ≠ p := nlp.1
    clear B26 B27 f27 s28 sqb
    subst e1
    refine tSeq_step fun R e1 => ?_
    simp only [tSeq, tIfS, tTest, tB, tAnd, tOr, tNot, tAndV, tOrV, tNotV, tIf, tOp, tUn, tChain, rEq, rNe, rI0, rI, rU, tCallR, tCons, tNil, tC, tVar, tRet, tRetN, tTup_k, tLst_k, tCB, tNext, tAsg, gName, gTup, gCons, gNil, tDrop, tPar, tFld, ClX.tCVal, tPropR, rBin, rBinT, rNeOwn, rSetL_k, gSub, tMakeK_k, tMethR, rInO, tDNewK_k, tYes, wipe, tMakeR_k, tSMeth, tSMethK, rMulS, decide_true, tNever, sFld, rIsiT, and_false, rListOf, rTupOf, rLenSeq, rIxL, rIxT, rIxS, rCat_k, rRep_k, rSlL_k, rSlS, rNewStrs_k, rAppend_k, tBM, tBM0, tM0, tM1, tSl, tNoPart, tPart, tLc_k, tFor_k, iList, iTup, iEnumT, iRng1, iRng2, iRng2L, iStr, L2.start, List.map, List.length_cons, List.length_nil, List.cons_append, List.nil_append, List.getElem?_cons_succ, List.getElem?_cons_zero, Option.some.injEq, V.int.injEq, V.bl.injEq, V.str.injEq, V.ref.injEq, exists_eq_left', exists_eq_left, and_assoc, exists_and_left, exists_eq, exists_eq', true_and, and_true, List.set_cons_zero, List.set_cons_succ, List.set, decide_eq_true_eq, Bool.not_eq_true', if_true, if_false, rIx, cx_K, nox_K, List.replicate_succ, List.replicate_zero, Nat.reduceSub, Bool.true_eq_false, Bool.false_eq_true, Nat.reduceAdd, List.cons.injEq, reduceCtorEq, false_and, false_or, or_false, tAug, rSetO, rStrO, rIsKp, tXk, tDGet, tDIn, tDNotIn, sDPut, rUn, rBinI, rBinR, rJoin, tJs, tOrT, rIsi, tCallOI, rBinT, tFCall, tMakeL, tCMethK, ClX.tCMeth, tCall, tPar3]
    have last : ∀ ws H3, ws.length = 4 → Lf a (TLs Tb1 Tb2 Tb3) H p c lp ws at_ (n + 20) H3 → R { nx := fun x H' => Q V.non H', rt := Q } [some (V.ref p), some (V.int f), some (V.int (at_ : Nat)), some (V.int (part : Nat)), some (V.int st), some (V.ref tn), some (V.ref tb), some (V.ref ls), some (V.ref lh), some (V.bl true), some (V.str nn), some (V.ref od), some (V.ref b), some (V.ref lp), none, none] H3 := fun ws H3 h4 F => by
      subst e1
      simp only [tSeq, tIfS, tTest, tB, tAnd, tOr, tNot, tAndV, tOrV, tNotV, tIf, tOp, tUn, tChain, rEq, rNe, rI0, rI, rU, tCallR, tCons, tNil, tC, tVar, tRet, tRetN, tTup_k, tLst_k, tCB, tNext, tAsg, gName, gTup, gCons, gNil, tDrop, tPar, tFld, ClX.tCVal, tPropR, rBin, rBinT, rNeOwn, rSetL_k, gSub, tMakeK_k, tMethR, rInO, tDNewK_k, tYes, wipe, tMakeR_k, tSMeth, tSMethK, rMulS, decide_true, tNever, sFld, rIsiT, and_false, rListOf, rTupOf, rLenSeq, rIxL, rIxT, rIxS, rCat_k, rRep_k, rSlL_k, rSlS, rNewStrs_k, rAppend_k, tBM, tBM0, tM0, tM1, tSl, tNoPart, tPart, tLc_k, tFor_k, iList, iTup, iEnumT, iRng1, iRng2, iRng2L, iStr, L2.start, List.map, List.length_cons, List.length_nil, List.cons_append, List.nil_append, List.getElem?_cons_succ, List.getElem?_cons_zero, Option.some.injEq, V.int.injEq, V.bl.injEq, V.str.injEq, V.ref.injEq, exists_eq_left', exists_eq_left, and_assoc, exists_and_left, exists_eq, exists_eq', true_and, and_true, List.set_cons_zero, List.set_cons_succ, List.set, decide_eq_true_eq, Bool.not_eq_true', if_true, if_false, rIx, cx_K, nox_K, List.replicate_succ, List.replicate_zero, Nat.reduceSub, Bool.true_eq_false, Bool.false_eq_true, Nat.reduceAdd, List.cons.injEq, reduceCtorEq, false_and, false_or, or_false, tAug, rSetO, rStrO, rIsKp, tXk, tDGet, tDIn, tDNotIn, sDPut, rUn, rBinI, rBinR, rJoin, tJs, tOrT, rIsi, tCallOI, rBinT, tFCall, tMakeL, tCMethK, ClX.tCMeth, tCall, tPar3]
      refine ⟨F.tab, fun H30 e30 t30 => ?_⟩
      have F30 := F.ext e30 t30
      unfold TTe
      simp only [tSeq, tIfS, tTest, tB, tAnd, tOr, tNot, tAndV, tOrV, tNotV, tIf, tOp, tUn, tChain, rEq, rNe, rI0, rI, rU, tCallR, tCons, tNil, tC, tVar, tRet, tRetN, tTup_k, tLst_k, tCB, tNext, tAsg, gName, gTup, gCons, gNil, tDrop, tPar, tFld, ClX.tCVal, tPropR, rBin, rBinT, rNeOwn, rSetL_k, gSub, tMakeK_k, tMethR, rInO, tDNewK_k, tYes, wipe, tMakeR_k, tSMeth, tSMethK, rMulS, decide_true, tNever, sFld, rIsiT, and_false, rListOf, rTupOf, rLenSeq, rIxL, rIxT, rIxS, rCat_k, rRep_k, rSlL_k, rSlS, rNewStrs_k, rAppend_k, tBM, tBM0, tM0, tM1, tSl, tNoPart, tPart, tLc_k, tFor_k, iList, iTup, iEnumT, iRng1, iRng2, iRng2L, iStr, L2.start, List.map, List.length_cons, List.length_nil, List.cons_append, List.nil_append, List.getElem?_cons_succ, List.getElem?_cons_zero, Option.some.injEq, V.int.injEq, V.bl.injEq, V.str.injEq, V.ref.injEq, exists_eq_left', exists_eq_left, and_assoc, exists_and_left, exists_eq, exists_eq', true_and, and_true, List.set_cons_zero, List.set_cons_succ, List.set, decide_eq_true_eq, Bool.not_eq_true', if_true, if_false, rIx, cx_K, nox_K, List.replicate_succ, List.replicate_zero, Nat.reduceSub, Bool.true_eq_false, Bool.false_eq_true, Nat.reduceAdd, List.cons.injEq, reduceCtorEq, false_and, false_or, or_false, tAug, rSetO, rStrO, rIsKp, tXk, tDGet, tDIn, tDNotIn, sDPut, rUn, rBinI, rBinR, rJoin, tJs, tOrT, rIsi, tCallOI, rBinT, tFCall, tMakeL, tCMethK, ClX.tCMeth, tCall, tPar3]
      obtain ⟨w0, w1, w2, w3, rfl⟩ : ∃ w0 w1 w2 w3, ws = [w0, w1, w2, w3] := by
        match ws, h4 with
        | [a, b, c, d], _ => exact ⟨a, b, c, d, rfl⟩
      have sq := SqL.of (K := K) F30.lp
      refine ⟨_, sq, w0, rfl, _, sq, w1, rfl, _, sq, w2, rfl, _, sq, w3, rfl, ?_⟩
      refine kMake.mk fun x dx H11 s11 nx hx so => .inr ?_
      have out : ∀ H', (∀ b' o, b' ≠ x → H11 b' = some o → H' b' = some o) → Same H30 H' := fun H' m' b' o e => m' b' o (ne_of_none e nx) (s11 _ _ e)
      refine ⟨x, dx, w0, w1, w2, w3, at_, nn, rfl, hx, ha, fun i hi u hu => ?_, fun u hu H' m' => ?_, hn2, fun H' m' => err_place fun t H31 s31 e31 => kNew.mk (by show 2 ≤ sizeLine; decide) fun td H32 f32 => ?_⟩
      · obtain ⟨y, z, e, g, bz⟩ := F30.good i hi
        rw [e] at hu
        cases hu
        exact ⟨z, .inr ⟨y, rfl, g.same s11⟩, bz⟩
      · obtain ⟨v, e, h⟩ := F30.bad
        rw [e] at hu
        cases hu
        rcases h with h | ⟨y, z, e2, g, bz⟩
        · exact .inl h
        · exact .inr (.inl ⟨y, _, _, _, e2, g.same (out H' m'), bz⟩)
      refine eq_same (f32.get e31) f32.at_ hsn ?_
      have s := ((out H' m').trans s31).trans f32.same
      exact k _ (F30.since.trans (ExtB.same s)) (F30.pen.same s) (tabs_same F30.tab s)
    have nb1 : ¬ Bd1 (f + st) := fun z => by
      obtain ⟨z1, z2⟩ := z
      rcases hst with ⟨q1, q2⟩ | ⟨q1, q2⟩ <;> rcases hf with q3 | q3 <;> omega
    have nbd : ¬ BdP (uniP (f + st) part) := fun z => by
      obtain ⟨z1, z2, z3⟩ := z
      unfold uniP at z1 z2 z3
      match part, hp3 with
      | 0, _ => exact nb1 z1
      | 1, _ => exact nb1 z2
      | 2, _ => exact nb1 z3
    have gg : ∀ i, i < 4 → ∃ x z, ([V.ref r0, .ref r1, .ref r2, .ref r3])[i]? = some (.ref x) ∧ PlA H28 a.Place x z ∧ BdP z := fun i hi => by
      match i, hi with
      | 0, _ => exact ⟨r0, _, rfl, B28.g0, bd.1⟩
      | 1, _ => exact ⟨r1, _, rfl, B28.g1, bd.2.1⟩
      | 2, _ => exact ⟨r2, _, rfl, B28.g2, bd.2.2.1⟩
      | 3, _ => exact ⟨r3, _, rfl, B28.g3, bd.2.2.2⟩
    have put : ∀ (H1 : Hp) (m : Int) (v9 : V), SameBut p H28 H1 → Pen H1 p c m → m ≤ n + 20 → ((∃ i : Int, v9 = .int i ∧ ¬ Bd1 i) ∨ ∃ x z, v9 = .ref x ∧ PlA H28 a.Place x z ∧ ¬ BdP z) →
        ∃ x, H1 lp = some (HO.lst x) ∧ ∃ x_1, ixN x.length (at_ : Int) = some x_1 ∧ kPutS lp (HO.lst (x.set x_1 v9)) (fun H3 => R { nx := fun x H' => Q V.non H', rt := Q } [some (V.ref p), some (V.int f), some (V.int (at_ : Nat)), some (V.int (part : Nat)), some (V.int st), some (V.ref tn), some (V.ref tb), some (V.ref ls), some (V.ref lh), some (V.bl true), some (V.str nn), some (V.ref od), some (V.ref b), some (V.ref lp), none, none] H3) H1 := fun H1 m v9 s1 P1 hm hb => by
      have l1 := s1 _ _ nlp28 B28.lp
      refine ⟨_, l1, at_, ix4 ha, last _ _ (by rw [List.length_set]; rfl) ⟨(P1.le hm).put nlp28 nlp.2, tabs_upd (tabs_pen B28.tab B28.pen s1) l1, fun b' o nb e q => ?_, upd_same, fun i hi => ?_, ?_⟩⟩
      · have nb2 : b' ≠ lp := fun z => nwl o (by rw [← z]; exact e) q
        rw [upd_ne nb2]
        exact s1 _ _ nb (B28.since b' o nb e q)
      · obtain ⟨x, z, e, g, bz⟩ := gg i (by omega)
        exact ⟨x, z, by rw [List.getElem?_set_ne (by omega)]; exact e, (g.pen B28.pen s1).updL l1, bz⟩
      · refine ⟨v9, List.getElem?_set_self (by show at_ < 4; exact ha), ?_⟩
        rcases hb with h | ⟨x, z, e, g, bz⟩
        · exact .inl h
        · exact .inr ⟨x, z, e, (g.pen B28.pen s1).updL l1, bz⟩
    have podA : PlA H28 a.Place od (uniP (f + st) part) := pod
    refine ⟨rfl, ?_⟩
    by_cases hp1 : (part : Int) = 1
    · rw [decide_eq_true hp1, if_neg (by decide)]
      refine ⟨p, c, 2, _, rfl, B28.pen, by omega, by decide, by decide, fun z H1 z0 z1 s1 P1 => ⟨rfl, ?_⟩⟩
      by_cases hz : V.int z = V.int 0
      · rw [if_pos hz]
        exact put H1 _ _ s1 P1 (by omega) (.inr ⟨od, _, rfl, podA, nbd⟩)
      · rw [if_neg hz]
        have hpn : part = 1 := by omega
        refine ⟨_, SqT.of (B28.tb.pen B28.pen s1), _, rfl, put H1 _ _ s1 P1 (by omega) (.inl ⟨(uniP (f + st) part).o, rfl, fun q => nb1 ?_⟩)⟩
        unfold uniP at q
        simp only [if_pos hpn] at q
        exact q
    · rw [decide_eq_false hp1, if_pos rfl]
      exact put H28 _ _ (fun _ _ _ e => e) B28.pen (by omega) (.inr ⟨od, _, rfl, podA, nbd⟩)
  · have nl : at_ < 2 ∧ f < 0 ∧ part ≠ 1 := ⟨by omega, by omega, by omega⟩
    obtain ⟨nm, hnm, hsp, hsh⟩ : ∃ nm : Str, atI [V.str "x1", .str "x0"] (at_ : Int) = some (.str nm) ∧ ((¬ BdP (mirP (bndB f at_ part).x1) ∧ nm = "x0") ∨ (BdP (mirP (bndB f at_ part).x1) ∧ ¬ BdP (mirP (bndB f at_ part).x0) ∧ nm = "x1")) ∧ SeqAt.shaped (.tuple [.str "place", .str nm]) = true := by
      by_cases h1 : at_ = 1
      · subst h1
        exact ⟨"x0", rfl, .inl ⟨fun z => (bd_mir (k := 1) hf hp3 (by decide)).mp z ⟨rfl, nl.2⟩, rfl⟩, by decide +kernel⟩
      · have h0 : at_ = 0 := by omega
        subst h0
        exact ⟨"x1", rfl, .inr ⟨(bd_mir (k := 1) hf hp3 (by decide)).mpr fun z => by omega, fun z => (bd_mir (k := 0) hf hp3 (by decide)).mp z ⟨rfl, nl.2⟩, rfl⟩, by decide +kernel⟩
    refine ⟨B20.box.ins, .inr ⟨b, _, nm, rfl, B20.box, hsp, fun H21 s21 => err_place fun th H22 s22 e22 => ?_⟩⟩
    have B22 := (B20.on s21).on s22
    clear B20 s21 s22
    subst e1
    refine tSeq_step fun R e1 => ?_
    simp only [tSeq, tIfS, tTest, tB, tAnd, tOr, tNot, tAndV, tOrV, tNotV, tIf, tOp, tUn, tChain, rEq, rNe, rI0, rI, rU, tCallR, tCons, tNil, tC, tVar, tRet, tRetN, tTup_k, tLst_k, tCB, tNext, tAsg, gName, gTup, gCons, gNil, tDrop, tPar, tFld, ClX.tCVal, tPropR, rBin, rBinT, rNeOwn, rSetL_k, gSub, tMakeK_k, tMethR, rInO, tDNewK_k, tYes, wipe, tMakeR_k, tSMeth, tSMethK, rMulS, decide_true, tNever, sFld, rIsiT, and_false, rListOf, rTupOf, rLenSeq, rIxL, rIxT, rIxS, rCat_k, rRep_k, rSlL_k, rSlS, rNewStrs_k, rAppend_k, tBM, tBM0, tM0, tM1, tSl, tNoPart, tPart, tLc_k, tFor_k, iList, iTup, iEnumT, iRng1, iRng2, iRng2L, iStr, L2.start, List.map, List.length_cons, List.length_nil, List.cons_append, List.nil_append, List.getElem?_cons_succ, List.getElem?_cons_zero, Option.some.injEq, V.int.injEq, V.bl.injEq, V.str.injEq, V.ref.injEq, exists_eq_left', exists_eq_left, and_assoc, exists_and_left, exists_eq, exists_eq', true_and, and_true, List.set_cons_zero, List.set_cons_succ, List.set, decide_eq_true_eq, Bool.not_eq_true', if_true, if_false, rIx, cx_K, nox_K, List.replicate_succ, List.replicate_zero, Nat.reduceSub, Bool.true_eq_false, Bool.false_eq_true, Nat.reduceAdd, List.cons.injEq, reduceCtorEq, false_and, false_or, or_false, tAug, rSetO, rStrO, rIsKp, tXk, tDGet, tDIn, tDNotIn, sDPut, rUn, rBinI, rBinR, rJoin, tJs, tOrT, rIsi, tCallOI, rBinT, tFCall, tMakeL, tCMethK, ClX.tCMeth, tCall, tPar3]
    rw [if_neg (by omega), if_neg (by omega), decide_eq_false (show ¬ (part : Int) = 1 by omega)]
    refine ⟨rfl, ?_⟩
    subst e1
    refine tSeq_step fun R e1 => ?_
    simp only [tSeq, tIfS, tTest, tB, tAnd, tOr, tNot, tAndV, tOrV, tNotV, tIf, tOp, tUn, tChain, rEq, rNe, rI0, rI, rU, tCallR, tCons, tNil, tC, tVar, tRet, tRetN, tTup_k, tLst_k, tCB, tNext, tAsg, gName, gTup, gCons, gNil, tDrop, tPar, tFld, ClX.tCVal, tPropR, rBin, rBinT, rNeOwn, rSetL_k, gSub, tMakeK_k, tMethR, rInO, tDNewK_k, tYes, wipe, tMakeR_k, tSMeth, tSMethK, rMulS, decide_true, tNever, sFld, rIsiT, and_false, rListOf, rTupOf, rLenSeq, rIxL, rIxT, rIxS, rCat_k, rRep_k, rSlL_k, rSlS, rNewStrs_k, rAppend_k, tBM, tBM0, tM0, tM1, tSl, tNoPart, tPart, tLc_k, tFor_k, iList, iTup, iEnumT, iRng1, iRng2, iRng2L, iStr, L2.start, List.map, List.length_cons, List.length_nil, List.cons_append, List.nil_append, List.getElem?_cons_succ, List.getElem?_cons_zero, Option.some.injEq, V.int.injEq, V.bl.injEq, V.str.injEq, V.ref.injEq, exists_eq_left', exists_eq_left, and_assoc, exists_and_left, exists_eq, exists_eq', true_and, and_true, List.set_cons_zero, List.set_cons_succ, List.set, decide_eq_true_eq, Bool.not_eq_true', if_true, if_false, rIx, cx_K, nox_K, List.replicate_succ, List.replicate_zero, Nat.reduceSub, Bool.true_eq_false, Bool.false_eq_true, Nat.reduceAdd, List.cons.injEq, reduceCtorEq, false_and, false_or, or_false, tAug, rSetO, rStrO, rIsKp, tXk, tDGet, tDIn, tDNotIn, sDPut, rUn, rBinI, rBinR, rJoin, tJs, tOrT, rIsi, tCallOI, rBinT, tFCall, tMakeL, tCMethK, ClX.tCMeth, tCall, tPar3]
    subst e1
    refine tSeq_step fun R e1 => ?_
    simp only [tSeq, tIfS, tTest, tB, tAnd, tOr, tNot, tAndV, tOrV, tNotV, tIf, tOp, tUn, tChain, rEq, rNe, rI0, rI, rU, tCallR, tCons, tNil, tC, tVar, tRet, tRetN, tTup_k, tLst_k, tCB, tNext, tAsg, gName, gTup, gCons, gNil, tDrop, tPar, tFld, ClX.tCVal, tPropR, rBin, rBinT, rNeOwn, rSetL_k, gSub, tMakeK_k, tMethR, rInO, tDNewK_k, tYes, wipe, tMakeR_k, tSMeth, tSMethK, rMulS, decide_true, tNever, sFld, rIsiT, and_false, rListOf, rTupOf, rLenSeq, rIxL, rIxT, rIxS, rCat_k, rRep_k, rSlL_k, rSlS, rNewStrs_k, rAppend_k, tBM, tBM0, tM0, tM1, tSl, tNoPart, tPart, tLc_k, tFor_k, iList, iTup, iEnumT, iRng1, iRng2, iRng2L, iStr, L2.start, List.map, List.length_cons, List.length_nil, List.cons_append, List.nil_append, List.getElem?_cons_succ, List.getElem?_cons_zero, Option.some.injEq, V.int.injEq, V.bl.injEq, V.str.injEq, V.ref.injEq, exists_eq_left', exists_eq_left, and_assoc, exists_and_left, exists_eq, exists_eq', true_and, and_true, List.set_cons_zero, List.set_cons_succ, List.set, decide_eq_true_eq, Bool.not_eq_true', if_true, if_false, rIx, cx_K, nox_K, List.replicate_succ, List.replicate_zero, Nat.reduceSub, Bool.true_eq_false, Bool.false_eq_true, Nat.reduceAdd, List.cons.injEq, reduceCtorEq, false_and, false_or, or_false, tAug, rSetO, rStrO, rIsKp, tXk, tDGet, tDIn, tDNotIn, sDPut, rUn, rBinI, rBinR, rJoin, tJs, tOrT, rIsi, tCallOI, rBinT, tFCall, tMakeL, tCMethK, ClX.tCMeth, tCall, tPar3]
    refine kNew.mk (by show 2 ≤ sizeLine; decide) fun l6 H23 f23 => ⟨l6, rfl, _, SqL.of f23.at_, _, hnm, kNew.mk (by show 2 ≤ sizeLine; decide) fun t6 H24 f24 => ?_⟩
    refine ne_same (f24.get (f23.get e22)) f24.at_ hsh ⟨_, rfl, ?_⟩
    rw [if_neg (by decide)]
    obtain ⟨H26, rfl⟩ : ∃ H26, H26 = H24 := ⟨_, rfl⟩
    have B26 := B22.on (f23.same.trans f24.same)
    clear B22 f23 f24 e22 hsp hnm hsh
    subst e1
    refine tSeq_step fun R e1 => ?_
    simp only [tSeq, tIfS, tTest, tB, tAnd, tOr, tNot, tAndV, tOrV, tNotV, tIf, tOp, tUn, tChain, rEq, rNe, rI0, rI, rU, tCallR, tCons, tNil, tC, tVar, tRet, tRetN, tTup_k, tLst_k, tCB, tNext, tAsg, gName, gTup, gCons, gNil, tDrop, tPar, tFld, ClX.tCVal, tPropR, rBin, rBinT, rNeOwn, rSetL_k, gSub, tMakeK_k, tMethR, rInO, tDNewK_k, tYes, wipe, tMakeR_k, tSMeth, tSMethK, rMulS, decide_true, tNever, sFld, rIsiT, and_false, rListOf, rTupOf, rLenSeq, rIxL, rIxT, rIxS, rCat_k, rRep_k, rSlL_k, rSlS, rNewStrs_k, rAppend_k, tBM, tBM0, tM0, tM1, tSl, tNoPart, tPart, tLc_k, tFor_k, iList, iTup, iEnumT, iRng1, iRng2, iRng2L, iStr, L2.start, List.map, List.length_cons, List.length_nil, List.cons_append, List.nil_append, List.getElem?_cons_succ, List.getElem?_cons_zero, Option.some.injEq, V.int.injEq, V.bl.injEq, V.str.injEq, V.ref.injEq, exists_eq_left', exists_eq_left, and_assoc, exists_and_left, exists_eq, exists_eq', true_and, and_true, List.set_cons_zero, List.set_cons_succ, List.set, decide_eq_true_eq, Bool.not_eq_true', if_true, if_false, rIx, cx_K, nox_K, List.replicate_succ, List.replicate_zero, Nat.reduceSub, Bool.true_eq_false, Bool.false_eq_true, Nat.reduceAdd, List.cons.injEq, reduceCtorEq, false_and, false_or, or_false, tAug, rSetO, rStrO, rIsKp, tXk, tDGet, tDIn, tDNotIn, sDPut, rUn, rBinI, rBinR, rJoin, tJs, tOrT, rIsi, tCallOI, rBinT, tFCall, tMakeL, tCMethK, ClX.tCMeth, tCall, tPar3]
    refine kNew.mk (by show 4 ≤ sizeLine; decide) fun l7 H27 f27 => ?_
    obtain ⟨nn, hn1, hn2, hsn⟩ := x0y ha
    have B27 := B26.on f27.same
    have sqb := SqT.of (K := K) B27.tb
    refine ⟨l7, rfl, _, SqL.of f27.at_, _, hn1, _, sqb, _, rfl, _, sqb, _, rfl, _, sqb, _, rfl, ?_⟩
    refine newP_mk fun od H28 s28 nod pod => ?_
    have B28 := B27.on s28
    have nlp28 : lp ≠ p := nlp.1
    clear B26 B27 f27 s28 sqb
    subst e1
    refine tSeq_step fun R e1 => ?_
    simp only [tSeq, tIfS, tTest, tB, tAnd, tOr, tNot, tAndV, tOrV, tNotV, tIf, tOp, tUn, tChain, rEq, rNe, rI0, rI, rU, tCallR, tCons, tNil, tC, tVar, tRet, tRetN, tTup_k, tLst_k, tCB, tNext, tAsg, gName, gTup, gCons, gNil, tDrop, tPar, tFld, ClX.tCVal, tPropR, rBin, rBinT, rNeOwn, rSetL_k, gSub, tMakeK_k, tMethR, rInO, tDNewK_k, tYes, wipe, tMakeR_k, tSMeth, tSMethK, rMulS, decide_true, tNever, sFld, rIsiT, and_false, rListOf, rTupOf, rLenSeq, rIxL, rIxT, rIxS, rCat_k, rRep_k, rSlL_k, rSlS, rNewStrs_k, rAppend_k, tBM, tBM0, tM0, tM1, tSl, tNoPart, tPart, tLc_k, tFor_k, iList, iTup, iEnumT, iRng1, iRng2, iRng2L, iStr, L2.start, List.map, List.length_cons, List.length_nil, List.cons_append, List.nil_append, List.getElem?_cons_succ, List.getElem?_cons_zero, Option.some.injEq, V.int.injEq, V.bl.injEq, V.str.injEq, V.ref.injEq, exists_eq_left', exists_eq_left, and_assoc, exists_and_left, exists_eq, exists_eq', true_and, and_true, List.set_cons_zero, List.set_cons_succ, List.set, decide_eq_true_eq, Bool.not_eq_true', if_true, if_false, rIx, cx_K, nox_K, List.replicate_succ, List.replicate_zero, Nat.reduceSub, Bool.true_eq_false, Bool.false_eq_true, Nat.reduceAdd, List.cons.injEq, reduceCtorEq, false_and, false_or, or_false, tAug, rSetO, rStrO, rIsKp, tXk, tDGet, tDIn, tDNotIn, sDPut, rUn, rBinI, rBinR, rJoin, tJs, tOrT, rIsi, tCallOI, rBinT, tFCall, tMakeL, tCMethK, ClX.tCMeth, tCall, tPar3]
    have last : ∀ ws H3, ws.length = 4 → Lf a (TLs Tb1 Tb2 Tb3) H p c lp ws at_ (n + 20) H3 → R { nx := fun x H' => Q V.non H', rt := Q } [some (V.ref p), some (V.int f), some (V.int (at_ : Nat)), some (V.int (part : Nat)), some (V.int st), some (V.ref tn), some (V.ref tb), some (V.ref ls), some (V.ref th), some (V.bl false), some (V.str nn), some (V.ref od), some (V.ref b), some (V.ref lp), none, none] H3 := fun ws H3 h4 F => by
      subst e1
      simp only [tSeq, tIfS, tTest, tB, tAnd, tOr, tNot, tAndV, tOrV, tNotV, tIf, tOp, tUn, tChain, rEq, rNe, rI0, rI, rU, tCallR, tCons, tNil, tC, tVar, tRet, tRetN, tTup_k, tLst_k, tCB, tNext, tAsg, gName, gTup, gCons, gNil, tDrop, tPar, tFld, ClX.tCVal, tPropR, rBin, rBinT, rNeOwn, rSetL_k, gSub, tMakeK_k, tMethR, rInO, tDNewK_k, tYes, wipe, tMakeR_k, tSMeth, tSMethK, rMulS, decide_true, tNever, sFld, rIsiT, and_false, rListOf, rTupOf, rLenSeq, rIxL, rIxT, rIxS, rCat_k, rRep_k, rSlL_k, rSlS, rNewStrs_k, rAppend_k, tBM, tBM0, tM0, tM1, tSl, tNoPart, tPart, tLc_k, tFor_k, iList, iTup, iEnumT, iRng1, iRng2, iRng2L, iStr, L2.start, List.map, List.length_cons, List.length_nil, List.cons_append, List.nil_append, List.getElem?_cons_succ, List.getElem?_cons_zero, Option.some.injEq, V.int.injEq, V.bl.injEq, V.str.injEq, V.ref.injEq, exists_eq_left', exists_eq_left, and_assoc, exists_and_left, exists_eq, exists_eq', true_and, and_true, List.set_cons_zero, List.set_cons_succ, List.set, decide_eq_true_eq, Bool.not_eq_true', if_true, if_false, rIx, cx_K, nox_K, List.replicate_succ, List.replicate_zero, Nat.reduceSub, Bool.true_eq_false, Bool.false_eq_true, Nat.reduceAdd, List.cons.injEq, reduceCtorEq, false_and, false_or, or_false, tAug, rSetO, rStrO, rIsKp, tXk, tDGet, tDIn, tDNotIn, sDPut, rUn, rBinI, rBinR, rJoin, tJs, tOrT, rIsi, tCallOI, rBinT, tFCall, tMakeL, tCMethK, ClX.tCMeth, tCall, tPar3]
      refine ⟨F.tab, fun H30 e30 t30 => ?_⟩
      have F30 := F.ext e30 t30
      unfold TTe
      simp only [tSeq, tIfS, tTest, tB, tAnd, tOr, tNot, tAndV, tOrV, tNotV, tIf, tOp, tUn, tChain, rEq, rNe, rI0, rI, rU, tCallR, tCons, tNil, tC, tVar, tRet, tRetN, tTup_k, tLst_k, tCB, tNext, tAsg, gName, gTup, gCons, gNil, tDrop, tPar, tFld, ClX.tCVal, tPropR, rBin, rBinT, rNeOwn, rSetL_k, gSub, tMakeK_k, tMethR, rInO, tDNewK_k, tYes, wipe, tMakeR_k, tSMeth, tSMethK, rMulS, decide_true, tNever, sFld, rIsiT, and_false, rListOf, rTupOf, rLenSeq, rIxL, rIxT, rIxS, rCat_k, rRep_k, rSlL_k, rSlS, rNewStrs_k, rAppend_k, tBM, tBM0, tM0, tM1, tSl, tNoPart, tPart, tLc_k, tFor_k, iList, iTup, iEnumT, iRng1, iRng2, iRng2L, iStr, L2.start, List.map, List.length_cons, List.length_nil, List.cons_append, List.nil_append, List.getElem?_cons_succ, List.getElem?_cons_zero, Option.some.injEq, V.int.injEq, V.bl.injEq, V.str.injEq, V.ref.injEq, exists_eq_left', exists_eq_left, and_assoc, exists_and_left, exists_eq, exists_eq', true_and, and_true, List.set_cons_zero, List.set_cons_succ, List.set, decide_eq_true_eq, Bool.not_eq_true', if_true, if_false, rIx, cx_K, nox_K, List.replicate_succ, List.replicate_zero, Nat.reduceSub, Bool.true_eq_false, Bool.false_eq_true, Nat.reduceAdd, List.cons.injEq, reduceCtorEq, false_and, false_or, or_false, tAug, rSetO, rStrO, rIsKp, tXk, tDGet, tDIn, tDNotIn, sDPut, rUn, rBinI, rBinR, rJoin, tJs, tOrT, rIsi, tCallOI, rBinT, tFCall, tMakeL, tCMethK, ClX.tCMeth, tCall, tPar3]
      obtain ⟨w0, w1, w2, w3, rfl⟩ : ∃ w0 w1 w2 w3, ws = [w0, w1, w2, w3] := by
        match ws, h4 with
        | [a, b, c, d], _ => exact ⟨a, b, c, d, rfl⟩
      have sq := SqL.of (K := K) F30.lp
      refine ⟨_, sq, w0, rfl, _, sq, w1, rfl, _, sq, w2, rfl, _, sq, w3, rfl, ?_⟩
      refine kMake.mk fun x dx H11 s11 nx hx so => .inr ?_
      have out : ∀ H', (∀ b' o, b' ≠ x → H11 b' = some o → H' b' = some o) → Same H30 H' := fun H' m' b' o e => m' b' o (ne_of_none e nx) (s11 _ _ e)
      refine ⟨x, dx, w0, w1, w2, w3, at_, nn, rfl, hx, ha, fun i hi u hu => ?_, fun u hu H' m' => ?_, hn2, fun H' m' => err_place fun t H31 s31 e31 => kNew.mk (by show 2 ≤ sizeLine; decide) fun td H32 f32 => ?_⟩
      · obtain ⟨y, z, e, g, bz⟩ := F30.good i hi
        rw [e] at hu
        cases hu
        exact ⟨z, .inr ⟨y, rfl, g.same s11⟩, bz⟩
      · obtain ⟨v, e, h⟩ := F30.bad
        rw [e] at hu
        cases hu
        rcases h with h | ⟨y, z, e2, g, bz⟩
        · exact .inl h
        · exact .inr (.inl ⟨y, _, _, _, e2, g.same (out H' m'), bz⟩)
      refine eq_same (f32.get e31) f32.at_ hsn ?_
      have s := ((out H' m').trans s31).trans f32.same
      exact k _ (F30.since.trans (ExtB.same s)) (F30.pen.same s) (tabs_same F30.tab s)
    have nb1 : ¬ Bd1 (f + st) := fun z => by
      obtain ⟨z1, z2⟩ := z
      rcases hst with ⟨q1, q2⟩ | ⟨q1, q2⟩ <;> rcases hf with q3 | q3 <;> omega
    have nbd : ¬ BdP (uniP (f + st) part) := fun z => by
      obtain ⟨z1, z2, z3⟩ := z
      unfold uniP at z1 z2 z3
      match part, hp3 with
      | 0, _ => exact nb1 z1
      | 1, _ => exact nb1 z2
      | 2, _ => exact nb1 z3
    have gg : ∀ i, i < 4 → ∃ x z, ([V.ref r0, .ref r1, .ref r2, .ref r3])[i]? = some (.ref x) ∧ PlA H28 a.Place x z ∧ BdP z := fun i hi => by
      match i, hi with
      | 0, _ => exact ⟨r0, _, rfl, B28.g0, bd.1⟩
      | 1, _ => exact ⟨r1, _, rfl, B28.g1, bd.2.1⟩
      | 2, _ => exact ⟨r2, _, rfl, B28.g2, bd.2.2.1⟩
      | 3, _ => exact ⟨r3, _, rfl, B28.g3, bd.2.2.2⟩
    have put : ∀ (H1 : Hp) (m : Int) (v9 : V), SameBut p H28 H1 → Pen H1 p c m → m ≤ n + 20 → ((∃ i : Int, v9 = .int i ∧ ¬ Bd1 i) ∨ ∃ x z, v9 = .ref x ∧ PlA H28 a.Place x z ∧ ¬ BdP z) →
        ∃ x, H1 lp = some (HO.lst x) ∧ ∃ x_1, ixN x.length (at_ : Int) = some x_1 ∧ kPutS lp (HO.lst (x.set x_1 v9)) (fun H3 => R { nx := fun x H' => Q V.non H', rt := Q } [some (V.ref p), some (V.int f), some (V.int (at_ : Nat)), some (V.int (part : Nat)), some (V.int st), some (V.ref tn), some (V.ref tb), some (V.ref ls), some (V.ref th), some (V.bl false), some (V.str nn), some (V.ref od), some (V.ref b), some (V.ref lp), none, none] H3) H1 := fun H1 m v9 s1 P1 hm hb => by
      have l1 := s1 _ _ nlp28 B28.lp
      refine ⟨_, l1, at_, ix4 ha, last _ _ (by rw [List.length_set]; rfl) ⟨(P1.le hm).put nlp28 nlp.2, tabs_upd (tabs_pen B28.tab B28.pen s1) l1, fun b' o nb e q => ?_, upd_same, fun i hi => ?_, ?_⟩⟩
      · have nb2 : b' ≠ lp := fun z => nwl o (by rw [← z]; exact e) q
        rw [upd_ne nb2]
        exact s1 _ _ nb (B28.since b' o nb e q)
      · obtain ⟨x, z, e, g, bz⟩ := gg i (by omega)
        exact ⟨x, z, by rw [List.getElem?_set_ne (by omega)]; exact e, (g.pen B28.pen s1).updL l1, bz⟩
      · refine ⟨v9, List.getElem?_set_self (by show at_ < 4; exact ha), ?_⟩
        rcases hb with h | ⟨x, z, e, g, bz⟩
        · exact .inl h
        · exact .inr ⟨x, z, e, (g.pen B28.pen s1).updL l1, bz⟩
    have podA : PlA H28 a.Place od (uniP (f + st) part) := pod
    refine ⟨rfl, ?_⟩
    by_cases hp1 : (part : Int) = 1
    · rw [decide_eq_true hp1, if_neg (by decide)]
      refine ⟨p, c, 2, _, rfl, B28.pen, by omega, by decide, by decide, fun z H1 z0 z1 s1 P1 => ⟨rfl, ?_⟩⟩
      by_cases hz : V.int z = V.int 0
      · rw [if_pos hz]
        exact put H1 _ _ s1 P1 (by omega) (.inr ⟨od, _, rfl, podA, nbd⟩)
      · rw [if_neg hz]
        have hpn : part = 1 := by omega
        refine ⟨_, SqT.of (B28.tb.pen B28.pen s1), _, rfl, put H1 _ _ s1 P1 (by omega) (.inl ⟨(uniP (f + st) part).o, rfl, fun q => nb1 ?_⟩)⟩
        unfold uniP at q
        simp only [if_pos hpn] at q
        exact q
    · rw [decide_eq_false hp1, if_pos rfl]
      exact put H28 _ _ (fun _ _ _ e => e) B28.pen (by omega) (.inr ⟨od, _, rfl, podA, nbd⟩)
end
end Pf
end
section
namespace Pf
open PySem PySem.Spec PyProof.Rows L2 Ow StX
/-! ### margins far out -/
def spFar (T1 T2 T3 : Addr) : Sp := fun vs H Q _ => vs = [] ∧ LamX.Tabs (TLs T1 T2 T3) H ∧ ∀ H', Q (.bl true) H'
section
variable {P : Program} {w : World} {K : PySem.W.Frag} {mg : Str → Option Value} {base : Heap} {a : Adr}
set_option maxHeartbeats 4000000
theorem ok_far (T : Txt K mg a) {c3 Tb1 Tb2 Tb3 : Addr} (nes : Nes Tb1 Tb2 Tb3) (FC : FnC K "_law_far_margins_right" "_law_far_margins_right" s__law_far_margins_right a._law_far_margins_right c3) (TB3 : LamX.TabB base mg c3 Tb3) : FnG P w K mg base CX0 30 a._law_far_margins_right (spFar Tb1 Tb2 Tb3) := by
  have G_inside : FnR P w K mg base (CX P w) 13 a.Box_inside (spInside K a.Box a.Place a.BadPlace) := ok_inside T
  have G__law_is : FnG P w K mg base CX0 8 a._law_is (spIs a.Box a.Place) := ok_is T
  refine FC.okG sc__law_far_margins_right (fun _ _ _ _ _ _ us hl => match us, hl with | [], _ => rfl) (fun vs H Q E h => by obtain ⟨rfl, _⟩ := h; rfl) (fun A outer s H vs Q E hr hg h => ?_)
  obtain ⟨rfl, T0, k⟩ := h
  refine ⟨_, (pss_cons (ps_for PassesOwn.never rfl (pi_tup (pe_tup (pa_cons (pe_op (op_powK 12) pe_int pe_int) (pa_cons (pe_op op_sub pe_int (pe_op (op_powK 12) pe_int pe_int)) pa_nil)))) (pg_name (i := 0) sc__law_far_margins_right.nd rfl (Or.inl rfl))
          (pss_one (ps_if (pt_not (pt_val (pe_callG G__law_is (hr.mono (by decide)) (by exact hg) T.m__law_is T.k__law_is pass0 (pa_cons (ClX.pe_cmeth (pe_glob (v := .ref a.Box) rfl T.m_Box rfl) T.cr_Box T.cm_inside G_inside (hr.mono (by decide)) (passUp LamX.takes0) (pa_cons (pv 0) pa_nil)) (pa_cons (pe_tup (pa_cons (pe_tup (pa_cons pe_int (pa_cons (pv 0) (pa_cons pe_int pa_nil)))) (pa_cons (pe_tup (pa_cons pe_int (pa_cons (pe_op op_sub pe_int (pv 0)) (pa_cons pe_int pa_nil)))) (pa_cons (pe_tup (pa_cons pe_int (pa_cons (pv 0) (pa_cons pe_int pa_nil)))) (pa_cons (pe_tup (pa_cons pe_int (pa_cons (pe_op op_sub pe_int (pv 0)) (pa_cons pe_int pa_nil)))) pa_nil))))) (pa_cons (pe_lst (pa_cons (pe_tup (pa_cons pe_int (pa_cons pe_int pa_nil))) (pa_cons (pe_tup (pa_cons pe_int (pa_cons pe_int pa_nil))) pa_nil))) pa_nil))))))
              (pss_one (ps_ret pe_bl))
              pss_nil)))
      (pss_cons (ps_set (i := 1) sc__law_far_margins_right.nd rfl (Or.inl rfl) (pe_lst (pa_cons (pe_heard (k := 20) (TL := TLs Tb1 Tb2 Tb3) T rfl TB3 rfl (in_TL3 _ _ _) (un_TL3 nes) (hr.mono (by decide)) (LamX.lamS_by (sc := defScope s__law_far_margins_right) (by decide +kernel)) rfl (fun _ _ _ _ _ => rfl) (fun A outer s H E f c' hr' => ClX.pe_cmeth (pe_glob (v := .ref a.Box) rfl T.m_Box rfl) T.cr_Box T.cm_inside G_inside (hr'.mono (by decide)) (passUp (takes_of rfl rfl rfl rfl)) (pa_cons (pe_op op_add (pe_op (op_powK 12) pe_int pe_int) pe_int) pa_nil))) pa_nil)))
      (pss_cons (ps_expr (pe_bm PySem.F.plainAttrs_list PySem.F.slot_list_append PySem.F.type_list_append mt_append (pv 1) (pa_cons (pe_heard (k := 20) (TL := TLs Tb1 Tb2 Tb3) T rfl TB3 rfl (in_TL3 _ _ _) (un_TL3 nes) (hr.mono (by decide)) (LamX.lamS_by (sc := defScope s__law_far_margins_right) (by decide +kernel)) rfl (fun _ _ _ _ _ => rfl) (fun A outer s H E f c' hr' => ClX.pe_cmeth (pe_glob (v := .ref a.Box) rfl T.m_Box rfl) T.cr_Box T.cm_inside G_inside (hr'.mono (by decide)) (passUp (takes_of rfl rfl rfl rfl)) (pa_cons (pe_op op_sub (pe_op op_sub pe_int (pe_op (op_powK 12) pe_int pe_int)) pe_int) pa_nil))) pa_nil)))
      (pss_one (ps_ret (pe_cmpR (op_eqD hr.units) (pv 1) (pe_op op_rep (pe_lst (pa_cons (pe_tup (pa_cons pe_str (pa_cons pe_str pa_nil))) pa_nil)) pe_int) (nomark _))))))), ?_⟩
  refine tSeq_step fun R e1 => ?_
  simp only [tIfS, tTest, tB, tAnd, tOr, tNot, tAndV, tOrV, tNotV, tIf, tOp, tUn, tChain, rEq, rNe, rI0, rI, rU, tCallR, tCons, tNil, tC, tVar, tRet, tRetN, tTup_k, tLst_k, tCB, tNext, tAsg, gName, gTup, gCons, gNil, tDrop, tPar, tFld, ClX.tCVal, tPropR, rBin, rBinT, rNeOwn, rSetL_k, gSub, tMakeK_k, tMethR, rInO, tDNewK_k, tYes, wipe, tMakeR_k, tSMeth, tSMethK, rMulS, decide_true, tNever, sFld, rIsiT, and_false, rListOf, rTupOf, rLenSeq, rIxL, rIxT, rIxS, rCat_k, rRep_k, rSlL_k, rSlS, rNewStrs_k, rAppend_k, tBM, tBM0, tM0, tM1, tSl, tNoPart, tPart, tLc_k, tFor_k, iList, iTup, iEnumT, iRng1, iRng2, iRng2L, iStr, L2.start, List.map, List.length_cons, List.length_nil, List.cons_append, List.nil_append, List.getElem?_cons_succ, List.getElem?_cons_zero, Option.some.injEq, V.int.injEq, V.bl.injEq, V.str.injEq, V.ref.injEq, exists_eq_left', exists_eq_left, and_assoc, exists_and_left, exists_eq, exists_eq', true_and, and_true, List.set_cons_zero, List.set_cons_succ, List.set, decide_eq_true_eq, Bool.not_eq_true', if_true, if_false, rIx, cx_K, nox_K, List.replicate_succ, List.replicate_zero, Nat.reduceSub, Bool.true_eq_false, Bool.false_eq_true, Nat.reduceAdd, List.cons.injEq, reduceCtorEq, false_and, false_or, or_false, tAug, rSetO, rStrO, rIsKp, tXk, tDGet, tDIn, tDNotIn, sDPut, rUn, rBinI, rBinR, rJoin, tJs, tOrT, rIsi, tCallOI, rBinT, tFCall, tMakeL, tCMethK, ClX.tCMeth, tCall, tPar3]
  refine rPowK_lit 12 (by decide) (rPowK_lit 12 (by decide) ⟨_, rfl, ?_⟩)
  refine kNew.mk (by show 2 ≤ sizeLine; decide) fun tk H1 f1 => ⟨tk, rfl, ⟨_, SqT.of f1.at_⟩, ?_⟩
  have T1 := tabs_same T0 f1.same
  rw [powC12] at f1
  refine kFor.it (walk_tup (xs := [V.int 1000000000000, .int (0 - 1000000000000)])) (fun i σ H' => Same H1 H' ∧ ∃ v0, σ = [v0, none]) ⟨fun _ _ e => e, _, rfl⟩ (fun i σ H' _ hP => SqT.of (hP.1 _ _ f1.at_)) (fun i xv σ Ha Hb hi hP hY => ?_) fun σ Ha hP => ?_
  · obtain ⟨sa, v0, rfl⟩ := hP
    obtain ⟨rfl, e⟩ := hY
    have hi : i < 2 := hi
    obtain ⟨m, rfl, hm⟩ : ∃ m : Int, xv = .int m ∧ Bd1 m := by
      match i, hi with
      | 0, _ => cases e; exact ⟨_, rfl, by decide⟩
      | 1, _ => cases e; exact ⟨_, rfl, by decide⟩
    simp only [tSeq, tIfS, tTest, tB, tAnd, tOr, tNot, tAndV, tOrV, tNotV, tIf, tOp, tUn, tChain, rEq, rNe, rI0, rI, rU, tCallR, tCons, tNil, tC, tVar, tRet, tRetN, tTup_k, tLst_k, tCB, tNext, tAsg, gName, gTup, gCons, gNil, tDrop, tPar, tFld, ClX.tCVal, tPropR, rBin, rBinT, rNeOwn, rSetL_k, gSub, tMakeK_k, tMethR, rInO, tDNewK_k, tYes, wipe, tMakeR_k, tSMeth, tSMethK, rMulS, decide_true, tNever, sFld, rIsiT, and_false, rListOf, rTupOf, rLenSeq, rIxL, rIxT, rIxS, rCat_k, rRep_k, rSlL_k, rSlS, rNewStrs_k, rAppend_k, tBM, tBM0, tM0, tM1, tSl, tNoPart, tPart, tLc_k, tFor_k, iList, iTup, iEnumT, iRng1, iRng2, iRng2L, iStr, L2.start, List.map, List.length_cons, List.length_nil, List.cons_append, List.nil_append, List.getElem?_cons_succ, List.getElem?_cons_zero, Option.some.injEq, V.int.injEq, V.bl.injEq, V.str.injEq, V.ref.injEq, exists_eq_left', exists_eq_left, and_assoc, exists_and_left, exists_eq, exists_eq', true_and, and_true, List.set_cons_zero, List.set_cons_succ, List.set, decide_eq_true_eq, Bool.not_eq_true', if_true, if_false, rIx, cx_K, nox_K, List.replicate_succ, List.replicate_zero, Nat.reduceSub, Bool.true_eq_false, Bool.false_eq_true, Nat.reduceAdd, List.cons.injEq, reduceCtorEq, false_and, false_or, or_false, tAug, rSetO, rStrO, rIsKp, tXk, tDGet, tDIn, tDNotIn, sDPut, rUn, rBinI, rBinR, rJoin, tJs, tOrT, rIsi, tCallOI, rBinT, tFCall, tMakeL, tCMethK, ClX.tCMeth, tCall, tPar3]
    refine ⟨_, rfl, .inl ⟨m, rfl, hm, fun b H2 s2 nb hB => ?_⟩⟩
    refine kNew.mk (by show 3 ≤ sizeLine; decide) fun q0 H3 f3 => kNew.mk (by show 3 ≤ sizeLine; decide) fun q1 H4 f4 => kNew.mk (by show 3 ≤ sizeLine; decide) fun q2 H5 f5 => kNew.mk (by show 3 ≤ sizeLine; decide) fun q3 H6 f6 => kNew.mk (by show 4 ≤ sizeLine; decide) fun tq H7 f7 => kNew.mk (by show 2 ≤ sizeLine; decide) fun r0 H8 f8 => kNew.mk (by show 2 ≤ sizeLine; decide) fun r1 H9 f9 => kNew.mk (by show 2 ≤ sizeLine; decide) fun lr H10 f10 => ?_
    rw [Int.zero_sub] at f4 f6
    have s90 := f9.same.trans f10.same
    have s80 := f8.same.trans s90
    have s70 := f7.same.trans s80
    have s60 := f6.same.trans s70
    have s50 := f5.same.trans s60
    have s40 := f4.same.trans s50
    have s30 := f3.same.trans s40
    refine ⟨b, tq, lr, insB m, [(1, 2), (5, 4)], rfl, hB.same s30, ⟨q0, q1, q2, q3, s80 _ _ f7.at_, s40 _ _ f3.at_, s50 _ _ f4.at_, s60 _ _ f5.at_, s70 _ _ f6.at_⟩, bd_ins hm, sizes_of [r0, r1] [(1, 2), (5, 4)] f10.at_ ?_ rfl, ?_, fun H' s' => ⟨_, rfl, ?_⟩⟩
    · intro p hp
      simp only [List.zip_cons_cons, List.zip_nil_right, List.mem_cons, List.not_mem_nil, or_false] at hp
      rcases hp with rfl | rfl
      · exact s90 _ _ f8.at_
      · exact f10.same _ _ f9.at_
    · intro z hz
      simp only [List.mem_cons, List.not_mem_nil, or_false] at hz
      rcases hz with rfl | rfl
      · exact ⟨by decide, by decide⟩
      · exact ⟨by decide, by decide⟩
    · rw [if_neg (by decide)]
      exact ((sa.trans s2).trans s30).trans s'
  · obtain ⟨sa, v0, rfl⟩ := hP
    have T2 := tabs_same T1 sa
    show R { nx := fun x H' => Q V.non H', rt := Q } [v0, none] Ha
    subst e1
    refine tSeq_step fun R e1 => ?_
    simp only [tIfS, tTest, tB, tAnd, tOr, tNot, tAndV, tOrV, tNotV, tIf, tOp, tUn, tChain, rEq, rNe, rI0, rI, rU, tCallR, tCons, tNil, tC, tVar, tRet, tRetN, tTup_k, tLst_k, tCB, tNext, tAsg, gName, gTup, gCons, gNil, tDrop, tPar, tFld, ClX.tCVal, tPropR, rBin, rBinT, rNeOwn, rSetL_k, gSub, tMakeK_k, tMethR, rInO, tDNewK_k, tYes, wipe, tMakeR_k, tSMeth, tSMethK, rMulS, decide_true, tNever, sFld, rIsiT, and_false, rListOf, rTupOf, rLenSeq, rIxL, rIxT, rIxS, rCat_k, rRep_k, rSlL_k, rSlS, rNewStrs_k, rAppend_k, tBM, tBM0, tM0, tM1, tSl, tNoPart, tPart, tLc_k, tFor_k, iList, iTup, iEnumT, iRng1, iRng2, iRng2L, iStr, L2.start, List.map, List.length_cons, List.length_nil, List.cons_append, List.nil_append, List.getElem?_cons_succ, List.getElem?_cons_zero, Option.some.injEq, V.int.injEq, V.bl.injEq, V.str.injEq, V.ref.injEq, exists_eq_left', exists_eq_left, and_assoc, exists_and_left, exists_eq, exists_eq', true_and, and_true, List.set_cons_zero, List.set_cons_succ, List.set, decide_eq_true_eq, Bool.not_eq_true', if_true, if_false, rIx, cx_K, nox_K, List.replicate_succ, List.replicate_zero, Nat.reduceSub, Bool.true_eq_false, Bool.false_eq_true, Nat.reduceAdd, List.cons.injEq, reduceCtorEq, false_and, false_or, or_false, tAug, rSetO, rStrO, rIsKp, tXk, tDGet, tDIn, tDNotIn, sDPut, rUn, rBinI, rBinR, rJoin, tJs, tOrT, rIsi, tCallOI, rBinT, tFCall, tMakeL, tCMethK, ClX.tCMeth, tCall, tPar3]
    refine ⟨T2, fun H3 e3 t3 => ?_⟩
    unfold TTe
    simp only [tSeq, tIfS, tTest, tB, tAnd, tOr, tNot, tAndV, tOrV, tNotV, tIf, tOp, tUn, tChain, rEq, rNe, rI0, rI, rU, tCallR, tCons, tNil, tC, tVar, tRet, tRetN, tTup_k, tLst_k, tCB, tNext, tAsg, gName, gTup, gCons, gNil, tDrop, tPar, tFld, ClX.tCVal, tPropR, rBin, rBinT, rNeOwn, rSetL_k, gSub, tMakeK_k, tMethR, rInO, tDNewK_k, tYes, wipe, tMakeR_k, tSMeth, tSMethK, rMulS, decide_true, tNever, sFld, rIsiT, and_false, rListOf, rTupOf, rLenSeq, rIxL, rIxT, rIxS, rCat_k, rRep_k, rSlL_k, rSlS, rNewStrs_k, rAppend_k, tBM, tBM0, tM0, tM1, tSl, tNoPart, tPart, tLc_k, tFor_k, iList, iTup, iEnumT, iRng1, iRng2, iRng2L, iStr, L2.start, List.map, List.length_cons, List.length_nil, List.cons_append, List.nil_append, List.getElem?_cons_succ, List.getElem?_cons_zero, Option.some.injEq, V.int.injEq, V.bl.injEq, V.str.injEq, V.ref.injEq, exists_eq_left', exists_eq_left, and_assoc, exists_and_left, exists_eq, exists_eq', true_and, and_true, List.set_cons_zero, List.set_cons_succ, List.set, decide_eq_true_eq, Bool.not_eq_true', if_true, if_false, rIx, cx_K, nox_K, List.replicate_succ, List.replicate_zero, Nat.reduceSub, Bool.true_eq_false, Bool.false_eq_true, Nat.reduceAdd, List.cons.injEq, reduceCtorEq, false_and, false_or, or_false, tAug, rSetO, rStrO, rIsKp, tXk, tDGet, tDIn, tDNotIn, sDPut, rUn, rBinI, rBinR, rJoin, tJs, tOrT, rIsi, tCallOI, rBinT, tFCall, tMakeL, tCMethK, ClX.tCMeth, tCall, tPar3]
    refine rPowK_lit 12 (by decide) ⟨_, rfl, _, rfl, .inr (.inl ⟨powC 12 + 1, rfl, by rw [powC12]; decide, fun H4 s4 => err_place fun ta H5 s5 e5 => kNew.mk (by show 1 ≤ sizeLine; decide) fun lh H6 f6 => ?_⟩)⟩
    have T6 := tabs_same (tabs_same (tabs_same t3 s4) s5) f6.same
    have e6 := f6.get e5
    have l6 := f6.at_
    clear e5 f6 s4 s5 e3 t3 T2 sa T1 f1 T0
    subst e1
    refine tSeq_step fun R e1 => ?_
    simp only [tSeq, tIfS, tTest, tB, tAnd, tOr, tNot, tAndV, tOrV, tNotV, tIf, tOp, tUn, tChain, rEq, rNe, rI0, rI, rU, tCallR, tCons, tNil, tC, tVar, tRet, tRetN, tTup_k, tLst_k, tCB, tNext, tAsg, gName, gTup, gCons, gNil, tDrop, tPar, tFld, ClX.tCVal, tPropR, rBin, rBinT, rNeOwn, rSetL_k, gSub, tMakeK_k, tMethR, rInO, tDNewK_k, tYes, wipe, tMakeR_k, tSMeth, tSMethK, rMulS, decide_true, tNever, sFld, rIsiT, and_false, rListOf, rTupOf, rLenSeq, rIxL, rIxT, rIxS, rCat_k, rRep_k, rSlL_k, rSlS, rNewStrs_k, rAppend_k, tBM, tBM0, tM0, tM1, tSl, tNoPart, tPart, tLc_k, tFor_k, iList, iTup, iEnumT, iRng1, iRng2, iRng2L, iStr, L2.start, List.map, List.length_cons, List.length_nil, List.cons_append, List.nil_append, List.getElem?_cons_succ, List.getElem?_cons_zero, Option.some.injEq, V.int.injEq, V.bl.injEq, V.str.injEq, V.ref.injEq, exists_eq_left', exists_eq_left, and_assoc, exists_and_left, exists_eq, exists_eq', true_and, and_true, List.set_cons_zero, List.set_cons_succ, List.set, decide_eq_true_eq, Bool.not_eq_true', if_true, if_false, rIx, cx_K, nox_K, List.replicate_succ, List.replicate_zero, Nat.reduceSub, Bool.true_eq_false, Bool.false_eq_true, Nat.reduceAdd, List.cons.injEq, reduceCtorEq, false_and, false_or, or_false, tAug, rSetO, rStrO, rIsKp, tXk, tDGet, tDIn, tDNotIn, sDPut, rUn, rBinI, rBinR, rJoin, tJs, tOrT, rIsi, tCallOI, rBinT, tFCall, tMakeL, tCMethK, ClX.tCMeth, tCall, tPar3]
    refine ⟨.inl ⟨rfl, _, SqL.of l6⟩, T6, fun H7 e7 t7 => ?_⟩
    unfold TTe
    simp only [tIfS, tTest, tB, tAnd, tOr, tNot, tAndV, tOrV, tNotV, tIf, tOp, tUn, tChain, rEq, rNe, rI0, rI, rU, tCallR, tCons, tNil, tC, tVar, tRet, tRetN, tTup_k, tLst_k, tCB, tNext, tAsg, gName, gTup, gCons, gNil, tDrop, tPar, tFld, ClX.tCVal, tPropR, rBin, rBinT, rNeOwn, rSetL_k, gSub, tMakeK_k, tMethR, rInO, tDNewK_k, tYes, wipe, tMakeR_k, tSMeth, tSMethK, rMulS, decide_true, tNever, sFld, rIsiT, and_false, rListOf, rTupOf, rLenSeq, rIxL, rIxT, rIxS, rCat_k, rRep_k, rSlL_k, rSlS, rNewStrs_k, rAppend_k, tBM, tBM0, tM0, tM1, tSl, tNoPart, tPart, tLc_k, tFor_k, iList, iTup, iEnumT, iRng1, iRng2, iRng2L, iStr, L2.start, List.map, List.length_cons, List.length_nil, List.cons_append, List.nil_append, List.getElem?_cons_succ, List.getElem?_cons_zero, Option.some.injEq, V.int.injEq, V.bl.injEq, V.str.injEq, V.ref.injEq, exists_eq_left', exists_eq_left, and_assoc, exists_and_left, exists_eq, exists_eq', true_and, and_true, List.set_cons_zero, List.set_cons_succ, List.set, decide_eq_true_eq, Bool.not_eq_true', if_true, if_false, rIx, cx_K, nox_K, List.replicate_succ, List.replicate_zero, Nat.reduceSub, Bool.true_eq_false, Bool.false_eq_true, Nat.reduceAdd, List.cons.injEq, reduceCtorEq, false_and, false_or, or_false, tAug, rSetO, rStrO, rIsKp, tXk, tDGet, tDIn, tDNotIn, sDPut, rUn, rBinI, rBinR, rJoin, tJs, tOrT, rIsi, tCallOI, rBinT, tFCall, tMakeL, tCMethK, ClX.tCMeth, tCall, tPar3]
    refine rPowK_lit 12 (by decide) ⟨_, rfl, _, rfl, .inr (.inl ⟨0 - powC 12 - 1, rfl, by rw [powC12]; decide, fun H8 s8 => err_place fun t2 H9 s9 e9 => ?_⟩)⟩
    have l9 := s9 _ _ (s8 _ _ (e7 _ _ l6 (fun _ z => by cases z)))
    have e69 := s9 _ _ (s8 _ _ (e7 _ _ e6 (fun _ z => by cases z)))
    have ne1 : ta ≠ lh := fun z => by rw [z, l9] at e69; cases e69
    have ne2 : t2 ≠ lh := fun z => by rw [z, l9] at e9; cases e9
    refine ⟨_, l9, by show 1 < sizeLine; decide, kPut.mk fun H10 f10 => ?_⟩
    have ea := f10.get ne1 e69
    have eb := f10.get ne2 e9
    have el := f10.at_
    clear f10 ne1 ne2 l9 e69 e9 s9 s8 e7 t7 T6 e6 l6
    subst e1
    simp only [tSeq, tIfS, tTest, tB, tAnd, tOr, tNot, tAndV, tOrV, tNotV, tIf, tOp, tUn, tChain, rEq, rNe, rI0, rI, rU, tCallR, tCons, tNil, tC, tVar, tRet, tRetN, tTup_k, tLst_k, tCB, tNext, tAsg, gName, gTup, gCons, gNil, tDrop, tPar, tFld, ClX.tCVal, tPropR, rBin, rBinT, rNeOwn, rSetL_k, gSub, tMakeK_k, tMethR, rInO, tDNewK_k, tYes, wipe, tMakeR_k, tSMeth, tSMethK, rMulS, decide_true, tNever, sFld, rIsiT, and_false, rListOf, rTupOf, rLenSeq, rIxL, rIxT, rIxS, rCat_k, rRep_k, rSlL_k, rSlS, rNewStrs_k, rAppend_k, tBM, tBM0, tM0, tM1, tSl, tNoPart, tPart, tLc_k, tFor_k, iList, iTup, iEnumT, iRng1, iRng2, iRng2L, iStr, L2.start, List.map, List.length_cons, List.length_nil, List.cons_append, List.nil_append, List.getElem?_cons_succ, List.getElem?_cons_zero, Option.some.injEq, V.int.injEq, V.bl.injEq, V.str.injEq, V.ref.injEq, exists_eq_left', exists_eq_left, and_assoc, exists_and_left, exists_eq, exists_eq', true_and, and_true, List.set_cons_zero, List.set_cons_succ, List.set, decide_eq_true_eq, Bool.not_eq_true', if_true, if_false, rIx, cx_K, nox_K, List.replicate_succ, List.replicate_zero, Nat.reduceSub, Bool.true_eq_false, Bool.false_eq_true, Nat.reduceAdd, List.cons.injEq, reduceCtorEq, false_and, false_or, or_false, tAug, rSetO, rStrO, rIsKp, tXk, tDGet, tDIn, tDNotIn, sDPut, rUn, rBinI, rBinR, rJoin, tJs, tOrT, rIsi, tCallOI, rBinT, tFCall, tMakeL, tCMethK, ClX.tCMeth, tCall, tPar3]
    refine kNew.mk (by show 2 ≤ sizeLine; decide) fun tt H11 f11 => kNew.mk (by show 1 ≤ sizeLine; decide) fun l1 H12 f12 => ⟨l1, rfl, _, f12.at_, by decide, by decide, by show 1 * 2 ≤ sizeLine; decide, kN.mk fun l2 H13 f13 => ?_⟩
    have s := (f11.same.trans f12.same).trans f13.same
    have dx : ∀ {t : Addr}, H13 t = some (.tup [.str "place", .str "x0"]) → Dp K H13 (.ref t) (.tuple [.str "place", .str "x0"]) := fun h => .tup (SqT.of h) (.cons (.str _) (.cons (.str _) .nil))
    have d1 := dx (s _ _ ea)
    have d2 := dx (s _ _ eb)
    have d3 := dx (f13.get (f12.get f11.at_))
    have l2e : H13 l2 = some (.lst [.ref tt, .ref tt]) := f13.at_
    refine ⟨.list [.tuple [.str "place", .str "x0"], .tuple [.str "place", .str "x0"]], .list [.tuple [.str "place", .str "x0"], .tuple [.str "place", .str "x0"]], .lst (SqL.of (s _ _ el)) (.cons d1 (.cons d2 .nil)), .lst (SqL.of l2e) (.cons d3 (.cons d3 .nil)), by decide +kernel, by decide +kernel, ?_⟩
    have e : PyData.eqv (.list [.tuple [.str "place", .str "x0"], .tuple [.str "place", .str "x0"]]) (.list [.tuple [.str "place", .str "x0"], .tuple [.str "place", .str "x0"]]) = true := by decide +kernel
    rw [e]
    exact k _
end
end Pf
end
section
namespace Pf
open PySem PySem.Spec PyProof.Rows L2 Ow StX
/-! ### the law -/
def perm4 {α : Type} : List α → List α
  | [x, y, z, u] => [x, z, u, y]
  | l => l
theorem perm4_rel {zs : List V} {ws : List Value} (h : Vals zs ws) : Vals (perm4 zs) (perm4 ws) := by
  cases h with
  | nil => exact .nil
  | cons a h1 => cases h1 with
    | nil => exact .cons a .nil
    | cons b h2 => cases h2 with
      | nil => exact .cons a (.cons b .nil)
      | cons c h3 => cases h3 with
        | nil => exact .cons a (.cons b (.cons c .nil))
        | cons d h4 => cases h4 with
          | nil => exact .cons a (.cons c (.cons d (.cons b .nil)))
          | cons e h5 => exact .cons a (.cons b (.cons c (.cons d (.cons e h5))))
theorem kb_box {K : PySem.W.Frag} {a : Adr} {fd : FuncData} (F : FunD K "__init__" "Box.__init__" (defArgs s_Box_init) (defBody s_Box_init) (defScope s_Box_init) [] [] a.Box_init fd) : KBn K fd ["self", "x0", "x1", "y0", "y1"] 1 ["x0", "y1", "x1", "y0"] (fun us ws => us ++ perm4 ws) fun vs zs => vs ++ perm4 zs :=
  kbn0 F (fun r1 r2 => r1.append (perm4_rel r2)) (fun kV doc pm an cdv ct us ws hu hw => match us, ws, hu, hw with | [_], [_, _, _, _], _, _ => rfl)
theorem kb_inside {K : PySem.W.Frag} {a : Adr} {fd : FuncData} (F : FunD K "inside" "Box.inside" (defArgs s_Box_inside) (defBody s_Box_inside) (defScope s_Box_inside) [] [] a.Box_inside fd) : KBn K fd ["cls", "margin"] 1 ["margin"] (fun us ws => us ++ ws) fun vs zs => vs ++ zs :=
  kbn0 F (fun r1 r2 => r1.append r2) (fun kV doc pm an cdv ct us ws hu hw => match us, ws, hu, hw with | [_], [_], _, _ => rfl)
theorem powC29 : powC 29 = 100000000000000000000000000000 := by
  unfold powC
  decide
def lawZ : List (Int × Int) := [(1, 1), (2, 1), (1, 2), (3, 4), (4, 3), (9, 8), (100000000000000000000000000000, 100000000000000000000000000000 + 1)]
theorem lawZ_wid : ∀ z ∈ lawZ, Wid z.1 ∧ Wid z.2 := by decide
theorem SizesAt.extB {H H' : Hp} {p c l : Addr} {n : Int} {zs : List (Int × Int)} (h : SizesAt H l zs) (P : Pen H p c n) (nl : l ≠ p) (s : ExtB p H H') : SizesAt H' l zs := by
  obtain ⟨ts, e, hl, ha⟩ := h
  exact ⟨ts, s _ _ nl e (by intro _ z; cases z), hl, fun i t z ht hz => s _ _ (P.ne (ha i t z ht hz) (by intro _ z; cases z)) (ha i t z ht hz) (by intro _ z; cases z)⟩
theorem SizesAt.same {H H' : Hp} {l : Addr} {zs : List (Int × Int)} (h : SizesAt H l zs) (s : Same H H') : SizesAt H' l zs := by
  obtain ⟨ts, e, hl, ha⟩ := h
  exact ⟨ts, s _ _ e, hl, fun i t z ht hz => s _ _ (ha i t z ht hz)⟩
/-- what stays known in a turn -/
structure Tu (TL : List (Addr × Str)) (H0 : Hp) (B C p c t1 t2 b : Addr) (q1 q2 : Bx) (n : Int) (H : Hp) : Prop where
  pen : Pen H p c n
  tab : LamX.Tabs TL H
  since : ExtB p H0 H
  told : FourT H t1 q1
  other : FourT H t2 q2
  box : BoxAt H B C b q1
theorem TupP.extB {H H' : Hp} {p c t : Addr} {n : Int} {q : Pl} (h : TupP H t q) (P : Pen H p c n) (s : ExtB p H H') : TupP H' t q := s _ _ (P.ne h (by intro _ z; cases z)) h (by intro _ z; cases z)
theorem FourT.extB {H H' : Hp} {p c t : Addr} {n : Int} {q : Bx} (h : FourT H t q) (P : Pen H p c n) (s : ExtB p H H') : FourT H' t q := by
  obtain ⟨t0, t1, t2, t3, e, h0, h1, h2, h3⟩ := h
  exact ⟨t0, t1, t2, t3, s _ _ (P.ne e (by intro _ z; cases z)) e (by intro _ z; cases z), h0.extB P s, h1.extB P s, h2.extB P s, h3.extB P s⟩
section
variable {TL : List (Addr × Str)} {H0 H H' : Hp} {B C p c t1 t2 b : Addr} {q1 q2 : Bx} {n m : Int}
theorem Tu.step (x : Tu TL H0 B C p c t1 t2 b q1 q2 n H) (s : ExtB p H H') (P : Pen H' p c m) (t : LamX.Tabs TL H') : Tu TL H0 B C p c t1 t2 b q1 q2 m H' :=
  ⟨P, t, x.since.trans s, x.told.extB x.pen s, x.other.extB x.pen s, x.box.extB x.pen s⟩
theorem Tu.on (x : Tu TL H0 B C p c t1 t2 b q1 q2 n H) (s : Same H H') : Tu TL H0 B C p c t1 t2 b q1 q2 n H' := x.step (ExtB.same s) (x.pen.same s) (tabs_same x.tab s)
theorem Tu.go (x : Tu TL H0 B C p c t1 t2 b q1 q2 n H) (s : SameBut p H H') (P : Pen H' p c m) : Tu TL H0 B C p c t1 t2 b q1 q2 m H' := x.step (ExtB.but s) P (tabs_pen x.tab x.pen s)
end
theorem mir_mir (q : Pl) : mirP (mirP q) = q := by
  obtain ⟨s, o, d⟩ := q
  simp only [mirP, Pl.mk.injEq]
  omega
theorem mir_back {q : Pl} (h : BdP q) : BdP (mirP (mirP q)) := by rw [mir_mir]; exact h
theorem mirB_mirB (q : Bx) : mirB (mirB q) = q := by
  obtain ⟨x0, x1, y0, y1⟩ := q
  simp only [mirB, mir_mir]
def fourD (q : Bx) : PyData := .tuple [plD q.x0, plD q.x1, plD q.y0, plD q.y1]
theorem dp_four {K : PySem.W.Frag} {H : Hp} {t : Addr} {q : Bx} (h : FourT H t q) : Dp K H (.ref t) (fourD q) := by
  obtain ⟨t0, t1, t2, t3, e, h0, h1, h2, h3⟩ := h
  have one : ∀ {t : Addr} {p : Pl}, TupP H t p → Dp K H (.ref t) (plD p) := fun h => .tup (SqT.of h) (.cons (.int _) (.cons (.int _) (.cons (.int _) .nil)))
  exact .tup (SqT.of e) (.cons (one h0) (.cons (one h1) (.cons (one h2) (.cons (one h3) .nil))))
theorem eqv_plD (a b : Pl) : PyData.eqv (plD a) (plD b) = decide (a = b) := by
  rw [Bool.eq_iff_iff, decide_eq_true_eq, pl_iff]
  simp [plD, PyData.eqv, PyData.eqvAll]
theorem eqv_four (q q2 : Bx) : PyData.eqv (fourD q) (fourD q2) = decide (q = q2) := by
  rw [← bx_all q q2 [0, 0, 0, 0] [0, 0, 0, 0] rfl rfl]
  unfold fourD
  simp only [PyData.eqv, PyData.eqvAll, eqv_plD]
def spLaw (K : PySem.W.Frag) (T1 T2 T3 : Addr) : Sp := fun vs H Q _ => ∃ (sa : Addr) (ns : List Int), vs = [.ref sa] ∧ SqL K H sa (ns.map V.int) ∧ ns.length ≤ 63 ∧ H T1 = some (.tbl #[]) ∧ H T2 = some (.tbl #[]) ∧ H T3 = some (.tbl #[]) ∧ ∀ H', Q (.bl true) H'
section
variable {P : Program} {w : World} {K : PySem.W.Frag} {mg : Str → Option Value} {base : Heap} {a : Adr}
set_option maxHeartbeats 4000000
theorem ok_law (T : Txt K mg a) (sb : SysB base) {c1 c2 c3 Tb1 Tb2 Tb3 : Addr} (nes : Nes Tb1 Tb2 Tb3) (FC1 : FnC K "_law_refused_right" "_law_refused_right" s__law_refused_right a._law_refused_right c1) (TB1 : LamX.TabB base mg c1 Tb1) (FC2 : FnC K "_law_bounds_right" "_law_bounds_right" s__law_bounds_right a._law_bounds_right c2) (TB2 : LamX.TabB base mg c2 Tb2) (FC3 : FnC K "_law_far_margins_right" "_law_far_margins_right" s__law_far_margins_right a._law_far_margins_right c3) (TB3 : LamX.TabB base mg c3 Tb3) : FnG P w K mg base CX0 40 a.law (spLaw K Tb1 Tb2 Tb3) := by
  have G__law_pen : FnR P w K mg base CX0 1 a._law_pen (spPen K) := ok_pen T
  have G__law_draw : FnR P w K mg base CX0 1 a._law_draw spPDraw := ok_pdraw T
  have G__law_four : FnR P w K mg base CX0 5 a._law_four spFourL := ok_fourL T
  have G__law_built_box : FnR P w K mg base CX0 14 a._law_built_box (spBuiltB a.Box a.Place) := ok_builtB T
  have G__law_is : FnG P w K mg base CX0 8 a._law_is (spIs a.Box a.Place) := ok_is T
  have G__law_mirrored : FnR P w K mg base CX0 2 a._law_mirrored (spMirL K) := ok_mirL T
  have G_Box_invert : FnR P w K mg base (CX P w) 13 a.Box_invert (spBInv a.Box a.Place) := ok_binv T
  have G_Box_eq : FnR P w K mg base CX0 6 a.Box_eq (spBEq a.Box a.Place) := ok_beq T
  have G_Box_eqO : FnR P w K mg base CX0 6 a.Box_eq (spBEqA K a.Box a.Place) := ok_beqA T
  have G_Box_str : FnR P w K mg base CX0 5 a.Box_str (spBStr a.Box a.Place) := ok_bstr T
  have G_inside : FnR P w K mg base (CX P w) 13 a.Box_inside (spInside K a.Box a.Place a.BadPlace) := ok_inside T
  have G_whole : FnR P w K mg base (CX P w) 13 a.Box_whole (spWhole a.Box a.Place) := ok_whole T
  have G__law_refused_right : FnG P w K mg base CX0 30 a._law_refused_right (spRefB Tb1 Tb2 Tb3 a.Box a.Place) := ok_refB T nes FC1 TB1
  have G__law_bounds_right : FnG P w K mg base CX0 30 a._law_bounds_right (spBnd Tb1 Tb2 Tb3) := ok_bounds T nes FC2 TB2
  have G__law_far_margins_right : FnG P w K mg base CX0 30 a._law_far_margins_right (spFar Tb1 Tb2 Tb3) := ok_far T nes FC3 TB3
  obtain ⟨fI, O_inside, FI⟩ := ok_inside_fn (P := P) (w := w) (base := base) T
  have KB_inside := kb_inside (a := a) FI
  obtain ⟨fB, FB⟩ := id T.d_Box_init
  have O_Box_init := ok_bxinit_fn (P := P) (w := w) (mg := mg) (base := base) T FB
  have KB_Box_init := kb_box (a := a) FB
  refine T.d_law.okG sc_law (fun _ _ _ _ _ _ us hl => match us, hl with | [_], _ => rfl) (fun vs H Q E h => by obtain ⟨sa, ns, rfl, _⟩ := h; rfl) (fun cdv A outer s H vs Q E hr hg h => ?_)
  obtain ⟨sa, ns, rfl, hS, hns, hT1, hT2, hT3, k⟩ := h
  refine ⟨_, (pss_cons (ps_set (i := 1) sc_law.nd rfl (Or.inl rfl) (pe_callR G__law_pen (hr.mono (by decide)) T.m__law_pen T.k__law_pen pass0 (pa_cons (pv 0) pa_nil)))
      (pss_cons (ps_set (i := 2) sc_law.nd rfl (Or.inl rfl) (pe_lst (pa_cons (pe_tup (pa_cons pe_int (pa_cons pe_int pa_nil))) (pa_cons (pe_tup (pa_cons pe_int (pa_cons pe_int pa_nil))) (pa_cons (pe_tup (pa_cons pe_int (pa_cons pe_int pa_nil))) (pa_cons (pe_tup (pa_cons pe_int (pa_cons pe_int pa_nil))) (pa_cons (pe_tup (pa_cons pe_int (pa_cons pe_int pa_nil))) (pa_cons (pe_tup (pa_cons pe_int (pa_cons pe_int pa_nil))) (pa_cons (pe_tup (pa_cons (pe_op (op_powK 29) pe_int pe_int) (pa_cons (pe_op op_add (pe_op (op_powK 29) pe_int pe_int) pe_int) pa_nil))) pa_nil)))))))))
      (pss_cons (ps_for PassesOwn.never rfl (pi_range1 rfl T.n_range (pa_cons pe_int pa_nil)) (pg_name (i := 3) sc_law.nd rfl (Or.inl rfl))
          (pss_cons (ps_par (i := 4) (j := 5) (by rfl) sc_law.nd rfl rfl (by decide) rfl rfl (pa_cons (pe_callR G__law_four (hr.mono (by decide)) T.m__law_four T.k__law_four pass0 (pa_cons (pv 1) pa_nil)) (pa_cons (pe_callR G__law_four (hr.mono (by decide)) T.m__law_four T.k__law_four pass0 (pa_cons (pv 1) pa_nil)) pa_nil)) (by rfl))
          (pss_cons (ps_set (i := 6) sc_law.nd rfl (Or.inl rfl) (pe_callR G__law_built_box (hr.mono (by decide)) T.m__law_built_box T.k__law_built_box pass0 (pa_cons (pv 1) (pa_cons (pv 4) pa_nil))))
          (pss_cons (ps_if (PW.pt (pw_or (pt_not (pt_val (pe_callG G__law_is (hr.mono (by decide)) (by exact hg) T.m__law_is T.k__law_is pass0 (pa_cons (pv 6) (pa_cons (pv 4) (pa_cons (pv 2) pa_nil)))))) (pw_or (pt_not (pt_val (pe_callG G__law_is (hr.mono (by decide)) (by exact hg) T.m__law_is T.k__law_is pass0 (pa_cons (pe_un (un_inv_own T.o_Box_invert T.f_Box_invert G_Box_invert (hr.mono (by decide)) (passUp LamX.takes0) ) (pv 6)) (pa_cons (pe_callR G__law_mirrored (hr.mono (by decide)) T.m__law_mirrored T.k__law_mirrored pass0 (pa_cons (pv 4) pa_nil)) (pa_cons (pv 2) pa_nil)))))) (pw_or1 (pt_not (pt_cmpR (op_cmp (op := .Eq) (fun _ _ => rfl) T.o_Box_eq T.f_Box_eq T.s_Box_not G_Box_eq (hr.mono (by decide)) pass0) (pe_un (un_inv_own T.o_Box_invert T.f_Box_invert G_Box_invert (hr.mono (by decide)) (passUp LamX.takes0) ) (pe_un (un_inv_own T.o_Box_invert T.f_Box_invert G_Box_invert (hr.mono (by decide)) (passUp LamX.takes0) ) (pv 6))) (pv 6) (nomark _)))))))
              (pss_one (ps_ret pe_bl))
              pss_nil)
          (pss_cons (ps_if (PW.pt (pw_or (pt_cmpR op_ne (pe_cmpR (op_cmp (op := .Eq) (fun _ _ => rfl) T.o_Box_eq T.f_Box_eq T.s_Box_not G_Box_eq (hr.mono (by decide)) pass0) (pv 6) (pe_callR G__law_built_box (hr.mono (by decide)) T.m__law_built_box T.k__law_built_box pass0 (pa_cons (pv 1) (pa_cons (pv 5) pa_nil))) (nomark _)) (pe_cmpR (op_eqD hr.units) (pv 4) (pv 5) (nomark _)) (nomark _)) (pw_or1 (pt_not (pt_cmpR (op_cmp (op := .Eq) (fun _ _ => rfl) T.o_Box_eq T.f_Box_eq T.s_Box_not G_Box_eq (hr.mono (by decide)) pass0) (pv 6) (pe_callR G__law_built_box (hr.mono (by decide)) T.m__law_built_box T.k__law_built_box pass0 (pa_cons (pv 1) (pa_cons (pv 4) pa_nil))) (nomark _))))))
              (pss_one (ps_ret pe_bl))
              pss_nil)
          (pss_cons (ps_if (PW.pt (pw_or (pt_cmpR (op_cmpT (op := .Eq) (fun _ _ => rfl) T.o_Box_eq T.f_Box_eq G_Box_eqO (hr.mono (by decide)) pass0) (pv 6) (pv 4) (nomark _)) (pw_or (pt_cmpR (op_cmpT (op := .Eq) (fun _ _ => rfl) T.o_Box_eq T.f_Box_eq G_Box_eqO (hr.mono (by decide)) pass0) (pv 6) (pe_callTy (call_strO T.o_Box_str T.f_Box_str G_Box_str (hr.mono (by decide)) pass0) (by rfl) T.n_str (by decide +kernel) (pa_cons (pv 6) pa_nil)) (nomark _)) (pw_or1 (pt_cmpR (op_cmpT (op := .Eq) (fun _ _ => rfl) T.o_Box_eq T.f_Box_eq G_Box_eqO (hr.mono (by decide)) pass0) (pv 6) pe_non (nomark _))))))
              (pss_one (ps_ret pe_bl))
              pss_nil)
          (pss_cons (ps_set (i := 7) sc_law.nd rfl (Or.inl rfl) (pe_op op_sub (pe_callR G__law_draw (hr.mono (by decide)) T.m__law_draw T.k__law_draw pass0 (pa_cons (pv 1) (pa_cons pe_int pa_nil))) pe_int))
          (pss_cons (ps_set (i := 8) sc_law.nd rfl (Or.inl rfl) (pe_tup (pa_cons (pe_tup (pa_cons pe_int (pa_cons (pv 7) (pa_cons pe_int pa_nil)))) (pa_cons (pe_tup (pa_cons pe_int (pa_cons (pe_op op_sub pe_int (pv 7)) (pa_cons pe_int pa_nil)))) (pa_cons (pe_tup (pa_cons pe_int (pa_cons (pv 7) (pa_cons pe_int pa_nil)))) (pa_cons (pe_tup (pa_cons pe_int (pa_cons (pe_op op_sub pe_int (pv 7)) (pa_cons pe_int pa_nil)))) pa_nil))))))
          (pss_cons (ps_if (PW.pt (pw_or (pt_not (pt_val (pe_callG G__law_is (hr.mono (by decide)) (by exact hg) T.m__law_is T.k__law_is pass0 (pa_cons (pe_cmethK (pe_glob (v := .ref a.Box) rfl T.m_Box rfl) T.cr_Box T.cm_inside O_inside (hr.mono (by decide)) KB_inside (passUp LamX.takes0) (pk_cons (pv 7) pk_nil)) (pa_cons (pv 8) (pa_cons (pv 2) pa_nil)))))) (pw_or1 (pt_not (pt_cmpR (op_cmp (op := .Eq) (fun _ _ => rfl) T.o_Box_eq T.f_Box_eq T.s_Box_not G_Box_eq (hr.mono (by decide)) pass0) (pe_smeth0 (pe_glob (v := .ref a.Box) rfl T.m_Box rfl) T.cr_Box T.sm_whole G_whole (hr.mono (by decide)) (passUp LamX.takes0)) (ClX.pe_cmeth (pe_glob (v := .ref a.Box) rfl T.m_Box rfl) T.cr_Box T.cm_inside G_inside (hr.mono (by decide)) (passUp LamX.takes0) (pa_cons pe_int pa_nil)) (nomark _))))))
              (pss_one (ps_ret pe_bl))
              pss_nil)
          (pss_cons (ps_set (i := 9) sc_law.nd rfl (Or.inl rfl) (pe_makeK0 T.M_Box O_Box_init (hr.mono (by decide)) rfl T.m_Box KB_Box_init (passUp LamX.takes0) (pk_cons (pe_fld (pv 6) rfl) (pk_cons (pe_fld (pv 6) rfl) (pk_cons (pe_fld (pv 6) rfl) (pk_cons (pe_fld (pv 6) rfl) pk_nil))))))
          (pss_one (ps_if (PW.pt (pw_or (pt_not (pt_cmpR (op_cmp (op := .Eq) (fun _ _ => rfl) T.o_Box_eq T.f_Box_eq T.s_Box_not G_Box_eq (hr.mono (by decide)) pass0) (pv 9) (pv 6) (nomark _))) (pw_or (pt_not (pt_val (pe_callG G__law_refused_right (hr.mono (by decide)) (by exact hg) T.m__law_refused_right T.k__law_refused_right pass0 (pa_cons (pv 1) (pa_cons (pv 6) pa_nil))))) (pw_or1 (pt_not (pt_val (pe_callG G__law_bounds_right (hr.mono (by decide)) (by exact hg) T.m__law_bounds_right T.k__law_bounds_right pass0 (pa_cons (pv 1) pa_nil))))))))
              (pss_one (ps_ret pe_bl))
              pss_nil))))))))))))
      (pss_one (ps_ret (pe_callG0 G__law_far_margins_right (hr.mono (by decide)) (by exact hg) T.m__law_far_margins_right T.k__law_far_margins_right pass0)))))), ?_⟩
  refine tSeq_step fun R e1 => ?_
  simp only [tSeq, tIfS, tTest, tB, tAnd, tOr, tNot, tAndV, tOrV, tNotV, tIf, tOp, tUn, tChain, rEq, rNe, rI0, rI, rU, tCallR, tCons, tNil, tC, tVar, tRet, tRetN, tTup_k, tLst_k, tCB, tNext, tAsg, gName, gTup, gCons, gNil, tDrop, tPar, tFld, ClX.tCVal, tPropR, rBin, rBinT, rNeOwn, rSetL_k, gSub, tMakeK_k, tMethR, rInO, tDNewK_k, tYes, wipe, tMakeR_k, tSMeth, tSMethK, rMulS, decide_true, tNever, sFld, rIsiT, and_false, rListOf, rTupOf, rLenSeq, rIxL, rIxT, rIxS, rCat_k, rRep_k, rSlL_k, rSlS, rNewStrs_k, rAppend_k, tBM, tBM0, tM0, tM1, tSl, tNoPart, tPart, tLc_k, tFor_k, iList, iTup, iEnumT, iRng1, iRng2, iRng2L, iStr, L2.start, List.map, List.length_cons, List.length_nil, List.cons_append, List.nil_append, List.getElem?_cons_succ, List.getElem?_cons_zero, Option.some.injEq, V.int.injEq, V.bl.injEq, V.str.injEq, V.ref.injEq, exists_eq_left', exists_eq_left, and_assoc, exists_and_left, exists_eq, exists_eq', true_and, and_true, List.set_cons_zero, List.set_cons_succ, List.set, decide_eq_true_eq, Bool.not_eq_true', if_true, if_false, rIx, cx_K, nox_K, List.replicate_succ, List.replicate_zero, Nat.reduceSub, Bool.true_eq_false, Bool.false_eq_true, Nat.reduceAdd, List.cons.injEq, reduceCtorEq, false_and, false_or, or_false, tAug, rSetO, rStrO, rIsKp, tXk, tDGet, tDIn, tDNotIn, sDPut, rUn, rBinI, rBinR, rJoin, tJs, tOrT, rIsi, tCallOI, rBinT, tFCall, tMakeL, tCMethK, ClX.tCMeth, tCall, tPar3]
  refine ⟨sa, ns, rfl, hS, hns, fun p c H1 s1 np P1 => ?_⟩
  have T1 : LamX.Tabs (TLs Tb1 Tb2 Tb3) H1 := fun q hq => by
    simp only [TLs, List.mem_cons, List.not_mem_nil, or_false] at hq
    rcases hq with rfl | rfl | rfl
    · exact LamX.TabS.nil (s1 _ _ hT1)
    · exact LamX.TabS.nil (s1 _ _ hT2)
    · exact LamX.TabS.nil (s1 _ _ hT3)
  subst e1
  refine tSeq_step fun R e1 => ?_
  simp only [tIfS, tTest, tB, tAnd, tOr, tNot, tAndV, tOrV, tNotV, tIf, tOp, tUn, tChain, rEq, rNe, rI0, rI, rU, tCallR, tCons, tNil, tC, tVar, tRet, tRetN, tTup_k, tLst_k, tCB, tNext, tAsg, gName, gTup, gCons, gNil, tDrop, tPar, tFld, ClX.tCVal, tPropR, rBin, rBinT, rNeOwn, rSetL_k, gSub, tMakeK_k, tMethR, rInO, tDNewK_k, tYes, wipe, tMakeR_k, tSMeth, tSMethK, rMulS, decide_true, tNever, sFld, rIsiT, and_false, rListOf, rTupOf, rLenSeq, rIxL, rIxT, rIxS, rCat_k, rRep_k, rSlL_k, rSlS, rNewStrs_k, rAppend_k, tBM, tBM0, tM0, tM1, tSl, tNoPart, tPart, tLc_k, tFor_k, iList, iTup, iEnumT, iRng1, iRng2, iRng2L, iStr, L2.start, List.map, List.length_cons, List.length_nil, List.cons_append, List.nil_append, List.getElem?_cons_succ, List.getElem?_cons_zero, Option.some.injEq, V.int.injEq, V.bl.injEq, V.str.injEq, V.ref.injEq, exists_eq_left', exists_eq_left, and_assoc, exists_and_left, exists_eq, exists_eq', true_and, and_true, List.set_cons_zero, List.set_cons_succ, List.set, decide_eq_true_eq, Bool.not_eq_true', if_true, if_false, rIx, cx_K, nox_K, List.replicate_succ, List.replicate_zero, Nat.reduceSub, Bool.true_eq_false, Bool.false_eq_true, Nat.reduceAdd, List.cons.injEq, reduceCtorEq, false_and, false_or, or_false, tAug, rSetO, rStrO, rIsKp, tXk, tDGet, tDIn, tDNotIn, sDPut, rUn, rBinI, rBinR, rJoin, tJs, tOrT, rIsi, tCallOI, rBinT, tFCall, tMakeL, tCMethK, ClX.tCMeth, tCall, tPar3]
  refine kNew.mk (by show 2 ≤ sizeLine; decide) fun z0 H2 f2 => kNew.mk (by show 2 ≤ sizeLine; decide) fun z1 H3 f3 => kNew.mk (by show 2 ≤ sizeLine; decide) fun z2 H4 f4 => kNew.mk (by show 2 ≤ sizeLine; decide) fun z3 H5 f5 => kNew.mk (by show 2 ≤ sizeLine; decide) fun z4 H6 f6 => kNew.mk (by show 2 ≤ sizeLine; decide) fun z5 H7 f7 => rPowK_lit 29 (by decide) (rPowK_lit 29 (by decide) ⟨_, rfl, kNew.mk (by show 2 ≤ sizeLine; decide) fun z6 H8 f8 => kNew.mk (by show 7 ≤ sizeLine; decide) fun lz H9 f9 => ?_⟩)
  rw [powC29] at f8
  have s9 := f9.same
  have s8 := f8.same.trans s9
  have s7 := f7.same.trans s8
  have s6 := f6.same.trans s7
  have s5 := f5.same.trans s6
  have s4 := f4.same.trans s5
  have s3 := f3.same.trans s4
  have s2 := f2.same.trans s3
  have zz : SizesAt H9 lz lawZ := sizes_of [z0, z1, z2, z3, z4, z5, z6] lawZ f9.at_ (by
    intro p hp
    simp only [lawZ, List.zip_cons_cons, List.zip_nil_right, List.mem_cons, List.not_mem_nil, or_false] at hp
    rcases hp with rfl | rfl | rfl | rfl | rfl | rfl | rfl
    · exact s3 _ _ f2.at_
    · exact s4 _ _ f3.at_
    · exact s5 _ _ f4.at_
    · exact s6 _ _ f5.at_
    · exact s7 _ _ f6.at_
    · exact s8 _ _ f7.at_
    · exact s9 _ _ f8.at_) rfl
  have nlz := (P1.same (f2.same.trans (f3.same.trans (f4.same.trans (f5.same.trans (f6.same.trans (f7.same.trans f8.same))))))).at_p f9.new
  have P9 := P1.same s2
  have zs : ∀ H', ExtB p H9 H' → SizesAt H' lz lawZ := fun H' s => zz.extB P9 nlz.1 s
  have T9 := tabs_same T1 s2
  clear s2 s3 s4 s5 s6 s7 s8 s9 f2 f3 f4 f5 f6 f7 f8 f9
  subst e1
  refine tSeq_step fun R e1 => ?_
  simp only [tSeq, tIfS, tTest, tB, tAnd, tOr, tNot, tAndV, tOrV, tNotV, tIf, tOp, tUn, tChain, rEq, rNe, rI0, rI, rU, tCallR, tCons, tNil, tC, tVar, tRet, tRetN, tTup_k, tLst_k, tCB, tNext, tAsg, gName, gTup, gCons, gNil, tDrop, tPar, tFld, ClX.tCVal, tPropR, rBin, rBinT, rNeOwn, rSetL_k, gSub, tMakeK_k, tMethR, rInO, tDNewK_k, tYes, wipe, tMakeR_k, tSMeth, tSMethK, rMulS, decide_true, tNever, sFld, rIsiT, and_false, rListOf, rTupOf, rLenSeq, rIxL, rIxT, rIxS, rCat_k, rRep_k, rSlL_k, rSlS, rNewStrs_k, rAppend_k, tBM, tBM0, tM0, tM1, tSl, tNoPart, tPart, tLc_k, tFor_k, iList, iTup, iEnumT, iRng1, iRng2, iRng2L, iStr, L2.start, List.map, List.length_cons, List.length_nil, List.cons_append, List.nil_append, List.getElem?_cons_succ, List.getElem?_cons_zero, Option.some.injEq, V.int.injEq, V.bl.injEq, V.str.injEq, V.ref.injEq, exists_eq_left', exists_eq_left, and_assoc, exists_and_left, exists_eq, exists_eq', true_and, and_true, List.set_cons_zero, List.set_cons_succ, List.set, decide_eq_true_eq, Bool.not_eq_true', if_true, if_false, rIx, cx_K, nox_K, List.replicate_succ, List.replicate_zero, Nat.reduceSub, Bool.true_eq_false, Bool.false_eq_true, Nat.reduceAdd, List.cons.injEq, reduceCtorEq, false_and, false_or, or_false, tAug, rSetO, rStrO, rIsKp, tXk, tDGet, tDIn, tDNotIn, sDPut, rUn, rBinI, rBinR, rJoin, tJs, tOrT, rIsi, tCallOI, rBinT, tFCall, tMakeL, tCMethK, ClX.tCMeth, tCall, tPar3]
  refine ⟨by decide, by decide, ?_⟩
  refine kFor.it walk_range (fun i σ H' => ExtB p H9 H' ∧ Pen H' p c ((i : Nat) * 400) ∧ LamX.Tabs (TLs Tb1 Tb2 Tb3) H' ∧ ∃ v3 v4 v5 v6 v7 v8 v9, σ = [some (.ref sa), some (.ref p), some (.ref lz), v3, v4, v5, v6, v7, v8, v9]) ⟨ExtB.same fun _ _ e => e, P9.le (by simp), T9, _, _, _, _, _, _, _, rfl⟩ (fun _ _ _ _ _ => trivial) (fun i xv σ Ha Hb hi hP hY => ?_) fun σ Ha hP => ?_
  · obtain ⟨Xa, Pa, Ta, v3, v4, v5, v6, v7, v8, v9, rfl⟩ := hP
    obtain ⟨rfl, rfl⟩ := hY
    have hi : i < 6 := hi
    refine tSeq_step fun R e1 => ?_
    simp only [tSeq, tIfS, tTest, tB, tAnd, tOr, tNot, tAndV, tOrV, tNotV, tIf, tOp, tUn, tChain, rEq, rNe, rI0, rI, rU, tCallR, tCons, tNil, tC, tVar, tRet, tRetN, tTup_k, tLst_k, tCB, tNext, tAsg, gName, gTup, gCons, gNil, tDrop, tPar, tFld, ClX.tCVal, tPropR, rBin, rBinT, rNeOwn, rSetL_k, gSub, tMakeK_k, tMethR, rInO, tDNewK_k, tYes, wipe, tMakeR_k, tSMeth, tSMethK, rMulS, decide_true, tNever, sFld, rIsiT, and_false, rListOf, rTupOf, rLenSeq, rIxL, rIxT, rIxS, rCat_k, rRep_k, rSlL_k, rSlS, rNewStrs_k, rAppend_k, tBM, tBM0, tM0, tM1, tSl, tNoPart, tPart, tLc_k, tFor_k, iList, iTup, iEnumT, iRng1, iRng2, iRng2L, iStr, L2.start, List.map, List.length_cons, List.length_nil, List.cons_append, List.nil_append, List.getElem?_cons_succ, List.getElem?_cons_zero, Option.some.injEq, V.int.injEq, V.bl.injEq, V.str.injEq, V.ref.injEq, exists_eq_left', exists_eq_left, and_assoc, exists_and_left, exists_eq, exists_eq', true_and, and_true, List.set_cons_zero, List.set_cons_succ, List.set, decide_eq_true_eq, Bool.not_eq_true', if_true, if_false, rIx, cx_K, nox_K, List.replicate_succ, List.replicate_zero, Nat.reduceSub, Bool.true_eq_false, Bool.false_eq_true, Nat.reduceAdd, List.cons.injEq, reduceCtorEq, false_and, false_or, or_false, tAug, rSetO, rStrO, rIsKp, tXk, tDGet, tDIn, tDNotIn, sDPut, rUn, rBinI, rBinR, rJoin, tJs, tOrT, rIsi, tCallOI, rBinT, tFCall, tMakeL, tCMethK, ClX.tCMeth, tCall, tPar3]
    refine ⟨p, c, _, rfl, Pa, by omega, fun t1 q1 H10 b1 s10 P10 h1 => ⟨p, c, _, rfl, P10, by omega, fun t2 q2 H11 b2 s11 P11 h2 => ?_⟩⟩
    have h1' := h1.pen P10 s11
    have T11 := tabs_pen (tabs_pen Ta Pa s10) P10 s11
    have X11 := Xa.trans (ExtB.but (s10.trans s11))
    subst e1
    refine tSeq_step fun R e1 => ?_
    simp only [tSeq, tIfS, tTest, tB, tAnd, tOr, tNot, tAndV, tOrV, tNotV, tIf, tOp, tUn, tChain, rEq, rNe, rI0, rI, rU, tCallR, tCons, tNil, tC, tVar, tRet, tRetN, tTup_k, tLst_k, tCB, tNext, tAsg, gName, gTup, gCons, gNil, tDrop, tPar, tFld, ClX.tCVal, tPropR, rBin, rBinT, rNeOwn, rSetL_k, gSub, tMakeK_k, tMethR, rInO, tDNewK_k, tYes, wipe, tMakeR_k, tSMeth, tSMethK, rMulS, decide_true, tNever, sFld, rIsiT, and_false, rListOf, rTupOf, rLenSeq, rIxL, rIxT, rIxS, rCat_k, rRep_k, rSlL_k, rSlS, rNewStrs_k, rAppend_k, tBM, tBM0, tM0, tM1, tSl, tNoPart, tPart, tLc_k, tFor_k, iList, iTup, iEnumT, iRng1, iRng2, iRng2L, iStr, L2.start, List.map, List.length_cons, List.length_nil, List.cons_append, List.nil_append, List.getElem?_cons_succ, List.getElem?_cons_zero, Option.some.injEq, V.int.injEq, V.bl.injEq, V.str.injEq, V.ref.injEq, exists_eq_left', exists_eq_left, and_assoc, exists_and_left, exists_eq, exists_eq', true_and, and_true, List.set_cons_zero, List.set_cons_succ, List.set, decide_eq_true_eq, Bool.not_eq_true', if_true, if_false, rIx, cx_K, nox_K, List.replicate_succ, List.replicate_zero, Nat.reduceSub, Bool.true_eq_false, Bool.false_eq_true, Nat.reduceAdd, List.cons.injEq, reduceCtorEq, false_and, false_or, or_false, tAug, rSetO, rStrO, rIsKp, tXk, tDGet, tDIn, tDNotIn, sDPut, rUn, rBinI, rBinR, rJoin, tJs, tOrT, rIsi, tCallOI, rBinT, tFCall, tMakeL, tCMethK, ClX.tCMeth, tCall, tPar3]
    refine ⟨p, c, t1, q1, _, rfl, P11, by omega, h1', b1.bd, fun b H12 s12 P12 hB => ?_⟩
    have U12 : Tu (TLs Tb1 Tb2 Tb3) H9 a.Box a.Place p c t1 t2 b q1 q2 (((i : Nat) : Int) * 400 + 60) H12 := ⟨P12.le (by omega), tabs_pen T11 P11 s12, X11.trans (ExtB.but s12), h1'.pen P11 s12, h2.pen P11 s12, hB⟩
    clear h1' T11 X11 P12 P11 P10 h1 h2 s10 s11 s12 Xa Pa Ta hB
    subst e1
    refine tSeq_step fun R e1 => ?_
    simp only [tSeq, tIfS, tTest, tB, tAnd, tOr, tNot, tAndV, tOrV, tNotV, tIf, tOp, tUn, tChain, rEq, rNe, rI0, rI, rU, tCallR, tCons, tNil, tC, tVar, tRet, tRetN, tTup_k, tLst_k, tCB, tNext, tAsg, gName, gTup, gCons, gNil, tDrop, tPar, tFld, ClX.tCVal, tPropR, rBin, rBinT, rNeOwn, rSetL_k, gSub, tMakeK_k, tMethR, rInO, tDNewK_k, tYes, wipe, tMakeR_k, tSMeth, tSMethK, rMulS, decide_true, tNever, sFld, rIsiT, and_false, rListOf, rTupOf, rLenSeq, rIxL, rIxT, rIxS, rCat_k, rRep_k, rSlL_k, rSlS, rNewStrs_k, rAppend_k, tBM, tBM0, tM0, tM1, tSl, tNoPart, tPart, tLc_k, tFor_k, iList, iTup, iEnumT, iRng1, iRng2, iRng2L, iStr, L2.start, List.map, List.length_cons, List.length_nil, List.cons_append, List.nil_append, List.getElem?_cons_succ, List.getElem?_cons_zero, Option.some.injEq, V.int.injEq, V.bl.injEq, V.str.injEq, V.ref.injEq, exists_eq_left', exists_eq_left, and_assoc, exists_and_left, exists_eq, exists_eq', true_and, and_true, List.set_cons_zero, List.set_cons_succ, List.set, decide_eq_true_eq, Bool.not_eq_true', if_true, if_false, rIx, cx_K, nox_K, List.replicate_succ, List.replicate_zero, Nat.reduceSub, Bool.true_eq_false, Bool.false_eq_true, Nat.reduceAdd, List.cons.injEq, reduceCtorEq, false_and, false_or, or_false, tAug, rSetO, rStrO, rIsKp, tXk, tDGet, tDIn, tDNotIn, sDPut, rUn, rBinI, rBinR, rJoin, tJs, tOrT, rIsi, tCallOI, rBinT, tFCall, tMakeL, tCMethK, ClX.tCMeth, tCall, tPar3]
    refine ⟨b, t1, lz, q1, lawZ, rfl, U12.box, U12.told, b1.bd, zs _ U12.since, lawZ_wid, fun H13 s13 => ⟨_, rfl, ?_⟩⟩
    rw [if_neg (by decide)]
    have U13 := U12.on s13
    refine ⟨U13.box.ins, b, q1, rfl, U13.box, b1.2.1.mir, b1.1.mir, b1.2.2.1.bd, b1.2.2.2.bd, fun m1 H14 s14 n14 hm1 => ?_⟩
    have U14 := U13.on s14
    obtain ⟨a0, a1, a2, a3, ea, g0, g1, g2, g3⟩ := id U14.told
    refine ⟨t1, a0, a1, a2, a3, q1, rfl, .inr (SqT.of ea), g0, g1, g2, g3, fun tm H15 s15 hm => ?_⟩
    have U15 := U14.on s15
    refine ⟨m1, tm, lz, mirB q1, lawZ, rfl, hm1.same s15, hm, ⟨b1.2.1.mir, b1.1.mir, b1.2.2.1.bd, b1.2.2.2.bd⟩, zs _ U15.since, lawZ_wid, fun H16 s16 => ⟨_, rfl, ?_⟩⟩
    rw [if_neg (by decide)]
    have U16 := U15.on s16
    refine ⟨U16.box.ins, b, q1, rfl, U16.box, b1.2.1.mir, b1.1.mir, b1.2.2.1.bd, b1.2.2.2.bd, fun m2 H17 s17 n17 hm2 => ?_⟩
    have U17 := U16.on s17
    refine ⟨m2, rfl, hm2.ins, m2, mirB q1, rfl, hm2, mir_back b1.1.bd, mir_back b1.2.1.bd, b1.2.2.1.bd, b1.2.2.2.bd, fun m3 H18 s18 n18 hm3 => ?_⟩
    have U18 := U17.on s18
    refine ⟨m3, rfl, hm3.ins, U18.box.ins, m3, b, mirB (mirB q1), q1, rfl, hm3, U18.box, fun H19 s19 => ⟨_, rfl, ?_⟩⟩
    rw [mirB_mirB, decide_eq_true rfl, if_neg (by decide)]
    have U19 := U18.on s19
    clear U12 U13 U14 U15 U16 U17 U18 s13 s14 s15 s16 s17 s18 s19 ea g0 g1 g2 g3 hm1 hm2 hm3 hm n14 n17 n18
    subst e1
    refine tSeq_step fun R e1 => ?_
    simp only [tSeq, tIfS, tTest, tB, tAnd, tOr, tNot, tAndV, tOrV, tNotV, tIf, tOp, tUn, tChain, rEq, rNe, rI0, rI, rU, tCallR, tCons, tNil, tC, tVar, tRet, tRetN, tTup_k, tLst_k, tCB, tNext, tAsg, gName, gTup, gCons, gNil, tDrop, tPar, tFld, ClX.tCVal, tPropR, rBin, rBinT, rNeOwn, rSetL_k, gSub, tMakeK_k, tMethR, rInO, tDNewK_k, tYes, wipe, tMakeR_k, tSMeth, tSMethK, rMulS, decide_true, tNever, sFld, rIsiT, and_false, rListOf, rTupOf, rLenSeq, rIxL, rIxT, rIxS, rCat_k, rRep_k, rSlL_k, rSlS, rNewStrs_k, rAppend_k, tBM, tBM0, tM0, tM1, tSl, tNoPart, tPart, tLc_k, tFor_k, iList, iTup, iEnumT, iRng1, iRng2, iRng2L, iStr, L2.start, List.map, List.length_cons, List.length_nil, List.cons_append, List.nil_append, List.getElem?_cons_succ, List.getElem?_cons_zero, Option.some.injEq, V.int.injEq, V.bl.injEq, V.str.injEq, V.ref.injEq, exists_eq_left', exists_eq_left, and_assoc, exists_and_left, exists_eq, exists_eq', true_and, and_true, List.set_cons_zero, List.set_cons_succ, List.set, decide_eq_true_eq, Bool.not_eq_true', if_true, if_false, rIx, cx_K, nox_K, List.replicate_succ, List.replicate_zero, Nat.reduceSub, Bool.true_eq_false, Bool.false_eq_true, Nat.reduceAdd, List.cons.injEq, reduceCtorEq, false_and, false_or, or_false, tAug, rSetO, rStrO, rIsKp, tXk, tDGet, tDIn, tDNotIn, sDPut, rUn, rBinI, rBinR, rJoin, tJs, tOrT, rIsi, tCallOI, rBinT, tFCall, tMakeL, tCMethK, ClX.tCMeth, tCall, tPar3]
    refine ⟨p, c, t2, q2, _, rfl, U19.pen, by omega, U19.other, b2.bd, fun b3 H20 s20 P20 hb3 => ⟨b3, rfl, ?_⟩⟩
    have U20 := U19.go s20 P20
    refine ⟨U20.box.ins, hb3.ins, b, b3, q1, q2, rfl, U20.box, hb3, fun H21 s21 => ?_⟩
    have U21 := U20.on s21
    refine ⟨fourD q1, fourD q2, dp_four U21.told, dp_four U21.other, rfl, rfl, ?_⟩
    rw [eqv_four]
    refine ⟨rfl, ?_⟩
    rw [if_neg (by simp)]
    refine ⟨p, c, t1, q1, _, rfl, U21.pen, by omega, U21.told, b1.bd, fun b4 H22 s22 P22 hb4 => ⟨b4, rfl, ?_⟩⟩
    have U22 := U21.go s22 P22
    refine ⟨U22.box.ins, hb4.ins, b, b4, q1, q1, rfl, U22.box, hb4, fun H23 s23 => ⟨_, rfl, ?_⟩⟩
    rw [decide_eq_true rfl, if_neg (by decide)]
    have U23 := U22.on s23
    clear U19 U20 U21 U22 s20 s21 s22 s23 P20 P22 hb3 hb4
    subst e1
    refine tSeq_step fun R e1 => ?_
    simp only [tSeq, tIfS, tTest, tB, tAnd, tOr, tNot, tAndV, tOrV, tNotV, tIf, tOp, tUn, tChain, rEq, rNe, rI0, rI, rU, tCallR, tCons, tNil, tC, tVar, tRet, tRetN, tTup_k, tLst_k, tCB, tNext, tAsg, gName, gTup, gCons, gNil, tDrop, tPar, tFld, ClX.tCVal, tPropR, rBin, rBinT, rNeOwn, rSetL_k, gSub, tMakeK_k, tMethR, rInO, tDNewK_k, tYes, wipe, tMakeR_k, tSMeth, tSMethK, rMulS, decide_true, tNever, sFld, rIsiT, and_false, rListOf, rTupOf, rLenSeq, rIxL, rIxT, rIxS, rCat_k, rRep_k, rSlL_k, rSlS, rNewStrs_k, rAppend_k, tBM, tBM0, tM0, tM1, tSl, tNoPart, tPart, tLc_k, tFor_k, iList, iTup, iEnumT, iRng1, iRng2, iRng2L, iStr, L2.start, List.map, List.length_cons, List.length_nil, List.cons_append, List.nil_append, List.getElem?_cons_succ, List.getElem?_cons_zero, Option.some.injEq, V.int.injEq, V.bl.injEq, V.str.injEq, V.ref.injEq, exists_eq_left', exists_eq_left, and_assoc, exists_and_left, exists_eq, exists_eq', true_and, and_true, List.set_cons_zero, List.set_cons_succ, List.set, decide_eq_true_eq, Bool.not_eq_true', if_true, if_false, rIx, cx_K, nox_K, List.replicate_succ, List.replicate_zero, Nat.reduceSub, Bool.true_eq_false, Bool.false_eq_true, Nat.reduceAdd, List.cons.injEq, reduceCtorEq, false_and, false_or, or_false, tAug, rSetO, rStrO, rIsKp, tXk, tDGet, tDIn, tDNotIn, sDPut, rUn, rBinI, rBinR, rJoin, tJs, tOrT, rIsi, tCallOI, rBinT, tFCall, tMakeL, tCMethK, ClX.tCMeth, tCall, tPar3]
    obtain ⟨a0, a1, a2, a3, ea, _⟩ := id U23.told
    refine ⟨U23.box.ins, _, .base (.tup ea), notFirst_of T.k_tuple, .inr ⟨b, q1, _, _, rfl, U23.box, .base (.tup ea), kit_ty_own T.c_Box T.k_tuple, _, rfl, ?_⟩⟩
    rw [if_neg (by decide)]
    refine ⟨U23.box.ins, b, q1, rfl, U23.box, b1.bd.1.log, b1.bd.2.1.log, b1.bd.2.2.1.log, b1.bd.2.2.2.log, fun H24 s24 => ?_⟩
    have U24 := U23.on s24
    refine ⟨_, rfl, U24.box.ins, _, .base (.str _), notFirst_of T.k_str, .inr ⟨b, q1, _, _, rfl, U24.box, .base (.str _), kit_ty_own T.c_Box T.k_str, _, rfl, ?_⟩⟩
    rw [if_neg (by decide)]
    refine ⟨U24.box.ins, _, .base .non, notFirst_of T.k_none, .inr ⟨b, q1, _, _, rfl, U24.box, .base .non, kit_ty_own T.c_Box T.k_none, _, rfl, ?_⟩⟩
    rw [if_neg (by decide)]
    clear U23 s24
    subst e1
    refine tSeq_step fun R e1 => ?_
    simp only [tSeq, tIfS, tTest, tB, tAnd, tOr, tNot, tAndV, tOrV, tNotV, tIf, tOp, tUn, tChain, rEq, rNe, rI0, rI, rU, tCallR, tCons, tNil, tC, tVar, tRet, tRetN, tTup_k, tLst_k, tCB, tNext, tAsg, gName, gTup, gCons, gNil, tDrop, tPar, tFld, ClX.tCVal, tPropR, rBin, rBinT, rNeOwn, rSetL_k, gSub, tMakeK_k, tMethR, rInO, tDNewK_k, tYes, wipe, tMakeR_k, tSMeth, tSMethK, rMulS, decide_true, tNever, sFld, rIsiT, and_false, rListOf, rTupOf, rLenSeq, rIxL, rIxT, rIxS, rCat_k, rRep_k, rSlL_k, rSlS, rNewStrs_k, rAppend_k, tBM, tBM0, tM0, tM1, tSl, tNoPart, tPart, tLc_k, tFor_k, iList, iTup, iEnumT, iRng1, iRng2, iRng2L, iStr, L2.start, List.map, List.length_cons, List.length_nil, List.cons_append, List.nil_append, List.getElem?_cons_succ, List.getElem?_cons_zero, Option.some.injEq, V.int.injEq, V.bl.injEq, V.str.injEq, V.ref.injEq, exists_eq_left', exists_eq_left, and_assoc, exists_and_left, exists_eq, exists_eq', true_and, and_true, List.set_cons_zero, List.set_cons_succ, List.set, decide_eq_true_eq, Bool.not_eq_true', if_true, if_false, rIx, cx_K, nox_K, List.replicate_succ, List.replicate_zero, Nat.reduceSub, Bool.true_eq_false, Bool.false_eq_true, Nat.reduceAdd, List.cons.injEq, reduceCtorEq, false_and, false_or, or_false, tAug, rSetO, rStrO, rIsKp, tXk, tDGet, tDIn, tDNotIn, sDPut, rUn, rBinI, rBinR, rJoin, tJs, tOrT, rIsi, tCallOI, rBinT, tFCall, tMakeL, tCMethK, ClX.tCMeth, tCall, tPar3]
    refine ⟨p, c, 9, _, rfl, U24.pen, by omega, by decide, by decide, fun z H25 z0 z1 s25 P25 => ⟨z, rfl, ?_⟩⟩
    have U25 := U24.go s25 P25
    have hm : Bd1 (z - 2) := ⟨by omega, by omega⟩
    generalize z - 2 = m at *
    clear U24 s25 P25
    subst e1
    refine tSeq_step fun R e1 => ?_
    simp only [tSeq, tIfS, tTest, tB, tAnd, tOr, tNot, tAndV, tOrV, tNotV, tIf, tOp, tUn, tChain, rEq, rNe, rI0, rI, rU, tCallR, tCons, tNil, tC, tVar, tRet, tRetN, tTup_k, tLst_k, tCB, tNext, tAsg, gName, gTup, gCons, gNil, tDrop, tPar, tFld, ClX.tCVal, tPropR, rBin, rBinT, rNeOwn, rSetL_k, gSub, tMakeK_k, tMethR, rInO, tDNewK_k, tYes, wipe, tMakeR_k, tSMeth, tSMethK, rMulS, decide_true, tNever, sFld, rIsiT, and_false, rListOf, rTupOf, rLenSeq, rIxL, rIxT, rIxS, rCat_k, rRep_k, rSlL_k, rSlS, rNewStrs_k, rAppend_k, tBM, tBM0, tM0, tM1, tSl, tNoPart, tPart, tLc_k, tFor_k, iList, iTup, iEnumT, iRng1, iRng2, iRng2L, iStr, L2.start, List.map, List.length_cons, List.length_nil, List.cons_append, List.nil_append, List.getElem?_cons_succ, List.getElem?_cons_zero, Option.some.injEq, V.int.injEq, V.bl.injEq, V.str.injEq, V.ref.injEq, exists_eq_left', exists_eq_left, and_assoc, exists_and_left, exists_eq, exists_eq', true_and, and_true, List.set_cons_zero, List.set_cons_succ, List.set, decide_eq_true_eq, Bool.not_eq_true', if_true, if_false, rIx, cx_K, nox_K, List.replicate_succ, List.replicate_zero, Nat.reduceSub, Bool.true_eq_false, Bool.false_eq_true, Nat.reduceAdd, List.cons.injEq, reduceCtorEq, false_and, false_or, or_false, tAug, rSetO, rStrO, rIsKp, tXk, tDGet, tDIn, tDNotIn, sDPut, rUn, rBinI, rBinR, rJoin, tJs, tOrT, rIsi, tCallOI, rBinT, tFCall, tMakeL, tCMethK, ClX.tCMeth, tCall, tPar3]
    refine kNew.mk (by show 3 ≤ sizeLine; decide) fun i0 H26 f26 => kNew.mk (by show 3 ≤ sizeLine; decide) fun i1 H27 f27 => kNew.mk (by show 3 ≤ sizeLine; decide) fun i2 H28 f28 => kNew.mk (by show 3 ≤ sizeLine; decide) fun i3 H29 f29 => kNew.mk (by show 4 ≤ sizeLine; decide) fun ti H30 f30 => ?_
    rw [Int.zero_sub] at f27 f29
    have s90 := f29.same.trans f30.same
    have s80 := f28.same.trans s90
    have s70 := f27.same.trans s80
    have U30 := U25.on (f26.same.trans s70)
    have ti30 : FourT H30 ti (insB m) := ⟨i0, i1, i2, i3, f30.at_, s70 _ _ f26.at_, s80 _ _ f27.at_, s90 _ _ f28.at_, f30.same _ _ f29.at_⟩
    clear s90 s80 s70 f26 f27 f28 f29 f30 U25
    subst e1
    refine tSeq_step fun R e1 => ?_
    simp only [tSeq, tIfS, tTest, tB, tAnd, tOr, tNot, tAndV, tOrV, tNotV, tIf, tOp, tUn, tChain, rEq, rNe, rI0, rI, rU, tCallR, tCons, tNil, tC, tVar, tRet, tRetN, tTup_k, tLst_k, tCB, tNext, tAsg, gName, gTup, gCons, gNil, tDrop, tPar, tFld, ClX.tCVal, tPropR, rBin, rBinT, rNeOwn, rSetL_k, gSub, tMakeK_k, tMethR, rInO, tDNewK_k, tYes, wipe, tMakeR_k, tSMeth, tSMethK, rMulS, decide_true, tNever, sFld, rIsiT, and_false, rListOf, rTupOf, rLenSeq, rIxL, rIxT, rIxS, rCat_k, rRep_k, rSlL_k, rSlS, rNewStrs_k, rAppend_k, tBM, tBM0, tM0, tM1, tSl, tNoPart, tPart, tLc_k, tFor_k, iList, iTup, iEnumT, iRng1, iRng2, iRng2L, iStr, L2.start, List.map, List.length_cons, List.length_nil, List.cons_append, List.nil_append, List.getElem?_cons_succ, List.getElem?_cons_zero, Option.some.injEq, V.int.injEq, V.bl.injEq, V.str.injEq, V.ref.injEq, exists_eq_left', exists_eq_left, and_assoc, exists_and_left, exists_eq, exists_eq', true_and, and_true, List.set_cons_zero, List.set_cons_succ, List.set, decide_eq_true_eq, Bool.not_eq_true', if_true, if_false, rIx, cx_K, nox_K, List.replicate_succ, List.replicate_zero, Nat.reduceSub, Bool.true_eq_false, Bool.false_eq_true, Nat.reduceAdd, List.cons.injEq, reduceCtorEq, false_and, false_or, or_false, tAug, rSetO, rStrO, rIsKp, tXk, tDGet, tDIn, tDNotIn, sDPut, rUn, rBinI, rBinR, rJoin, tJs, tOrT, rIsi, tCallOI, rBinT, tFCall, tMakeL, tCMethK, ClX.tCMeth, tCall, tPar3]
    refine ⟨_, rfl, .inl ⟨m, rfl, hm, fun b5 H31 s31 n31 hb5 => ?_⟩⟩
    have U31 := U30.on s31
    refine ⟨b5, ti, lz, insB m, lawZ, rfl, hb5, ti30.same s31, bd_ins hm, zs _ U31.since, lawZ_wid, fun H32 s32 => ⟨_, rfl, ?_⟩⟩
    rw [if_neg (by decide)]
    have U32 := U31.on s32
    refine ⟨rfl, fun b6 H33 s33 n33 hb6 => ⟨_, rfl, .inl ⟨0, rfl, bd_zero, fun b7 H34 s34 n34 hb7 => ⟨b6, rfl, b7, rfl, (hb6.same s34).ins, hb7.ins, b6, b7, insB 0, insB 0, rfl, hb6.same s34, hb7, fun H35 s35 => ⟨_, rfl, ?_⟩⟩⟩⟩⟩
    rw [decide_eq_true rfl, if_neg (by decide)]
    have U35 := ((U32.on s33).on s34).on s35
    clear U30 U31 U32 s31 s32 s33 s34 s35 n31 n33 n34 hb5 hb6 hb7 ti30
    subst e1
    refine tSeq_step fun R e1 => ?_
    simp only [tSeq, tIfS, tTest, tB, tAnd, tOr, tNot, tAndV, tOrV, tNotV, tIf, tOp, tUn, tChain, rEq, rNe, rI0, rI, rU, tCallR, tCons, tNil, tC, tVar, tRet, tRetN, tTup_k, tLst_k, tCB, tNext, tAsg, gName, gTup, gCons, gNil, tDrop, tPar, tFld, ClX.tCVal, tPropR, rBin, rBinT, rNeOwn, rSetL_k, gSub, tMakeK_k, tMethR, rInO, tDNewK_k, tYes, wipe, tMakeR_k, tSMeth, tSMethK, rMulS, decide_true, tNever, sFld, rIsiT, and_false, rListOf, rTupOf, rLenSeq, rIxL, rIxT, rIxS, rCat_k, rRep_k, rSlL_k, rSlS, rNewStrs_k, rAppend_k, tBM, tBM0, tM0, tM1, tSl, tNoPart, tPart, tLc_k, tFor_k, iList, iTup, iEnumT, iRng1, iRng2, iRng2L, iStr, L2.start, List.map, List.length_cons, List.length_nil, List.cons_append, List.nil_append, List.getElem?_cons_succ, List.getElem?_cons_zero, Option.some.injEq, V.int.injEq, V.bl.injEq, V.str.injEq, V.ref.injEq, exists_eq_left', exists_eq_left, and_assoc, exists_and_left, exists_eq, exists_eq', true_and, and_true, List.set_cons_zero, List.set_cons_succ, List.set, decide_eq_true_eq, Bool.not_eq_true', if_true, if_false, rIx, cx_K, nox_K, List.replicate_succ, List.replicate_zero, Nat.reduceSub, Bool.true_eq_false, Bool.false_eq_true, Nat.reduceAdd, List.cons.injEq, reduceCtorEq, false_and, false_or, or_false, tAug, rSetO, rStrO, rIsKp, tXk, tDGet, tDIn, tDNotIn, sDPut, rUn, rBinI, rBinR, rJoin, tJs, tOrT, rIsi, tCallOI, rBinT, tFCall, tMakeL, tCMethK, ClX.tCMeth, tCall, tPar3]
    obtain ⟨dx, p0, p1, p2, p3, eb, g0, g1, g2, g3⟩ := id U35.box
    have cl := T.c_Box.cl
    refine ⟨_, dx, _, eb, cl, T.a_Box_x0, _, bxF_x0 .., _, dx, _, eb, cl, T.a_Box_y1, _, bxF_y1 .., _, dx, _, eb, cl, T.a_Box_x1, _, bxF_x1 .., _, dx, _, eb, cl, T.a_Box_y0, _, bxF_y0 .., ?_⟩
    refine kMakeG.mk (us := [.ref p0, .ref p1, .ref p2, .ref p3]) (fun x => rfl) (newB_make (q := q1) ⟨.inr ⟨p0, rfl, g0⟩, b1.1.bd⟩ ⟨.inr ⟨p1, rfl, g1⟩, b1.2.1.bd⟩ ⟨.inr ⟨p2, rfl, g2⟩, b1.2.2.1.bd⟩ ⟨.inr ⟨p3, rfl, g3⟩, b1.2.2.2.bd⟩ fun nb H36 s36 n36 hnb => ?_)
    have U36 := U35.on s36
    clear U35 s36 n36 eb g0 g1 g2 g3
    subst e1
    simp only [tSeq, tIfS, tTest, tB, tAnd, tOr, tNot, tAndV, tOrV, tNotV, tIf, tOp, tUn, tChain, rEq, rNe, rI0, rI, rU, tCallR, tCons, tNil, tC, tVar, tRet, tRetN, tTup_k, tLst_k, tCB, tNext, tAsg, gName, gTup, gCons, gNil, tDrop, tPar, tFld, ClX.tCVal, tPropR, rBin, rBinT, rNeOwn, rSetL_k, gSub, tMakeK_k, tMethR, rInO, tDNewK_k, tYes, wipe, tMakeR_k, tSMeth, tSMethK, rMulS, decide_true, tNever, sFld, rIsiT, and_false, rListOf, rTupOf, rLenSeq, rIxL, rIxT, rIxS, rCat_k, rRep_k, rSlL_k, rSlS, rNewStrs_k, rAppend_k, tBM, tBM0, tM0, tM1, tSl, tNoPart, tPart, tLc_k, tFor_k, iList, iTup, iEnumT, iRng1, iRng2, iRng2L, iStr, L2.start, List.map, List.length_cons, List.length_nil, List.cons_append, List.nil_append, List.getElem?_cons_succ, List.getElem?_cons_zero, Option.some.injEq, V.int.injEq, V.bl.injEq, V.str.injEq, V.ref.injEq, exists_eq_left', exists_eq_left, and_assoc, exists_and_left, exists_eq, exists_eq', true_and, and_true, List.set_cons_zero, List.set_cons_succ, List.set, decide_eq_true_eq, Bool.not_eq_true', if_true, if_false, rIx, cx_K, nox_K, List.replicate_succ, List.replicate_zero, Nat.reduceSub, Bool.true_eq_false, Bool.false_eq_true, Nat.reduceAdd, List.cons.injEq, reduceCtorEq, false_and, false_or, or_false, tAug, rSetO, rStrO, rIsKp, tXk, tDGet, tDIn, tDNotIn, sDPut, rUn, rBinI, rBinR, rJoin, tJs, tOrT, rIsi, tCallOI, rBinT, tFCall, tMakeL, tCMethK, ClX.tCMeth, tCall, tPar3]
    refine ⟨hnb.ins, U36.box.ins, nb, b, q1, q1, rfl, hnb, U36.box, fun H37 s37 => ⟨_, rfl, ?_⟩⟩
    rw [decide_eq_true rfl, if_neg (by decide)]
    have U37 := U36.on s37
    refine ⟨p, c, b, q1, _, rfl, ⟨U37.pen, U37.tab, U37.box, fun _ _ _ e _ => e⟩, by omega, fun H38 W38 => ⟨_, rfl, ?_⟩⟩
    rw [if_neg (by decide)]
    refine ⟨p, c, _, rfl, W38.pen, W38.tab, by omega, fun H39 X39 P39 T39 => ⟨_, rfl, ?_⟩⟩
    rw [if_neg (by decide)]
    have U39 := (U37.step W38.since W38.pen W38.tab).step X39 P39 T39
    exact ⟨U39.since, U39.pen.le (by push_cast; omega), U39.tab⟩
  · obtain ⟨Xa, Pa, Ta, v3, v4, v5, v6, v7, v8, v9, rfl⟩ := hP
    show R { nx := fun x H' => Q V.non H', rt := Q } [some (.ref sa), some (.ref p), some (.ref lz), v3, v4, v5, v6, v7, v8, v9] Ha
    subst e1
    simp only [tSeq, tIfS, tTest, tB, tAnd, tOr, tNot, tAndV, tOrV, tNotV, tIf, tOp, tUn, tChain, rEq, rNe, rI0, rI, rU, tCallR, tCons, tNil, tC, tVar, tRet, tRetN, tTup_k, tLst_k, tCB, tNext, tAsg, gName, gTup, gCons, gNil, tDrop, tPar, tFld, ClX.tCVal, tPropR, rBin, rBinT, rNeOwn, rSetL_k, gSub, tMakeK_k, tMethR, rInO, tDNewK_k, tYes, wipe, tMakeR_k, tSMeth, tSMethK, rMulS, decide_true, tNever, sFld, rIsiT, and_false, rListOf, rTupOf, rLenSeq, rIxL, rIxT, rIxS, rCat_k, rRep_k, rSlL_k, rSlS, rNewStrs_k, rAppend_k, tBM, tBM0, tM0, tM1, tSl, tNoPart, tPart, tLc_k, tFor_k, iList, iTup, iEnumT, iRng1, iRng2, iRng2L, iStr, L2.start, List.map, List.length_cons, List.length_nil, List.cons_append, List.nil_append, List.getElem?_cons_succ, List.getElem?_cons_zero, Option.some.injEq, V.int.injEq, V.bl.injEq, V.str.injEq, V.ref.injEq, exists_eq_left', exists_eq_left, and_assoc, exists_and_left, exists_eq, exists_eq', true_and, and_true, List.set_cons_zero, List.set_cons_succ, List.set, decide_eq_true_eq, Bool.not_eq_true', if_true, if_false, rIx, cx_K, nox_K, List.replicate_succ, List.replicate_zero, Nat.reduceSub, Bool.true_eq_false, Bool.false_eq_true, Nat.reduceAdd, List.cons.injEq, reduceCtorEq, false_and, false_or, or_false, tAug, rSetO, rStrO, rIsKp, tXk, tDGet, tDIn, tDNotIn, sDPut, rUn, rBinI, rBinR, rJoin, tJs, tOrT, rIsi, tCallOI, rBinT, tFCall, tMakeL, tCMethK, ClX.tCMeth, tCall, tPar3]
    exact ⟨rfl, Ta, fun H' => k H'⟩
end
end Pf
end
section
namespace Pf
open PySem PySem.Spec PyProof.Rows L2 Ow StX
theorem cmet_mk {K : PySem.W.Frag} {C p g : Addr} {m : Str} {ta : Value} {rest : List Value}
    (h1 : PySem.W.findIn K (.ref C) m = some (some (.ref p)))
    (h2 : PySem.W.findIn K (.type "type") m = some none)
    (h3 : PySem.W.typeIn K (.ref p) = some ta)
    (h5 : PySem.W.specialIn K (.ref p) "__get__" = some (some (.builtin "classmethod.__get__")))
    (h6 : PySem.W.recIn K p "classmethod" = some (.ref g :: rest)) (h7 : PySem.W.fnIn K g = true) (h4 : PySem.W.bareKinds.contains ta = false) :
    ClX.CMet K C (.type "type") m p g := by
  refine ⟨?_, ⟨_, h6⟩, h7⟩
  unfold PySem.W.findCls
  simp only [h2, h1, h3, h4, h5, Option.bind, Builtin.heldUnderItsOwnName]
  rfl

theorem fnt_mk {K : PySem.W.Frag} {x qual : Str} {st : Stmt} {f : Addr} {oc : Value} {od an : Option Addr} {osl : Array (Option Value)} {kV doc pm cdv ct : Value}
    (l : K.lookup f = some ⟨oc, od, .func (PySem.W.fnOf x qual (defArgs st) (defBody st) (defScope st) .none kV doc pm an cdv ct), osl⟩) (c : PySem.W.codeIn K cdv qual = true) (k : PySem.W.keepIn K (.ref f) = true) : FnT K x qual st [] f :=
  ⟨_, ⟨⟨oc, od, .none, kV, doc, pm, an, cdv, ct, osl, rfl, l, c, .inl ⟨rfl, rfl⟩, .inl rfl⟩, k⟩⟩
theorem fntD_mk {K : PySem.W.Frag} {x qual : Str} {st : Stmt} {f D : Addr} {oc : Value} {od an : Option Addr} {osl : Array (Option Value)} {kV doc pm cdv ct tc : Value} {td : Option Addr} {tn : Nat} {ts : Array (Option Value)} {its : List Value} {dvs : List V}
    (l : K.lookup f = some ⟨oc, od, .func (PySem.W.fnOf x qual (defArgs st) (defBody st) (defScope st) (.ref D) kV doc pm an cdv ct), osl⟩) (c : PySem.W.codeIn K cdv qual = true) (k : PySem.W.keepIn K (.ref f) = true)
    (t : K.lookup D = some ⟨tc, td, .seq its.toArray tn, ts⟩) (hd : dvs ≠ []) (v : Vals dvs its) : FnT K x qual st dvs f :=
  ⟨_, ⟨⟨oc, od, .ref D, kV, doc, pm, an, cdv, ct, osl, rfl, l, c, .inr ⟨hd, D, _, its, tn, rfl, t, rfl, v⟩, .inl rfl⟩, k⟩⟩
theorem fntD1_mk {K : PySem.W.Frag} {x qual : Str} {st : Stmt} {f D : Addr} {oc : Value} {od an : Option Addr} {osl : Array (Option Value)} {kV doc pm cdv ct tc u : Value} {td : Option Addr} {tn : Nat} {ts : Array (Option Value)} {dv : V}
    (l : K.lookup f = some ⟨oc, od, .func (PySem.W.fnOf x qual (defArgs st) (defBody st) (defScope st) (.ref D) kV doc pm an cdv ct), osl⟩) (c : PySem.W.codeIn K cdv qual = true) (k : PySem.W.keepIn K (.ref f) = true)
    (t : K.lookup D = some ⟨tc, td, .seq #[u] tn, ts⟩) (v : RelV dv u) : FnT K x qual st [dv] f := fntD_mk (its := [u]) l c k t (by simp) (.cons v .nil)
theorem propR_mk {K : PySem.W.Frag} {C p g : Addr} {f : Str} {rest : List Value} (h1 : PySem.W.findIn K (.ref C) f = some (some (.ref p))) (h2 : PySem.W.specialIn K (.ref p) "__get__" = some (some (.builtin "property.__get__")))
    (h3 : PySem.W.takesIn K (.ref p) = some true) (h4 : PySem.W.recIn K p "property" = some (.ref g :: rest)) : PropR K C f p g := ⟨h1, h2, h3, rest, h4⟩
theorem mro2_mk {K : PySem.W.Frag} {C : Addr} {cd : PySem.ClassData} (h : PySem.W.clsIn K C = some cd) (m : (cd.mro == [.ref C, .type "object"]) = true) : mro2 K C = true := by
  unfold mro2
  rw [h]
  exact m

theorem errF_mk {K : PySem.W.Frag} {C g : Addr} {nm q N bs bm sn sub ab col dd k0 k1 k2 k3 k5} (l : K.lookup C = some (excClassObj nm q C N bs bm true sn sub ab col dd k0 k1 k2 k3 k5 "ValueError.__new__")) (r : PySem.HandSPX.refsVE bm = true)
    (s : PySem.W.findIn K (.ref C) "__setattr__" = some (some (.builtin "object.__setattr__"))) (x : PySem.W.subIn K (.ref C) (.type "BaseException") = some true) (t : PySem.W.typeIn K (.ref C) = some (.type "type")) (k : PySem.W.keepIn K (.ref C) = true)
    (i : PySem.W.findIn K (.ref C) "__init__" = some (some (.ref g))) (f : PySem.W.typeIn K (.ref g) = some (.type "function")) : ErrF K C g := ⟨⟨⟨_, _, _, _, _, _, _, _, _, _, _, _, _, _, _, l, r⟩, s, x, t, k⟩, i, f⟩
theorem all_mk {l : PySem.W.OpenLaw} {w : World} {K : PySem.W.Frag} {h : Heap} {mg : Str → Option Value} {fa : Addr} (X : K.In h) (G : h.Ns mainGlobals mg) (hfa : mg "law" = some (.ref fa))
    {x_BadPlace_init x_BadSize_init x_is_int x_check_size x_Place_init x_Place_slope x_Place_offset x_Place_odd x_Place_call x_from_left x_from_right x_parts_of x_mirrored_parts x_Place_invert x_Place_eq x_place_words x_Place_str x_bounded_place x_checked_place x_Box_init x_Box_call x_box_places x_Box_invert x_Box_eq x_Box_str x_Box_whole x_Box_inside x__law_pen x__law_draw x__law_pick x__law_place x__law_at x__law_built_place x__law_built_box x__law_ends x__law_mirror_place x__law_place_text x__law_box_text x__law_errors x__law_any_place x__law_four x__law_parts x__law_is x__law_mirrored x__law_refused_right x__law_bounds_right x__law_far_margins_right x_law x_Place x_pr_Place_slope x_pr_Place_offset x_pr_Place_odd x_Box x_BadPlace x_BadSize x_HoldError x_BOUNDt x_sm_whole x_cm_inside x_BadColour x_BadPixel x_BadDeed x_BadProgram x_TooMany x_NoDeed x_NoFlood c1 Tb1 c2 Tb2 c3 Tb3 : Addr}
    (n_len : PySem.W.nsIn K mainGlobals "len" = some none)
    (n_int : PySem.W.nsIn K mainGlobals "int" = some none)
    (n_abs : PySem.W.nsIn K mainGlobals "abs" = some none)
    (n_list : PySem.W.nsIn K mainGlobals "list" = some none)
    (n_range : PySem.W.nsIn K mainGlobals "range" = some none)
    (n_repr : PySem.W.nsIn K mainGlobals "repr" = some none)
    (n_tuple : PySem.W.nsIn K mainGlobals "tuple" = some none)
    (n_str : PySem.W.nsIn K mainGlobals "str" = some none)
    (n_isinstance : PySem.W.nsIn K mainGlobals "isinstance" = some none)
    (n_bool : PySem.W.nsIn K mainGlobals "bool" = some none)
    (n_all : PySem.W.nsIn K mainGlobals "all" = some none)
    (n_ValueError : PySem.W.nsIn K mainGlobals "ValueError" = some none)
    (m_is_int : PySem.W.nsIn K mainGlobals "is_int" = some (some (.ref x_is_int)))
    (m_check_size : PySem.W.nsIn K mainGlobals "check_size" = some (some (.ref x_check_size)))
    (m_from_left : PySem.W.nsIn K mainGlobals "from_left" = some (some (.ref x_from_left)))
    (m_from_right : PySem.W.nsIn K mainGlobals "from_right" = some (some (.ref x_from_right)))
    (m_parts_of : PySem.W.nsIn K mainGlobals "parts_of" = some (some (.ref x_parts_of)))
    (m_mirrored_parts : PySem.W.nsIn K mainGlobals "mirrored_parts" = some (some (.ref x_mirrored_parts)))
    (m_place_words : PySem.W.nsIn K mainGlobals "place_words" = some (some (.ref x_place_words)))
    (m_bounded_place : PySem.W.nsIn K mainGlobals "bounded_place" = some (some (.ref x_bounded_place)))
    (m_checked_place : PySem.W.nsIn K mainGlobals "checked_place" = some (some (.ref x_checked_place)))
    (m_box_places : PySem.W.nsIn K mainGlobals "box_places" = some (some (.ref x_box_places)))
    (m__law_pen : PySem.W.nsIn K mainGlobals "_law_pen" = some (some (.ref x__law_pen)))
    (m__law_draw : PySem.W.nsIn K mainGlobals "_law_draw" = some (some (.ref x__law_draw)))
    (m__law_pick : PySem.W.nsIn K mainGlobals "_law_pick" = some (some (.ref x__law_pick)))
    (m__law_place : PySem.W.nsIn K mainGlobals "_law_place" = some (some (.ref x__law_place)))
    (m__law_at : PySem.W.nsIn K mainGlobals "_law_at" = some (some (.ref x__law_at)))
    (m__law_built_place : PySem.W.nsIn K mainGlobals "_law_built_place" = some (some (.ref x__law_built_place)))
    (m__law_built_box : PySem.W.nsIn K mainGlobals "_law_built_box" = some (some (.ref x__law_built_box)))
    (m__law_ends : PySem.W.nsIn K mainGlobals "_law_ends" = some (some (.ref x__law_ends)))
    (m__law_mirror_place : PySem.W.nsIn K mainGlobals "_law_mirror_place" = some (some (.ref x__law_mirror_place)))
    (m__law_place_text : PySem.W.nsIn K mainGlobals "_law_place_text" = some (some (.ref x__law_place_text)))
    (m__law_box_text : PySem.W.nsIn K mainGlobals "_law_box_text" = some (some (.ref x__law_box_text)))
    (m__law_errors : PySem.W.nsIn K mainGlobals "_law_errors" = some (some (.ref x__law_errors)))
    (m__law_any_place : PySem.W.nsIn K mainGlobals "_law_any_place" = some (some (.ref x__law_any_place)))
    (m__law_four : PySem.W.nsIn K mainGlobals "_law_four" = some (some (.ref x__law_four)))
    (m__law_parts : PySem.W.nsIn K mainGlobals "_law_parts" = some (some (.ref x__law_parts)))
    (m__law_is : PySem.W.nsIn K mainGlobals "_law_is" = some (some (.ref x__law_is)))
    (m__law_mirrored : PySem.W.nsIn K mainGlobals "_law_mirrored" = some (some (.ref x__law_mirrored)))
    (m__law_refused_right : PySem.W.nsIn K mainGlobals "_law_refused_right" = some (some (.ref x__law_refused_right)))
    (m__law_bounds_right : PySem.W.nsIn K mainGlobals "_law_bounds_right" = some (some (.ref x__law_bounds_right)))
    (m__law_far_margins_right : PySem.W.nsIn K mainGlobals "_law_far_margins_right" = some (some (.ref x__law_far_margins_right)))
    (m_law : PySem.W.nsIn K mainGlobals "law" = some (some (.ref x_law)))
    (m_Place : PySem.W.nsIn K mainGlobals "Place" = some (some (.ref x_Place)))
    (c_Place : ClsF K x_Place)
    (M_Place : Mk K x_Place x_Place_init)
    (a_Place__slope : PySem.W.findIn K (.ref x_Place) "_slope" = some none)
    (a_Place__offset : PySem.W.findIn K (.ref x_Place) "_offset" = some none)
    (a_Place__odd : PySem.W.findIn K (.ref x_Place) "_odd" = some none)
    (p_Place_slope : PropR K x_Place "slope" x_pr_Place_slope x_Place_slope)
    (p_Place_offset : PropR K x_Place "offset" x_pr_Place_offset x_Place_offset)
    (p_Place_odd : PropR K x_Place "odd" x_pr_Place_odd x_Place_odd)
    (o_Place_eq : PySem.W.findIn K (.ref x_Place) "__eq__" = some (some (.ref x_Place_eq)))
    (f_Place_eq : PySem.W.isFn K (.ref x_Place_eq) = true)
    (o_Place_call : PySem.W.findIn K (.ref x_Place) "__call__" = some (some (.ref x_Place_call)))
    (f_Place_call : PySem.W.isFn K (.ref x_Place_call) = true)
    (o_Place_invert : PySem.W.findIn K (.ref x_Place) "__invert__" = some (some (.ref x_Place_invert)))
    (f_Place_invert : PySem.W.isFn K (.ref x_Place_invert) = true)
    (o_Place_str : PySem.W.findIn K (.ref x_Place) "__str__" = some (some (.ref x_Place_str)))
    (f_Place_str : PySem.W.isFn K (.ref x_Place_str) = true)
    (s_Place_not : PySem.W.notFirst K x_Place (.ref x_Place) = true)
    (s_Place_int : PySem.W.subIn K (.type "int") (.ref x_Place) = some false)
    (s_Place_tuple : PySem.W.subIn K (.type "tuple") (.ref x_Place) = some false)
    (fi_Place_call : PySem.W.fnIn K x_Place_call = true)
    (q_Place_none : PySem.W.subIn K (.type "NoneType") (.ref x_Place) = some false)
    (q_Place_str : PySem.W.subIn K (.type "str") (.ref x_Place) = some false)
    (q_Place_bool : PySem.W.subIn K (.type "bool") (.ref x_Place) = some false)
    (q_Place_list : PySem.W.subIn K (.type "list") (.ref x_Place) = some false)
    (q_Place_dict : PySem.W.subIn K (.type "dict") (.ref x_Place) = some false)
    (s_Place_first : PySem.W.selfFirst K x_Place = true)
    (s_Place_isint : PySem.W.subIn K (.ref x_Place) (.type "int") = some false)
    (m_Box : PySem.W.nsIn K mainGlobals "Box" = some (some (.ref x_Box)))
    (c_Box : ClsF K x_Box)
    (M_Box : Mk K x_Box x_Box_init)
    (a_Box_x0 : PySem.W.findIn K (.ref x_Box) "x0" = some none)
    (a_Box_x1 : PySem.W.findIn K (.ref x_Box) "x1" = some none)
    (a_Box_y0 : PySem.W.findIn K (.ref x_Box) "y0" = some none)
    (a_Box_y1 : PySem.W.findIn K (.ref x_Box) "y1" = some none)
    (o_Box_eq : PySem.W.findIn K (.ref x_Box) "__eq__" = some (some (.ref x_Box_eq)))
    (f_Box_eq : PySem.W.isFn K (.ref x_Box_eq) = true)
    (o_Box_call : PySem.W.findIn K (.ref x_Box) "__call__" = some (some (.ref x_Box_call)))
    (f_Box_call : PySem.W.isFn K (.ref x_Box_call) = true)
    (o_Box_invert : PySem.W.findIn K (.ref x_Box) "__invert__" = some (some (.ref x_Box_invert)))
    (f_Box_invert : PySem.W.isFn K (.ref x_Box_invert) = true)
    (o_Box_str : PySem.W.findIn K (.ref x_Box) "__str__" = some (some (.ref x_Box_str)))
    (f_Box_str : PySem.W.isFn K (.ref x_Box_str) = true)
    (fi_Box_call : PySem.W.fnIn K x_Box_call = true)
    (cr_Box : ClX.CRead K x_Box (.type "type"))
    (sm_whole : SMet K x_Box (.type "type") "whole" x_sm_whole x_Box_whole)
    (cm_inside : ClX.CMet K x_Box (.type "type") "inside" x_cm_inside x_Box_inside)
    (k_tuple : PySem.W.subIn K (.type "tuple") (.ref x_Box) = some false)
    (k_none : PySem.W.subIn K (.type "NoneType") (.ref x_Box) = some false)
    (k_str : PySem.W.subIn K (.type "str") (.ref x_Box) = some false)
    (s_Box_not : PySem.W.notFirst K x_Box (.ref x_Box) = true)
    (m_BadPlace : PySem.W.nsIn K mainGlobals "BadPlace" = some (some (.ref x_BadPlace)))
    (e_BadPlace : ErrF K x_BadPlace x_BadPlace_init)
    (a_BadPlace_part : PySem.W.findIn K (.ref x_BadPlace) "part" = some none)
    (m_BadSize : PySem.W.nsIn K mainGlobals "BadSize" = some (some (.ref x_BadSize)))
    (e_BadSize : ErrF K x_BadSize x_BadSize_init)
    (a_BadSize_part : PySem.W.findIn K (.ref x_BadSize) "part" = some none)
    (m_HoldError : PySem.W.nsIn K mainGlobals "HoldError" = some (some (.ref x_HoldError)))
    (xf_BadPlace : XfC K x_BadPlace)
    (xc_BadPlace : ExcC K x_BadPlace)
    (xi_BadPlace : PySem.W.isClsIn K x_BadPlace = true)
    (xt_BadPlace : PySem.W.typeIn K (.ref x_BadPlace) = some (.type "type"))
    (xm_BadPlace_HoldError : PySem.W.exmOne K (.ref x_BadPlace) (.ref x_HoldError) = some true)
    (xm_BadPlace_BadPlace : PySem.W.exmOne K (.ref x_BadPlace) (.ref x_BadPlace) = some true)
    (xs_BadPlace_BadSize : PySem.W.subIn K (.ref x_BadPlace) (.ref x_BadSize) = some false)
    (xn_BadPlace_BadSize : ((.ref x_BadPlace : Value) == .ref x_BadSize) = false)
    (xf_BadSize : XfC K x_BadSize)
    (xc_BadSize : ExcC K x_BadSize)
    (xi_BadSize : PySem.W.isClsIn K x_BadSize = true)
    (xt_BadSize : PySem.W.typeIn K (.ref x_BadSize) = some (.type "type"))
    (xm_BadSize_HoldError : PySem.W.exmOne K (.ref x_BadSize) (.ref x_HoldError) = some true)
    (xm_BadSize_BadSize : PySem.W.exmOne K (.ref x_BadSize) (.ref x_BadSize) = some true)
    (xs_BadSize_BadPlace : PySem.W.subIn K (.ref x_BadSize) (.ref x_BadPlace) = some false)
    (xn_BadSize_BadPlace : ((.ref x_BadSize : Value) == .ref x_BadPlace) = false)
    (m_BOUND : PySem.W.nsIn K mainGlobals "BOUND" = some (some (.int 1000000000000 x_BOUNDt)))
    (m_BadColour : PySem.W.nsIn K mainGlobals "BadColour" = some (some (.ref x_BadColour)))
    (m_BadPixel : PySem.W.nsIn K mainGlobals "BadPixel" = some (some (.ref x_BadPixel)))
    (m_BadDeed : PySem.W.nsIn K mainGlobals "BadDeed" = some (some (.ref x_BadDeed)))
    (m_BadProgram : PySem.W.nsIn K mainGlobals "BadProgram" = some (some (.ref x_BadProgram)))
    (m_TooMany : PySem.W.nsIn K mainGlobals "TooMany" = some (some (.ref x_TooMany)))
    (m_NoDeed : PySem.W.nsIn K mainGlobals "NoDeed" = some (some (.ref x_NoDeed)))
    (m_NoFlood : PySem.W.nsIn K mainGlobals "NoFlood" = some (some (.ref x_NoFlood)))
    (xi_BadColour : PySem.W.isClsIn K x_BadColour = true)
    (xt_BadColour : PySem.W.typeIn K (.ref x_BadColour) = some (.type "type"))
    (xi_BadPixel : PySem.W.isClsIn K x_BadPixel = true)
    (xt_BadPixel : PySem.W.typeIn K (.ref x_BadPixel) = some (.type "type"))
    (xi_BadDeed : PySem.W.isClsIn K x_BadDeed = true)
    (xt_BadDeed : PySem.W.typeIn K (.ref x_BadDeed) = some (.type "type"))
    (xi_BadProgram : PySem.W.isClsIn K x_BadProgram = true)
    (xt_BadProgram : PySem.W.typeIn K (.ref x_BadProgram) = some (.type "type"))
    (xi_TooMany : PySem.W.isClsIn K x_TooMany = true)
    (xt_TooMany : PySem.W.typeIn K (.ref x_TooMany) = some (.type "type"))
    (xi_NoDeed : PySem.W.isClsIn K x_NoDeed = true)
    (xt_NoDeed : PySem.W.typeIn K (.ref x_NoDeed) = some (.type "type"))
    (xi_NoFlood : PySem.W.isClsIn K x_NoFlood = true)
    (xt_NoFlood : PySem.W.typeIn K (.ref x_NoFlood) = some (.type "type"))
    (xv_BadPlace : PySem.W.subIn K (.ref x_BadPlace) (.type "ValueError") = some true)
    (xs_BadPlace_BadColour : PySem.W.subIn K (.ref x_BadPlace) (.ref x_BadColour) = some false)
    (xs_BadPlace_BadPixel : PySem.W.subIn K (.ref x_BadPlace) (.ref x_BadPixel) = some false)
    (xs_BadPlace_BadDeed : PySem.W.subIn K (.ref x_BadPlace) (.ref x_BadDeed) = some false)
    (xs_BadPlace_BadProgram : PySem.W.subIn K (.ref x_BadPlace) (.ref x_BadProgram) = some false)
    (xs_BadPlace_TooMany : PySem.W.subIn K (.ref x_BadPlace) (.ref x_TooMany) = some false)
    (xs_BadPlace_NoDeed : PySem.W.subIn K (.ref x_BadPlace) (.ref x_NoDeed) = some false)
    (xs_BadPlace_NoFlood : PySem.W.subIn K (.ref x_BadPlace) (.ref x_NoFlood) = some false)
    (xv_BadSize : PySem.W.subIn K (.ref x_BadSize) (.type "ValueError") = some true)
    (xs_BadSize_BadColour : PySem.W.subIn K (.ref x_BadSize) (.ref x_BadColour) = some false)
    (xs_BadSize_BadPixel : PySem.W.subIn K (.ref x_BadSize) (.ref x_BadPixel) = some false)
    (xs_BadSize_BadDeed : PySem.W.subIn K (.ref x_BadSize) (.ref x_BadDeed) = some false)
    (xs_BadSize_BadProgram : PySem.W.subIn K (.ref x_BadSize) (.ref x_BadProgram) = some false)
    (xs_BadSize_TooMany : PySem.W.subIn K (.ref x_BadSize) (.ref x_TooMany) = some false)
    (xs_BadSize_NoDeed : PySem.W.subIn K (.ref x_BadSize) (.ref x_NoDeed) = some false)
    (xs_BadSize_NoFlood : PySem.W.subIn K (.ref x_BadSize) (.ref x_NoFlood) = some false)
    (xn_BadPlace_BadColour : ((.ref x_BadPlace : Value) == .ref x_BadColour) = false)
    (xn_BadPlace_BadPixel : ((.ref x_BadPlace : Value) == .ref x_BadPixel) = false)
    (xn_BadPlace_BadDeed : ((.ref x_BadPlace : Value) == .ref x_BadDeed) = false)
    (xn_BadPlace_BadProgram : ((.ref x_BadPlace : Value) == .ref x_BadProgram) = false)
    (xn_BadPlace_TooMany : ((.ref x_BadPlace : Value) == .ref x_TooMany) = false)
    (xn_BadPlace_NoDeed : ((.ref x_BadPlace : Value) == .ref x_NoDeed) = false)
    (xn_BadPlace_NoFlood : ((.ref x_BadPlace : Value) == .ref x_NoFlood) = false)
    (xn_BadSize_BadColour : ((.ref x_BadSize : Value) == .ref x_BadColour) = false)
    (xn_BadSize_BadPixel : ((.ref x_BadSize : Value) == .ref x_BadPixel) = false)
    (xn_BadSize_BadDeed : ((.ref x_BadSize : Value) == .ref x_BadDeed) = false)
    (xn_BadSize_BadProgram : ((.ref x_BadSize : Value) == .ref x_BadProgram) = false)
    (xn_BadSize_TooMany : ((.ref x_BadSize : Value) == .ref x_TooMany) = false)
    (xn_BadSize_NoDeed : ((.ref x_BadSize : Value) == .ref x_NoDeed) = false)
    (xn_BadSize_NoFlood : ((.ref x_BadSize : Value) == .ref x_NoFlood) = false)
    (d_BadPlace_init : FnT K "__init__" "BadPlace.__init__" s_BadPlace_init [] x_BadPlace_init)
    (d_BadSize_init : FnT K "__init__" "BadSize.__init__" s_BadSize_init [] x_BadSize_init)
    (d_is_int : FnT K "is_int" "is_int" s_is_int [] x_is_int)
    (k_is_int : PySem.W.keepIn K (.ref x_is_int) = true)
    (d_check_size : FnT K "check_size" "check_size" s_check_size [] x_check_size)
    (k_check_size : PySem.W.keepIn K (.ref x_check_size) = true)
    (d_Place_init : FnT K "__init__" "Place.__init__" s_Place_init [.int 0] x_Place_init)
    (d_Place_slope : FnT K "slope" "Place.slope" s_Place_slope [] x_Place_slope)
    (d_Place_offset : FnT K "offset" "Place.offset" s_Place_offset [] x_Place_offset)
    (d_Place_odd : FnT K "odd" "Place.odd" s_Place_odd [] x_Place_odd)
    (d_Place_call : FnT K "__call__" "Place.__call__" s_Place_call [] x_Place_call)
    (d_from_left : FnT K "from_left" "from_left" s_from_left [.int 0] x_from_left)
    (k_from_left : PySem.W.keepIn K (.ref x_from_left) = true)
    (d_from_right : FnT K "from_right" "from_right" s_from_right [.int 0] x_from_right)
    (k_from_right : PySem.W.keepIn K (.ref x_from_right) = true)
    (d_parts_of : FnT K "parts_of" "parts_of" s_parts_of [] x_parts_of)
    (k_parts_of : PySem.W.keepIn K (.ref x_parts_of) = true)
    (d_mirrored_parts : FnT K "mirrored_parts" "mirrored_parts" s_mirrored_parts [] x_mirrored_parts)
    (k_mirrored_parts : PySem.W.keepIn K (.ref x_mirrored_parts) = true)
    (d_Place_invert : FnT K "__invert__" "Place.__invert__" s_Place_invert [] x_Place_invert)
    (d_Place_eq : FnT K "__eq__" "Place.__eq__" s_Place_eq [] x_Place_eq)
    (d_place_words : FnT K "place_words" "place_words" s_place_words [] x_place_words)
    (k_place_words : PySem.W.keepIn K (.ref x_place_words) = true)
    (d_Place_str : FnT K "__str__" "Place.__str__" s_Place_str [] x_Place_str)
    (d_bounded_place : FnT K "bounded_place" "bounded_place" s_bounded_place [] x_bounded_place)
    (k_bounded_place : PySem.W.keepIn K (.ref x_bounded_place) = true)
    (d_checked_place : FnT K "checked_place" "checked_place" s_checked_place [] x_checked_place)
    (k_checked_place : PySem.W.keepIn K (.ref x_checked_place) = true)
    (d_Box_init : FnT K "__init__" "Box.__init__" s_Box_init [] x_Box_init)
    (d_Box_call : FnT K "__call__" "Box.__call__" s_Box_call [] x_Box_call)
    (d_box_places : FnT K "box_places" "box_places" s_box_places [] x_box_places)
    (k_box_places : PySem.W.keepIn K (.ref x_box_places) = true)
    (d_Box_invert : FnT K "__invert__" "Box.__invert__" s_Box_invert [] x_Box_invert)
    (d_Box_eq : FnT K "__eq__" "Box.__eq__" s_Box_eq [] x_Box_eq)
    (d_Box_str : FnT K "__str__" "Box.__str__" s_Box_str [] x_Box_str)
    (d_Box_whole : FnT K "whole" "Box.whole" s_Box_whole [] x_Box_whole)
    (d_Box_inside : FnT K "inside" "Box.inside" s_Box_inside [] x_Box_inside)
    (d__law_pen : FnT K "_law_pen" "_law_pen" s__law_pen [] x__law_pen)
    (k__law_pen : PySem.W.keepIn K (.ref x__law_pen) = true)
    (d__law_draw : FnT K "_law_draw" "_law_draw" s__law_draw [] x__law_draw)
    (k__law_draw : PySem.W.keepIn K (.ref x__law_draw) = true)
    (d__law_pick : FnT K "_law_pick" "_law_pick" s__law_pick [] x__law_pick)
    (k__law_pick : PySem.W.keepIn K (.ref x__law_pick) = true)
    (d__law_place : FnT K "_law_place" "_law_place" s__law_place [] x__law_place)
    (k__law_place : PySem.W.keepIn K (.ref x__law_place) = true)
    (d__law_at : FnT K "_law_at" "_law_at" s__law_at [] x__law_at)
    (k__law_at : PySem.W.keepIn K (.ref x__law_at) = true)
    (d__law_built_place : FnT K "_law_built_place" "_law_built_place" s__law_built_place [] x__law_built_place)
    (k__law_built_place : PySem.W.keepIn K (.ref x__law_built_place) = true)
    (d__law_built_box : FnT K "_law_built_box" "_law_built_box" s__law_built_box [] x__law_built_box)
    (k__law_built_box : PySem.W.keepIn K (.ref x__law_built_box) = true)
    (d__law_ends : FnT K "_law_ends" "_law_ends" s__law_ends [] x__law_ends)
    (k__law_ends : PySem.W.keepIn K (.ref x__law_ends) = true)
    (d__law_mirror_place : FnT K "_law_mirror_place" "_law_mirror_place" s__law_mirror_place [] x__law_mirror_place)
    (k__law_mirror_place : PySem.W.keepIn K (.ref x__law_mirror_place) = true)
    (d__law_place_text : FnT K "_law_place_text" "_law_place_text" s__law_place_text [] x__law_place_text)
    (k__law_place_text : PySem.W.keepIn K (.ref x__law_place_text) = true)
    (d__law_box_text : FnT K "_law_box_text" "_law_box_text" s__law_box_text [] x__law_box_text)
    (k__law_box_text : PySem.W.keepIn K (.ref x__law_box_text) = true)
    (d__law_errors : FnT K "_law_errors" "_law_errors" s__law_errors [] x__law_errors)
    (k__law_errors : PySem.W.keepIn K (.ref x__law_errors) = true)
    (d__law_any_place : FnT K "_law_any_place" "_law_any_place" s__law_any_place [] x__law_any_place)
    (k__law_any_place : PySem.W.keepIn K (.ref x__law_any_place) = true)
    (d__law_four : FnT K "_law_four" "_law_four" s__law_four [] x__law_four)
    (k__law_four : PySem.W.keepIn K (.ref x__law_four) = true)
    (d__law_parts : FnT K "_law_parts" "_law_parts" s__law_parts [] x__law_parts)
    (k__law_parts : PySem.W.keepIn K (.ref x__law_parts) = true)
    (d__law_is : FnT K "_law_is" "_law_is" s__law_is [] x__law_is)
    (k__law_is : PySem.W.keepIn K (.ref x__law_is) = true)
    (d__law_mirrored : FnT K "_law_mirrored" "_law_mirrored" s__law_mirrored [] x__law_mirrored)
    (k__law_mirrored : PySem.W.keepIn K (.ref x__law_mirrored) = true)
    (d__law_refused_right : FnT K "_law_refused_right" "_law_refused_right" s__law_refused_right [] x__law_refused_right)
    (k__law_refused_right : PySem.W.keepIn K (.ref x__law_refused_right) = true)
    (d__law_bounds_right : FnT K "_law_bounds_right" "_law_bounds_right" s__law_bounds_right [] x__law_bounds_right)
    (k__law_bounds_right : PySem.W.keepIn K (.ref x__law_bounds_right) = true)
    (d__law_far_margins_right : FnT K "_law_far_margins_right" "_law_far_margins_right" s__law_far_margins_right [] x__law_far_margins_right)
    (k__law_far_margins_right : PySem.W.keepIn K (.ref x__law_far_margins_right) = true)
    (d_law : FnT K "law" "law" s_law [] x_law)
    (k_law : PySem.W.keepIn K (.ref x_law) = true)
    (FC1 : FnC K "_law_refused_right" "_law_refused_right" s__law_refused_right x__law_refused_right c1)
    (CT1 : PySem.W.CodeHd h c1 Tb1)
    (nT1 : List.lookup Tb1 K = none)
    (eT1 : h.get? Tb1 = some { cls := .none, data := .fields #[] })
    (FC2 : FnC K "_law_bounds_right" "_law_bounds_right" s__law_bounds_right x__law_bounds_right c2)
    (CT2 : PySem.W.CodeHd h c2 Tb2)
    (nT2 : List.lookup Tb2 K = none)
    (eT2 : h.get? Tb2 = some { cls := .none, data := .fields #[] })
    (FC3 : FnC K "_law_far_margins_right" "_law_far_margins_right" s__law_far_margins_right x__law_far_margins_right c3)
    (CT3 : PySem.W.CodeHd h c3 Tb3)
    (nT3 : List.lookup Tb3 K = none)
    (eT3 : h.get? Tb3 = some { cls := .none, data := .fields #[] })
    (ne12 : Tb1 ≠ Tb2)
    (ne13 : Tb1 ≠ Tb3)
    (ne23 : Tb2 ≠ Tb3)
    : LawTL l w K 40 63 mg fa h := by
  have e := hfa.symm.trans (PySem.W.mg_of X G m_law)
  have e2 : x_law = fa := by
    cases e
    rfl
  subst e2
  have T : Txt K mg ⟨x_BadPlace_init, x_BadSize_init, x_is_int, x_check_size, x_Place_init, x_Place_slope, x_Place_offset, x_Place_odd, x_Place_call, x_from_left, x_from_right, x_parts_of, x_mirrored_parts, x_Place_invert, x_Place_eq, x_place_words, x_Place_str, x_bounded_place, x_checked_place, x_Box_init, x_Box_call, x_box_places, x_Box_invert, x_Box_eq, x_Box_str, x_Box_whole, x_Box_inside, x__law_pen, x__law_draw, x__law_pick, x__law_place, x__law_at, x__law_built_place, x__law_built_box, x__law_ends, x__law_mirror_place, x__law_place_text, x__law_box_text, x__law_errors, x__law_any_place, x__law_four, x__law_parts, x__law_is, x__law_mirrored, x__law_refused_right, x__law_bounds_right, x__law_far_margins_right, x_law, x_Place, x_pr_Place_slope, x_pr_Place_offset, x_pr_Place_odd, x_Box, x_BadPlace, x_BadSize, x_HoldError, x_BOUNDt, x_sm_whole, x_cm_inside, x_BadColour, x_BadPixel, x_BadDeed, x_BadProgram, x_TooMany, x_NoDeed, x_NoFlood⟩ :=
    { n_len := PySem.W.mg_none_of X G n_len,
      n_int := PySem.W.mg_none_of X G n_int,
      n_abs := PySem.W.mg_none_of X G n_abs,
      n_list := PySem.W.mg_none_of X G n_list,
      n_range := PySem.W.mg_none_of X G n_range,
      n_repr := PySem.W.mg_none_of X G n_repr,
      n_tuple := PySem.W.mg_none_of X G n_tuple,
      n_str := PySem.W.mg_none_of X G n_str,
      n_isinstance := PySem.W.mg_none_of X G n_isinstance,
      n_bool := PySem.W.mg_none_of X G n_bool,
      n_all := PySem.W.mg_none_of X G n_all,
      n_ValueError := PySem.W.mg_none_of X G n_ValueError,
      d_BadPlace_init := d_BadPlace_init,
      d_BadSize_init := d_BadSize_init,
      d_is_int := d_is_int,
      m_is_int := PySem.W.mg_of X G m_is_int,
      k_is_int := k_is_int,
      d_check_size := d_check_size,
      m_check_size := PySem.W.mg_of X G m_check_size,
      k_check_size := k_check_size,
      d_Place_init := d_Place_init,
      d_Place_slope := d_Place_slope,
      d_Place_offset := d_Place_offset,
      d_Place_odd := d_Place_odd,
      d_Place_call := d_Place_call,
      d_from_left := d_from_left,
      m_from_left := PySem.W.mg_of X G m_from_left,
      k_from_left := k_from_left,
      d_from_right := d_from_right,
      m_from_right := PySem.W.mg_of X G m_from_right,
      k_from_right := k_from_right,
      d_parts_of := d_parts_of,
      m_parts_of := PySem.W.mg_of X G m_parts_of,
      k_parts_of := k_parts_of,
      d_mirrored_parts := d_mirrored_parts,
      m_mirrored_parts := PySem.W.mg_of X G m_mirrored_parts,
      k_mirrored_parts := k_mirrored_parts,
      d_Place_invert := d_Place_invert,
      d_Place_eq := d_Place_eq,
      d_place_words := d_place_words,
      m_place_words := PySem.W.mg_of X G m_place_words,
      k_place_words := k_place_words,
      d_Place_str := d_Place_str,
      d_bounded_place := d_bounded_place,
      m_bounded_place := PySem.W.mg_of X G m_bounded_place,
      k_bounded_place := k_bounded_place,
      d_checked_place := d_checked_place,
      m_checked_place := PySem.W.mg_of X G m_checked_place,
      k_checked_place := k_checked_place,
      d_Box_init := d_Box_init,
      d_Box_call := d_Box_call,
      d_box_places := d_box_places,
      m_box_places := PySem.W.mg_of X G m_box_places,
      k_box_places := k_box_places,
      d_Box_invert := d_Box_invert,
      d_Box_eq := d_Box_eq,
      d_Box_str := d_Box_str,
      d_Box_whole := d_Box_whole,
      d_Box_inside := d_Box_inside,
      d__law_pen := d__law_pen,
      m__law_pen := PySem.W.mg_of X G m__law_pen,
      k__law_pen := k__law_pen,
      d__law_draw := d__law_draw,
      m__law_draw := PySem.W.mg_of X G m__law_draw,
      k__law_draw := k__law_draw,
      d__law_pick := d__law_pick,
      m__law_pick := PySem.W.mg_of X G m__law_pick,
      k__law_pick := k__law_pick,
      d__law_place := d__law_place,
      m__law_place := PySem.W.mg_of X G m__law_place,
      k__law_place := k__law_place,
      d__law_at := d__law_at,
      m__law_at := PySem.W.mg_of X G m__law_at,
      k__law_at := k__law_at,
      d__law_built_place := d__law_built_place,
      m__law_built_place := PySem.W.mg_of X G m__law_built_place,
      k__law_built_place := k__law_built_place,
      d__law_built_box := d__law_built_box,
      m__law_built_box := PySem.W.mg_of X G m__law_built_box,
      k__law_built_box := k__law_built_box,
      d__law_ends := d__law_ends,
      m__law_ends := PySem.W.mg_of X G m__law_ends,
      k__law_ends := k__law_ends,
      d__law_mirror_place := d__law_mirror_place,
      m__law_mirror_place := PySem.W.mg_of X G m__law_mirror_place,
      k__law_mirror_place := k__law_mirror_place,
      d__law_place_text := d__law_place_text,
      m__law_place_text := PySem.W.mg_of X G m__law_place_text,
      k__law_place_text := k__law_place_text,
      d__law_box_text := d__law_box_text,
      m__law_box_text := PySem.W.mg_of X G m__law_box_text,
      k__law_box_text := k__law_box_text,
      d__law_errors := d__law_errors,
      m__law_errors := PySem.W.mg_of X G m__law_errors,
      k__law_errors := k__law_errors,
      d__law_any_place := d__law_any_place,
      m__law_any_place := PySem.W.mg_of X G m__law_any_place,
      k__law_any_place := k__law_any_place,
      d__law_four := d__law_four,
      m__law_four := PySem.W.mg_of X G m__law_four,
      k__law_four := k__law_four,
      d__law_parts := d__law_parts,
      m__law_parts := PySem.W.mg_of X G m__law_parts,
      k__law_parts := k__law_parts,
      d__law_is := d__law_is,
      m__law_is := PySem.W.mg_of X G m__law_is,
      k__law_is := k__law_is,
      d__law_mirrored := d__law_mirrored,
      m__law_mirrored := PySem.W.mg_of X G m__law_mirrored,
      k__law_mirrored := k__law_mirrored,
      d__law_refused_right := d__law_refused_right,
      m__law_refused_right := PySem.W.mg_of X G m__law_refused_right,
      k__law_refused_right := k__law_refused_right,
      d__law_bounds_right := d__law_bounds_right,
      m__law_bounds_right := PySem.W.mg_of X G m__law_bounds_right,
      k__law_bounds_right := k__law_bounds_right,
      d__law_far_margins_right := d__law_far_margins_right,
      m__law_far_margins_right := PySem.W.mg_of X G m__law_far_margins_right,
      k__law_far_margins_right := k__law_far_margins_right,
      d_law := d_law,
      m_law := PySem.W.mg_of X G m_law,
      k_law := k_law,
      m_Place := PySem.W.mg_of X G m_Place,
      c_Place := c_Place,
      M_Place := M_Place,
      a_Place__slope := a_Place__slope,
      a_Place__offset := a_Place__offset,
      a_Place__odd := a_Place__odd,
      p_Place_slope := p_Place_slope,
      p_Place_offset := p_Place_offset,
      p_Place_odd := p_Place_odd,
      o_Place_eq := o_Place_eq,
      f_Place_eq := f_Place_eq,
      o_Place_call := o_Place_call,
      f_Place_call := f_Place_call,
      o_Place_invert := o_Place_invert,
      f_Place_invert := f_Place_invert,
      o_Place_str := o_Place_str,
      f_Place_str := f_Place_str,
      s_Place_not := s_Place_not,
      s_Place_int := s_Place_int,
      s_Place_tuple := s_Place_tuple,
      fi_Place_call := fi_Place_call,
      q_Place_none := q_Place_none,
      q_Place_str := q_Place_str,
      q_Place_bool := q_Place_bool,
      q_Place_list := q_Place_list,
      q_Place_dict := q_Place_dict,
      s_Place_first := s_Place_first,
      s_Place_isint := s_Place_isint,
      m_Box := PySem.W.mg_of X G m_Box,
      c_Box := c_Box,
      M_Box := M_Box,
      a_Box_x0 := a_Box_x0,
      a_Box_x1 := a_Box_x1,
      a_Box_y0 := a_Box_y0,
      a_Box_y1 := a_Box_y1,
      o_Box_eq := o_Box_eq,
      f_Box_eq := f_Box_eq,
      o_Box_call := o_Box_call,
      f_Box_call := f_Box_call,
      o_Box_invert := o_Box_invert,
      f_Box_invert := f_Box_invert,
      o_Box_str := o_Box_str,
      f_Box_str := f_Box_str,
      fi_Box_call := fi_Box_call,
      cr_Box := cr_Box,
      sm_whole := sm_whole,
      cm_inside := cm_inside,
      k_tuple := k_tuple,
      k_none := k_none,
      k_str := k_str,
      s_Box_not := s_Box_not,
      m_HoldError := PySem.W.mg_of X G m_HoldError,
      xf_BadPlace := xf_BadPlace,
      xc_BadPlace := xc_BadPlace,
      xi_BadPlace := xi_BadPlace,
      xt_BadPlace := xt_BadPlace,
      xm_BadPlace_HoldError := xm_BadPlace_HoldError,
      xm_BadPlace_BadPlace := xm_BadPlace_BadPlace,
      xs_BadPlace_BadSize := xs_BadPlace_BadSize,
      xn_BadPlace_BadSize := xn_BadPlace_BadSize,
      xf_BadSize := xf_BadSize,
      xc_BadSize := xc_BadSize,
      xi_BadSize := xi_BadSize,
      xt_BadSize := xt_BadSize,
      xm_BadSize_HoldError := xm_BadSize_HoldError,
      xm_BadSize_BadSize := xm_BadSize_BadSize,
      xs_BadSize_BadPlace := xs_BadSize_BadPlace,
      xn_BadSize_BadPlace := xn_BadSize_BadPlace,
      m_BadColour := PySem.W.mg_of X G m_BadColour,
      m_BadPixel := PySem.W.mg_of X G m_BadPixel,
      m_BadDeed := PySem.W.mg_of X G m_BadDeed,
      m_BadProgram := PySem.W.mg_of X G m_BadProgram,
      m_TooMany := PySem.W.mg_of X G m_TooMany,
      m_NoDeed := PySem.W.mg_of X G m_NoDeed,
      m_NoFlood := PySem.W.mg_of X G m_NoFlood,
      m_BOUND := PySem.W.mg_of X G m_BOUND,
      xi_BadColour := xi_BadColour,
      xt_BadColour := xt_BadColour,
      xi_BadPixel := xi_BadPixel,
      xt_BadPixel := xt_BadPixel,
      xi_BadDeed := xi_BadDeed,
      xt_BadDeed := xt_BadDeed,
      xi_BadProgram := xi_BadProgram,
      xt_BadProgram := xt_BadProgram,
      xi_TooMany := xi_TooMany,
      xt_TooMany := xt_TooMany,
      xi_NoDeed := xi_NoDeed,
      xt_NoDeed := xt_NoDeed,
      xi_NoFlood := xi_NoFlood,
      xt_NoFlood := xt_NoFlood,
      xv_BadPlace := xv_BadPlace,
      xs_BadPlace_BadColour := xs_BadPlace_BadColour,
      xs_BadPlace_BadPixel := xs_BadPlace_BadPixel,
      xs_BadPlace_BadDeed := xs_BadPlace_BadDeed,
      xs_BadPlace_BadProgram := xs_BadPlace_BadProgram,
      xs_BadPlace_TooMany := xs_BadPlace_TooMany,
      xs_BadPlace_NoDeed := xs_BadPlace_NoDeed,
      xs_BadPlace_NoFlood := xs_BadPlace_NoFlood,
      xv_BadSize := xv_BadSize,
      xs_BadSize_BadColour := xs_BadSize_BadColour,
      xs_BadSize_BadPixel := xs_BadSize_BadPixel,
      xs_BadSize_BadDeed := xs_BadSize_BadDeed,
      xs_BadSize_BadProgram := xs_BadSize_BadProgram,
      xs_BadSize_TooMany := xs_BadSize_TooMany,
      xs_BadSize_NoDeed := xs_BadSize_NoDeed,
      xs_BadSize_NoFlood := xs_BadSize_NoFlood,
      xn_BadPlace_BadColour := xn_BadPlace_BadColour,
      xn_BadPlace_BadPixel := xn_BadPlace_BadPixel,
      xn_BadPlace_BadDeed := xn_BadPlace_BadDeed,
      xn_BadPlace_BadProgram := xn_BadPlace_BadProgram,
      xn_BadPlace_TooMany := xn_BadPlace_TooMany,
      xn_BadPlace_NoDeed := xn_BadPlace_NoDeed,
      xn_BadPlace_NoFlood := xn_BadPlace_NoFlood,
      xn_BadSize_BadColour := xn_BadSize_BadColour,
      xn_BadSize_BadPixel := xn_BadSize_BadPixel,
      xn_BadSize_BadDeed := xn_BadSize_BadDeed,
      xn_BadSize_BadProgram := xn_BadSize_BadProgram,
      xn_BadSize_TooMany := xn_BadSize_TooMany,
      xn_BadSize_NoDeed := xn_BadSize_NoDeed,
      xn_BadSize_NoFlood := xn_BadSize_NoFlood,
      m_BadPlace := PySem.W.mg_of X G m_BadPlace,
      e_BadPlace := e_BadPlace,
      a_BadPlace_part := a_BadPlace_part,
      m_BadSize := PySem.W.mg_of X G m_BadSize,
      e_BadSize := e_BadSize,
      a_BadSize_part := a_BadSize_part }
  refine ⟨[(c1, Tb1), (c2, Tb2), (c3, Tb3)], spLaw K Tb1 Tb2 Tb3, ⟨?_, ?_, ?_⟩, fun H a ns hl hT hS => ⟨a, ns, rfl, hS, hl, hT (c1, Tb1) (by simp), hT (c2, Tb2) (by simp), hT (c3, Tb3) (by simp), fun _ => rfl⟩, fun base _ _ TB sb => ?_⟩
  · exact fun q hq => by
      simp only [List.mem_cons, List.not_mem_nil, or_false] at hq
      rcases hq with rfl | rfl | rfl
      · exact eT1
      · exact eT2
      · exact eT3
  · exact fun q hq => by
      simp only [List.mem_cons, List.not_mem_nil, or_false] at hq
      rcases hq with rfl | rfl | rfl
      · exact nT1
      · exact nT2
      · exact nT3
  · exact fun q hq => by
      simp only [List.mem_cons, List.not_mem_nil, or_false] at hq
      rcases hq with rfl | rfl | rfl
      · exact CT1
      · exact CT2
      · exact CT3
  have TB1 := TB (c1, Tb1) (by simp)
  have TB2 := TB (c2, Tb2) (by simp)
  have TB3 := TB (c3, Tb3) (by simp)
  exact ok_law T sb ⟨ne12, ne13, ne23⟩ FC1 TB1 FC2 TB2 FC3 TB3
end Pf
end
open PySem PySem.W PyProof.Rows
set_option maxRecDepth 100000 in
set_option maxHeartbeats 0 in
theorem PySem.Challenge.cw_heldfloods_k33_boxes_at_sizes_holds : PySem.Challenge.rw_heldfloods_k33_boxes_at_sizes.Holds := by
  w_on; o_law; k_head; (case hw => w_witness2)
  k_fill
  refine Ow.walk_ofTL (l := PySem.Challenge.rw_heldfloods_k33_boxes_at_sizes) (k := 40) (n := 63) (by decide +kernel) rfl (by decide) rfl ⟨rfl, by decide, by decide⟩ (fun w h Y => PySem.W.km_in_of Y) ?F
  case F =>
    intro w mg fa h Y KX G hmg
    refine' Pf.all_mk KX G hmg ?n_len ?n_int ?n_abs ?n_list ?n_range ?n_repr ?n_tuple ?n_str ?n_isinstance ?n_bool ?n_all ?n_ValueError ?m_is_int ?m_check_size ?m_from_left ?m_from_right ?m_parts_of ?m_mirrored_parts ?m_place_words ?m_bounded_place ?m_checked_place ?m_box_places ?m__law_pen ?m__law_draw ?m__law_pick ?m__law_place ?m__law_at ?m__law_built_place ?m__law_built_box ?m__law_ends ?m__law_mirror_place ?m__law_place_text ?m__law_box_text ?m__law_errors ?m__law_any_place ?m__law_four ?m__law_parts ?m__law_is ?m__law_mirrored ?m__law_refused_right ?m__law_bounds_right ?m__law_far_margins_right ?m_law ?m_Place ?c_Place ?M_Place ?a_Place__slope ?a_Place__offset ?a_Place__odd ?p_Place_slope ?p_Place_offset ?p_Place_odd ?o_Place_eq ?f_Place_eq ?o_Place_call ?f_Place_call ?o_Place_invert ?f_Place_invert ?o_Place_str ?f_Place_str ?s_Place_not ?s_Place_int ?s_Place_tuple ?fi_Place_call ?q_Place_none ?q_Place_str ?q_Place_bool ?q_Place_list ?q_Place_dict ?s_Place_first ?s_Place_isint ?m_Box ?c_Box ?M_Box ?a_Box_x0 ?a_Box_x1 ?a_Box_y0 ?a_Box_y1 ?o_Box_eq ?f_Box_eq ?o_Box_call ?f_Box_call ?o_Box_invert ?f_Box_invert ?o_Box_str ?f_Box_str ?fi_Box_call ?cr_Box ?sm_whole ?cm_inside ?k_tuple ?k_none ?k_str ?s_Box_not ?m_BadPlace ?e_BadPlace ?a_BadPlace_part ?m_BadSize ?e_BadSize ?a_BadSize_part ?m_HoldError ?xf_BadPlace ?xc_BadPlace ?xi_BadPlace ?xt_BadPlace ?xm_BadPlace_HoldError ?xm_BadPlace_BadPlace ?xs_BadPlace_BadSize ?xn_BadPlace_BadSize ?xf_BadSize ?xc_BadSize ?xi_BadSize ?xt_BadSize ?xm_BadSize_HoldError ?xm_BadSize_BadSize ?xs_BadSize_BadPlace ?xn_BadSize_BadPlace ?m_BOUND ?m_BadColour ?m_BadPixel ?m_BadDeed ?m_BadProgram ?m_TooMany ?m_NoDeed ?m_NoFlood ?xi_BadColour ?xt_BadColour ?xi_BadPixel ?xt_BadPixel ?xi_BadDeed ?xt_BadDeed ?xi_BadProgram ?xt_BadProgram ?xi_TooMany ?xt_TooMany ?xi_NoDeed ?xt_NoDeed ?xi_NoFlood ?xt_NoFlood ?xv_BadPlace ?xs_BadPlace_BadColour ?xs_BadPlace_BadPixel ?xs_BadPlace_BadDeed ?xs_BadPlace_BadProgram ?xs_BadPlace_TooMany ?xs_BadPlace_NoDeed ?xs_BadPlace_NoFlood ?xv_BadSize ?xs_BadSize_BadColour ?xs_BadSize_BadPixel ?xs_BadSize_BadDeed ?xs_BadSize_BadProgram ?xs_BadSize_TooMany ?xs_BadSize_NoDeed ?xs_BadSize_NoFlood ?xn_BadPlace_BadColour ?xn_BadPlace_BadPixel ?xn_BadPlace_BadDeed ?xn_BadPlace_BadProgram ?xn_BadPlace_TooMany ?xn_BadPlace_NoDeed ?xn_BadPlace_NoFlood ?xn_BadSize_BadColour ?xn_BadSize_BadPixel ?xn_BadSize_BadDeed ?xn_BadSize_BadProgram ?xn_BadSize_TooMany ?xn_BadSize_NoDeed ?xn_BadSize_NoFlood ?d_BadPlace_init ?d_BadSize_init ?d_is_int ?k_is_int ?d_check_size ?k_check_size ?d_Place_init ?d_Place_slope ?d_Place_offset ?d_Place_odd ?d_Place_call ?d_from_left ?k_from_left ?d_from_right ?k_from_right ?d_parts_of ?k_parts_of ?d_mirrored_parts ?k_mirrored_parts ?d_Place_invert ?d_Place_eq ?d_place_words ?k_place_words ?d_Place_str ?d_bounded_place ?k_bounded_place ?d_checked_place ?k_checked_place ?d_Box_init ?d_Box_call ?d_box_places ?k_box_places ?d_Box_invert ?d_Box_eq ?d_Box_str ?d_Box_whole ?d_Box_inside ?d__law_pen ?k__law_pen ?d__law_draw ?k__law_draw ?d__law_pick ?k__law_pick ?d__law_place ?k__law_place ?d__law_at ?k__law_at ?d__law_built_place ?k__law_built_place ?d__law_built_box ?k__law_built_box ?d__law_ends ?k__law_ends ?d__law_mirror_place ?k__law_mirror_place ?d__law_place_text ?k__law_place_text ?d__law_box_text ?k__law_box_text ?d__law_errors ?k__law_errors ?d__law_any_place ?k__law_any_place ?d__law_four ?k__law_four ?d__law_parts ?k__law_parts ?d__law_is ?k__law_is ?d__law_mirrored ?k__law_mirrored ?d__law_refused_right ?k__law_refused_right ?d__law_bounds_right ?k__law_bounds_right ?d__law_far_margins_right ?k__law_far_margins_right ?d_law ?k_law ?FC1 ?CT1 ?nT1 ?eT1 ?FC2 ?CT2 ?nT2 ?eT2 ?FC3 ?CT3 ?nT3 ?eT3 ?ne12 ?ne13 ?ne23
    (case n_len => k_is)
    (case n_int => k_is)
    (case n_abs => k_is)
    (case n_list => k_is)
    (case n_range => k_is)
    (case n_repr => k_is)
    (case n_tuple => k_is)
    (case n_str => k_is)
    (case n_isinstance => k_is)
    (case n_bool => k_is)
    (case n_all => k_is)
    (case n_ValueError => k_is)
    (case m_is_int => k_is)
    (case m_check_size => k_is)
    (case m_from_left => k_is)
    (case m_from_right => k_is)
    (case m_parts_of => k_is)
    (case m_mirrored_parts => k_is)
    (case m_place_words => k_is)
    (case m_bounded_place => k_is)
    (case m_checked_place => k_is)
    (case m_box_places => k_is)
    (case m__law_pen => k_is)
    (case m__law_draw => k_is)
    (case m__law_pick => k_is)
    (case m__law_place => k_is)
    (case m__law_at => k_is)
    (case m__law_built_place => k_is)
    (case m__law_built_box => k_is)
    (case m__law_ends => k_is)
    (case m__law_mirror_place => k_is)
    (case m__law_place_text => k_is)
    (case m__law_box_text => k_is)
    (case m__law_errors => k_is)
    (case m__law_any_place => k_is)
    (case m__law_four => k_is)
    (case m__law_parts => k_is)
    (case m__law_is => k_is)
    (case m__law_mirrored => k_is)
    (case m__law_refused_right => k_is)
    (case m__law_bounds_right => k_is)
    (case m__law_far_margins_right => k_is)
    (case m_law => k_is)
    (case m_Place => k_is)
    (case c_Place => (refine' ⟨⟨?_, ?_, ?_, ?_⟩, ?_, ?_, ?_, ?_, ?_, ?_⟩ <;> k_is))
    (case M_Place => (refine' ⟨?a, ?b, ?c, ?d⟩; (case a => k_is); (case b => k_is); (case c => k_is); (case d => k_is)))
    (case a_Place__slope => k_is)
    (case a_Place__offset => k_is)
    (case a_Place__odd => k_is)
    (case p_Place_slope => (refine' Pf.propR_mk ?a ?b ?c ?d; (case a => k_is); (case b => k_is); (case c => k_is); (case d => k_is)))
    (case p_Place_offset => (refine' Pf.propR_mk ?a ?b ?c ?d; (case a => k_is); (case b => k_is); (case c => k_is); (case d => k_is)))
    (case p_Place_odd => (refine' Pf.propR_mk ?a ?b ?c ?d; (case a => k_is); (case b => k_is); (case c => k_is); (case d => k_is)))
    (case o_Place_eq => k_is)
    (case f_Place_eq => k_is)
    (case o_Place_call => k_is)
    (case f_Place_call => k_is)
    (case o_Place_invert => k_is)
    (case f_Place_invert => k_is)
    (case o_Place_str => k_is)
    (case f_Place_str => k_is)
    (case s_Place_not => k_is)
    (case s_Place_int => k_is)
    (case s_Place_tuple => k_is)
    (case fi_Place_call => k_is)
    (case q_Place_none => k_is)
    (case q_Place_str => k_is)
    (case q_Place_bool => k_is)
    (case q_Place_list => k_is)
    (case q_Place_dict => k_is)
    (case s_Place_first => k_is)
    (case s_Place_isint => k_is)
    (case m_Box => k_is)
    (case c_Box => (refine' ⟨⟨?_, ?_, ?_, ?_⟩, ?_, ?_, ?_, ?_, ?_, ?_⟩ <;> k_is))
    (case M_Box => (refine' ⟨?a, ?b, ?c, ?d⟩; (case a => k_is); (case b => k_is); (case c => k_is); (case d => k_is)))
    (case a_Box_x0 => k_is)
    (case a_Box_x1 => k_is)
    (case a_Box_y0 => k_is)
    (case a_Box_y1 => k_is)
    (case o_Box_eq => k_is)
    (case f_Box_eq => k_is)
    (case o_Box_call => k_is)
    (case f_Box_call => k_is)
    (case o_Box_invert => k_is)
    (case f_Box_invert => k_is)
    (case o_Box_str => k_is)
    (case f_Box_str => k_is)
    (case fi_Box_call => k_is)
    (case cr_Box => (refine' ⟨?a, ?b⟩; (case a => k_is); (case b => k_is)))
    (case sm_whole => (refine' Ow.smet_mk ?a ?b ?c ?d ?e ?f ?g; (case a => k_is); (case b => k_is); (case c => k_is); (case d => rfl); (case e => k_is); (case f => k_is); (case g => k_is)))
    (case cm_inside => (refine' Pf.cmet_mk ?a ?b ?c ?d ?e ?f ?g; (case a => k_is); (case b => k_is); (case c => k_is); (case d => k_is); (case e => k_is); (case f => k_is); (case g => first | rfl | decide)))
    (case k_tuple => k_is)
    (case k_none => k_is)
    (case k_str => k_is)
    (case s_Box_not => k_is)
    (case m_BadPlace => k_is)
    (case e_BadPlace => (refine' Pf.errF_mk ?l ?r ?s ?x ?t ?k ?i ?f; (case l => k_is); (case r => rfl); (case s => k_is); (case x => k_is); (case t => k_is); (case k => k_is); (case i => k_is); (case f => k_is)))
    (case a_BadPlace_part => k_is)
    (case m_BadSize => k_is)
    (case e_BadSize => (refine' Pf.errF_mk ?l ?r ?s ?x ?t ?k ?i ?f; (case l => k_is); (case r => rfl); (case s => k_is); (case x => k_is); (case t => k_is); (case k => k_is); (case i => k_is); (case f => k_is)))
    (case a_BadSize_part => k_is)
    (case m_HoldError => k_is)
    (case xf_BadPlace => (refine' ⟨?a, ?b, ?c, ?d⟩; (case a => k_is); (case b => k_is); (case c => k_is); (case d => k_is)))
    (case xc_BadPlace => (refine' ⟨?a, ?b, ?c, ?d, ?e, ?f, ?g, ?h⟩; (case a => k_is); (case b => k_is); (case c => k_is); (case d => k_is); (case e => k_is); (case f => k_is); (case g => k_is); (case h => k_is)))
    (case xi_BadPlace => k_is)
    (case xt_BadPlace => k_is)
    (case xm_BadPlace_HoldError => (refine' PySem.W.exm_ref ?a ?b ?c ?d; (case a => k_is); (case b => k_is); (case c => k_is); (case d => k_is)))
    (case xm_BadPlace_BadPlace => (refine' PySem.W.exm_ref ?a ?b ?c ?d; (case a => k_is); (case b => k_is); (case c => k_is); (case d => k_is)))
    (case xs_BadPlace_BadSize => k_is)
    (case xn_BadPlace_BadSize => first | rfl | decide)
    (case xf_BadSize => (refine' ⟨?a, ?b, ?c, ?d⟩; (case a => k_is); (case b => k_is); (case c => k_is); (case d => k_is)))
    (case xc_BadSize => (refine' ⟨?a, ?b, ?c, ?d, ?e, ?f, ?g, ?h⟩; (case a => k_is); (case b => k_is); (case c => k_is); (case d => k_is); (case e => k_is); (case f => k_is); (case g => k_is); (case h => k_is)))
    (case xi_BadSize => k_is)
    (case xt_BadSize => k_is)
    (case xm_BadSize_HoldError => (refine' PySem.W.exm_ref ?a ?b ?c ?d; (case a => k_is); (case b => k_is); (case c => k_is); (case d => k_is)))
    (case xm_BadSize_BadSize => (refine' PySem.W.exm_ref ?a ?b ?c ?d; (case a => k_is); (case b => k_is); (case c => k_is); (case d => k_is)))
    (case xs_BadSize_BadPlace => k_is)
    (case xn_BadSize_BadPlace => first | rfl | decide)
    (case m_BOUND => k_is)
    (case m_BadColour => k_is)
    (case m_BadPixel => k_is)
    (case m_BadDeed => k_is)
    (case m_BadProgram => k_is)
    (case m_TooMany => k_is)
    (case m_NoDeed => k_is)
    (case m_NoFlood => k_is)
    (case xi_BadColour => k_is)
    (case xt_BadColour => k_is)
    (case xi_BadPixel => k_is)
    (case xt_BadPixel => k_is)
    (case xi_BadDeed => k_is)
    (case xt_BadDeed => k_is)
    (case xi_BadProgram => k_is)
    (case xt_BadProgram => k_is)
    (case xi_TooMany => k_is)
    (case xt_TooMany => k_is)
    (case xi_NoDeed => k_is)
    (case xt_NoDeed => k_is)
    (case xi_NoFlood => k_is)
    (case xt_NoFlood => k_is)
    (case xv_BadPlace => k_is)
    (case xs_BadPlace_BadColour => k_is)
    (case xs_BadPlace_BadPixel => k_is)
    (case xs_BadPlace_BadDeed => k_is)
    (case xs_BadPlace_BadProgram => k_is)
    (case xs_BadPlace_TooMany => k_is)
    (case xs_BadPlace_NoDeed => k_is)
    (case xs_BadPlace_NoFlood => k_is)
    (case xv_BadSize => k_is)
    (case xs_BadSize_BadColour => k_is)
    (case xs_BadSize_BadPixel => k_is)
    (case xs_BadSize_BadDeed => k_is)
    (case xs_BadSize_BadProgram => k_is)
    (case xs_BadSize_TooMany => k_is)
    (case xs_BadSize_NoDeed => k_is)
    (case xs_BadSize_NoFlood => k_is)
    (case xn_BadPlace_BadColour => first | rfl | decide)
    (case xn_BadPlace_BadPixel => first | rfl | decide)
    (case xn_BadPlace_BadDeed => first | rfl | decide)
    (case xn_BadPlace_BadProgram => first | rfl | decide)
    (case xn_BadPlace_TooMany => first | rfl | decide)
    (case xn_BadPlace_NoDeed => first | rfl | decide)
    (case xn_BadPlace_NoFlood => first | rfl | decide)
    (case xn_BadSize_BadColour => first | rfl | decide)
    (case xn_BadSize_BadPixel => first | rfl | decide)
    (case xn_BadSize_BadDeed => first | rfl | decide)
    (case xn_BadSize_BadProgram => first | rfl | decide)
    (case xn_BadSize_TooMany => first | rfl | decide)
    (case xn_BadSize_NoDeed => first | rfl | decide)
    (case xn_BadSize_NoFlood => first | rfl | decide)
    (case d_BadPlace_init => (refine' Pf.fnt_mk ?l ?c ?k; (case l => k_is); (case c => k_is); (case k => k_is)))
    (case d_BadSize_init => (refine' Pf.fnt_mk ?l ?c ?k; (case l => k_is); (case c => k_is); (case k => k_is)))
    (case d_is_int => (refine' Pf.fnt_mk ?l ?c ?k; (case l => k_is); (case c => k_is); (case k => k_is)))
    (case k_is_int => k_is)
    (case d_check_size => (refine' Pf.fnt_mk ?l ?c ?k; (case l => k_is); (case c => k_is); (case k => k_is)))
    (case k_check_size => k_is)
    (case d_Place_init => (refine' Pf.fntD1_mk ?l ?c ?k ?t ?v; (case l => k_is); (case c => k_is); (case k => k_is); (case t => k_is); (case v => first | exact ⟨_, rfl⟩ | rfl)))
    (case d_Place_slope => (refine' Pf.fnt_mk ?l ?c ?k; (case l => k_is); (case c => k_is); (case k => k_is)))
    (case d_Place_offset => (refine' Pf.fnt_mk ?l ?c ?k; (case l => k_is); (case c => k_is); (case k => k_is)))
    (case d_Place_odd => (refine' Pf.fnt_mk ?l ?c ?k; (case l => k_is); (case c => k_is); (case k => k_is)))
    (case d_Place_call => (refine' Pf.fnt_mk ?l ?c ?k; (case l => k_is); (case c => k_is); (case k => k_is)))
    (case d_from_left => (refine' Pf.fntD1_mk ?l ?c ?k ?t ?v; (case l => k_is); (case c => k_is); (case k => k_is); (case t => k_is); (case v => first | exact ⟨_, rfl⟩ | rfl)))
    (case k_from_left => k_is)
    (case d_from_right => (refine' Pf.fntD1_mk ?l ?c ?k ?t ?v; (case l => k_is); (case c => k_is); (case k => k_is); (case t => k_is); (case v => first | exact ⟨_, rfl⟩ | rfl)))
    (case k_from_right => k_is)
    (case d_parts_of => (refine' Pf.fnt_mk ?l ?c ?k; (case l => k_is); (case c => k_is); (case k => k_is)))
    (case k_parts_of => k_is)
    (case d_mirrored_parts => (refine' Pf.fnt_mk ?l ?c ?k; (case l => k_is); (case c => k_is); (case k => k_is)))
    (case k_mirrored_parts => k_is)
    (case d_Place_invert => (refine' Pf.fnt_mk ?l ?c ?k; (case l => k_is); (case c => k_is); (case k => k_is)))
    (case d_Place_eq => (refine' Pf.fnt_mk ?l ?c ?k; (case l => k_is); (case c => k_is); (case k => k_is)))
    (case d_place_words => (refine' Pf.fnt_mk ?l ?c ?k; (case l => k_is); (case c => k_is); (case k => k_is)))
    (case k_place_words => k_is)
    (case d_Place_str => (refine' Pf.fnt_mk ?l ?c ?k; (case l => k_is); (case c => k_is); (case k => k_is)))
    (case d_bounded_place => (refine' Pf.fnt_mk ?l ?c ?k; (case l => k_is); (case c => k_is); (case k => k_is)))
    (case k_bounded_place => k_is)
    (case d_checked_place => (refine' Pf.fnt_mk ?l ?c ?k; (case l => k_is); (case c => k_is); (case k => k_is)))
    (case k_checked_place => k_is)
    (case d_Box_init => (refine' Pf.fnt_mk ?l ?c ?k; (case l => k_is); (case c => k_is); (case k => k_is)))
    (case d_Box_call => (refine' Pf.fnt_mk ?l ?c ?k; (case l => k_is); (case c => k_is); (case k => k_is)))
    (case d_box_places => (refine' Pf.fnt_mk ?l ?c ?k; (case l => k_is); (case c => k_is); (case k => k_is)))
    (case k_box_places => k_is)
    (case d_Box_invert => (refine' Pf.fnt_mk ?l ?c ?k; (case l => k_is); (case c => k_is); (case k => k_is)))
    (case d_Box_eq => (refine' Pf.fnt_mk ?l ?c ?k; (case l => k_is); (case c => k_is); (case k => k_is)))
    (case d_Box_str => (refine' Pf.fnt_mk ?l ?c ?k; (case l => k_is); (case c => k_is); (case k => k_is)))
    (case d_Box_whole => (refine' Pf.fnt_mk ?l ?c ?k; (case l => k_is); (case c => k_is); (case k => k_is)))
    (case d_Box_inside => (refine' Pf.fnt_mk ?l ?c ?k; (case l => k_is); (case c => k_is); (case k => k_is)))
    (case d__law_pen => (refine' Pf.fnt_mk ?l ?c ?k; (case l => k_is); (case c => k_is); (case k => k_is)))
    (case k__law_pen => k_is)
    (case d__law_draw => (refine' Pf.fnt_mk ?l ?c ?k; (case l => k_is); (case c => k_is); (case k => k_is)))
    (case k__law_draw => k_is)
    (case d__law_pick => (refine' Pf.fnt_mk ?l ?c ?k; (case l => k_is); (case c => k_is); (case k => k_is)))
    (case k__law_pick => k_is)
    (case d__law_place => (refine' Pf.fnt_mk ?l ?c ?k; (case l => k_is); (case c => k_is); (case k => k_is)))
    (case k__law_place => k_is)
    (case d__law_at => (refine' Pf.fnt_mk ?l ?c ?k; (case l => k_is); (case c => k_is); (case k => k_is)))
    (case k__law_at => k_is)
    (case d__law_built_place => (refine' Pf.fnt_mk ?l ?c ?k; (case l => k_is); (case c => k_is); (case k => k_is)))
    (case k__law_built_place => k_is)
    (case d__law_built_box => (refine' Pf.fnt_mk ?l ?c ?k; (case l => k_is); (case c => k_is); (case k => k_is)))
    (case k__law_built_box => k_is)
    (case d__law_ends => (refine' Pf.fnt_mk ?l ?c ?k; (case l => k_is); (case c => k_is); (case k => k_is)))
    (case k__law_ends => k_is)
    (case d__law_mirror_place => (refine' Pf.fnt_mk ?l ?c ?k; (case l => k_is); (case c => k_is); (case k => k_is)))
    (case k__law_mirror_place => k_is)
    (case d__law_place_text => (refine' Pf.fnt_mk ?l ?c ?k; (case l => k_is); (case c => k_is); (case k => k_is)))
    (case k__law_place_text => k_is)
    (case d__law_box_text => (refine' Pf.fnt_mk ?l ?c ?k; (case l => k_is); (case c => k_is); (case k => k_is)))
    (case k__law_box_text => k_is)
    (case d__law_errors => (refine' Pf.fnt_mk ?l ?c ?k; (case l => k_is); (case c => k_is); (case k => k_is)))
    (case k__law_errors => k_is)
    (case d__law_any_place => (refine' Pf.fnt_mk ?l ?c ?k; (case l => k_is); (case c => k_is); (case k => k_is)))
    (case k__law_any_place => k_is)
    (case d__law_four => (refine' Pf.fnt_mk ?l ?c ?k; (case l => k_is); (case c => k_is); (case k => k_is)))
    (case k__law_four => k_is)
    (case d__law_parts => (refine' Pf.fnt_mk ?l ?c ?k; (case l => k_is); (case c => k_is); (case k => k_is)))
    (case k__law_parts => k_is)
    (case d__law_is => (refine' Pf.fnt_mk ?l ?c ?k; (case l => k_is); (case c => k_is); (case k => k_is)))
    (case k__law_is => k_is)
    (case d__law_mirrored => (refine' Pf.fnt_mk ?l ?c ?k; (case l => k_is); (case c => k_is); (case k => k_is)))
    (case k__law_mirrored => k_is)
    (case d__law_refused_right => (refine' Pf.fnt_mk ?l ?c ?k; (case l => k_is); (case c => k_is); (case k => k_is)))
    (case k__law_refused_right => k_is)
    (case d__law_bounds_right => (refine' Pf.fnt_mk ?l ?c ?k; (case l => k_is); (case c => k_is); (case k => k_is)))
    (case k__law_bounds_right => k_is)
    (case d__law_far_margins_right => (refine' Pf.fnt_mk ?l ?c ?k; (case l => k_is); (case c => k_is); (case k => k_is)))
    (case k__law_far_margins_right => k_is)
    (case d_law => (refine' Pf.fnt_mk ?l ?c ?k; (case l => k_is); (case c => k_is); (case k => k_is)))
    (case k_law => k_is)
    (case FC1 => (refine' Ow.FnC.mk ?l ?c; (case l => k_is); (case c => k_is)))
    (case CT1 => (refine' Ow.codeHd_mk KX ?l ?e1 ?e2 ?e3 ?e4 ?e5 ?e6 ?ne; (case l => k_is); (case e1 => rfl); (case e2 => rfl); (case e3 => rfl); (case e4 => rfl); (case e5 => rfl); (case e6 => rfl); (case ne => decide)))
    (case nT1 => exact Ow.km_none Y (by decide +kernel))
    (case eT1 => exact PySem.W.km_tabs_of Y _ (by simp))
    (case FC2 => (refine' Ow.FnC.mk ?l ?c; (case l => k_is); (case c => k_is)))
    (case CT2 => (refine' Ow.codeHd_mk KX ?l ?e1 ?e2 ?e3 ?e4 ?e5 ?e6 ?ne; (case l => k_is); (case e1 => rfl); (case e2 => rfl); (case e3 => rfl); (case e4 => rfl); (case e5 => rfl); (case e6 => rfl); (case ne => decide)))
    (case nT2 => exact Ow.km_none Y (by decide +kernel))
    (case eT2 => exact PySem.W.km_tabs_of Y _ (by simp))
    (case FC3 => (refine' Ow.FnC.mk ?l ?c; (case l => k_is); (case c => k_is)))
    (case CT3 => (refine' Ow.codeHd_mk KX ?l ?e1 ?e2 ?e3 ?e4 ?e5 ?e6 ?ne; (case l => k_is); (case e1 => rfl); (case e2 => rfl); (case e3 => rfl); (case e4 => rfl); (case e5 => rfl); (case e6 => rfl); (case ne => decide)))
    (case nT3 => exact Ow.km_none Y (by decide +kernel))
    (case eT3 => exact PySem.W.km_tabs_of Y _ (by simp))
    (case ne12 => decide)
    (case ne13 => decide)
    (case ne23 => decide)
