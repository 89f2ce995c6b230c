import PyProof.Rows.All
import Wide.All
import OpenK.AllK
import Wide.FinOn
import PyProof.EqAt
import PyProof.EqKinds
import PyProof.TupleCall
import PyProof.InstNe
import KE.KOpsOwn
import HandS.Base
import HandS.Call
import HandS.List
import HandS.More
import PyProof.TwoTypesSub
import PyProof.AutoIntOps
import PyProof.StrReplace2
import HandS.Words
import HandS.Star
import HandS.IsInst
import HandS.Defaults
import HandS.Property
import HandS.OwnEq
import HandS.Lambda
import HandS.Ends
import PyProof.ReprRoads
import HandS.ExcInit
import HandS.ExcField
import HandS.CallSlots
import HandS.ForExc
import HandS.ExcIs
import KE.KExcIs
import HandS.EndTab
import HandS.MakeKwOnly
import HandS.FStr
import KE.KCallOwn
import HandS.RaiseMore
import HandS.ExcInitHot
import HandS.ExcValue
import HandS.Walk
import HandS.ForMost
import HandS.StrMore
import HandS.ClsMeth
import OpenK.KMeth
import KE.GoesMore
import HandS.Codes
import PyProof.StrBlock2
import HandS.TryMany
import HandS.Zip
import KE.GoesZip
import HandS.Deep
import HandS.TupMul
import HandS.CallLocal
import HandS.MapJoin
import HandS.DictTup
import KE.KDictDisplayH
import HandS.TupAny
import HandS.Wide
import HandS.Text
import HandS.Style
import PySem.Challenge.RW_heldfloods_k23_whole_pictures_flipped
set_option Elab.async false
set_option linter.all false
set_option maxRecDepth 100000
section
set_option maxHeartbeats 4000000
/-! Operators that an own class defines, over instances that are tracked. -/
namespace Ow
open PySem PySem.Spec PyProof.Rows L2

/-- an instance of the class at C stands at a -/
def InsAt (H : Hp) (a C : Addr) : Prop := ∃ dx fs, H a = some (.ins C dx fs)

section
variable {X : Cx} {CX : CXT} {n : Nat} {C g : Addr} {sp : Sp} {E : XK}

theorem inst_of {pins : List (Addr × Obj)} {σ : L2.St} {H : Hp} {s : Shared} {a : Addr} (I : Inv X pins σ H s) (h : InsAt H a C) : ∃ ox od, PySem.W.InstAt s.heap a ox C od := by
  obtain ⟨dx, fs, ea⟩ := h
  obtain ⟨mA, O, _⟩ := ins_get I.hok ea
  obtain ⟨od, J, _⟩ := O.look
  exact ⟨_, _, J⟩

theorem cmpbackR {Q : Value → Shared → Prop} {v : V} {u : Value} {s : Shared} (r : RelV v u) (q : Q u s) : PySem.W.CmpBack Q u s := by
  cases v <;> first
    | (cases r; exact q)
    | (obtain ⟨t, rfl⟩ := r; exact q)

/-- x op y, both instances of C -/
def rBin (C : Addr) (sp : Sp) (E : XK) : R2 := fun x y H Q => ∃ a b, x = .ref a ∧ y = .ref b ∧ InsAt H a C ∧ InsAt H b C ∧ sp [x, y] H Q E
theorem op_bin {op : Operator} (hc : PySem.W.selfFirst X.K C = true) (hs : PySem.W.findIn X.K (.ref C) (PySem.dunder op.info.2) = some (some (.ref g))) (hf : PySem.W.isFn X.K (.ref g) = true)
    (F : FnR X.prog X.w X.K X.mg X.base CX n g sp) (hr : Room n X.A) (hx : Passes CX X E) : OpR X (binaryOp op) (rBin C sp E) := by
  intro pins s σ H x y v u Q I rx ry h
  obtain ⟨a, b, rfl, rfl, ha, hb, q⟩ := h
  cases (show v = Value.ref a from rx)
  cases (show u = Value.ref b from ry)
  obtain ⟨ox, od, J⟩ := inst_of I ha
  obtain ⟨oy, od', J'⟩ := inst_of I hb
  obtain ⟨m, hF⟩ := I.fr
  refine PySem.W.binop_K (op := op) hF I.ok.mod.kin J J'.type hc hs hf ?_
  refine wpAny_mono (wpAny_call (run_fnR (us := [.ref a, .ref b]) (vs := [.ref a, .ref b]) F hr hx I (.cons rfl (.cons rfl .nil)) q)) (fun w s' z => ?_) fun _ _ x => x
  obtain ⟨z', H', I', rz, qz⟩ := z
  exact cmpbackR rz ⟨z', H', I', rz, qz⟩

/-- x op n, an instance of C and an int -/
def rBinI (C : Addr) (sp : Sp) (E : XK) : R2 := fun x y H Q => ∃ a i, x = .ref a ∧ y = .int i ∧ InsAt H a C ∧ sp [x, y] H Q E
theorem op_binI {op : Operator} {fo ro rc : Option Value} (hc : PySem.W.selfFirst X.K C = true) (hs : PySem.W.findIn X.K (.ref C) (PySem.dunder op.info.2) = some (some (.ref g))) (hf : PySem.W.isFn X.K (.ref g) = true)
    (hrr : PySem.W.findIn X.K (.ref C) (dunderR op.info.2) = some rc) (hp : rc = none ∨ ∃ g : Addr, rc = some (.ref g))
    (h1 : PySem.W.findIn X.K (.type "int") (PySem.dunder op.info.2) = some fo) (h2 : PySem.W.findIn X.K (.type "int") (dunderR op.info.2) = some ro) (hsub : PySem.W.subIn X.K (.type "int") (.ref C) = some false)
    (F : FnR X.prog X.w X.K X.mg X.base CX n g sp) (hr : Room n X.A) (hx : Passes CX X E) : OpR X (binaryOp op) (rBinI C sp E) := by
  intro pins s σ H x y v u Q I rx ry h
  obtain ⟨a, i, rfl, rfl, ha, q⟩ := h
  cases (show v = Value.ref a from rx)
  obtain ⟨t, rfl⟩ := ry
  obtain ⟨ox, od, J⟩ := inst_of I ha
  obtain ⟨m, hF⟩ := I.fr
  refine PySem.W.ksp_binT (op := op) (T := "int") hF I.ok.mod.kin J rfl hc hs hf hrr hp h1 h2 hsub ?_
  refine wpAny_mono (wpAny_call (run_fnR (us := [.ref a, .int i t]) (vs := [.ref a, .int i]) F hr hx I (.cons rfl (.cons ⟨t, rfl⟩ .nil)) q)) (fun w s' z => ?_) fun _ _ x => x
  obtain ⟨z', H', I', rz, qz⟩ := z
  exact cmpbackR rz ⟨z', H', I', rz, qz⟩

/-- ~x -/
def rUn (C : Addr) (sp : Sp) (E : XK) : V → Hp → VK → Prop := fun x H Q => ∃ a, x = .ref a ∧ InsAt H a C ∧ sp [x] H Q E
theorem un_inv_own (hs : PySem.W.findIn X.K (.ref C) "__invert__" = some (some (.ref g))) (hf : PySem.W.isFn X.K (.ref g) = true)
    (F : FnR X.prog X.w X.K X.mg X.base CX n g sp) (hr : Room n X.A) (hx : Passes CX X E) : UnR X (unaryOp .Invert) (rUn C sp E) := by
  intro pins s σ H x v Q I rx h
  obtain ⟨a, rfl, ha, q⟩ := h
  cases (show v = Value.ref a from rx)
  obtain ⟨ox, od, J⟩ := inst_of I ha
  obtain ⟨m, hF⟩ := I.fr
  refine PySem.W.ksp_inv hF I.ok.mod.kin J hs hf ?_
  exact wpAny_call (run_fnR (us := [.ref a]) (vs := [.ref a]) F hr hx I (.cons rfl .nil) q)

/-- x op y, a comparison whose def stands at g; y an instance of C too -/
theorem op_cmp {op : CmpOp} (hop : ∀ a b, compareOp op a b = richCompare op a b) (hs : PySem.W.findIn X.K (.ref C) (cmpInfo op).2.1 = some (some (.ref g))) (hf : PySem.W.isFn X.K (.ref g) = true) (hn : PySem.W.notFirst X.K C (.ref C) = true)
    (F : FnR X.prog X.w X.K X.mg X.base CX n g sp) (hr : Room n X.A) (hx : Passes CX X E) : OpR X (compareOp op) (rBin C sp E) := by
  intro pins s σ H x y v u Q I rx ry h
  obtain ⟨a, b, rfl, rfl, ha, hb, q⟩ := h
  cases (show v = Value.ref a from rx)
  cases (show u = Value.ref b from ry)
  obtain ⟨ox, od, J⟩ := inst_of I ha
  obtain ⟨oy, od', J'⟩ := inst_of I hb
  obtain ⟨m, hF⟩ := I.fr
  rw [hop]
  refine PySem.W.cmp_K (op := op) (tb := .ref C) hr.units0 hF I.ok.mod.kin J J'.type hn hs hf ?_
  refine wpAny_mono (wpAny_call (run_fnR (us := [.ref a, .ref b]) (vs := [.ref a, .ref b]) F hr hx I (.cons rfl (.cons rfl .nil)) q)) (fun w s' z => ?_) fun _ _ x => x
  obtain ⟨z', H', I', rz, qz⟩ := z
  exact cmpbackR rz ⟨z', H', I', rz, qz⟩
end
end Ow
end
section
set_option maxHeartbeats 4000000
namespace Ow
open PySem PySem.Spec PyProof.Rows L2 PySem.W

section
variable {prog : Program} {w : World} {M : Model} {A : Around} {E : Value → Shared → Prop} {s : Shared} {K : Frag} {x C L f : Addr} {h₀ : Heap} {m : Str → Option Value} {ox : Obj} {od : Option Obj} {nm : String}

theorem add_ref_at {i : Int} {t : Tok} {x C dx : Addr} : GivesAt (fun s => s.heap.get? x = some (instObj C dx)) (Builtin.«int.__add__» ⟨[.int i t, .ref x], []⟩) (.val Value.notImplemented) := by
  intro prog w A R s hx h
  obtain ⟨hp, g, d, tk, os⟩ := s
  have hl : ∀ {M : Model} {A : Around} {E : Value → Shared → Prop} {Q : Option Int → Shared → Prop}, Q none ⟨hp, g, d, tk, os⟩ → wpAny M A (asInt? (.ref x)) Q E ⟨hp, g, d, tk, os⟩ := by
    intro M A E Q q
    unfold asInt?
    exact wpAny_bind (wpAny_load hx (wpAny_pure q))
  unfold Builtin.«int.__add__»
  wp_walk using hl
  exact h
theorem int_add_ref {i : Int} {t : Tok} {x C dx : Addr} {s : Shared} {Q : Value → Shared → Prop} (hx : s.heap.get? x = some (instObj C dx)) (h : Q .notImplemented s) :
    wpAny (model prog w) A (call (.builtin "int.__add__") [.int i t, .ref x]) Q E s :=
  call_givesAt F.slot_int_add (typeIs_int s i t) F.entry_int_add (F.args_int_add_2 _ _) add_ref_at hx h
theorem int_add_own {i : Int} {t : Tok} {x C dx f fa : Addr} {cd : ClassData} {rest : List Value} {Q : Value → Shared → Prop} (X : K.In s.heap) (hx : s.heap.get? x = some (instObj C dx)) (I : InstAt s.heap x ox C od) (hcd : clsIn K C = some cd) (hm : cd.mro = .ref C :: rest)
    (ha : findIn K (.ref C) (PySem.dunder "add") = some (some (.ref fa))) (hs : findIn K (.ref C) (dunderR "add") = some (some (.ref f))) (hf : isFn K (.ref f) = true) (hsub : subIn K (.ref C) (.type "int") = some false)
    (h : wpAny (model prog w) A (call (.ref f) [.ref x, .int i t]) (PySem.W.CmpBack Q) E s) : wpAny (model prog w) A (binaryOp .Add (.int i t) (.ref x)) Q E s := by
  have one := ksp_try X I hs hf h
  have two : ∀ {Q' : Option Value → Shared → Prop}, Q' none s → wpAny (model prog w) A (tryMethod (.int i t) (PySem.dunder "add") (.ref x)) Q' E s := by
    intro Q' q
    unfold tryMethod
    exact wpAny_bind (wpAny_callSpecial?_slot (typeIs_int s i t) F.slot_int_add (int_add_ref hx (wpAny_pure q)))
  obtain ⟨hh, g, d, tt, os⟩ := s
  have L1 : Looks (model prog w) hh (typeOf (.int i t)) (.type "int") := Looks.of_pure rfl
  have L2 : Looks (model prog w) hh (typeOf (.ref x)) (.ref C) := I.type
  have L3 : Looks (model prog w) hh (fillsNumberSlot (.type "int") "add") true := Looks.of_pure F.fills_int_add
  have L4 : Looks (model prog w) hh (fillsNumberSlot (.ref C) "add") true := fills_K X hcd hm ha
  have L5 : Looks (model prog w) hh (isSubtype (.ref C) (.type "int")) false := looks_subIn X hsub
  have L7 : Looks (model prog w) hh (numberSlotInPython (.type "int") "add") false := Looks.of_pure rfl
  have hne : (Value.type "int" == Value.ref C) = false := Bool.eq_false_iff.mpr fun q => by cases beq_iff_eq.mp q
  show wpAny (model prog w) A (binaryOp .Add (.int i t) (.ref x)) Q E _
  have hi : Operator.info .Add = ("+", "add") := rfl
  simp only [binaryOp, hi]
  refine wpAny_holding (wpAny_bind ?_)
  unfold binaryOp1
  refine wpAny_bind (L1.at (wpAny_bind (L2.at (wpAny_bind (L3.at ?_)))))
  simp only [hne, Bool.false_eq_true, if_false]
  ksp_lk
  refine two ?_
  ksp_lk
  refine wpAny_mono one (fun r s' hr' => ?_) fun _ _ e => e
  obtain ⟨v, rfl, hq⟩ := hr'
  ksp_lk
  exact hq
end
end Ow
end
section
set_option maxHeartbeats 4000000
namespace Ow
open PySem PySem.Spec PyProof.Rows L2 PySem.W

section
variable {prog : Program} {w : World} {M : Model} {A : Around} {E : Value → Shared → Prop} {s : Shared} {K : Frag} {x C L f : Addr} {h₀ : Heap} {m : Str → Option Value} {ox : Obj} {od : Option Obj} {nm T : String}
/-- no += of one's own: C over object alone -/
theorem noI_own {h : Heap} {cd : ClassData} {add : Bool} (X : K.In h) (hc : clsIn K C = some cd) (hm : cd.mro = [.ref C, .type "object"]) (hs : findIn K (.ref C) (dunderI nm) = some none)
    (ho : typeLookup (.type "object") (dunderI nm) = pure none) : Looks M h (fillsInplaceSlot (.ref C) nm add) false := by
  intro A Q E s k q
  have Lm : Looks M h (mroOf (.ref C)) cd.mro := (looks_clsIn X hc).andThen (f := fun cd => pure cd.mro) .now
  have Lm' := Lm.keeps k
  obtain ⟨hh, g, d, tt, os⟩ := s
  have X' : K.In hh := X.keeps k
  have L1 : Looks M hh (typeLookup (.ref C) (dunderI nm)) none := looks_findIn X' hs
  have L2 : Looks M hh (typeLookup (.type "object") (dunderI nm)) none := Looks.of_pure ho
  unfold fillsInplaceSlot
  refine wpAny_bind (Lm'.at ?_)
  rw [hm, List.anyM_cons]
  refine wpAny_bind (wpAny_bind (L1.at ?_))
  refine wpAny_pure ?_
  simp only [Bool.false_eq_true, if_false]
  rw [List.anyM_cons]
  refine wpAny_bind (wpAny_bind (L2.at ?_))
  refine wpAny_pure ?_
  simp only [Bool.false_eq_true, if_false]
  exact wpAny_pure q

theorem iadd_own {op : Operator} {b : Value} {cd : ClassData} {fo ro rc : Option Value} {Q : Value → Shared → Prop} (X : K.In s.heap) (I : InstAt s.heap x ox C od) (hb : typeOf b = pure (.type T)) (hcd : clsIn K C = some cd) (hm : cd.mro = [.ref C, .type "object"])
    (hni : findIn K (.ref C) (dunderI op.info.2) = some none) (hno : typeLookup (.type "object") (dunderI op.info.2) = pure none)
    (hs : findIn K (.ref C) (PySem.dunder op.info.2) = some (some (.ref f))) (hf : isFn K (.ref f) = true) (hr : findIn K (.ref C) (dunderR op.info.2) = some rc) (hp : rc = none ∨ ∃ g : Addr, rc = some (.ref g))
    (h1 : findIn K (.type T) (PySem.dunder op.info.2) = some fo) (h2 : findIn K (.type T) (dunderR op.info.2) = some ro) (hsub : subIn K (.type T) (.ref C) = some false)
    (h : wpAny (model prog w) A (call (.ref f) [.ref x, b]) (PySem.W.CmpBack Q) E s) : wpAny (model prog w) A (inplaceOp op (.ref x) b) Q E s := by
  rcases hi : op.info with ⟨sym, nm'⟩
  rw [hi] at hs hr h1 h2 hni hno
  dsimp only at hs hr h1 h2 hni hno
  have one := ksp_try X I hs hf h
  obtain ⟨hh, g, d, tt, os⟩ := s
  have L0 : Looks (model prog w) hh (fillsInplaceSlot (.ref C) nm' (op == .Add)) false := noI_own X hcd hm hni hno
  have L1 : Looks (model prog w) hh (typeOf (.ref x)) (.ref C) := I.type
  have L2 : Looks (model prog w) hh (typeOf b) (.type T) := Looks.of_pure hb
  have L3 : Looks (model prog w) hh (fillsNumberSlot (.ref C) nm') true := fills_K X hcd hm hs
  have L4 : Looks (model prog w) hh (fillsNumberSlot (.type T) nm') ((fo.isSome && !isSeqSlot fo) || (ro.isSome && !isSeqSlot ro)) := ksp_fillsT X h1 h2
  have L5 : Looks (model prog w) hh (isSubtype (.type T) (.ref C)) false := looks_subIn X hsub
  have L6 : Looks (model prog w) hh (numberSlotInPython (.ref C) nm') true := ksp_inPy X hs hr hp
  have L7 : Looks (model prog w) hh (numberSlotInPython (.type T) nm') false := Looks.of_pure rfl
  have L8 : Looks (model prog w) hh (typeLookup (.type T) (dunderR nm')) ro := looks_findIn X h2
  generalize ((fo.isSome && !isSeqSlot fo) || (ro.isSome && !isSeqSlot ro)) = right at L4
  have hne : (Value.ref C == Value.type T) = false := Bool.eq_false_iff.mpr fun q => by cases beq_iff_eq.mp q
  unfold inplaceOp
  simp only [hi]
  refine wpAny_holding (wpAny_bind (L1.at (wpAny_bind (L0.at ?_))))
  simp only [Bool.false_eq_true, if_false]
  refine wpAny_bind ?_
  unfold binaryOp1
  refine wpAny_bind (L1.at (wpAny_bind (L2.at (wpAny_bind (L3.at ?_)))))
  simp only [hne, Bool.false_eq_true, if_false]
  cases right with
  | false =>
    ksp_lk
    refine wpAny_mono one (fun r s' hr' => ?_) fun _ _ e => e
    obtain ⟨v, rfl, hq⟩ := hr'
    ksp_lk
    exact hq
  | true =>
    ksp_lk
    refine wpAny_mono one (fun r s' hr' => ?_) fun _ _ e => e
    obtain ⟨v, rfl, hq⟩ := hr'
    ksp_lk
    exact hq
end
end Ow
end
section
set_option maxHeartbeats 4000000
namespace Ow
open PySem PySem.Spec PyProof.Rows L2 PySem.W

section
variable {prog : Program} {w : World} {M : Model} {A : Around} {E : Value → Shared → Prop} {s : Shared} {K : Frag} {x y C L f : Addr} {ox oy : Obj} {od od' : Option Obj}

theorem objNe_K {Q : PySem.Fin → Shared → Prop} (X : K.In s.heap) (I : InstAt s.heap x ox C od) (hs : findIn K (.ref C) "__eq__" = some (some (.ref f))) (hf : isFn K (.ref f) = true) (hu : A.units < cLine)
    (hcall : wpAny (model prog w) A (call (.ref f) [.ref x, .ref y]) (fun v s' => ∃ b, v = .bool b ∧ Q (.done (.ret (.bool (!b)))) s') E s) :
    wpAny (model prog w) A (Builtin.«object.__ne__» ⟨[.ref x, .ref y], []⟩) Q E s := by
  unfold Builtin.«object.__ne__»
  repeat (first
    | with_reducible refine wpAny_cRoomFor hu ?_
    | (refine wpAny_bind (m := callSpecialIfBound? (.ref x) (Str.ofString "__eq__") [.ref y])
        (ifBound_K X I hs hf (wpAny_mono hcall (fun r s' hr => by
          obtain ⟨b, rfl, hq⟩ := hr
          repeat (first | exact hq | exact wpAny_pure hq | exact wpAny_truthy_bool hq | (refine wpAny_bind (m := truthy (.bool _)) (wpAny_truthy_bool ?_)) | wp_step)) fun _ _ e => e)))
    | wp_step)

theorem check_K {id owner n : String} {rest : List Value} {Q : Unit → Shared → Prop} (X : K.In s.heap) (I : InstAt s.heap x ox C od) (hk : builtinKind id = some .slot) (hs : splitId id = some (owner, n))
    (ha : argsOk id ⟨.ref x :: rest, []⟩) (hob : subIn K (.ref C) (.type owner) = some true) (hq : Q () s) :
    wpAny M A (checkBuiltinCall id ⟨.ref x :: rest, []⟩) Q E s := by
  obtain ⟨h, g, d, t, os⟩ := s
  have Ls : Looks M h (isSubtype (.ref C) (.type owner)) true := looks_subIn X hob
  have hx := I.at_
  have hc := I.cls
  have X0 := X
  simp only [checkBuiltinCall, hk, hs]
  refine wpAny_bind ?_
  unfold isInstance
  repeat (first | (with_reducible refine wpAny_loadPart_at hx ?_; rw [hc]) | (with_reducible refine Ls.here ?_) | wp_step)
  cases hsig : Manifest.signature? id with
  | none => exact wpAny_pure hq
  | some sig =>
    simp only [argsOk, hsig] at ha
    have h2 : Bind.checkArgs id sig ⟨.ref x :: rest, []⟩ = pure () := ha
    show wpAny M A (Bind.checkArgs id sig ⟨.ref x :: rest, []⟩) Q E _
    rw [h2]; exact wpAny_pure hq

theorem ne_own {Q : Value → Shared → Prop} (hu : A.units + 1 < cLine) (X : K.In s.heap) (I : InstAt s.heap x ox C od) (J : InstAt s.heap y oy C od') (hne : findIn K (.ref C) "__ne__" = some (some (.builtin "object.__ne__")))
    (hs : findIn K (.ref C) "__eq__" = some (some (.ref f))) (hf : isFn K (.ref f) = true) (hob : subIn K (.ref C) (.type "object") = some true)
    (hcall : wpAny (model prog w) A.in1 (call (.ref f) [.ref x, .ref y]) (fun v s' => ∃ b, v = .bool b ∧ Q (.bool (!b)) s') E s) :
    wpAny (model prog w) A (compareOp .NotEq (.ref x) (.ref y)) Q E s := by
  have S := F.cmp_object.ne
  have one : wpAny (model prog w) A (tryCompare (.ref x) "__ne__" (.ref y)) (fun r s' => ∃ v, r = some v ∧ Q v s') E s := by
    unfold tryCompare
    refine wpAny_bind ?_
    simp only [callSpecialIfBound?, bindSpecialIfBound?]
    refine wpAny_holding (wpAny_bind (wpAny_bind (wpAny_bind (I.type.here ((looks_findIn X hne).here ?_)))))
    simp only [S.bind]
    have fin : ∀ {R : Option Value → Shared → Prop}, (∀ b s', Q (.bool (!b)) s' → R (some (.bool (!b))) s') → wpAny (model prog w) A (call (.builtin "object.__ne__") ([.ref x] ++ [.ref y]) >>= fun v => pure (some v)) R E s := by
      intro R hR
      refine wpAny_bind (wpAny_call (codeAny_call_builtin S.plain F.cmpEntry_ne (check_K X I F.cmpKind_ne F.cmpSplit_ne (F.cmpArgs_ne _ _) hob (objNe_K (A := A.in1) X I hs hf hu (wpAny_mono hcall (fun v s' hv => ?_) fun _ _ e => e)))))
      obtain ⟨b, rfl, hq⟩ := hv
      exact ⟨b, rfl, wpAny_pure (hR b _ hq)⟩
    refine wpAny_bind (wpAny_askSetting (wpAny_ite ?_))
    split
    · exact wpAny_bind (wpAny_pure (wpAny_pure (fin fun b s' hq => wpAny_pure ⟨_, rfl, hq⟩)))
    · exact wpAny_tryCatch (wpAny_bind (wpAny_pure (wpAny_pure (fin fun b s' hq => wpAny_pure ⟨_, rfl, hq⟩))))
  show wpAny (model prog w) A (richCompare .NotEq (.ref x) (.ref y)) Q E s
  unfold richCompare
  simp only [oneThing_ref]
  refine wpAny_holding (wpAny_bind (wpAny_cRoomFor (Nat.lt_of_succ_lt hu) ?_))
  refine wpAny_bind (I.type.here (wpAny_bind (J.type.here ?_)))
  rw [show (Value.ref C != Value.ref C) = false from by simp]
  simp only [Bool.false_eq_true, if_false]
  refine wpAny_bind (wpAny_pure ?_)
  simp only [Bool.false_eq_true, if_false]
  refine wpAny_bind (wpAny_mono one (fun r s' z => ?_) fun _ _ e => e)
  obtain ⟨v, rfl, hq⟩ := z
  exact wpAny_pure hq
end

section
variable {X : Cx} {CX : CXT} {n : Nat} {C g : Addr} {sp : Sp} {E : XK}
/-- x != y, both instances of C, which has == alone -/
def rNeOwn (C : Addr) (sp : Sp) (E : XK) : R2 := fun x y H Q => ∃ a b, x = .ref a ∧ y = .ref b ∧ InsAt H a C ∧ InsAt H b C ∧ sp [x, y] H (fun v H' => ∃ k, v = .bl k ∧ Q (.bl (!k)) H') E
theorem op_ne_own (hne : PySem.W.findIn X.K (.ref C) "__ne__" = some (some (.builtin "object.__ne__"))) (hs : PySem.W.findIn X.K (.ref C) "__eq__" = some (some (.ref g))) (hf : PySem.W.isFn X.K (.ref g) = true) (hob : PySem.W.subIn X.K (.ref C) (.type "object") = some true)
    (F : FnR X.prog X.w X.K X.mg X.base CX n g sp) (hr : Room (n + 1) X.A) (hx : Passes CX X E) : OpR X (compareOp .NotEq) (rNeOwn C sp E) := by
  intro pins s σ H x y v u Q I rx ry h
  obtain ⟨a, b, rfl, rfl, ha, hb, q⟩ := h
  cases (show v = Value.ref a from rx)
  cases (show u = Value.ref b from ry)
  obtain ⟨ox, od, J⟩ := inst_of I ha
  obtain ⟨oy, od', J'⟩ := inst_of I hb
  have hu : X.A.units + 1 < cLine := hu_of hr
  refine ne_own hu I.kIn J J' hne hs hf hob ?_
  refine wpAny_call ?_
  refine codeAny_mono (F X.A.in1 X.stack s H [.ref a, .ref b] [.ref a, .ref b] _ E hr.in1 I.env0.in1 (.cons rfl (.cons rfl .nil)) q) fun r s' hq => ?_
  cases r with
  | error e => exact hx pins σ H s e s' I hq
  | ok fl =>
    cases fl with
    | ret u =>
      obtain ⟨v, H', I2, rv, k, ev, qq⟩ := I.after hq
      subst ev
      cases (show u = Value.bool k from rv)
      exact ⟨k, rfl, .bl (!k), H', I2, rfl, qq⟩
    | next => exact False.elim hq
    | brk => exact False.elim hq
    | cont => exact False.elim hq
end
end Ow
end
section
set_option maxHeartbeats 4000000
namespace Ow
open PySem PySem.Spec PyProof.Rows L2 StX

section
variable {X : Cx} {CX : CXT} {n : Nat} {C g fa : Addr} {sp : Sp} {E : XK}

theorem inst_of2 {pins : List (Addr × Obj)} {σ : L2.St} {H : Hp} {s : Shared} {a : Addr} (I : Inv X pins σ H s) (h : InsAt H a C) : ∃ dx od, s.heap.get? a = some (PySem.W.instObj C dx) ∧ PySem.W.InstAt s.heap a (PySem.W.instObj C dx) C od := by
  obtain ⟨dx, fs, ea⟩ := h
  obtain ⟨mA, O, _⟩ := ins_get I.hok ea
  obtain ⟨od, J, _⟩ := O.look
  exact ⟨dx, _, J.at_, J⟩

/-- n + x: the instance's __radd__ -/
def rBinR (C : Addr) (sp : Sp) (E : XK) : R2 := fun x y H Q => ∃ a i, x = .int i ∧ y = .ref a ∧ InsAt H a C ∧ sp [y, x] H Q E
theorem op_radd (hc : PySem.W.selfFirst X.K C = true) (ha : PySem.W.findIn X.K (.ref C) (PySem.dunder "add") = some (some (.ref fa))) (hs : PySem.W.findIn X.K (.ref C) (dunderR "add") = some (some (.ref g))) (hf : PySem.W.isFn X.K (.ref g) = true)
    (hsub : PySem.W.subIn X.K (.ref C) (.type "int") = some false)
    (F : FnR X.prog X.w X.K X.mg X.base CX n g sp) (hr : Room n X.A) (hx : Passes CX X E) : OpR X (binaryOp .Add) (rBinR C sp E) := by
  intro pins s σ H x y v u Q I rx ry h
  obtain ⟨a, i, rfl, rfl, hia, q⟩ := h
  obtain ⟨t, rfl⟩ := rx
  cases (show u = Value.ref a from ry)
  obtain ⟨dx, od, hx', J⟩ := inst_of2 I hia
  obtain ⟨cd, rest, hcd, hm⟩ := PySem.W.ksp_first hc
  refine int_add_own I.kIn hx' J hcd hm ha hs hf hsub ?_
  refine wpAny_mono (wpAny_call (run_fnR (us := [.ref a, .int i t]) (vs := [.ref a, .int i]) F hr hx I (.cons rfl (.cons ⟨t, rfl⟩ .nil)) q)) (fun w s' z => ?_) fun _ _ x => x
  obtain ⟨z', H', I', rz, qz⟩ := z
  exact cmpbackR rz ⟨z', H', I', rz, qz⟩

def mro2 (K : PySem.W.Frag) (C : Addr) : Bool := (PySem.W.clsIn K C).any fun cd => cd.mro == [.ref C, .type "object"]
theorem mro2_of {K : PySem.W.Frag} {C : Addr} (h : mro2 K C = true) : ∃ cd, PySem.W.clsIn K C = some cd ∧ cd.mro = [.ref C, .type "object"] := by
  obtain ⟨cd, hcd, hm⟩ := PySem.W.any_some h
  exact ⟨cd, hcd, beq_iff_eq.mp hm⟩
theorem noI_obj_add : typeLookup (.type "object") (dunderI "add") = pure none := by rw [typeLookup_type, builtinLookup_eq_fast]; kernel_rfl
/-- x += n, the class has no __iadd__ -/
theorem iop_addI {fo ro rc : Option Value} (hc : mro2 X.K C = true) (hni : PySem.W.findIn X.K (.ref C) (dunderI "add") = some none) (hs : PySem.W.findIn X.K (.ref C) (PySem.dunder "add") = some (some (.ref g))) (hf : PySem.W.isFn X.K (.ref g) = true)
    (hrr : PySem.W.findIn X.K (.ref C) (dunderR "add") = some rc) (hp : rc = none ∨ ∃ g : Addr, rc = some (.ref g))
    (h1 : PySem.W.findIn X.K (.type "int") (PySem.dunder "add") = some fo) (h2 : PySem.W.findIn X.K (.type "int") (dunderR "add") = some ro) (hsub : PySem.W.subIn X.K (.type "int") (.ref C) = some false)
    (F : FnR X.prog X.w X.K X.mg X.base CX n g sp) (hr : Room n X.A) (hx : Passes CX X E) : OpR X (inplaceOp .Add) (rBinI C sp E) := by
  intro pins s σ H x y v u Q I rx ry h
  obtain ⟨a, i, rfl, rfl, hia, q⟩ := h
  cases (show v = Value.ref a from rx)
  obtain ⟨t, rfl⟩ := ry
  obtain ⟨ox, od, J⟩ := inst_of I hia
  obtain ⟨cd, hcd, hm⟩ := mro2_of hc
  refine iadd_own (op := .Add) (T := "int") I.kIn J rfl hcd hm hni noI_obj_add hs hf hrr hp h1 h2 hsub ?_
  refine wpAny_mono (wpAny_call (run_fnR (us := [.ref a, .int i t]) (vs := [.ref a, .int i]) F hr hx I (.cons rfl (.cons ⟨t, rfl⟩ .nil)) q)) (fun w s' z => ?_) fun _ _ x => x
  obtain ⟨z', H', I', rz, qz⟩ := z
  exact cmpbackR rz ⟨z', H', I', rz, qz⟩

/-- f(e, ..), a def of the module, by its positional promise -/
def tCallR (sp : Sp) (E : XK) (t : TA) : TE := fun σ H Q => t σ H fun vs H1 => sp vs H1 Q E
theorem pe_callR {x : Str} {f : Addr} {e : Expr} {es : List Expr} {t : TA} {p pos : Pos} (F : FnR X.prog X.w X.K X.mg X.base CX n f sp) (hr : Room n X.A) (hm : X.mg x = some (.ref f)) (hk : PySem.W.keepIn X.K (.ref f) = true) (hx : Passes CX X E)
    (ha : PA X (e :: es) t) (hg : Gl X x := by rfl) (hdb : (x == ("__debug__" : Str)) = false := by decide) (he : starEach (e :: es) X.env = (false, eval e X.env) :: starEach es X.env := by rfl) (hpl : (backTo pos (starEach es X.env)).any (·.1) = false := by rfl) :
    PE X (.Call (.Name x p) (e :: es) [] pos) (tCallR sp E t) := by
  refine ⟨fun pins s σ H Q I h => ?_⟩
  refine wpAny_Call_Name_kw (ld_glob I hg hm ?_ hdb)
  refine PySem.W.callWith_K (h₀ := X.base) I.ok.mod.kin hk (thn (ha.run pos pins s σ H _ I h) fun us s1 ⟨vs, H1, I1, r, q⟩ => ⟨I1.kIn, ?_⟩) he hpl
  exact wpAny_call (run_fnR F hr hx I1 r q)

/-- C(e, ..): a new instance, by the positional promise of __init__ -/
theorem pe_makeRR {x : Str} {e : Expr} {es : List Expr} {t : TA} {p pos : Pos} (M : Mk X.K C g) (F : FnR X.prog X.w X.K X.mg X.base CX n g sp) (hr : Room (n + 1) X.A) (hm : X.mg x = some (.ref C)) (hx : Passes CX X E) (ha : PA X (e :: es) t) (hg : Gl X x := by rfl) (hdb : (x == ("__debug__" : Str)) = false := by decide)
    (he : starEach (e :: es) X.env = (false, eval e X.env) :: starEach es X.env := by rfl) (hpl : (backTo pos (starEach es X.env)).any (·.1) = false := by rfl) : PE X (.Call (.Name x p) (e :: es) [] pos) (tMakeR C sp E t) :=
  pe_makeR M F hr hg hm hx ha hdb he hpl
end
end Ow
end
section
set_option maxHeartbeats 4000000
namespace Ow
open PySem PySem.Spec PyProof.Rows L2 StX

/-- what the walk asks of an own class -/
structure ClsF (K : PySem.W.Frag) (C : Addr) : Prop where
  cl : Cls K C
  ca : PySem.W.findIn K (.ref C) "__class__" = some (some (.builtin "object.__class__"))
  cn : PySem.W.specialIn K (.builtin "object.__class__") "__get__" = some (some (.builtin "getset_descriptor.__get__"))
  ct : PySem.W.takesIn K (.builtin "object.__class__") = some true
  cm : PySem.W.mroIn K C (.type "object") = some true
  ic : PySem.W.isClsIn K C = true
  ty : PySem.W.typeIn K (.ref C) = some (.type "type")
theorem ClsF.tyOf {K : PySem.W.Frag} {C p dx : Addr} {H : Hp} {fs : List (Str × V)} (c : ClsF K C) (h : H p = some (.ins C dx fs)) : TyX K H (.ref p) (.ref C) := .base (.ins h c.cl c.ca c.cn c.ct c.cm)
theorem kit_self {K : PySem.W.Frag} {t : Value} : PySem.W.kitOne K t t = some true := by
  unfold PySem.W.kitOne
  rw [if_pos (beq_self_eq_true t)]
/-- t is not below the own class at C -/
theorem kit_own {K : PySem.W.Frag} {C : Addr} {t : Value} {b : Bool} (c : ClsF K C) (h : PySem.W.subIn K t (.ref C) = some b) (hb : (t == Value.ref C) = false) : PySem.W.kitOne K t (.ref C) = some b := by
  unfold PySem.W.kitOne
  rw [if_neg (by rw [hb]; exact Bool.false_ne_true)]
  show (if ((PySem.W.clsIn K C).isSome && PySem.W.typeIn K (.ref C) == some (.type "type")) = true then PySem.W.subIn K t (.ref C) else none) = some b
  have h1 : (PySem.W.clsIn K C).isSome = true := c.ic
  rw [h1, c.ty]
  rw [if_pos (by rfl)]
  exact h
/-- an instance of C against a built-in type -/
theorem kit_bty {K : PySem.W.Frag} {C : Addr} {T : String} {b : Bool} (hm : PySem.W.kitMeta T = true) (h : PySem.W.subIn K (.ref C) (.type T) = some b) : PySem.W.kitOne K (.ref C) (.type T) = some b := by
  unfold PySem.W.kitOne
  rw [if_neg (by intro z; cases beq_iff_eq.mp z)]
  show (if PySem.W.kitMeta T = true then PySem.W.subIn K (.ref C) (.type T) else none) = some b
  rw [if_pos hm]
  exact h
theorem kit_int_int {K : PySem.W.Frag} : PySem.W.kitOne K (.type "int") (.type "int") = some true := kit_self
theorem kit_int_bool {K : PySem.W.Frag} : PySem.W.kitOne K (.type "int") (.type "bool") = some false := kit_ty (by decide +kernel)

section
variable {X : Cx} {CX : CXT} {k : Nat} {C p g a dx : Addr} {fs : List (Str × V)} {f : Str} {sp : Sp} {E : XK} {e : Expr} {pos : Pos} {ta : TE}
structure PropR (K : PySem.W.Frag) (C : Addr) (f : Str) (p g : Addr) : Prop where
  at_ : PySem.W.findIn K (.ref C) f = some (some (.ref p))
  get : PySem.W.specialIn K (.ref p) "__get__" = some (some (.builtin "property.__get__"))
  tak : PySem.W.takesIn K (.ref p) = some true
  rec_ : ∃ rest, PySem.W.recIn K p "property" = some (.ref g :: rest)
theorem getprop_R {pins : List (Addr × Obj)} {σ : L2.St} {H : Hp} {s : Shared} {Q : VK} {b : Bool} (I : Inv X pins σ H s) (ea : H a = some (.ins C dx fs)) (c : Cls X.K C) (hp : PropR X.K C f p g)
    (F : FnR X.prog X.w X.K X.mg X.base CX k g sp) (hr : Room (k + 1) X.A) (hx : Passes CX X.nox E) (h : sp [.ref a] H Q E) :
    wpAny (model X.prog X.w) X.A (getAttr (.ref a) f b) (EP X pins σ Q) X.xe s := by
  obtain ⟨mA, O, _, _, _, _⟩ := ins_get I.hok ea
  obtain ⟨od, J, _⟩ := O.look
  obtain ⟨rest, hrec⟩ := hp.rec_
  have I1 := I.tok (s.toks + 1)
  have hc : (PySem.W.clsIn X.K C).isSome = true := by
    obtain ⟨cd, hc, _⟩ := PySem.W.any_some c.hd
    rw [hc]
    rfl
  refine PySem.W.get_bind I.kIn J (PySem.W.plainGet_of (c.get f)).1 (PySem.W.findObj_data hc hp.at_ hp.get hp.tak) (PySem.W.plainGet_of (c.get f)).2 (wpAny_call (PySem.W.prop_get (s := { s with toks := s.toks + 1 }) I.kIn hrec ?_))
  refine codeAny_mono (F X.A.in1 X.stack { s with toks := s.toks + 1 } H [.ref a] [.ref a] Q E hr.in1 I1.env0.in1 (.cons rfl .nil) h) fun r s' hq => ?_
  cases r with
  | error er => exact False.elim (hx pins σ H { s with toks := s.toks + 1 } er s' (I1.wish _) hq)
  | ok fl =>
    cases fl with
    | ret u =>
      obtain ⟨v, H', I3, rv, q3⟩ := I1.after hq
      show wpAny _ _ (handedOut u) _ _ _
      rw [PySem.W.handedOut_of (handed_of rv)]
      exact wpAny_pure ⟨v, H', I3, rv, q3⟩
    | next => exact False.elim hq
    | brk => exact False.elim hq
    | cont => exact False.elim hq
def tPropR (C : Addr) (sp : Sp) (E : XK) (ta : TE) : TE := fun σ H Q => ta σ H fun x H1 => ∃ a dx fs, x = .ref a ∧ H1 a = some (.ins C dx fs) ∧ sp [.ref a] H1 Q E
/-- e.f, f a property -/
theorem pe_propR (he : PE X e ta) (c : Cls X.K C) (hp : PropR X.K C f p g) (F : FnR X.prog X.w X.K X.mg X.base CX k g sp) (hr : Room (k + 1) X.A) (hx : Passes CX X.nox E)
    (hab : attributeBase e f X.env (eval e X.env) = eval e X.env := by rfl) : PE X (.Attribute e f pos) (tPropR C sp E ta) := by
  refine ⟨fun pins s σ H Q I h => ?_⟩
  refine attr_of hab (thn (he.run pins s σ H _ I h) fun u s1 ⟨x, H1, I1, rx, a, dx, fs, ex, ea, q⟩ => ?_)
  subst ex
  obtain rfl : u = Value.ref a := rx
  exact getprop_R I1 ea c hp F hr hx q
end

/-- a def of the text, as the top left it: dvs its defaults -/
def FnT (K : PySem.W.Frag) (x qual : Str) (st : Stmt) (dvs : List V) (f : Addr) : Prop := ∃ fd, FunD K x qual (defArgs st) (defBody st) (defScope st) dvs [] f fd
section
variable {P : Program} {w : World} {K : PySem.W.Frag} {mg : Str → Option Value} {base : Heap} {x qual : Str} {st : Stmt} {dvs : List V} {f : Addr}
theorem FnT.kp (F : FnT K x qual st dvs f) : PySem.W.keepIn K (.ref f) = true := F.elim fun _ z => z.kp
/-- a def without defaults that lets nothing out -/
theorem FnT.ok {N ps : List Str} {k : Nat} {sp : Sp} (F : FnT K x qual st [] f) (S : FnScope N ps (defScope st))
    (hb : ∀ (kV doc pm : Value) (an : Option Addr) (cdv ct : Value) (us : List Value), us.length = ps.length → bindArgs (PySem.W.fnOf x qual (defArgs st) (defBody st) (defScope st) .none kV doc pm an cdv ct) ⟨us, []⟩ = pure (ps.zip us))
    (len : ∀ vs H Q E, sp vs H Q E → vs.length = ps.length)
    (hbody : ∀ (cdv : Value) (A : Around) (outer : List Env) (s : Shared) (H : Hp) (vs : List V) (Q : VK) (E : XK), Room k (A.deeper (envOfC qual (defScope st) s.heap.objs.size f cdv)) → sp vs H Q E →
      ∃ t, PSs (cxOf CX0 P w K mg base N qual (defScope st) f cdv A outer s H E).nox (defBody st) t ∧ t { nx := fun _ H' => Q .non H', rt := Q } (start N vs) H) : FnR P w K mg base CX0 (k + 1) f sp := by
  obtain ⟨fd, F⟩ := F
  have ok : FnOk P w K mg base CX0 (k + 1) f fd ps sp := F.ok S len fun cdv A outer s H vs Q E hr hsp => by
    obtain ⟨t, h, q⟩ := hbody cdv A outer s H vs Q E hr hsp
    exact ⟨t, h.nox, q⟩
  have b : Binds K fd ps [] := F.bindsN hb
  have r := ok.raw b .nil
  exact r.imp fun vs H Q E h => by rw [List.append_nil]; exact h
/-- .. with defaults, all of its arguments told; or the last ones filled up: j of the defaults are not used -/
theorem FnT.okD {N ps : List Str} {k n j : Nat} {sp : Sp} (F : FnT K x qual st dvs f) (S : FnScope N ps (defScope st)) (hd : dvs ≠ []) (hn : n + (dvs.length - j) = ps.length)
    (hb : ∀ (T : Addr) (kV doc pm : Value) (an : Option Addr) (cdv ct : Value) (us its : List Value), us.length = n → its.length = dvs.length →
      ∃ k, bindArgs (PySem.W.fnOf x qual (defArgs st) (defBody st) (defScope st) (.ref T) kV doc pm an cdv ct) ⟨us, []⟩ = seqItems? (.ref T) >>= k ∧ k (some its.toArray) = pure (ps.zip (us ++ its.drop j)))
    (len : ∀ vs H Q E, sp vs H Q E → vs.length = ps.length)
    (hbody : ∀ (cdv : Value) (A : Around) (outer : List Env) (s : Shared) (H : Hp) (vs : List V) (Q : VK) (E : XK), Room k (A.deeper (envOfC qual (defScope st) s.heap.objs.size f cdv)) → sp vs H Q E →
      ∃ t, PSs (cxOf CX0 P w K mg base N qual (defScope st) f cdv A outer s H E).nox (defBody st) t ∧ t { nx := fun _ H' => Q .non H', rt := Q } (start N vs) H) : FnR P w K mg base CX0 (k + 1) f (fun vs H Q E => sp (vs ++ dvs.drop j) H Q E) := by
  obtain ⟨fd, F⟩ := F
  have ok : FnOk P w K mg base CX0 (k + 1) f fd ps sp := F.ok S len fun cdv A outer s H vs Q E hr hsp => by
    obtain ⟨t, h, q⟩ := hbody cdv A outer s H vs Q E hr hsp
    exact ⟨t, h.nox, q⟩
  obtain ⟨ds, hds, b⟩ := F.binds1 n j hd hn hb
  exact ok.raw b hds
end
end Ow
end
section
set_option maxHeartbeats 4000000
namespace Ow
open PySem PySem.SeqAt
open AutoSeq1 (wpAny_loadPart')
open MeetsSeq MeetsSeq2 MeetsSeq3 SeqRoads2

section
variable {prog : Program} {w : World} {A : Around} {R : Result → Shared → Prop}
theorem ne_loopG (l b : Addr) (N : Nat) (I : Nat → Shared → Prop) (hl : GQ.ListI prog w A (fun e s' => R (.error e) s') l b N I)
    (fin : ∀ s, I N s → R (.ok (.ret (.bool false))) s) (k : Nat) :
    ∀ i : Nat, N - i = k → i ≤ N → ∀ s, I i s →
      wpAny (model prog w) A.in1 (Builtin.«list.__eq__.loop» ⟨[.ref l, .ref b, rawInt i, rawInt 3], []⟩) (GQ.FinOf prog w A R) (fun e s' => R (.error e) s') s := by
  induction k with
  | zero =>
    intro i hk hi s h
    obtain ⟨items, items2, n, n2, hl1, hb1, hs1, hs2, _⟩ := hl _ _ h
    have hi' : i = N := by omega
    have hR : R (.ok (.ret (.bool false))) s := fin s (hi' ▸ h)
    obtain ⟨hp, g, d, tk, os⟩ := s
    wp_walk using wpAny_loadPart' hl1, wpAny_loadPart' hb1
    have hi1 : items[((i : Nat) : Int).toNat]? = none := by simp; omega
    have hi2 : items2[((i : Nat) : Int).toNat]? = none := by simp; omega
    rw [hi1, hi2]
    wp_walk using wpAny_loadPart' hl1, wpAny_loadPart' hb1
    show R (.ok (.ret (.bool (items.size != items2.size)))) _
    rw [hs1, hs2]
    simpa using hR
  | succ k ih =>
    intro i hk hi s h
    obtain ⟨items, items2, n, n2, hl1, hb1, hs1, hs2, turn⟩ := hl _ _ h
    have hlt : i < items.size := by omega
    have hlt2 : i < items2.size := by omega
    have ht := turn hlt hlt2
    obtain ⟨hp, g, d, tk, os⟩ := s
    wp_walk using wpAny_loadPart' hl1, wpAny_loadPart' hb1
    have hi1 : items[((i : Nat) : Int).toNat]? = some items[i] := by simp [hlt]
    have hi2 : items2[((i : Nat) : Int).toNat]? = some items2[i] := by simp [hlt2]
    have hc : ((i : Int) + 1) = ((i + 1 : Nat) : Int) := by omega
    rw [hi1, hi2]
    refine wpAny_bind (wpAny_mono ht (fun r s2 h2 => ?_) fun _ _ x => x)
    obtain ⟨hr, h2⟩ := h2
    subst hr
    have hrec := ih (i + 1) (by omega) (by omega) s2 h2
    obtain ⟨hp2, g2, d2, tk2, os2⟩ := s2
    wp_walk
    rw [hc]
    exact ⟨plainId_quiet plain_eq_loop _, codeAny_builtin entry_eq_loop (by
      rw [Around.under_plainId plain_eq_loop _]
      exact hrec)⟩

theorem list_neG (l b : Addr) (N : Nat) (I : Nat → Shared → Prop) (hl : GQ.ListI prog w A (fun e s' => R (.error e) s') l b N I)
    (fin : ∀ s, I N s → R (.ok (.ret (.bool false))) s) {s : Shared} (h : I 0 s) :
    wpAny (model prog w) A.in1 (Builtin.«list.__ne__» ⟨[.ref l, .ref b], []⟩) (GQ.FinOf prog w A R) (fun e s' => R (.error e) s') s := by
  obtain ⟨items, items2, n, n2, hl1, hb1, hs1, hs2, _⟩ := hl _ _ h
  have hrec := ne_loopG (A := A) (R := R) l b N I hl fin _ 0 rfl (Nat.zero_le _) s h
  obtain ⟨hp, g, d, tk, os⟩ := s
  have f3 := AutoSeq1.sub_list_list
  have hne : ¬ (items.size != items2.size) = true := by simp [hs1, hs2]
  wp_walk using wpAny_loadPart' hl1, wpAny_loadPart' hb1
  exact ⟨plainId_quiet plain_eq_loop _, codeAny_builtin entry_eq_loop (by
    rw [Around.under_plainId plain_eq_loop _]
    exact hrec)⟩
theorem rn_listG {E : Value → Shared → Prop} {s : Shared} {l b : Addr} {N : Nat} {Q : Value → Shared → Prop} (hu : A.units < cLine) (I : Nat → Shared → Prop) (hl : GQ.ListI prog w A E l b N I)
    (fin : ∀ s, I N s → Q (.bool false) s) (h : I 0 s) : wpAny (model prog w) A (richCompare .NotEq (.ref l) (.ref b)) Q E s := by
  obtain ⟨items, items2, n, n2, hl1, hb1, _, _, _⟩ := hl _ _ h
  refine wpAny_richCompare_same_room (op := .NotEq) ⟨_, hl1, rfl⟩ ⟨_, hb1, rfl⟩ F.slot_list_ne (GQ.call_here F.slot_list_ne ⟨_, hl1, rfl⟩ F.entry_list_ne (F.args_list_ne_2 _ _) ?_) hu
  exact list_neG (R := wants (fun v s' => v ≠ .notImplemented ∧ Q v s') E) l b N I hl (fun s' q => ⟨(fun x => nomatch x), fin s' q⟩) h
end
end Ow
namespace Ow
open PySem PySem.Spec PyProof.Rows L2 StX
section
variable {X : Cx} {n m : Nat} {D D' : Eqv}
/-- two lists, equal item by item: != gives False -/
def rNeL (D : Eqv) : R2 := fun x y H Q => DList D x y H ∧ ∀ H', Ext H H' → Q (.bl false) H'
theorem op_neL (hD : Mon D) (h : EqG X n D) (hr : Room (n + 1) X.A) : OpR X (compareOp .NotEq) (rNeL D) := by
  intro pins s σ H x y v u Q I rx ry hq
  obtain ⟨⟨a, b, xs, ys, rfl, rfl, ha, hb, p⟩, q⟩ := hq
  cases rx
  cases ry
  show wpAny (model X.prog X.w) X.A (richCompare .NotEq (.ref a) (.ref b)) (EP X pins σ Q) X.xe s
  have sb : Sub X (n + 1) X.A := ⟨hr, rfl⟩
  refine rn_listG (N := xs.length) hr.units0 (fun _ s' => LoopI X pins σ H s') (fun i s' q => ?_) (fun s' q' => ?_) ⟨H, I, Ext.rfl'⟩
  · obtain ⟨H1, I1, e1⟩ := id q
    obtain ⟨z, its, k, r, e⟩ := I1.hok a _ (e1 _ _ ha)
    obtain ⟨z2, its2, k2, r2, e2⟩ := I1.hok b _ (e1 _ _ hb)
    refine ⟨its.toArray, its2.toArray, k, k2, e, e2, by rw [List.size_toArray, ← r.length], by rw [List.size_toArray, ← r2.length, ← p.1], fun h1 h2 => ?_⟩
    exact turnG hD h sb p r r2 i h1 h2 s' q
  · obtain ⟨H1, I1, e1⟩ := q'
    exact ⟨.bl false, H1, I1, rfl, q H1 e1⟩
/-- instances of C by their own ==, a positional promise -/
theorem eqG_insR {CX : CXT} {C f : Addr} {R : Addr → Addr → Hp → Prop} {E : XK} (F : FnR X.prog X.w X.K X.mg X.base CX n f (spEq R))
    (hs : PySem.W.findIn X.K (.ref C) "__eq__" = some (some (.ref f))) (hf : PySem.W.isFn X.K (.ref f) = true) (hx : Passes CX X E) : EqG X n (DIns C R) := by
  have rc : RcG X n (DIns C R) := by
    intro A pins s σ H x y u v sb I rx ry d
    obtain ⟨a, b, dx, dy, fs, gs, rfl, rfl, ha, hb', hr⟩ := d
    cases rx
    cases ry
    obtain ⟨mA, J, _⟩ := ins_get I.hok ha
    obtain ⟨mB, J', _⟩ := ins_get I.hok hb'
    obtain ⟨od, J, _⟩ := J.look
    obtain ⟨od', J', _⟩ := J'.look
    obtain ⟨m, hF⟩ := I.fr
    refine PySem.W.cmp_K (op := .Eq) (tb := .ref C) sb.room.units0 hF I.ok.mod.kin J J'.type (by simp [PySem.W.notFirst]) hs hf ?_
    have hsp : spEq R [.ref a, .ref b] H (fun v H' => v = .bl true ∧ Ext H H') E := ⟨a, b, rfl, hr, fun H' e => ⟨rfl, e⟩⟩
    have e0 : Env0 X.prog X.w X.K X.mg X.base A X.stack s H := by
      have e := I.env0
      exact ⟨by rw [sb.fr]; exact e.frames, e.mod, e.bs, e.bsz, e.funs, e.frf, e.hok, e.bare⟩
    have r2 : Vals [V.ref a, V.ref b] [Value.ref a, Value.ref b] := .cons rfl (.cons rfl .nil)
    refine wpAny_call (codeAny_mono (F A X.stack s H [.ref a, .ref b] [.ref a, .ref b] _ E sb.room e0 r2 hsp) fun r s' hq => ?_)
    cases r with
    | error e => exact hx pins σ H s e s' I hq
    | ok fl =>
      cases fl with
      | ret w =>
        obtain ⟨z, H', I', rz, ez, ex⟩ := I.after hq
        subst ez
        cases rz
        exact ⟨rfl, H', I', ex⟩
      | next => exact False.elim hq
      | brk => exact False.elim hq
      | cont => exact False.elim hq
  exact rc.eqG fun _ _ _ d => let ⟨a, b, _, _, _, _, hx, hy, _⟩ := d; ⟨a, b, hx, hy⟩
end
end Ow
end
section
set_option maxHeartbeats 4000000
/-! Defs that are called while nothing is being shown (repr of containers asks it), and the end of a law whose def asks it. -/
namespace Ow
open PySem PySem.Spec PyProof.Rows L2 StX

/-- a promise by positional values, of calls while no repr runs -/
def FnG (P : Program) (w : World) (K : PySem.W.Frag) (mg : Str → Option Value) (base : Heap) (CX : CXT) (k : Nat) (f : Addr) (sp : Sp) : Prop :=
  ∀ (A : Around) (outer : List Env) (s : Shared) (H : Hp) (us : List Value) (vs : List V) (Q : VK) (E : XK), Room k A → A.guards = some [] → Env0 P w K mg base A outer s H → Vals vs us → sp vs H Q E →
    codeAny (model P w) A (.call (.ref f) ⟨us, []⟩) (CR CX outer P w H s Q E) s
section
variable {P : Program} {w : World} {K : PySem.W.Frag} {mg : Str → Option Value} {base : Heap} {CX : CXT} {j k : Nat} {f : Addr} {sp sp' : Sp} {x qual : Str} {st : Stmt}
theorem FnG.mono (F : FnG P w K mg base CX j f sp) (h : j ≤ k) : FnG P w K mg base CX k f sp := fun A outer s H us vs Q E hr => F A outer s H us vs Q E (hr.mono h)
theorem FnG.imp (F : FnG P w K mg base CX k f sp) (h : ∀ vs H Q E, sp' vs H Q E → sp vs H Q E) : FnG P w K mg base CX k f sp' := fun A outer s H us vs Q E hr g e0 r hs => F A outer s H us vs Q E hr g e0 r (h _ _ _ _ hs)
theorem FnT.okG {N ps : List Str} (F : FnT K x qual st [] f) (S : FnScope N ps (defScope st))
    (hb : ∀ (kV doc pm : Value) (an : Option Addr) (cdv ct : Value) (us : List Value), us.length = ps.length → bindArgs (PySem.W.fnOf x qual (defArgs st) (defBody st) (defScope st) .none kV doc pm an cdv ct) ⟨us, []⟩ = pure (ps.zip us))
    (len : ∀ vs H Q E, sp vs H Q E → vs.length = ps.length)
    (hbody : ∀ (cdv : Value) (A : Around) (outer : List Env) (s : Shared) (H : Hp) (vs : List V) (Q : VK) (E : XK), Room k (A.deeper (envOfC qual (defScope st) s.heap.objs.size f cdv)) → A.guards = some [] → sp vs H Q E →
      ∃ t, PSs (cxOf CX0 P w K mg base N qual (defScope st) f cdv A outer s H E).nox (defBody st) t ∧ t { nx := fun _ H' => Q .non H', rt := Q } (start N vs) H) : FnG P w K mg base CX0 (k + 1) f sp := by
  obtain ⟨fd, F⟩ := F
  intro A outer s H us vs Q E hr hg e0 r hs
  have b := F.bindsN hb
  obtain ⟨oc, od, dV, kV, doc, pm, an, cdv, ct, osl, rfl, lk, hcd, _, _⟩ := F.ex
  have hv := len _ _ _ _ hs
  have hu : us.length = ps.length := r.length.symm.trans hv
  have b1 : BindsTo s (PySem.W.fnOf x qual (defArgs st) (defBody st) (defScope st) dV kV doc pm an cdv ct) ⟨us, []⟩ (ps.zip us) := by
    have := b s us (e0.mod.kin.keeps fun b o e => (e0.bs b o e).1) (by rw [List.append_nil]; exact hu)
    rw [List.append_nil] at this
    exact this
  refine LamX.run_ofS lk hcd S hr e0 b1 r hv fun hr2 => ?_
  obtain ⟨t, h, q⟩ := hbody cdv A outer s H vs Q E hr2 hg hs
  exact ⟨t, h.nox, q⟩
end
section
variable {X : Cx} {CX : CXT} {n : Nat} {sp : Sp} {E : XK}
theorem pe_callG {x : Str} {f : Addr} {e : Expr} {es : List Expr} {t : TA} {p pos : Pos} (F : FnG X.prog X.w X.K X.mg X.base CX n f sp) (hr : Room n X.A) (gd : X.A.guards = some []) (hm : X.mg x = some (.ref f)) (hk : PySem.W.keepIn X.K (.ref f) = true) (hx : Passes CX X E)
    (ha : PA X (e :: es) t) (hg : Gl X x := by rfl) (hdb : (x == ("__debug__" : Str)) = false := by decide) (he : starEach (e :: es) X.env = (false, eval e X.env) :: starEach es X.env := by rfl) (hpl : (backTo pos (starEach es X.env)).any (·.1) = false := by rfl) :
    PE X (.Call (.Name x p) (e :: es) [] pos) (tCallR sp E t) := by
  refine ⟨fun pins s σ H Q I h => ?_⟩
  refine wpAny_Call_Name_kw (ld_glob I hg hm ?_ hdb)
  refine PySem.W.callWith_K (h₀ := X.base) I.ok.mod.kin hk (thn (ha.run pos pins s σ H _ I h) fun us s1 ⟨vs, H1, I1, r, q⟩ => ⟨I1.kIn, ?_⟩) he hpl
  refine wpAny_call (codeAny_mono (F X.A X.stack s1 H1 us vs Q E hr gd I1.env0 r q) fun r s' hq => ?_)
  cases r with
  | error e => exact hx pins σ H1 s1 e s' I1 hq
  | ok fl =>
    cases fl with
    | ret u => exact I1.after hq
    | next => exact False.elim hq
    | brk => exact False.elim hq
    | cont => exact False.elim hq

/-- repr of data: its text -/
def rReprD (K : PySem.W.Frag) : List V → Hp → VK → Prop := fun xs H Q => ∃ (x : V) (d : PyData), xs = [x] ∧ Dp K H x d ∧ d.showable = true ∧ d.hasDict = false ∧ d.depth ≤ 8 ∧ d.shown.length ≤ sizeLine ∧ Q (.str d.shown) H
theorem call_reprD (gd : X.A.guards = some []) (hu : X.A.units + 64 < cLine) : CallR X (.builtin "repr") (rReprD X.K) := by
  intro pins s σ H xs us Q I r h
  obtain ⟨x, d, rfl, hd, hs, hnd, hdp, hsz, q⟩ := h
  obtain ⟨u, rfl, ru⟩ := vals1 r
  have fin : ∀ (h' : Heap) (tk : Nat) (u : Tok), (∀ b o, s.heap.get? b = some o → h'.get? b = some o) → EP X pins σ Q (.str d.shown u) { s with heap := h', toks := tk } := fun h' tk u k => ⟨.str d.shown, H, I.kept (t' := tk) k, ⟨u, rfl⟩, q⟩
  cases hd with
  | non => cases ru; exact PySem.P.repr_of_none (fin s.heap _ _ fun _ _ e => e)
  | bl b => cases ru; exact PySem.P.repr_of_bool (by cases b <;> exact fin s.heap _ _ fun _ _ e => e)
  | int i =>
    obtain ⟨t, rfl⟩ := ru
    have hi : i.natAbs.log2 < 1920 := of_decide_eq_true hs
    exact PySem.P.repr_of_int hi (fin s.heap _ _ fun _ _ e => e)
  | str z => obtain ⟨t, rfl⟩ := ru; exact PySem.P.repr_of_str (fin s.heap _ _ fun _ _ e => e) hsz
  | @lst a zs ds hq ha =>
    cases ru
    obtain ⟨as, rd⟩ := Dp.reads I _ _ _ (.lst hq ha) rfl
    exact repr_of_reads' rd hs (PyData.noDict_hsm hnd) gd (by omega) (fun _ _ e => e) (fun h' u tk k => fin h' tk u k) hsz
  | @tup a zs ds hq ha =>
    cases ru
    obtain ⟨as, rd⟩ := Dp.reads I _ _ _ (.tup hq ha) rfl
    exact repr_of_reads' rd hs (PyData.noDict_hsm hnd) gd (by omega) (fun _ _ e => e) (fun h' u tk k => fin h' tk u k) hsz
end

/-! ### the end of a law whose def wants to know that nothing is being shown -/
section
variable {P : Program} {w : World} {K : PySem.W.Frag} {mg mb : Str → Option Value} {k : Nat} {fa a : Addr} {sp : Sp} {s1 : Shared} {vs : List Value} {ns : List Int}
/-- the call, from one abstract heap that tracks the script alone, or nothing -/
theorem end_from (KX : K.In s1.heap) (hns : s1.heap.Ns mainGlobals mg) (hb : s1.heap.Ns builtinsNs mb) (hbb : ∀ x : Str, x ≠ "__name__" → mb x = bootBuiltins x) (hlim : s1.heap.NoLimit) (hg : s1.gens = #[]) (hr : Room k callerA)
    (F : ∀ base : Heap, K.In base → base.Ns mainGlobals mg → FnG P w K mg base CX0 k fa sp) {H : Hp} (hO : Only H) (hok : HOk P w H s1.heap) (dom : ∀ b u, H b = some u → K.lookup b = none ∧ ∃ o items n, s1.heap.get? b = some o ∧ o.data = .seq items n)
    (hsp : sp [.ref a] H (fun v _ => v = .bl true) fun _ _ _ => False) :
    codeAny (model P w) callerA (.call (.ref fa) ⟨[.ref a], []⟩) (fun r s' => r = .ok (.ret (.bool true)) ∧ OldK s1.heap s'.heap ∧ s'.os = s1.os ∧ AllBare s'.gens) s1 := by
  let base := hidT s1.heap H
  have dicts : ∀ {b : Addr} {o : Obj} {es : Array DictEntry} {ep : Nat}, s1.heap.get? b = some o → o.data = .dict es ep → base.get? b = some o := fun {b o es ep} e d => by
    refine hidT_get e ?_
    cases q : H b with
    | none => rfl
    | some u =>
      obtain ⟨_, o2, items, n, e2, d2⟩ := dom b u q
      rw [e2] at e
      cases e
      rw [d2] at d
      cases d
  have names : ∀ {b : Addr} {m : Str → Option Value}, s1.heap.Ns b m → base.Ns b m := fun z => by
    obtain ⟨o, es, ep, e, d, r⟩ := z
    exact ⟨o, es, ep, dicts e d, d, r⟩
  have hK : K.In base := fun b o e => by
    refine hidT_get (KX b o e) ?_
    cases q : H b with
    | none => rfl
    | some u =>
      have z := (dom b u q).1
      rw [e] at z
      cases z
  have lim : base.NoLimit := by
    obtain ⟨m, h1, h2⟩ := hlim
    exact ⟨m, names h1, h2⟩
  have e0 : Env0 P w K mg base callerA [] s1 H :=
    { frames := rfl, mod := ⟨hK, names hns, ⟨mb, names hb, hbb⟩, lim⟩, bs := fun b o e => of_hidT e, bsz := Nat.le_of_eq (hidT_size _ _), funs := trivial, frf := fun b hb => (List.not_mem_nil hb).elim, hok := hok, bare := .of_eq hg }
  refine codeAny_mono (F base hK (names hns) callerA [] s1 H [.ref a] [.ref a] _ _ hr rfl e0 (.cons rfl .nil) hsp) fun r s' h => ?_
  cases r with
  | error e => exact False.elim h
  | ok fl =>
    cases fl with
    | ret u =>
      obtain ⟨v, H2, os, bare, un, ok2, rv, q⟩ := h
      subst q
      cases rv
      refine ⟨rfl, OldK.of_keep fun b o e => ?_, os, bare⟩
      cases q : H b with
      | none => exact un.keep b o e q (fun z => List.not_mem_nil z) (fun z => List.not_mem_nil z)
      | some u =>
        rcases hO b with z | ⟨ob, xs, z⟩
        · rw [q] at z
          cases z
        · have e1 := (hok b _ z).1
          have e2 := (ok2 b _ (un.frzs b ob _ z)).1
          rw [e] at e1
          cases e1
          exact e2
    | next => exact False.elim h
    | brk => exact False.elim h
    | cont => exact False.elim h
theorem end_callG (KX : K.In s1.heap) (hns : s1.heap.Ns mainGlobals mg) (hb : s1.heap.Ns builtinsNs mb) (hbb : ∀ x : Str, x ≠ "__name__" → mb x = bootBuiltins x) (hlim : s1.heap.NoLimit) (hg : s1.gens = #[]) (hr : Room k callerA)
    (ha : s1.heap.get? a = some { cls := .type "list", data := .seq vs.toArray }) (hi : IntsAre vs ns) (hl : ns.length ≤ sizeLine) (F : ∀ base : Heap, K.In base → base.Ns mainGlobals mg → FnG P w K mg base CX0 k fa sp)
    (hsp : ∀ H : Hp, Only H → SqL K H a (ns.map V.int) → sp [.ref a] H (fun v _ => v = .bl true) fun _ _ _ => False) :
    codeAny (model P w) callerA (.call (.ref fa) ⟨[.ref a], []⟩) (fun r s' => r = .ok (.ret (.bool true)) ∧ OldK s1.heap s'.heap ∧ s'.os = s1.os ∧ AllBare s'.gens) s1 := by
  have rv := vals_ints hi
  have hl2 : (ns.map V.int).length ≤ sizeLine := by rw [List.length_map]; exact hl
  cases hk : K.lookup a with
  | some o =>
    have e := KX a o hk
    rw [ha] at e
    cases e
    refine end_from KX hns hb hbb hlim hg hr F (H := fun _ => none) (fun _ => .inl rfl) (fun b u z => by cases z) (fun b u z => by cases z) (hsp _ (fun _ => .inl rfl) ?_)
    exact .inr ⟨_, vs.toArray, _, hk, rfl, rfl, rfl, by rw [List.size_toArray, hi.length]; exact hl, by simpa using rv⟩
  | none =>
    let o : Obj := { cls := .type "list", data := .seq vs.toArray }
    let H : Hp := fun b => if b = a then some (.frz o (.lst (ns.map V.int))) else none
    have H1 : H a = some (.frz o (.lst (ns.map V.int))) := if_pos rfl
    have H0 : ∀ b u, H b = some u → b = a ∧ u = .frz o (.lst (ns.map V.int)) := fun b u z => by
      by_cases e : b = a
      · subst e
        rw [H1] at z
        cases z
        exact ⟨rfl, rfl⟩
      · have z0 : H b = none := if_neg e
        rw [z0] at z
        cases z
    have hO : Only H := fun b => by
      by_cases e : b = a
      · subst e; exact .inr ⟨_, _, H1⟩
      · exact .inl (if_neg e)
    refine end_from KX hns hb hbb hlim hg hr F (H := H) hO (fun b u z => ?_) (fun b u z => ?_) (hsp _ hO (.inl (.inr ⟨_, H1⟩)))
    · obtain ⟨rfl, rfl⟩ := H0 b u z
      exact ⟨ha, hl2, vs, _, rv, ha⟩
    · obtain ⟨rfl, rfl⟩ := H0 b u z
      exact ⟨hk, _, _, _, ha, rfl⟩
end
theorem walk_ofG {l : PySem.W.OpenLaw} {n k : Nat} {q : Program} {loose : List Str} {XP : (Str → Option Value) → Heap → Prop} {YP : World → Heap → Prop} {d : DefRec} {K : Params → PySem.W.Frag} {sp : World → Sp}
    (hn : l.most = some n) (hn2 : n ≤ sizeLine) (hdf : d.params.defaults = []) (hr : Room k callerA) (hY : ∀ (w : World) (h : Heap), YP w h → (K w.params).In h)
    (F : ∀ (w : World) (mg : Str → Option Value) (fa : Addr) (h : Heap), (K w.params).In h → h.Ns mainGlobals mg → mg d.name = some (.ref fa) →
      ∀ base : Heap, (K w.params).In base → base.Ns mainGlobals mg → FnG l.prog w (K w.params) mg base CX0 k fa (sp w))
    (hsp : ∀ (w : World) (H : Hp) (a : Addr) (ns : List Int), ns.length ≤ n → Only H → SqL (K w.params) H a (ns.map V.int) → sp w [.ref a] H (fun v _ => v = .bl true) fun _ _ _ => False) :
    PySem.W.WalkO q loose XP YP l.row.toRowW d [] (fun f vs => PySem.call f vs) := by
  refine Att.attach_call hn hdf fun w s0 s1 mg mb fa o pm cd doc a vs ns G Y ho hd hcd hmg hobj hints hlen hg => ?_
  have KX := hY w _ Y
  exact end_callG KX G.T.g G.T.b G.T.builtins G.T.nolimit hg hr hobj hints (Nat.le_trans hlen hn2) (F w mg fa _ KX G.T.g hmg) fun H hO hS => hsp w H a ns hlen hO hS
end Ow
end
section
set_option maxHeartbeats 4000000
/-! Own errors with a def of their own that keeps the fields: raise C(e), raise C(e, e'). -/
namespace Ow
open PySem PySem.Spec PyProof.Rows L2 StX
section
variable {P : Program} {w : World} {K : PySem.W.Frag} {mg : Str → Option Value} {base : Heap} {x qual : Str} {st : Stmt} {f : Addr}
/-- a def without defaults that may let errors out -/
theorem FnT.okX {N ps : List Str} {k : Nat} {sp : Sp} (F : FnT K x qual st [] f) (S : FnScope N ps (defScope st))
    (hb : ∀ (kV doc pm : Value) (an : Option Addr) (cdv ct : Value) (us : List Value), us.length = ps.length → bindArgs (PySem.W.fnOf x qual (defArgs st) (defBody st) (defScope st) .none kV doc pm an cdv ct) ⟨us, []⟩ = pure (ps.zip us))
    (len : ∀ vs H Q E, sp vs H Q E → vs.length = ps.length)
    (hbody : ∀ (cdv : Value) (A : Around) (outer : List Env) (s : Shared) (H : Hp) (vs : List V) (Q : VK) (E : XK), Room k (A.deeper (envOfC qual (defScope st) s.heap.objs.size f cdv)) → sp vs H Q E →
      ∃ t, PSs (cxOf (CX P w) P w K mg base N qual (defScope st) f cdv A outer s H E) (defBody st) t ∧ t { nx := fun _ H' => Q .non H', rt := Q } (start N vs) H) : FnR P w K mg base (CX P w) (k + 1) f sp := by
  obtain ⟨fd, F⟩ := F
  have ok : FnOk P w K mg base (CX P w) (k + 1) f fd ps sp := F.ok S len hbody
  have b : Binds K fd ps [] := F.bindsN hb
  exact (ok.raw b .nil).imp fun vs H Q E h => by rw [List.append_nil]; exact h
/-- .. with defaults -/
theorem FnT.okDX {N ps : List Str} {k n j : Nat} {sp : Sp} {dvs : List V} (F : FnT K x qual st dvs f) (S : FnScope N ps (defScope st)) (hd : dvs ≠ []) (hn : n + (dvs.length - j) = ps.length)
    (hb : ∀ (T : Addr) (kV doc pm : Value) (an : Option Addr) (cdv ct : Value) (us its : List Value), us.length = n → its.length = dvs.length →
      ∃ k, bindArgs (PySem.W.fnOf x qual (defArgs st) (defBody st) (defScope st) (.ref T) kV doc pm an cdv ct) ⟨us, []⟩ = seqItems? (.ref T) >>= k ∧ k (some its.toArray) = pure (ps.zip (us ++ its.drop j)))
    (len : ∀ vs H Q E, sp vs H Q E → vs.length = ps.length)
    (hbody : ∀ (cdv : Value) (A : Around) (outer : List Env) (s : Shared) (H : Hp) (vs : List V) (Q : VK) (E : XK), Room k (A.deeper (envOfC qual (defScope st) s.heap.objs.size f cdv)) → sp vs H Q E →
      ∃ t, PSs (cxOf (CX P w) P w K mg base N qual (defScope st) f cdv A outer s H E) (defBody st) t ∧ t { nx := fun _ H' => Q .non H', rt := Q } (start N vs) H) : FnR P w K mg base (CX P w) (k + 1) f (fun vs H Q E => sp (vs ++ dvs.drop j) H Q E) := by
  obtain ⟨fd, F⟩ := F
  have ok : FnOk P w K mg base (CX P w) (k + 1) f fd ps sp := F.ok S len hbody
  obtain ⟨ds, hds, b⟩ := F.binds1 n j hd hn hb
  exact ok.raw b hds
/-- an own error's class, whose __init__ stands at g -/
structure ErrF (K : PySem.W.Frag) (C g : Addr) : Prop where
  ox : OexC K C
  iC : PySem.W.findIn K (.ref C) "__init__" = some (some (.ref g))
  tI : PySem.W.typeIn K (.ref g) = some (.type "function")
/-- __init__(self, v): self.f = v -/
def spErr1 (C : Addr) (n : Str) : Sp := fun vs H Q _ => ∃ (a : Addr) (v : V), vs = [.ref a, v] ∧ H a = some (exo a C none) ∧ ∀ dx, H dx = none → dx ≠ a → Q .non (upd (upd H dx (exd dx [(n, v)])) a (exo a C (some dx)))
/-- __init__(self, v, u): self.f = v; self.g = u -/
def spErr2 (C : Addr) (n m : Str) : Sp := fun vs H Q _ => ∃ (a : Addr) (v u : V), vs = [.ref a, v, u] ∧ H a = some (exo a C none) ∧ ∀ dx, H dx = none → dx ≠ a → Q .non (upd (upd H dx (exd dx [(m, u), (n, v)])) a (exo a C (some dx)))
theorem raise_heap {H : Hp} {a d : Addr} {C : Addr} {fs : List (Str × V)} (ha : H a = none) (hne : d ≠ a) :
    upd (del (upd (upd (upd H a (exo a C none)) d (exd d fs)) a (exo a C (some d))) a) d (.xd fs) = upd H d (.xd fs) := by
  funext b
  by_cases e : b = d
  · subst e; rw [upd_same, upd_same]
  · rw [upd_ne e, upd_ne e]
    by_cases e2 : b = a
    · subst e2
      rw [ha]
      exact if_pos rfl
    · show (if b = a then none else _) = _
      rw [if_neg e2, upd_ne e2, upd_ne e, upd_ne e2]
/-- what making such an error asks: the reading of pmk_oex, its fields told -/
theorem err1_made {Q : XK} {H1 : Hp} {v : V} {C : Addr} {n : Str} (k : ∀ d, H1 d = none → Q (.ref C) (some d) (upd H1 d (.xd [(n, v)]))) :
    [v].length ≤ 1000 ∧ ∀ a, H1 a = none → spErr1 C n (.ref a :: ([v] ++ [])) (upd H1 a (exo a C none)) (fun u H2 => u = .non ∧ ∃ (d : Addr) (fs : List (Str × V)), H2 a = some (exo a C (some d)) ∧ H2 d = some (exd d fs) ∧ H1 d = none ∧ Q (.ref C) (some d) (upd (del H2 a) d (.xd fs))) (fun _ _ _ => False) := by
  refine ⟨Nat.le_of_ble_eq_true rfl, fun a ha => ⟨a, v, rfl, upd_same, fun dx hdx ne => ⟨rfl, dx, _, upd_same, by rw [upd_ne ne]; exact upd_same, by rw [upd_ne ne] at hdx; exact hdx, ?_⟩⟩⟩
  rw [raise_heap ha ne]
  refine k dx ?_
  rw [upd_ne ne] at hdx
  exact hdx
theorem err2_made {Q : XK} {H1 : Hp} {v u : V} {C : Addr} {n m : Str} (k : ∀ d, H1 d = none → Q (.ref C) (some d) (upd H1 d (.xd [(m, u), (n, v)]))) :
    [v, u].length ≤ 1000 ∧ ∀ a, H1 a = none → spErr2 C n m (.ref a :: ([v, u] ++ [])) (upd H1 a (exo a C none)) (fun u H2 => u = .non ∧ ∃ (d : Addr) (fs : List (Str × V)), H2 a = some (exo a C (some d)) ∧ H2 d = some (exd d fs) ∧ H1 d = none ∧ Q (.ref C) (some d) (upd (del H2 a) d (.xd fs))) (fun _ _ _ => False) := by
  refine ⟨Nat.le_of_ble_eq_true rfl, fun a ha => ⟨a, v, u, rfl, upd_same, fun dx hdx ne => ⟨rfl, dx, _, upd_same, by rw [upd_ne ne]; exact upd_same, by rw [upd_ne ne] at hdx; exact hdx, ?_⟩⟩⟩
  rw [raise_heap ha ne]
  refine k dx ?_
  rw [upd_ne ne] at hdx
  exact hdx
/-- a def without defaults that lets nothing out: its promise by binds, for makings of errors -/
theorem FnT.okB {N ps : List Str} {k : Nat} {sp : Sp} (F : FnT K x qual st [] f) (S : FnScope N ps (defScope st))
    (hb : ∀ (kV doc pm : Value) (an : Option Addr) (cdv ct : Value) (us : List Value), us.length = ps.length → bindArgs (PySem.W.fnOf x qual (defArgs st) (defBody st) (defScope st) .none kV doc pm an cdv ct) ⟨us, []⟩ = pure (ps.zip us))
    (len : ∀ vs H Q E, sp vs H Q E → vs.length = ps.length)
    (hbody : ∀ (cdv : Value) (A : Around) (outer : List Env) (s : Shared) (H : Hp) (vs : List V) (Q : VK) (E : XK), Room k (A.deeper (envOfC qual (defScope st) s.heap.objs.size f cdv)) → sp vs H Q E →
      ∃ t, PSs (cxOf CX0 P w K mg base N qual (defScope st) f cdv A outer s H E).nox (defBody st) t ∧ t { nx := fun _ H' => Q .non H', rt := Q } (start N vs) H) : ∃ fd, FnOk P w K mg base CX0 (k + 1) f fd ps sp ∧ Binds K fd ps [] := by
  obtain ⟨fd, F⟩ := F
  exact ⟨fd, F.ok S len fun cdv A outer s H vs Q E hr hsp => by
    obtain ⟨t, h, q⟩ := hbody cdv A outer s H vs Q E hr hsp
    exact ⟨t, h.nox, q⟩, F.bindsN hb⟩
/-- v is no integer (a bool is none) -/
def NoInt (K : PySem.W.Frag) (H : Hp) (v : V) : Prop := (∃ b, v = .bl b) ∨ ∃ T : String, TyX K H v (.type T) ∧ PySem.W.kitOne K (.type T) (.type "int") = some false
theorem kit_bool_int {K : PySem.W.Frag} : PySem.W.kitOne K (.type "bool") (.type "int") = some true := kit_ty (by decide +kernel)
theorem NoInt.non {H : Hp} : NoInt K H .non := .inr ⟨_, .base .non, kit_ty (by decide +kernel)⟩
theorem NoInt.bl {H : Hp} {b : Bool} : NoInt K H (.bl b) := .inl ⟨b, rfl⟩
theorem NoInt.str {H : Hp} {z : Str} : NoInt K H (.str z) := .inr ⟨_, .base (.str z), kit_ty (by decide +kernel)⟩
theorem NoInt.lst {H : Hp} {l : Addr} {xs : List V} (h : H l = some (.lst xs)) : NoInt K H (.ref l) := .inr ⟨_, .base (.lst h), kit_ty (by decide +kernel)⟩
theorem NoInt.tup {H : Hp} {l : Addr} {xs : List V} (h : H l = some (.tup xs)) : NoInt K H (.ref l) := .inr ⟨_, .base (.tup h), kit_ty (by decide +kernel)⟩
theorem NoInt.dict {H : Hp} {l : Addr} {kvs : List (Key × V)} (h : H l = some (.dK kvs)) : NoInt K H (.ref l) := .inr ⟨_, .base (.dK h), kit_ty (by decide +kernel)⟩
/-- is_int of any value -/
def spIntV (K : PySem.W.Frag) : Sp := fun vs H Q _ => ∃ v, vs = [v] ∧ ((∃ i : Int, v = .int i ∧ Q (.bl true) H) ∨ (NoInt K H v ∧ Q (.bl false) H))
/-- the error of the class at B lets out, with one field -/
def Out1 (B : Addr) (n : Str) (H : Hp) (E : XK) (v : V) : Prop := ∀ d, H d = none → E (.ref B) (some d) (upd H d (.xd [(n, v)]))
theorem TyOf.same {H H' : Hp} {v : V} {t : Value} (h : TyOf K H v t) (m : ∀ b o, H b = some o → H' b = some o) : TyOf K H' v t := by
  cases h with
  | non => exact .non
  | bl x => exact .bl x
  | int i => exact .int i
  | str x => exact .str x
  | flt x => exact .flt x
  | lst h => exact .lst (m _ _ h)
  | frz h => exact .frz (m _ _ h)
  | tup h => exact .tup (m _ _ h)
  | dK h => exact .dK (m _ _ h)
  | dT h => exact .dT (m _ _ h)
  | ins h c a b d e => exact .ins (m _ _ h) c a b d e
theorem TyX.same {H H' : Hp} {v : V} {t : Value} (h : TyX K H v t) (m : ∀ b o, H b = some o → H' b = some o) : TyX K H' v t := by
  cases h with
  | base h => exact .base (TyOf.same h m)
  | byt b => exact .byt b
  | set h => exact .set (m _ _ h)
  | kList h c => exact .kList h c
  | kTuple h c => exact .kTuple h c
  | kDict h c => exact .kDict h c
  | fTuple h => exact .fTuple (m _ _ h)
  | fDict h => exact .fDict (m _ _ h)
theorem NoInt.same {H H' : Hp} {v : V} (h : NoInt K H v) (m : ∀ b o, H b = some o → H' b = some o) : NoInt K H' v := by
  rcases h with h | ⟨t, h, q⟩
  · exact .inl h
  · exact .inr ⟨t, TyX.same h m, q⟩
/-- .. from a heap that has grown -/
def OutS (B : Addr) (n : Str) (H : Hp) (E : XK) (v : V) : Prop := ∀ H', (∀ b o, H b = some o → H' b = some o) → Out1 B n H' E v
end
/-- what a callee lets out leaves the def -/
theorem passUp {X : Cx} {E : XK} (tk : Takes X fun cls d _ H => E cls d H) : Passes (CX X.prog X.w) X E := fun pins σ H s e s' I h => passAt tk σ pins H s e s' I h
end Ow
end
section
set_option maxHeartbeats 4000000
/-! isinstance of a caught own error that keeps fields; what a def that tries its argument tells. -/
namespace Ow
open PySem PySem.Spec PyProof.Rows L2 StX
section
variable {X : Cx} {a : Addr} {oe : Obj} {cls : Value} {d : Option Addr} {pn : List (Addr × Obj)}
/-- isinstance(error, T): error the caught one, with its fields at dd -/
def rIsEX (K : PySem.W.Frag) (a : Addr) (cls : Value) (d : Option Addr) : List V → Hp → VK → Prop := fun xs H Q => ∃ (c : V) (cv : Value) (b : Bool) (D dd : Addr) (fs : List (Str × V)),
  xs = [.ref a, c] ∧ cls = .ref D ∧ ExcC K D ∧ (PySem.W.clsIn K D).isSome = true ∧ d = some dd ∧ H dd = some (.xd fs) ∧ (∀ u, RelV c u → u = cv) ∧ PySem.W.kitOne K (.ref D) cv = some b ∧ Q (.bl b) H
theorem call_isEX (hz : Zc cls d oe) (hf : ∃ vs, oe.data = .fields vs) : CallR (X.suite a ((a, oe) :: pn)) (.builtin "isinstance") (rIsEX X.K a cls d) := by
  intro pins s σ H xs us Q I r h
  obtain ⟨c, cv, b, D, dd, fs, rfl, rfl, C, hci, rfl, hdd, hcv, hk, q⟩ := h
  cases r with
  | cons rx r2 =>
    cases r2 with
    | cons rc r3 =>
      cases r3
      cases rx
      cases hcv _ rc
      obtain ⟨hget, _⟩ := I.pin (a, oe) (List.mem_append.mpr (.inl List.mem_cons_self))
      obtain ⟨vs, hv⟩ := hf
      obtain ⟨z1, z2⟩ := hz
      obtain ⟨od, hod⟩ : ∃ o, s.heap.get? dd = some o := by
        have := I.hok dd _ hdd
        obtain ⟨mA, ⟨o, _, _, e, _⟩, _⟩ := this
        exact ⟨o, e⟩
      have J : PySem.W.InstAt s.heap a oe D (some od) := ⟨hget, z1, by unfold PySem.W.notCls; rw [hv], by rw [z2]; exact hod⟩
      refine PySem.W.kia_one (PySem.W.kitx_exc (x := a) (ox := oe) (od := some od) hci C.hg C.hk C.hs C.ha C.hn C.ht C.hm) I.kIn J hk (fun z => by cases z) fun tk => ?_
      exact ⟨.bl b, H, I.kept fun _ _ e => e, rfl, q⟩
end
/-- return (z, ask()), ask a handed lambda that may raise -/
theorem ret_told {X : Cx} {f c' : Addr} {q z : Str} {tl : XK → Hp → VK → Prop} {W : WX} {n : Str} {j ct : Nat} {p0 p1 p2 pt ps : Pos}
    (act : ∀ E : XK, (∀ cls d σ' H', E cls d H' → W cls d σ' H') → PE X (.Call (.Name n p1) [] [] p2) (fun σZ HZ Q => σZ[0]? = some (some (.ref f)) ∧ HZ c' = some (LamX.CodeO c' q) ∧ tl E HZ Q)) :
    PSs X [.Return (some (.Tuple [.Constant (.str z) j p0, .Call (.Name n p1) [] [] p2] ct pt)) ps] (fun D σ H => ∃ Ech : XK, (∀ cls d σ' H', Ech cls d H' → W cls d σ' H') ∧ σ[0]? = some (some (.ref f)) ∧ H c' = some (LamX.CodeO c' q) ∧
      tl Ech H (fun v H1 => [V.str z, v].length ≤ sizeLine ∧ ∀ p, H1 p = none → D.rt (.ref p) (upd H1 p (.tup [.str z, v])))) := by
  refine ⟨fun pins s' σ H' D I ⟨Ech, hW, h1, h2, h3⟩ => ?_⟩
  exact (pss_one (ps_ret (pe_tup (pa_cons pe_str (pa_cons (act Ech hW) pa_nil))))).run pins s' σ H' D I ⟨h1, h2, h3⟩
/-- as many slots as names stand at each statement -/
theorem pss_len {X : Cx} {b : List Stmt} {t : TS} (n : Nat) (hn : X.N.length = n) (h : PSs X b t) : PSs X b (fun D σ H => σ.length = n → t D σ H) := ⟨fun pins s σ H D I q => h.run pins s σ H D I (q (I.len.trans hn))⟩
/-- an own class against another one -/
theorem kit_err {K : PySem.W.Frag} {C : Addr} {t : Value} {b : Bool} (hi : (PySem.W.clsIn K C).isSome = true) (ht : PySem.W.typeIn K (.ref C) = some (.type "type")) (h : PySem.W.subIn K t (.ref C) = some b) (hb : (t == Value.ref C) = false) : PySem.W.kitOne K t (.ref C) = some b := by
  unfold PySem.W.kitOne
  rw [if_neg (by rw [hb]; exact Bool.false_ne_true)]
  show (if ((PySem.W.clsIn K C).isSome && PySem.W.typeIn K (.ref C) == some (.type "type")) = true then PySem.W.subIn K t (.ref C) else none) = some b
  rw [hi, ht]
  rw [if_pos (by rfl)]
  exact h
end Ow
end
section
set_option maxHeartbeats 4000000
/-! A comparison of an own instance with a value of another kind. -/
namespace Ow
open PySem PySem.Spec PyProof.Rows L2 StX
section
variable {X : Cx} {CX : CXT} {n : Nat} {C g : Addr} {sp : Sp} {E : XK}
/-- x op y: x an instance of C, y of the type t, that is not below C -/
def rBinT (K : PySem.W.Frag) (C : Addr) (sp : Sp) (E : XK) : R2 := fun x y H Q => ∃ (a : Addr) (t : Value), x = .ref a ∧ InsAt H a C ∧ TyX K H y t ∧ PySem.W.notFirst K C t = true ∧ sp [x, y] H Q E
theorem op_cmpT {op : CmpOp} (hop : ∀ a b, compareOp op a b = richCompare op a b) (hs : PySem.W.findIn X.K (.ref C) (cmpInfo op).2.1 = some (some (.ref g))) (hf : PySem.W.isFn X.K (.ref g) = true)
    (F : FnR X.prog X.w X.K X.mg X.base CX n g sp) (hr : Room n X.A) (hx : Passes CX X E) : OpR X (compareOp op) (rBinT X.K C sp E) := by
  intro pins s σ H x y v u Q I rx ry h
  obtain ⟨a, t, rfl, ha, ht, hn, q⟩ := h
  cases (show v = Value.ref a from rx)
  obtain ⟨ox, od, J⟩ := inst_of I ha
  obtain ⟨m, hF⟩ := I.fr
  obtain ⟨Pk, k, hk, _⟩ := kit_of I ry ht
  rw [hop]
  refine PySem.W.cmp_K (op := op) (tb := t) hr.units0 hF I.ok.mod.kin J (k.ty _ _ I.kIn hk) hn hs hf ?_
  refine wpAny_mono (wpAny_call (run_fnR (us := [.ref a, u]) (vs := [.ref a, y]) F hr hx I (.cons rfl (.cons ry .nil)) q)) (fun w s' z => ?_) fun _ _ x => x
  obtain ⟨z', H', I', rz, qz⟩ := z
  exact cmpbackR rz ⟨z', H', I', rz, qz⟩
theorem notFirst_of {K : PySem.W.Frag} {T : String} (h : PySem.W.subIn K (.type T) (.ref C) = some false) : PySem.W.notFirst K C (.type T) = true := by
  unfold PySem.W.notFirst
  rw [h]
  simp
end
end Ow
end
section
set_option maxHeartbeats 4000000
/-! A law whose def hands lambdas over: its code is told, and the code's table. -/
namespace Ow
open PySem PySem.Spec PyProof.Rows L2 StX
section
variable {P : Program} {w : World} {K : PySem.W.Frag} {mg : Str → Option Value} {base : Heap} {x qual : Str} {st : Stmt} {f c : Addr}
/-- a def of the text without defaults, its code at c -/
def FnC (K : PySem.W.Frag) (x qual : Str) (st : Stmt) (f c : Addr) : Prop := ∃ (oc : Value) (od an : Option Addr) (kV doc pm ct : Value) (osl : Array (Option Value)),
  K.lookup f = some ⟨oc, od, .func (PySem.W.fnOf x qual (defArgs st) (defBody st) (defScope st) .none kV doc pm an (.ref c) ct), osl⟩ ∧ PySem.W.codeIn K (.ref c) qual = true
theorem FnC.mk {oc : Value} {od an : Option Addr} {kV doc pm ct : Value} {osl : Array (Option Value)} (l : K.lookup f = some ⟨oc, od, .func (PySem.W.fnOf x qual (defArgs st) (defBody st) (defScope st) .none kV doc pm an (.ref c) ct), osl⟩) (h : PySem.W.codeIn K (.ref c) qual = true) : FnC K x qual st f c := ⟨oc, od, an, kV, doc, pm, ct, osl, l, h⟩
theorem FnC.ok {N ps : List Str} (F : FnC K x qual st f c) (S : FnScope N ps (defScope st))
    (hb : ∀ (kV doc pm : Value) (an : Option Addr) (cdv ct : Value) (us : List Value), us.length = ps.length → bindArgs (PySem.W.fnOf x qual (defArgs st) (defBody st) (defScope st) .none kV doc pm an cdv ct) ⟨us, []⟩ = pure (ps.zip us)) :
    ∃ fd : FuncData, (∀ (s : Shared) (us : List Value), us.length = ps.length → BindsTo s fd ⟨us, []⟩ (ps.zip us)) ∧ ∀ (P : Program) (w : World) (mg : Str → Option Value) (base : Heap) (k : Nat) (sp : Sp), (∀ vs H Q E, sp vs H Q E → vs.length = ps.length) →
      (∀ (A : Around) (outer : List Env) (s : Shared) (H : Hp) (vs : List V) (Q : VK) (E : XK), Room k (A.deeper (envOfC qual (defScope st) s.heap.objs.size f (.ref c))) → sp vs H Q E →
        ∃ t, PSs (cxOf CX0 P w K mg base N qual (defScope st) f (.ref c) A outer s H E).nox (defBody st) t ∧ t { nx := fun _ H' => Q .non H', rt := Q } (start N vs) H) → FnOk P w K mg base CX0 (k + 1) f fd ps sp := by
  obtain ⟨oc, od, an, kV, doc, pm, ct, osl, lk, hcd⟩ := F
  refine ⟨_, fun s us hu => BindsTo.of_eq (hb kV doc pm an (.ref c) ct us hu), fun P w mg base k sp len hbody => ⟨len, fun A outer s H args us vs Q E hr e0 b r hs => ?_⟩⟩
  refine LamX.run_ofS lk hcd S hr e0 b r (len _ _ _ _ hs) fun hr2 => ?_
  obtain ⟨t, h, q⟩ := hbody A outer s H vs Q E hr2 hs
  exact ⟨t, h.nox, q⟩
/-- a code object, its table at T -/
theorem codeHd_mk {h : Heap} {T : Addr} {od : Option Addr} {vs : Array Value} {osl : Array (Option Value)} {file : Str} {tf : Tok} {flags text : Int} {tg tt : Tok} {inF : Bool} (X : K.In h) (l : K.lookup c = some ⟨.type "code", od, .fields vs, osl⟩)
    (e1 : vs[11]? = some (.ref T)) (e2 : vs.getD 11 .none = .ref T) (e3 : vs.getD 18 .none = .str file tf) (e4 : vs.getD 7 .none = .int flags tg) (e5 : vs.getD 9 .none = .bool inF) (e6 : vs.getD 10 .none = .int text tt) (ne : c ≠ T) : PySem.W.CodeHd h c T :=
  ⟨_, vs, file, tf, flags, tg, inF, text, tt, X _ _ l, rfl, rfl, e1, e2, e3, e4, e5, e6, ne⟩
end
/-- a table is not of the written part -/
theorem km_none {K : Params → PySem.W.Frag} {as ts : List Addr} {e : ∀ P, as = (K P).map fun x => x.1} {w : World} {h : Heap} (_ : (PySem.W.kmHook K as e ts).says w h) {T : Addr} (n : as.contains T = false) : List.lookup T (K w.params) = none := by
  rw [List.lookup_eq_none_iff]
  intro p hp
  have m : p.1 ∈ as := by rw [e w.params]; exact List.mem_map.mpr ⟨p, hp, rfl⟩
  refine bne_iff_ne.mpr fun q => ?_
  rw [← q] at m
  have := List.contains_iff_mem.mpr m
  rw [n] at this
  cases this
end Ow
end
section
set_option maxHeartbeats 4000000
/-! A def with defaults and without keyword-only parameters, called by keywords. -/
namespace Ow
open PySem PySem.Spec PyProof.Rows L2 StX
section
variable {K : PySem.W.Frag} {x qual : Str} {params : Arguments} {body : List Stmt} {scope : PySem.Scope} {dvs : List V} {kws : List (Str × V)} {f : Addr} {fd : FuncData} {ps : List Str}
/-- n arguments by place, ks by keyword; g puts the defaults in -/
theorem kbnD (F : FunD K x qual params body scope dvs kws f fd) (n : Nat) (ks : List Str) (g : {α : Type} → List α → List α → List α → List α) (hd : dvs ≠ [])
    (hg : ∀ {vs ds zs : List V} {us its ws : List Value}, Vals vs us → Vals ds its → Vals zs ws → Vals (g vs ds zs) (g us its ws))
    (h : ∀ (T : Addr) (kV doc pm : Value) (an : Option Addr) (cdv ct : Value) (us its ws : List Value), us.length = n → its.length = dvs.length → ws.length = ks.length →
      ∃ k, bindArgs (PySem.W.fnOf x qual params body scope (.ref T) kV doc pm an cdv ct) ⟨us, ks.zip ws⟩ = seqItems? (.ref T) >>= k ∧ k (some its.toArray) = pure (ps.zip (g us its ws))) :
    ∃ its, KBn K fd ps n ks (fun us ws => g us its ws) fun vs zs => g vs dvs zs := by
  obtain ⟨oc, od, dV, kV, doc, pm, an, cdv, ct, osl, rfl, lk, hcd, hD, hK⟩ := F.ex
  rcases hD with ⟨e, _⟩ | ⟨_, T, o, its, m, rfl, lT, oT, rT⟩
  · exact absurd e hd
  refine ⟨its, ⟨fun s us ws X hu hw => ?_, fun r1 r2 => hg r1 rT r2⟩⟩
  obtain ⟨k, e1, e2⟩ := h T kV doc pm an cdv ct us its ws hu rT.length.symm hw
  exact BindsTo.of_looks fun M => by
    rw [e1]
    exact looks_items X lT oT (PySem.W.Looks.of_pure e2)
end
section
variable {X : Cx} {CX : CXT} {k : Nat} {f : Addr} {fd : FuncData} {ps ks : List Str} {sp : Sp} {E : XK} {x : Str} {p pos : Pos} {kws : List Keyword} {tk : TA} {g : List Value → List Value → List Value} {gV : List V → List V → List V}
/-- f(k=e, ..): by keywords alone -/
def tCallKO (m : Nat) (sp : Sp) (gV : List V → List V → List V) (E : XK) (tk : TA) : TE := fun σ H Q => tk σ H fun zs H2 => zs.length = m ∧ sp (gV [] zs) H2 Q E
theorem pe_callKO (F : FnOk X.prog X.w X.K X.mg X.base CX k f fd ps sp) (hr : Room k X.A) (hg : Gl X x) (hm : X.mg x = some (.ref f)) (hk : PySem.W.keepIn X.K (.ref f) = true) (hb : KBn X.K fd ps 0 ks g gV) (hx : Passes CX X E) (hkw : PK X kws tk)
    (hall : ((backToKw pos (keywordEach kws X.env)).all fun x => x.1.isSome) = true := by rfl) (hks : List.filterMap (fun x => x.1) (backToKw pos (keywordEach kws X.env)) = ks := by rfl) (hdb : (x == Str.ofString "__debug__") = false := by decide)
    (hpl : (((backTo pos (starEach [] X.env)).any fun x => x.1) || (backToKw pos (keywordEach kws X.env)).any fun x => x.1.isNone) = false := by rfl) :
    PE X (.Call (.Name x p) [] kws pos) (tCallKO ks.length sp gV E tk) := by
  refine ⟨fun pins s σ H Q I h => ?_⟩
  refine wpAny_Call_Name_kw (ld_glob I hg hm ?_ hdb)
  refine PySem.W.callWith_KW0 I.ok.mod.kin hk hall (thn (hkw.run pos pins s σ H _ I h) fun ws s2 z => ?_) hpl
  obtain ⟨zs, H2, I2, rz, l2, q2⟩ := z
  refine ⟨I2.kIn, ?_⟩
  rw [hks]
  exact run_fnN (us := []) (vs := []) F hr hb hx I2 .nil rz rfl l2 q2
end
end Ow
end
section
set_option maxHeartbeats 4000000
/-! `x in o`, `x not in o` and `str(o)` where o is an instance of an own class that defines them. -/
namespace Ow
open PySem PySem.Spec PyProof.Rows L2

theorem unlessNone_fn {K : PySem.W.Frag} {M : Model} {A : Around} {E : Value → Shared → Prop} {s : Shared} {x C f : Addr} {ox : Obj} {od : Option Obj} {name : Str} {args : List Value} {refuse : Sem Value} {Q : Option Value → Shared → Prop}
    (X : K.In s.heap) (I : PySem.W.InstAt s.heap x ox C od) (hs : PySem.W.findIn K (.ref C) name = some (some (.ref f))) (hf : PySem.W.typeIn K (.ref f) = some (.type "function"))
    (h : wpAny M A (call (.ref f) (.ref x :: args)) (fun v => Q (some v)) E s) : wpAny M A (callSpecialUnlessNone? (.ref x) name args refuse) Q E s :=
  wpAny_bind (wpAny_bind (I.type.here ((PySem.W.looks_findIn X hs).here (wpAny_holding (wpAny_bind ((PySem.W.bind_fn X _ hf).here (wpAny_bind (wpAny_mono h (fun _ _ z => wpAny_pure z) fun _ _ z => z))))))))

theorem contains_own {K : PySem.W.Frag} {M : Model} {A : Around} {E : Value → Shared → Prop} {s : Shared} {x C f : Addr} {ox : Obj} {od : Option Obj} {v : Value} {Q : Bool → Shared → Prop}
    (X : K.In s.heap) (I : PySem.W.InstAt s.heap x ox C od) (hs : PySem.W.findIn K (.ref C) "__contains__" = some (some (.ref f))) (hf : PySem.W.isFn K (.ref f) = true)
    (h : wpAny M A (call (.ref f) [.ref x, v]) (fun r s' => ∃ b, r = .bool b ∧ Q b s') E s) : wpAny M A (contains (.ref x) v) Q E s := by
  unfold contains
  refine wpAny_holding ?_
  refine wpAny_bind (m := specialOf (.ref x) "__contains__") (wpAny_bind (I.type.here ((PySem.W.looks_findIn X hs).here ?_)))
  dsimp only
  rw [if_neg (show ¬ (some (Value.ref f) == some Value.none) = true from fun z => by cases z)]
  refine wpAny_bind (m := callSpecialUnlessNone? (.ref x) (Str.ofString "__contains__") [v] _) (unlessNone_fn X I hs (beq_iff_eq.mp hf) (wpAny_mono h (fun r s' z => ?_) fun _ _ z => z))
  obtain ⟨b, rfl, q⟩ := z
  exact wpAny_truthy_bool q

section
variable {X : Cx} {CX : CXT} {n : Nat} {C g : Addr} {sp : Sp} {E : XK}
/-- x in o, o an instance of C -/
def rInO (C : Addr) (sp : Sp) (E : XK) (f : Bool → Bool) : R2 := fun x y H Q => ∃ a, y = .ref a ∧ InsAt H a C ∧ sp [y, x] H (fun v H' => ∃ b, v = .bl b ∧ Q (.bl (f b)) H') E
theorem op_inO (hs : PySem.W.findIn X.K (.ref C) "__contains__" = some (some (.ref g))) (hf : PySem.W.isFn X.K (.ref g) = true)
    (F : FnR X.prog X.w X.K X.mg X.base CX n g sp) (hr : Room n X.A) (hx : Passes CX X E) : OpR X (compareOp .In) (rInO C sp E id) := by
  intro pins s σ H x y v u Q I rx ry h
  obtain ⟨a, rfl, ha, q⟩ := h
  cases (show u = Value.ref a from ry)
  obtain ⟨ox, od, J⟩ := inst_of I ha
  obtain ⟨m, hF⟩ := I.fr
  refine wpAny_bind (contains_own (I.ok.mod.kin.keeps hF.keep) J hs hf ?_)
  refine wpAny_mono (wpAny_call (run_fnR (us := [.ref a, v]) (vs := [.ref a, x]) F hr hx I (.cons rfl (.cons rx .nil)) q)) (fun w s' z => ?_) fun _ _ x => x
  obtain ⟨z', H', I', rz, b, rfl, qz⟩ := z
  exact ⟨b, rz, wpAny_pure ⟨.bl b, H', I', rfl, qz⟩⟩
theorem op_notInO (hs : PySem.W.findIn X.K (.ref C) "__contains__" = some (some (.ref g))) (hf : PySem.W.isFn X.K (.ref g) = true)
    (F : FnR X.prog X.w X.K X.mg X.base CX n g sp) (hr : Room n X.A) (hx : Passes CX X E) : OpR X (compareOp .NotIn) (rInO C sp E fun b => !b) := by
  intro pins s σ H x y v u Q I rx ry h
  obtain ⟨a, rfl, ha, q⟩ := h
  cases (show u = Value.ref a from ry)
  obtain ⟨ox, od, J⟩ := inst_of I ha
  obtain ⟨m, hF⟩ := I.fr
  refine wpAny_bind (contains_own (I.ok.mod.kin.keeps hF.keep) J hs hf ?_)
  refine wpAny_mono (wpAny_call (run_fnR (us := [.ref a, v]) (vs := [.ref a, x]) F hr hx I (.cons rfl (.cons rx .nil)) q)) (fun w s' z => ?_) fun _ _ x => x
  obtain ⟨z', H', I', rz, b, rfl, qz⟩ := z
  exact ⟨b, rz, wpAny_pure ⟨.bl (!b), H', I', rfl, qz⟩⟩
/-- a callee runs further down than the body -/
theorem run_fnRS {pins : List (Addr × Obj)} {σ : L2.St} {H : Hp} {s : Shared} {A : Around} {Q : VK} {us : List Value} {vs : List V} (F : FnR X.prog X.w X.K X.mg X.base CX n g sp) (hr : Room n A) (hfr : A.frames = X.A.frames) (hx : Passes CX X E) (I : Inv X pins σ H s) (r : Vals vs us) (h : sp vs H Q E) :
    codeAny (model X.prog X.w) A (.call (.ref g) ⟨us, []⟩) (fun r s' => match r with | .ok (.ret v) => EP X pins σ Q v s' | .ok _ => False | .error e => X.xe e s') s := by
  have e0 : Env0 X.prog X.w X.K X.mg X.base A X.stack s H := by
    have e := I.env0
    exact ⟨by rw [hfr]; exact e.frames, e.mod, e.bs, e.bsz, e.funs, e.frf, e.hok, e.bare⟩
  refine codeAny_mono (F A X.stack s H us vs Q E hr e0 r h) fun r s' hq => ?_
  cases r with
  | error e => exact hx pins σ H s e s' I hq
  | ok fl =>
    cases fl with
    | ret u => exact I.after hq
    | next => exact False.elim hq
    | brk => exact False.elim hq
    | cont => exact False.elim hq
/-- str(o), o an instance of C that has a __str__ -/
def rStrO (C : Addr) (sp : Sp) (E : XK) : List V → Hp → VK → Prop := fun xs H Q => ∃ a, xs = [.ref a] ∧ InsAt H a C ∧ sp [.ref a] H (fun v H' => ∃ t, v = .str t ∧ Q (.str t) H') E
theorem call_strO (hs : PySem.W.findIn X.K (.ref C) "__str__" = some (some (.ref g))) (hf : PySem.W.isFn X.K (.ref g) = true)
    (F : FnR X.prog X.w X.K X.mg X.base CX n g sp) (hr : Room (n + 2) X.A) (hx : Passes CX X E) : CallR X (.type "str") (rStrO C sp E) := by
  intro pins s σ H xs us Q I r h
  obtain ⟨a, rfl, ha, q⟩ := h
  obtain ⟨u, rfl, ru⟩ := vals1 r
  cases (show u = Value.ref a from ru)
  obtain ⟨ox, od, J⟩ := inst_of I ha
  obtain ⟨m, hF⟩ := I.fr
  refine PySem.W.kso_call hr.in1.in1.units0 (I.ok.mod.kin.keeps hF.keep) J hs hf ?_
  refine wpAny_mono (wpAny_call (run_fnRS (us := [.ref a]) (vs := [.ref a]) F hr.in1.in1 rfl hx I (.cons rfl .nil) q)) (fun w s' z => ?_) fun _ _ x => x
  obtain ⟨z', H', I', rz, t, rfl, qz⟩ := z
  obtain ⟨tk, rfl⟩ := rz
  exact ⟨.str t, H', I', ⟨tk, rfl⟩, qz⟩
end
end Ow
end
section
set_option maxHeartbeats 4000000
/-! The end of a law whose def hands lambdas over and asks repr of containers: nothing is being shown, and the codes' tables are told. -/
namespace Ow
open PySem PySem.Spec PyProof.Rows L2 StX
section
variable {P : Program} {w : World} {K : PySem.W.Frag} {mg mb : Str → Option Value} {k : Nat} {fa a c T : Addr} {sp : Sp} {s1 : Shared} {vs : List Value} {ns : List Int}
/-- a table that is still empty -/
abbrev tab0 : Obj := { cls := .none, data := .fields #[] }
/-- what stands in the abstract heap at the begin: the table, and perhaps the script -/
structure Begin (K : PySem.W.Frag) (h : Heap) (T : Addr) (H : Hp) : Prop where
  tab : H T = some (.tbl #[])
  rest : ∀ b, b ≠ T → H b = none ∨ ∃ o xs items n, H b = some (.frz o (.lst xs)) ∧ K.lookup b = none ∧ h.get? b = some o ∧ o.data = .seq items n
theorem end_fromT (KX : K.In s1.heap) (hns : s1.heap.Ns mainGlobals mg) (hb : s1.heap.Ns builtinsNs mb) (hbb : ∀ x : Str, x ≠ "__name__" → mb x = bootBuiltins x) (hlim : s1.heap.NoLimit) (hg : s1.gens = #[]) (hr : Room k callerA)
    (eT : s1.heap.get? T = some tab0) (nT : K.lookup T = none) (cT : PySem.W.CodeHd s1.heap c T)
    (main : ∃ (m : Addr) (o : Obj), mg "__builtins__" = some (.ref m) ∧ m ≠ builtinsNs ∧ s1.heap.get? m = some o ∧ o.cls = .type "module" ∧ o.dict = some builtinsNs ∧ o.data = .plain)
    (F : ∀ base : Heap, K.In base → base.Ns mainGlobals mg → LamX.TabB base mg c T → FnG P w K mg base CX0 k fa sp) {H : Hp} (B : Begin K s1.heap T H) (hok : HOk P w H s1.heap)
    (hsp : sp [.ref a] H (fun v _ => v = .bl true) fun _ _ _ => False) :
    codeAny (model P w) callerA (.call (.ref fa) ⟨[.ref a], []⟩) (fun r s' => r = .ok (.ret (.bool true)) ∧ OldK s1.heap s'.heap ∧ s'.os = s1.os ∧ AllBare s'.gens) s1 := by
  let base := hidT s1.heap H
  have free : ∀ {b : Addr} {o : Obj}, s1.heap.get? b = some o → (∀ items n, o.data ≠ .seq items n) → o.data ≠ .fields #[] → base.get? b = some o := fun {b o} e d1 d2 => by
    refine hidT_get e ?_
    by_cases q : b = T
    · rw [q, eT] at e
      cases e
      exact (d2 rfl).elim
    · rcases B.rest b q with z | ⟨o2, xs, items, n, _, _, e2, z⟩
      · exact z
      · rw [e] at e2
        cases e2
        exact (d1 _ _ z).elim
  have names : ∀ {b : Addr} {m : Str → Option Value}, s1.heap.Ns b m → base.Ns b m := fun z => by
    obtain ⟨o, es, ep, e, d, r⟩ := z
    exact ⟨o, es, ep, free e (fun _ _ y => by rw [d] at y; cases y) (fun y => by rw [d] at y; cases y), d, r⟩
  have hK : K.In base := fun b o e => by
    refine hidT_get (KX b o e) ?_
    by_cases q : b = T
    · rw [q, nT] at e
      cases e
    · rcases B.rest b q with z | ⟨o2, xs, items, n, _, z, _⟩
      · exact z
      · rw [e] at z
        cases z
  have lim : base.NoLimit := by
    obtain ⟨m, h1, h2⟩ := hlim
    exact ⟨m, names h1, h2⟩
  have TB : LamX.TabB base mg c T := by
    refine ⟨?_, ?_, fun z => ?_⟩
    · obtain ⟨o, us, file, tf, flags, tg, inF, text, tt, e1, p1, p2, p3, p4, p5, p6, p7, p8, p9⟩ := cT
      exact ⟨o, us, file, tf, flags, tg, inF, text, tt, free e1 (fun _ _ y => by rw [p2] at y; cases y) (fun y => by rw [p2] at y; cases y; simp at p3), p1, p2, p3, p4, p5, p6, p7, p8, p9⟩
    · obtain ⟨m, o, q1, q2, q3, q4, q5, q6⟩ := main
      refine ⟨m, o, q1, q2, fun y => ?_, fun y => ?_, free q3 (fun _ _ y => by rw [q6] at y; cases y) (fun y => by rw [q6] at y; cases y), q4, q5, q6⟩
      · obtain ⟨og, es, ep, e, d, _⟩ := hns
        rw [y, e] at q3
        cases q3
        rw [q6] at d
        cases d
      · rw [y, eT] at q3
        cases q3
        cases q6
    · obtain ⟨og, es, ep, e, d, _⟩ := hns
      rw [z, eT] at e
      cases e
      cases d
  have e0 : Env0 P w K mg base callerA [] s1 H :=
    { frames := rfl, mod := ⟨hK, names hns, ⟨mb, names hb, hbb⟩, lim⟩, bs := fun b o e => of_hidT e, bsz := Nat.le_of_eq (hidT_size _ _), funs := trivial, frf := fun b hb => (List.not_mem_nil hb).elim, hok := hok, bare := .of_eq hg }
  refine codeAny_mono (F base hK (names hns) TB callerA [] s1 H [.ref a] [.ref a] _ _ hr rfl e0 (.cons rfl .nil) hsp) fun r s' h => ?_
  cases r with
  | error e => exact False.elim h
  | ok fl =>
    cases fl with
    | next => exact False.elim h
    | brk => exact False.elim h
    | cont => exact False.elim h
    | ret u =>
      obtain ⟨v, H2, os, bare, un, ok2, rv, q⟩ := h
      subst q
      cases rv
      have still : ∀ b o, b ≠ T → s1.heap.get? b = some o → s'.heap.get? b = some o := fun b o nb e => by
        rcases B.rest b nb with z | ⟨o2, xs, items, n, z, _⟩
        · exact un.keep b o e z (fun y => List.not_mem_nil y) (fun y => List.not_mem_nil y)
        · have e1 := (hok b _ z).1
          have e2 := (ok2 b _ (un.frzs b o2 _ z)).1
          rw [e] at e1
          cases e1
          exact e2
      obtain ⟨more, z⟩ := un.tbls T #[] B.tab
      have wide := ok2 T _ z
      refine ⟨rfl, ⟨fun b o e => ?_, fun b o e => ?_⟩, os, bare⟩
      · by_cases q : b = T
        · subst q
          rw [eT] at e
          cases e
          exact .inr (.inl ⟨(cT.tab eT).isCodeTable, rfl, #[], _, rfl, by rw [Array.empty_append]; exact wide⟩)
        · exact .inl (still b o q e)
      · by_cases q : b = T
        · subst q
          exact ⟨_, wide⟩
        · exact ⟨o, still b o q e⟩
theorem end_callT (KX : K.In s1.heap) (hns : s1.heap.Ns mainGlobals mg) (hb : s1.heap.Ns builtinsNs mb) (hbb : ∀ x : Str, x ≠ "__name__" → mb x = bootBuiltins x) (hlim : s1.heap.NoLimit) (hg : s1.gens = #[]) (hr : Room k callerA)
    (eT : s1.heap.get? T = some tab0) (nT : K.lookup T = none) (cT : PySem.W.CodeHd s1.heap c T)
    (main : ∃ (m : Addr) (o : Obj), mg "__builtins__" = some (.ref m) ∧ m ≠ builtinsNs ∧ s1.heap.get? m = some o ∧ o.cls = .type "module" ∧ o.dict = some builtinsNs ∧ o.data = .plain)
    (ha : s1.heap.get? a = some { cls := .type "list", data := .seq vs.toArray }) (hi : IntsAre vs ns) (hl : ns.length ≤ sizeLine) (F : ∀ base : Heap, K.In base → base.Ns mainGlobals mg → LamX.TabB base mg c T → FnG P w K mg base CX0 k fa sp)
    (hsp : ∀ H : Hp, H T = some (.tbl #[]) → SqL K H a (ns.map V.int) → sp [.ref a] H (fun v _ => v = .bl true) fun _ _ _ => False) :
    codeAny (model P w) callerA (.call (.ref fa) ⟨[.ref a], []⟩) (fun r s' => r = .ok (.ret (.bool true)) ∧ OldK s1.heap s'.heap ∧ s'.os = s1.os ∧ AllBare s'.gens) s1 := by
  have rv := vals_ints hi
  have hl2 : (ns.map V.int).length ≤ sizeLine := by rw [List.length_map]; exact hl
  have naT : a ≠ T := fun z => by
    rw [z, eT] at ha
    cases ha
  cases hk : K.lookup a with
  | some o =>
    have e := KX a o hk
    rw [ha] at e
    cases e
    let H : Hp := fun b => if b = T then some (.tbl #[]) else none
    have HT : H T = some (.tbl #[]) := if_pos rfl
    have HN : ∀ b, b ≠ T → H b = none := fun b n => if_neg n
    refine end_fromT KX hns hb hbb hlim hg hr eT nT cT main F (H := H) ⟨HT, fun b n => .inl (HN b n)⟩ (fun b u z => ?_) (hsp H HT ?_)
    · by_cases q : b = T
      · subst q
        rw [HT] at z
        cases z
        exact eT
      · rw [HN b q] at z
        cases z
    · exact .inr ⟨_, vs.toArray, _, hk, rfl, rfl, rfl, by rw [List.size_toArray, hi.length]; exact hl, by simpa using rv⟩
  | none =>
    let o : Obj := { cls := .type "list", data := .seq vs.toArray }
    let H : Hp := fun b => if b = a then some (.frz o (.lst (ns.map V.int))) else if b = T then some (.tbl #[]) else none
    have HA : H a = some (.frz o (.lst (ns.map V.int))) := if_pos rfl
    have HT : H T = some (.tbl #[]) := by show (if T = a then _ else _) = _; rw [if_neg (Ne.symm naT), if_pos rfl]
    have HN : ∀ b, b ≠ a → b ≠ T → H b = none := fun b n n2 => by show (if b = a then _ else _) = _; rw [if_neg n, if_neg n2]
    refine end_fromT KX hns hb hbb hlim hg hr eT nT cT main F (H := H) ⟨HT, fun b n => ?_⟩ (fun b u z => ?_) (hsp H HT (.inl (.inr ⟨_, HA⟩)))
    · by_cases q : b = a
      · subst q
        exact .inr ⟨o, _, _, _, HA, hk, ha, rfl⟩
      · exact .inl (HN b q n)
    · by_cases q : b = a
      · subst q
        rw [HA] at z
        cases z
        exact ⟨ha, hl2, vs, _, rv, ha⟩
      · by_cases q2 : b = T
        · subst q2
          rw [HT] at z
          cases z
          exact eT
        · rw [HN b q q2] at z
          cases z
end
/-- what is to be known of the law's promise at the head's heap -/
def LawT (l : PySem.W.OpenLaw) (w : World) (K : PySem.W.Frag) (k n : Nat) (mg : Str → Option Value) (fa : Addr) (h : Heap) : Prop :=
  ∃ (c T : Addr) (sp : Sp), h.get? T = some tab0 ∧ K.lookup T = none ∧ PySem.W.CodeHd h c T ∧
    (∀ (H : Hp) (a : Addr) (ns : List Int), ns.length ≤ n → H T = some (.tbl #[]) → SqL K H a (ns.map V.int) → sp [.ref a] H (fun v _ => v = .bl true) fun _ _ _ => False) ∧
    ∀ base : Heap, K.In base → base.Ns mainGlobals mg → LamX.TabB base mg c T → FnG l.prog w K mg base CX0 k fa sp
theorem walk_ofTG {l : PySem.W.OpenLaw} {n k : Nat} {q : Program} {loose : List Str} {XP : (Str → Option Value) → Heap → Prop} {YP : World → Heap → Prop} {d : DefRec} {K : Params → PySem.W.Frag}
    (hn : l.most = some n) (hn2 : n ≤ sizeLine) (hdf : d.params.defaults = []) (hr : Room k callerA) (hY : ∀ (w : World) (h : Heap), YP w h → (K w.params).In h)
    (F : ∀ (w : World) (mg : Str → Option Value) (fa : Addr) (h : Heap), YP w h → (K w.params).In h → h.Ns mainGlobals mg → mg d.name = some (.ref fa) → LawT l w (K w.params) k n mg fa h) :
    PySem.W.WalkO q loose XP YP l.row.toRowW d [] (fun f vs => PySem.call f vs) := by
  refine Att.attach_call hn hdf fun w s0 s1 mg mb fa o pm cd doc a vs ns G Y ho hd hcd hmg hobj hints hlen hg => ?_
  have KX := hY w _ Y
  obtain ⟨c, T, sp, eT, nT, cT, hsp, hF⟩ := F w mg fa _ Y KX G.T.g hmg
  exact end_callT KX G.T.g G.T.b G.T.builtins G.T.nolimit hg hr eT nT cT G.T.bmain hobj hints (Nat.le_trans hlen hn2) hF fun H hH hS => hsp H a ns hlen hH hS
end Ow
end
section
set_option maxHeartbeats 4000000
/-! A law's def, its code told, called while nothing is being shown; what stays when a lambda is made. -/
namespace Ow
open PySem PySem.Spec PyProof.Rows L2 StX
section
variable {P : Program} {w : World} {K : PySem.W.Frag} {mg : Str → Option Value} {base : Heap} {x qual : Str} {st : Stmt} {f c : Addr}
theorem FnC.okG {N ps : List Str} {k : Nat} {sp : Sp} (F : FnC K x qual st f c) (S : FnScope N ps (defScope st))
    (hb : ∀ (kV doc pm : Value) (an : Option Addr) (cdv ct : Value) (us : List Value), us.length = ps.length → bindArgs (PySem.W.fnOf x qual (defArgs st) (defBody st) (defScope st) .none kV doc pm an cdv ct) ⟨us, []⟩ = pure (ps.zip us))
    (len : ∀ vs H Q E, sp vs H Q E → vs.length = ps.length)
    (hbody : ∀ (A : Around) (outer : List Env) (s : Shared) (H : Hp) (vs : List V) (Q : VK) (E : XK), Room k (A.deeper (envOfC qual (defScope st) s.heap.objs.size f (.ref c))) → A.guards = some [] → sp vs H Q E →
      ∃ t, PSs (cxOf CX0 P w K mg base N qual (defScope st) f (.ref c) A outer s H E).nox (defBody st) t ∧ t { nx := fun _ H' => Q .non H', rt := Q } (start N vs) H) : FnG P w K mg base CX0 (k + 1) f sp := by
  obtain ⟨oc, od, an, kV, doc, pm, ct, osl, lk, hcd⟩ := F
  intro A outer s H us vs Q E hr hg e0 r hs
  have hv := len _ _ _ _ hs
  refine LamX.run_ofS lk hcd S hr e0 (BindsTo.of_eq (hb kV doc pm an (.ref c) ct us (r.length.symm.trans hv))) r hv fun hr2 => ?_
  obtain ⟨t, h, q⟩ := hbody A outer s H vs Q E hr2 hg hs
  exact ⟨t, h.nox, q⟩
end
section
variable {K : PySem.W.Frag} {H H' : Hp} {v : V} {t : Value}
theorem TyOf.extN (h : TyOf K H v t) (m : LamX.ExtN H H') : TyOf K H' v t := by
  cases h with
  | non => exact .non
  | bl x => exact .bl x
  | int i => exact .int i
  | str x => exact .str x
  | flt x => exact .flt x
  | lst h => exact .lst (m _ _ h fun _ z => by cases z)
  | frz h => exact .frz (m _ _ h fun _ z => by cases z)
  | tup h => exact .tup (m _ _ h fun _ z => by cases z)
  | dK h => exact .dK (m _ _ h fun _ z => by cases z)
  | dT h => exact .dT (m _ _ h fun _ z => by cases z)
  | ins h c a b d e => exact .ins (m _ _ h fun _ z => by cases z) c a b d e
theorem TyX.extN (h : TyX K H v t) (m : LamX.ExtN H H') : TyX K H' v t := by
  cases h with
  | base h => exact .base (TyOf.extN h m)
  | byt b => exact .byt b
  | set h => exact .set (m _ _ h fun _ z => by cases z)
  | kList h c => exact .kList h c
  | kTuple h c => exact .kTuple h c
  | kDict h c => exact .kDict h c
  | fTuple h => exact .fTuple (m _ _ h fun _ z => by cases z)
  | fDict h => exact .fDict (m _ _ h fun _ z => by cases z)
theorem NoInt.extN (h : NoInt K H v) (m : LamX.ExtN H H') : NoInt K H' v := by
  rcases h with h | ⟨t, h, q⟩
  · exact .inl h
  · exact .inr ⟨t, TyX.extN h m, q⟩
end
end Ow
end
section
set_option maxHeartbeats 4000000
/-! A def with defaults: its promise as FnOk, by place and by keywords. -/
namespace Ow
open PySem PySem.Spec PyProof.Rows L2 StX
section
variable {P : Program} {w : World} {K : PySem.W.Frag} {mg : Str → Option Value} {base : Heap} {CX : CXT} {x qual : Str} {params : Arguments} {body : List Stmt} {scope : PySem.Scope} {dvs : List V} {f : Addr} {fd : FuncData} {ps : List Str} {k : Nat} {sp : Sp}
/-- n arguments by place, the defaults behind the first j fill up -/
theorem posR (F : FunD K x qual params body scope dvs [] f fd) (ok : FnOk P w K mg base CX k f fd ps sp) (n j : Nat) (hd : dvs ≠ []) (hn : n + (dvs.length - j) = ps.length)
    (hb : ∀ (T : Addr) (kV doc pm : Value) (an : Option Addr) (cdv ct : Value) (us its : List Value), us.length = n → its.length = dvs.length →
      ∃ k, bindArgs (PySem.W.fnOf x qual params body scope (.ref T) kV doc pm an cdv ct) ⟨us, []⟩ = seqItems? (.ref T) >>= k ∧ k (some its.toArray) = pure (ps.zip (us ++ its.drop j))) : FnR P w K mg base CX k f (fun vs H Q E => sp (vs ++ dvs.drop j) H Q E) := by
  obtain ⟨ds, hds, b⟩ := F.binds1 n j hd hn hb
  exact ok.raw b hds
end
end Ow
end
section
set_option maxHeartbeats 4000000
/-! An instance called by keywords alone; a def without defaults called by keywords; a def called without arguments. -/
namespace Ow
open PySem PySem.Spec PyProof.Rows L2 StX
section
variable {K : PySem.W.Frag} {x qual : Str} {params : Arguments} {body : List Stmt} {scope : PySem.Scope} {f : Addr} {fd : FuncData} {ps ks : List Str} {n : Nat} {g : List Value → List Value → List Value} {gV : List V → List V → List V}
/-- keywords at a def without defaults -/
theorem kbn0 (F : FunD K x qual params body scope [] [] f fd) (hrel : ∀ {vs zs : List V} {us ws : List Value}, Vals vs us → Vals zs ws → Vals (gV vs zs) (g us ws))
    (hb : ∀ (kV doc pm : Value) (an : Option Addr) (cdv ct : Value) (us ws : List Value), us.length = n → ws.length = ks.length → bindArgs (PySem.W.fnOf x qual params body scope .none kV doc pm an cdv ct) ⟨us, ks.zip ws⟩ = pure (ps.zip (g us ws))) : KBn K fd ps n ks g gV := by
  obtain ⟨oc, od, dV, kV, doc, pm, an, cdv, ct, osl, rfl, lk, hcd, hD, hK⟩ := F.ex
  rcases hD with ⟨_, rfl⟩ | ⟨e, _⟩
  · exact ⟨fun s us ws _ hu hw => BindsTo.of_eq (hb kV doc pm an cdv ct us ws hu hw), hrel⟩
  · exact absurd rfl e
end
theorem callKW_of {M : Model} {A : Around} {E : Value → Shared → Prop} {s : Shared} {a : Addr} {p : Pos} {Q : Value → Shared → Prop} {as : List (Bool × Sem Value)} {kws : List (Option Str × Sem Value)} (np : (as.any (·.1) || kws.any (·.1.isNone)) = false)
    (h : wpAny M A (evalArgs (.ref a) true as kws) (fun z s1 => (∃ C ox od, PySem.W.InstAt s1.heap a ox C od ∧ ox.data = .plain) ∧ wpAny M A (call (.ref a) z.pos z.kw) Q E s1) E s) : wpAny M A (callWith p (.ref a) [] as kws) Q E s := by
  unfold callWith
  refine wpAny_bind (wpAny_holding (wpAny_mono h (fun z s1 y => wpAny_bind (wpAny_standAt ?_)) fun _ _ e => e))
  obtain ⟨⟨C, ox, od, J, hd⟩, y⟩ := y
  simp only [np]
  refine wpAny_bind ((PySem.W.kco_keeper (M := M) J hd).here ?_)
  exact wpAny_bind (wpAny_mono (wpAny_operateT y) (fun r s2 hr => wpAny_bind (wpAny_holding (wpAny_point (wpAny_pure hr)))) fun _ _ e => e)
section
variable {X : Cx} {CX : CXT} {k n : Nat} {f C : Addr} {fd : FuncData} {ps ks : List Str} {sp : Sp} {E : XK} {x : Str} {p pos : Pos} {fe : Expr} {kws : List Keyword} {tf : TE} {tk : TA} {g : List Value → List Value → List Value} {gV : List V → List V → List V}
/-- o(k=e, ..): o an expression that gives an instance of C -/
def tCallOK (X : Cx) (C : Addr) (m : Nat) (sp : Sp) (gV : List V → List V → List V) (E : XK) (tf : TE) (tk : TA) : TE := fun σ H Q => tf σ H fun y H1 => ∃ a, y = V.ref a ∧ tk σ H1 fun zs H2 => zs.length = m ∧ InsC X H2 a C ∧ sp (gV [V.ref a] zs) H2 Q E
theorem pe_callOK (hf : PE X fe tf) (c : CallO X.K C f) (F : FnOk X.prog X.w X.K X.mg X.base CX k f fd ps sp) (hr : Room k X.A) (hb : KBn X.K fd ps 1 ks g gV) (hx : Passes CX X E) (hkw : PK X kws tk)
    (ht : eval (.Call fe [] kws pos) X.env = (do callWith pos (← eval fe X.env) [] (backTo pos (starEach [] X.env)) (backToKw pos (keywordEach kws X.env))) := by rfl)
    (hall : ((backToKw pos (keywordEach kws X.env)).all fun x => x.1.isSome) = true := by rfl) (hks : List.filterMap (fun x => x.1) (backToKw pos (keywordEach kws X.env)) = ks := by rfl)
    (hpl : (((backTo pos (starEach [] X.env)).any fun x => x.1) || (backToKw pos (keywordEach kws X.env)).any fun x => x.1.isNone) = false := by rfl) : PE X (.Call fe [] kws pos) (tCallOK X C ks.length sp gV E tf tk) := by
  refine ⟨fun pins s σ H Q I h => ?_⟩
  rw [ht]
  refine wpAny_bind (thn (hf.run pins s σ H _ I h) fun u s1 ⟨y, H1, I1, ry, a, ey, q⟩ => ?_)
  subst ey
  obtain rfl : u = Value.ref a := ry
  refine callKW_of hpl (evalArgs_kw2_nil hall (thn (hkw.run pos pins s1 σ H1 _ I1 q) fun ws s2 ⟨zs, H2, I2, rz, l2, hi, q2⟩ => ?_))
  obtain ⟨ox, od, J, hd⟩ := insC_at I2 hi
  refine ⟨⟨C, ox, od, J, hd⟩, ?_⟩
  rw [hks]
  have r1 : Vals [V.ref a] [Value.ref a] := .cons rfl .nil
  refine wpAny_call (PySem.W.kco_code I2.kIn J hd c.at_ c.fn c.fi (codeAny_mono (F.run X.A X.stack s2 H2 ⟨[.ref a], ks.zip ws⟩ (g [.ref a] ws) (gV [.ref a] zs) Q E hr I2.env0 (hb.to s2 [.ref a] ws I2.kIn rfl (rz.length.symm.trans l2)) (hb.rel r1 rz) q2) fun r s' hq => ?_))
  cases r with
  | error e => exact hx pins σ H2 s2 e s' I2 hq
  | ok fl =>
    cases fl with
    | ret u => exact I2.after hq
    | next => exact False.elim hq
    | brk => exact False.elim hq
    | cont => exact False.elim hq
/-- o(e, ..), told without the context (for a lambda's body) -/
def tCallOI (C : Addr) (sp : Sp) (E : XK) (tf : TE) (t : TA) : TE := fun σ H Q => tf σ H fun y H1 => ∃ a, y = V.ref a ∧ t σ H1 fun vs H2 => InsAt H2 a C ∧ sp (V.ref a :: vs) H2 Q E
theorem pe_callOI {g : Addr} {e : Expr} {es : List Expr} {t : TA} (hf : PE X fe tf) (c : CallO X.K C g) (F : FnR X.prog X.w X.K X.mg X.base CX k g sp) (hr : Room k X.A) (hx : Passes CX X E) (ha : PA X (e :: es) t)
    (ht : eval (.Call fe (e :: es) [] pos) X.env = (do callWith pos (← eval fe X.env) [] (backTo pos (starEach (e :: es) X.env)) (backToKw pos (keywordEach [] X.env))) := by rfl)
    (he : starEach (e :: es) X.env = (false, eval e X.env) :: starEach es X.env := by rfl) (hpl : (backTo pos (starEach es X.env)).any (·.1) = false := by rfl) : PE X (.Call fe (e :: es) [] pos) (tCallOI C sp E tf t) := by
  constructor
  intro pins s σ H Q I h
  rw [ht]
  refine wpAny_bind (thn (hf.run pins s σ H _ I h) fun u s1 z => ?_)
  obtain ⟨y, H1, I1, ry, a, rfl, q⟩ := z
  obtain rfl : u = Value.ref a := ry
  refine callO_with (thn (ha.run pos pins s1 σ H1 _ I1 q) fun us s2 z => ?_) he hpl
  obtain ⟨vs, H2, I2, r, ⟨dx, fs, hi⟩, q2⟩ := z
  have hc : InsC X H2 a C := .inr ⟨dx, fs, hi⟩
  obtain ⟨ox, od, J, hd⟩ := insC_at I2 hc
  exact ⟨⟨C, ox, od, J, hd⟩, run_callO c F hr hx I2 hc r q2⟩
end
end Ow
end
section
set_option maxHeartbeats 4000000
/-! Own errors as values: made, by place or by keywords, their fields read, their classes asked. -/
namespace PySem
namespace OwX
open Builtin Builtin.ObjectAttr HandSPX
section
variable {M : Model} {A : Around} {E : Value → Shared → Prop} {h : Heap} {g : Array GenState} {d : Drawn} {t : Nat} {os : OsState}
variable {nm q : Str} {C N : Addr} {bs bm bmB : List Value} {hdct : Bool} {sn : List Str} {sub : List Value} {ab : Bool} {col : Option Bool} {dd : Option Addr} {k0 k1 k2 k3 k5 : Option Value} {B newId initId : String}
theorem check_new_kw (F : ExcBaseFacts B newId initId bmB) (hT : ∀ X : String, bm.contains (.type X) = bmB.contains (.type X)) {rest : List Value} {kw : List (Str × Value)} {Q : Unit → Shared → Prop}
    (hC : h.get? C = some (excClassObj nm q C N bs bm hdct sn sub ab col dd k0 k1 k2 k3 k5 newId)) (hq : Q () ⟨h, g, d, t, os⟩) : wpAny M A (checkBuiltinCall newId ⟨.ref C :: rest, kw⟩) Q E ⟨h, g, d, t, os⟩ := by
  have hcont : (Value.ref C :: bm).contains (.type B) = true := by rw [List.contains_cons, hT, F.hasB, Bool.or_true]
  have hstar := F.noStar
  simp only [checkBuiltinCall, F.newKind, F.newSplit, F.newRow]
  repeat (first | refine wpAny_loadPart_at hC ?_ | (refine wpAny_isSubtype_exc hC ?_; rw [hcont]) | refine wpAny_staticBase_exc hC ?_ | refine wpAny_madeBy_exc hC ?_ | simp only [bne_self_eq_false, Bool.false_eq_true, if_false] | wp_step)
  exact hq
end
section
variable {prog : Program} {w : World} {A : Around} {E : Value → Shared → Prop} {R : Result → Shared → Prop} {h : Heap} {g : Array GenState} {d : Drawn} {t : Nat} {os : OsState}
variable {nm q : Str} {C N : Addr} {bs bm bmB : List Value} {hdct : Bool} {sn : List Str} {sub : List Value} {ab : Bool} {col : Option Bool} {dd : Option Addr} {k0 k1 k2 k3 k5 : Option Value} {B newId initId : String}
theorem new_kw (F : ExcBaseFacts B newId initId bmB) (hT : ∀ X : String, bm.contains (.type X) = bmB.contains (.type X)) {rest : List Value} {kw : List (Str × Value)}
    (hC : h.get? C = some (excClassObj nm q C N bs bm hdct sn sub ab col dd k0 k1 k2 k3 k5 newId))
    (hq : R (.ok (.ret (.ref (h.objs.size + 1)))) ⟨(h.push { cls := .type "tuple", data := .seq rest.toArray }).push
      { cls := .ref C, data := .fields #[.ref h.objs.size, .none, .none, .none, .bool false, .none] }, g, d, t, os⟩) (hrest : rest.length ≤ sizeLine) :
    codeAny (model prog w) A (.builtin newId ⟨.ref C :: rest, kw⟩) R ⟨h, g, d, t, os⟩ := by
  have hends := F.ends
  have hcB : (Value.ref C :: bm).contains (.type B) = true := by rw [List.contains_cons, hT, F.hasB, Bool.or_true]
  have hcA : (Value.ref C :: bm).contains (.type "AttributeError") = false := by rw [List.contains_cons, hT, F.noAttr]; rfl
  have hcN : (Value.ref C :: bm).contains (.type "NameError") = false := by rw [List.contains_cons, hT, F.noName]; rfl
  refine codeAny_builtinAt F.entry ?_
  unfold Builtin.«BaseException.__new__»
  refine wpAt_bind ?_
  show wpAt _ _ _ (stack >>= _) _ _ _
  refine wpAt_bind (wpAt_stack fun p below => wpAt_of_wpAny ?_)
  wp_walk
  refine wpAt_of_wpAny ?_
  rw [F.owner]
  repeat (first | with_reducible refine wpAny_madeHere_exc F.canon hC ?_ | with_reducible refine wpAny_loadPart_at hC ?_ | (with_reducible refine wpAny_isSubtype_exc hC ?_; first | rw [hcB] | rw [hcA] | rw [hcN]) | wp_step)
  show R _ _
  rw [Heap.size_push]
  exact hq
theorem type_call_kw (F : ExcBaseFacts B newId initId bmB) (hT : ∀ X : String, bm.contains (.type X) = bmB.contains (.type X)) {rest : List Value} {kw : List (Str × Value)} {fI : Addr} {Q : Fin → Shared → Prop}
    (hC : h.get? C = some (excClassObj nm q C N bs bm hdct sn sub ab col dd k0 k1 k2 k3 k5 newId))
    (hi : W.Looks (model prog w) h (typeLookup (.ref C) "__init__") (some (.ref fI))) (hb : ∀ self, W.Looks (model prog w) h (bindSpecial (.ref fI) self) (.ref fI, [self])) (hrest : rest.length ≤ sizeLine)
    (hq : codeAny (model prog w) A (.call (.ref fI) ⟨.ref (h.objs.size + 1) :: rest, kw⟩)
      (fun r s' => match r with | .ok (.ret v) => v = .none ∧ Q (.done (.ret (.ref (h.objs.size + 1)))) s' | .ok _ => False | .error e => E e s')
      ⟨(h.push (W.kdv_tup rest)).push (excO C h.objs.size), g, d, t, os⟩) :
    wpAny (model prog w) A (Builtin.«type.__call__» ⟨.ref C :: rest, kw⟩) Q E ⟨h, g, d, t, os⟩ := by
  repeat (first | with_reducible refine wpAny_loadPart_at hC ?_ | with_reducible refine wpAny_madeBy_exc hC ?_ | wp_step)
  refine codeAny_call_builtin_code (Code.quiet_builtin _ F.quiet) (check_new_kw F hT hC ?_)
  refine new_kw F hT hC ?_ hrest
  show wpAny _ _ _ _ _ _
  have k : ∀ b o, h.get? b = some o → ((h.push (W.kdv_tup rest)).push (excO C h.objs.size)).get? b = some o := fun b o e => Heap.get?_push_of_some _ (Heap.get?_push_of_some _ e)
  have hC₁ := k _ _ hC
  have hget : ((h.push (W.kdv_tup rest)).push (excO C h.objs.size)).get? (h.objs.size + 1) = some (excO C h.objs.size) := by heap_get
  have hcC : (Value.ref C :: bm).contains (.ref C) = true := by simp
  have i1 := hi.keeps k
  have b1 := (hb (.ref (h.objs.size + 1))).keeps k
  unfold isInstance
  repeat (first | with_reducible refine wpAny_loadPart_at hget ?_ | (with_reducible refine wpAny_isSubtype_exc hC₁ ?_; rw [hcC]) | wp_step)
  show wpAny _ _ (typeLookup (.ref C) _) _ _ _
  refine i1.at ?_
  refine wpAny_holding (wpAny_bind (b1.at ?_))
  refine wpAny_bind (wpAny_call (codeAny_mono hq fun r s' z => ?_))
  rcases r with e | (v | _ | _ | _) <;> first | exact z | exact z.elim | skip
  obtain ⟨rfl, z⟩ := z
  first
    | exact wpAny_pure (wpAny_pure z)
    | (wp_walk; exact z)
theorem call_kw (F : ExcBaseFacts B newId initId bmB) (hT : ∀ X : String, bm.contains (.type X) = bmB.contains (.type X)) {rest : List Value} {kw : List (Str × Value)} {fI : Addr}
    (hC : h.get? C = some (excClassObj nm q C N bs bm hdct sn sub ab col dd k0 k1 k2 k3 k5 newId))
    (hi : W.Looks (model prog w) h (typeLookup (.ref C) "__init__") (some (.ref fI))) (hb : ∀ self, W.Looks (model prog w) h (bindSpecial (.ref fI) self) (.ref fI, [self])) (hrest : rest.length ≤ sizeLine)
    (hq : codeAny (model prog w) (A.under (.builtin "type.__call__" ⟨.ref C :: rest, kw⟩)) (.call (.ref fI) ⟨.ref (h.objs.size + 1) :: rest, kw⟩) (W.InitBack (h.objs.size + 1) R)
      ⟨(h.push (W.kdv_tup rest)).push (excO C h.objs.size), g, d, t, os⟩) :
    codeAny (model prog w) A (.call (.ref C) ⟨rest, kw⟩) R ⟨h, g, d, t, os⟩ := by
  have f1 := tc_lookup
  have f2 := tc_bind (.ref C)
  have hTy : (⟨h, g, d, t, os⟩ : Shared).TypeIs (.ref C) "type" := ⟨_, hC, rfl⟩
  refine codeAny_of_tree ?_
  show wpAny _ _ (callAny (.ref C) _) _ _ _
  repeat (any_goals (first | assumption | with_reducible refine wpAny_loadPart_at hC ?_ | wp_step))
  refine ⟨rfl, ?_⟩
  refine codeAny_call_builtin_at (Code.quiet_builtin _ (by decide +kernel)) entry_typeCall (wpAny_check_type_call_sub hC (type_call_kw F hT hC hi hb hrest ?_))
  refine codeAny_mono hq fun r s' z => ?_
  rcases r with e | (v | _ | _ | _) <;> exact z
end
end OwX
end PySem
namespace Ow
open PySem PySem.Spec PyProof.Rows L2 StX
section
variable {X : Cx} {CX : CXT} {x : Str} {C fI : Addr} {k n : Nat} {fd : FuncData} {ps ks : List Str} {sp : Sp} {ds : List Value} {dvs : List V} {E : XK} {p pos : Pos} {e : Expr} {es : List Expr} {kws : List Keyword} {ta tk : TA} {g : List Value → List Value → List Value} {gV : List V → List V → List V}
/-- C(e, ..): a new error, then its __init__; the error is the value -/
def tOex (C : Addr) (sp : Sp) (ta : TA) : TE := fun σ H Q => ta σ H fun vs H1 => vs.length ≤ 1000 ∧ ∀ a, H1 a = none → sp (.ref a :: vs) (upd H1 a (exo a C none)) (fun u H2 => u = .non ∧ Q (.ref a) H2) (fun _ _ _ => False)
theorem pe_oex (T : OexC X.K C) (iC : PySem.W.findIn X.K (.ref C) "__init__" = some (some (.ref fI))) (tI : PySem.W.typeIn X.K (.ref fI) = some (.type "function"))
    (F1 : FnR X.prog X.w X.K X.mg X.base CX (k + 1) fI sp) (hr : Room (k + 2) X.A) (hx : Passes CX X (fun _ _ _ => False)) (hg : Gl X x) (hm : X.mg x = some (.ref C)) (ha : PA X (e :: es) ta)
    (hdb : (x == ("__debug__" : Str)) = false := by decide) (he : starEach (e :: es) X.env = (false, eval e X.env) :: starEach es X.env := by rfl) (hpl : (backTo pos (starEach es X.env)).any (·.1) = false := by rfl) :
    PE X (.Call (.Name x p) (e :: es) [] pos) (tOex C sp ta) := by
  refine ⟨fun pins s σ H Q I h => ?_⟩
  obtain ⟨nm, q, N, bs, bm, sn, sub, ab, col, dd, k0, k1, k2, k3, k5, hC, hbm⟩ := T.cls
  refine wpAny_Call_Name_kw (ld_glob I hg hm ?_ hdb)
  refine PySem.W.callWith_K (h₀ := X.base) I.ok.mod.kin T.kC (thn (ha.run pos pins s σ H _ I h) fun us s1 ⟨vs, H1, I1, r1, hz, q1⟩ => ⟨I1.kIn, ?_⟩) he hpl
  show wpAny _ _ (call (.ref C) us) _ _ _
  obtain ⟨hp, g, dr, tk, os⟩ := s1
  have hsz : hp.objs.size ≤ hp.objs.size + 1 := Nat.le_succ _
  have hn : H1 (hp.objs.size + 1) = none := I1.hok.fresh hsz
  have hq := q1 (hp.objs.size + 1) hn
  have kk : ∀ b o, hp.get? b = some o → ((hp.push (PySem.W.kdv_tup us)).push (PySem.HandSPX.excO C hp.objs.size)).get? b = some o := fun b o e => Heap.get?_push_of_some _ (Heap.get?_push_of_some _ e)
  have hget : ((hp.push (PySem.W.kdv_tup us)).push (PySem.HandSPX.excO C hp.objs.size)).get? (hp.objs.size + 1) = some (PySem.HandSPX.excO C hp.objs.size) := by heap_get
  have I2 : Inv X pins σ (upd H1 (hp.objs.size + 1) (exo (hp.objs.size + 1) C none)) ⟨(hp.push (PySem.W.kdv_tup us)).push (PySem.HandSPX.excO C hp.objs.size), g, dr, tk, os⟩ :=
    I1.laid (t' := tk) (a := hp.objs.size + 1) (o := exo (hp.objs.size + 1) C none) (h' := (hp.push (PySem.W.kdv_tup us)).push (PySem.HandSPX.excO C hp.objs.size)) kk hsz (exo_ok hget)
  have r2 : Vals (V.ref (hp.objs.size + 1) :: vs) (Value.ref (hp.objs.size + 1) :: us) := .cons rfl r1
  have hus : us.length ≤ sizeLine := by
    rw [← Paired.length r1, sizeLine_eq]
    omega
  refine wpAny_call (PySem.HandSPX.call_own F.excBase_ValueError (fun Y => PySem.HandSPX.refsVE_contains Y bm hbm) (I1.kIn _ _ hC) (PySem.W.looks_findIn I1.kIn iC) (fun self => PySem.W.bind_fn I1.kIn self tI) hus
    (codeAny_mono (F1 _ X.stack _ _ (Value.ref (hp.objs.size + 1) :: us) _ _ (fun _ _ _ => False) (hr.make C us []) (I2.env0.make C us []) r2 hq) fun r s' hq' => ?_))
  cases r with
  | error er => exact hx pins σ _ _ er s' I2 hq'
  | ok fl =>
    cases fl with
    | ret u =>
      obtain ⟨v, H', I3, rv, ev, q3⟩ := I2.after hq'
      subst ev
      exact ⟨rv, V.ref (hp.objs.size + 1), H', I3, rfl, q3⟩
    | next => exact False.elim hq'
    | brk => exact False.elim hq'
    | cont => exact False.elim hq'
/-- C(k=e, ..): by keywords alone -/
def tOexK (C : Addr) (m : Nat) (gV : List V → List V → List V) (sp : Sp) (tk : TA) : TE := fun σ H Q => tk σ H fun zs H1 => zs.length = m ∧ ∀ a, H1 a = none → sp (gV [.ref a] zs) (upd H1 a (exo a C none)) (fun u H2 => u = .non ∧ Q (.ref a) H2) (fun _ _ _ => False)
theorem pe_oexK (T : OexC X.K C) (iC : PySem.W.findIn X.K (.ref C) "__init__" = some (some (.ref fI))) (tI : PySem.W.typeIn X.K (.ref fI) = some (.type "function"))
    (F1 : FnOk X.prog X.w X.K X.mg X.base CX k fI fd ps sp) (hr : Room (k + 1) X.A) (hb : KBn X.K fd ps 1 ks g gV) (hx : Passes CX X (fun _ _ _ => False)) (hg : Gl X x) (hm : X.mg x = some (.ref C)) (hkw : PK X kws tk)
    (hall : (backToKw pos (keywordEach kws X.env)).all (·.1.isSome) = true := by rfl) (hks : (backToKw pos (keywordEach kws X.env)).filterMap (·.1) = ks := by rfl) (hdb : (x == ("__debug__" : Str)) = false := by decide)
    (hpl : ((backTo pos (starEach [] X.env)).any (·.1) || (backToKw pos (keywordEach kws X.env)).any (·.1.isNone)) = false := by rfl) :
    PE X (.Call (.Name x p) [] kws pos) (tOexK C ks.length gV sp tk) := by
  refine ⟨fun pins s σ H Q I h => ?_⟩
  obtain ⟨nm, q, N, bs, bm, sn, sub, ab, col, dd, k0, k1, k2, k3, k5, hC, hbm⟩ := T.cls
  refine wpAny_Call_Name_kw (ld_glob I hg hm ?_ hdb)
  refine PySem.W.callWith_KW0 (h₀ := X.base) I.ok.mod.kin T.kC hall (thn (hkw.run pos pins s σ H _ I h) fun ws s1 ⟨zs, H1, I1, rz, l2, q1⟩ => ⟨I1.kIn, ?_⟩) hpl
  rw [hks]
  show wpAny _ _ (call (.ref C) [] (ks.zip ws)) _ _ _
  obtain ⟨hp, g0, dr, tk, os⟩ := s1
  have hsz : hp.objs.size ≤ hp.objs.size + 1 := Nat.le_succ _
  have hn : H1 (hp.objs.size + 1) = none := I1.hok.fresh hsz
  have hq := q1 (hp.objs.size + 1) hn
  have kk : ∀ b o, hp.get? b = some o → ((hp.push (PySem.W.kdv_tup [])).push (PySem.HandSPX.excO C hp.objs.size)).get? b = some o := fun b o e => Heap.get?_push_of_some _ (Heap.get?_push_of_some _ e)
  have hget : ((hp.push (PySem.W.kdv_tup [])).push (PySem.HandSPX.excO C hp.objs.size)).get? (hp.objs.size + 1) = some (PySem.HandSPX.excO C hp.objs.size) := by heap_get
  have I2 : Inv X pins σ (upd H1 (hp.objs.size + 1) (exo (hp.objs.size + 1) C none)) ⟨(hp.push (PySem.W.kdv_tup [])).push (PySem.HandSPX.excO C hp.objs.size), g0, dr, tk, os⟩ :=
    I1.laid (t' := tk) (a := hp.objs.size + 1) (o := exo (hp.objs.size + 1) C none) (h' := (hp.push (PySem.W.kdv_tup [])).push (PySem.HandSPX.excO C hp.objs.size)) kk hsz (exo_ok hget)
  have r1 : Vals [V.ref (hp.objs.size + 1)] [Value.ref (hp.objs.size + 1)] := .cons rfl .nil
  refine wpAny_call (PySem.OwX.call_kw F.excBase_ValueError (fun Y => PySem.HandSPX.refsVE_contains Y bm hbm) (I1.kIn _ _ hC) (PySem.W.looks_findIn I1.kIn iC) (fun self => PySem.W.bind_fn I1.kIn self tI) (Nat.zero_le _)
    (codeAny_mono (F1.run _ X.stack _ _ ⟨[Value.ref (hp.objs.size + 1)], ks.zip ws⟩ (g [Value.ref (hp.objs.size + 1)] ws) _ _ (fun _ _ _ => False) (hr.make C [] (ks.zip ws)) (I2.env0.make C [] (ks.zip ws)) (hb.to _ [Value.ref (hp.objs.size + 1)] ws I2.kIn rfl (rz.length.symm.trans l2)) (hb.rel r1 rz) hq) fun r s' hq' => ?_))
  cases r with
  | error er => exact hx pins σ _ _ er s' I2 hq'
  | ok fl =>
    cases fl with
    | ret u =>
      obtain ⟨v, H', I3, rv, ev, q3⟩ := I2.after hq'
      subst ev
      exact ⟨rv, V.ref (hp.objs.size + 1), H', I3, rfl, q3⟩
    | next => exact False.elim hq'
    | brk => exact False.elim hq'
    | cont => exact False.elim hq'
/-- o.f, o an own error that keeps fields -/
def tXfV (K : PySem.W.Frag) (n : Str) (te : TE) : TE := fun σ H Q => te σ H fun y H1 => ∃ (a C dd : Addr) (fs : List (Str × V)) (v : V), y = .ref a ∧ XfC K C ∧ PySem.W.findIn K (.ref C) n = some none ∧ H1 a = some (exo a C (some dd)) ∧ H1 dd = some (exd dd fs) ∧ fs.lookup n = some v ∧ Q v H1
theorem pe_xfV {te : TE} {n : Str} (he : PE X e te) (hb : attributeBase e n X.env (eval e X.env) = eval e X.env := by rfl) : PE X (.Attribute e n pos) (tXfV X.K n te) := by
  refine ⟨fun pins s σ H Q I h => ?_⟩
  refine attr_of hb (thn (he.run pins s σ H _ I h) fun u s1 hh => ?_)
  obtain ⟨y, H1, I1, ry, a, C, dd, fs, v, ey, T, hno, ea, ed, l, q⟩ := hh
  subst ey
  obtain rfl : u = Value.ref a := ry
  obtain ⟨t1, ha⟩ := exo_at I1.hok ea
  obtain ⟨mA, hns, hr⟩ := exd_at I1.hok ed
  obtain ⟨od, ho, hl⟩ := lookIn_ns hns
  obtain ⟨u, hu, ru⟩ := RelO.some_of (v := v) (o := mA n) (by rw [← l]; exact hr n)
  have J : PySem.W.InstAt s1.heap a _ C (some od) := ⟨ha, rfl, rfl, ho⟩
  exact HandSPX.exc_get I1.kIn J T.ga T.gg T.exC (PySem.W.findObj_own T.hdC hno rfl (by rw [hl, hu])) (handed_of ru) ⟨v, H1, I1.tok _, ru, q⟩
/-- isinstance(o, T), o an own error with or without fields -/
def rIsXV (K : PySem.W.Frag) : List V → Hp → VK → Prop := fun xs H Q => ∃ (a C : Addr) (d : Option Addr) (c : V) (cv : Value) (b : Bool), xs = [.ref a, c] ∧ H a = some (exo a C d) ∧ (∀ dd, d = some dd → ∃ fs, H dd = some (exd dd fs)) ∧ ExcC K C ∧ (PySem.W.clsIn K C).isSome = true ∧ (∀ u, RelV c u → u = cv) ∧ PySem.W.kitOne K (.ref C) cv = some b ∧ Q (.bl b) H
theorem call_isXV : CallR X (.builtin "isinstance") (rIsXV X.K) := by
  intro pins s σ H xs us Q I r h
  obtain ⟨a, C, d, c, cv, b, rfl, ea, ed, T, hci, hcv, hk, q⟩ := h
  cases r with
  | cons rx r2 =>
    cases r2 with
    | cons rc r3 =>
      cases r3
      cases rx
      cases hcv _ rc
      obtain ⟨t1, ha⟩ := exo_at I.hok ea
      have J : ∃ od, PySem.W.InstAt s.heap a ({ cls := .ref C, dict := d, data := .fields #[.ref t1, .none, .none, .none, .bool false, .none] } : Obj) C od := by
        cases d with
        | none => exact ⟨none, ha, rfl, rfl, True.intro⟩
        | some dd =>
          obtain ⟨fs, hd⟩ := ed dd rfl
          obtain ⟨mA, hns, hr⟩ := exd_at I.hok hd
          obtain ⟨od, ho, hl⟩ := lookIn_ns hns
          exact ⟨some od, ha, rfl, rfl, ho⟩
      obtain ⟨od, J⟩ := J
      refine PySem.W.kia_one (PySem.W.kitx_exc (x := a) (od := od) hci T.hg T.hk T.hs T.ha T.hn T.ht T.hm) I.kIn J hk (fun z => by cases z) fun tk => ?_
      exact ⟨.bl b, H, I.kept fun _ _ e => e, rfl, q⟩
end
end Ow
end
section
set_option maxHeartbeats 4000000
/-! repr of data with dicts, where the table of modules is known to stand. -/
namespace Ow
open PySem PySem.Spec PyProof.Rows L2 StX
def keyD : Key → PyData
  | .inl i => .int i
  | .inr x => .str x
mutual
inductive Dq (K : PySem.W.Frag) (H : Hp) : V → PyData → Prop
  | non : Dq K H .non .none
  | bl (b : Bool) : Dq K H (.bl b) (.bool b)
  | int (i : Int) : Dq K H (.int i) (.int i)
  | str (x : Str) : Dq K H (.str x) (.str x)
  | lst {a : Addr} {xs : List V} {ds : List PyData} : SqL K H a xs → DqAll K H xs ds → Dq K H (.ref a) (.list ds)
  | tup {a : Addr} {xs : List V} {ds : List PyData} : SqT K H a xs → DqAll K H xs ds → Dq K H (.ref a) (.tuple ds)
  | dic {a : Addr} {kvs : List (Key × V)} {ds : List (PyData × PyData)} : H a = some (.dK kvs) → DqPs K H kvs ds → Dq K H (.ref a) (.dict ds)
inductive DqAll (K : PySem.W.Frag) (H : Hp) : List V → List PyData → Prop
  | nil : DqAll K H [] []
  | cons {v : V} {vs : List V} {d : PyData} {ds : List PyData} : Dq K H v d → DqAll K H vs ds → DqAll K H (v :: vs) (d :: ds)
inductive DqPs (K : PySem.W.Frag) (H : Hp) : List (Key × V) → List (PyData × PyData) → Prop
  | nil : DqPs K H [] []
  | cons {k : Key} {v : V} {vs : List (Key × V)} {d : PyData} {ds : List (PyData × PyData)} : Dq K H v d → DqPs K H vs ds → DqPs K H ((k, v) :: vs) ((keyD k, d) :: ds)
end
/-- the table of modules stands in the base -/
def SysB (base : Heap) : Prop := ∃ m, base.Ns sysModules m
section
variable {X : Cx} {pins : List (Addr × Obj)} {σ : L2.St} {H : Hp} {s : Shared}
theorem SysB.lst {a : Addr} {its : Array Value} {n : Nat} {o : Obj} (S : SysB X.base) (I : Inv X pins σ H s) (h : s.heap.get? a = some o) (hd : o.data = .seq its n) : sysModules ≠ a := fun e => by
  obtain ⟨m, ob, es, ep, e1, e2, _⟩ := S
  have z := (I.env0.bs _ _ e1).1
  rw [e, h] at z
  cases z
  rw [hd] at e2
  cases e2
theorem key_reads {h : Heap} {k : Key} {v : Value} (e : keyIs k v = true) : Reads h v (keyD k) [] := by
  rcases keyIs_shape e with ⟨i, t, rfl, rfl⟩ | ⟨x, t, rfl, rfl⟩
  · exact Reads.int i t
  · exact Reads.str x t
mutual
theorem Dq.reads (I : Inv X pins σ H s) : ∀ (d : PyData) (v : V) (u : Value), Dq X.K H v d → RelV v u → ∃ as, Reads s.heap u d as ∧ (SysB X.base → sysModules ∉ as)
  | .none, _, _, h, r => by
    cases h
    cases r
    exact ⟨_, Reads.none, fun _ => List.not_mem_nil⟩
  | .bool b, _, _, h, r => by
    cases h
    cases r
    exact ⟨_, Reads.bool b, fun _ => List.not_mem_nil⟩
  | .int i, _, _, h, r => by
    cases h
    obtain ⟨t, rfl⟩ := r
    exact ⟨_, Reads.int i t, fun _ => List.not_mem_nil⟩
  | .str x, _, _, h, r => by
    cases h
    obtain ⟨t, rfl⟩ := r
    exact ⟨_, Reads.str x t, fun _ => List.not_mem_nil⟩
  | .list ds, _, _, h, r => by
    cases h with
    | lst hs ha =>
      cases r
      obtain ⟨its, rv, ⟨o, n, ho, hc, _, hd⟩, _⟩ := I.list hs
      obtain ⟨as, hr, hq⟩ := Dq.readsAll I ds _ its ha rv
      exact ⟨_, Reads.list ho hc hd hr, fun S z => by
        rcases List.mem_cons.mp z with e | e
        · exact S.lst I ho hd e
        · exact hq S e⟩
  | .tuple ds, _, _, h, r => by
    cases h with
    | tup hs ha =>
      cases r
      obtain ⟨its, rv, ⟨o, ho, hc, n, hd⟩, _⟩ := I.tuple hs
      obtain ⟨as, hr, hq⟩ := Dq.readsAll I ds _ its ha rv
      exact ⟨_, Reads.tuple ho hc hd hr, hq⟩
  | .dict ds, _, _, h, r => by
    cases h with
    | dic hs ha =>
      cases r
      obtain ⟨hlen, ns, vs, rv, o, es, ep, ho, hc, hd, _, hp, _⟩ := I.hok _ _ hs
      obtain ⟨as, bs, h1, h2, h3⟩ := Dq.readsPs I ds _ vs es.toList ha rv hp
      refine ⟨_, Reads.dict ho hc.1 hd h1 h2, fun S z => ?_⟩
      rcases List.mem_append.mp z with e | e
      · rcases List.mem_cons.mp e with e | e
        · rw [← e] at ns
          exact absurd ns (by decide)
        · exact (h3 S).1 e
      · exact (h3 S).2 e
theorem Dq.readsAll (I : Inv X pins σ H s) : ∀ (ds : List PyData) (vs : List V) (us : List Value), DqAll X.K H vs ds → Vals vs us → ∃ as, ReadsAll s.heap us ds as ∧ (SysB X.base → sysModules ∉ as)
  | [], _, _, h, r => by
    cases h
    cases r
    exact ⟨_, ReadsAll.nil, fun _ => List.not_mem_nil⟩
  | d :: ds, _, _, h, r => by
    cases h with
    | cons h1 h2 =>
      cases r with
      | cons r1 r2 =>
        obtain ⟨as, q1, s1⟩ := Dq.reads I d _ _ h1 r1
        obtain ⟨bs, q2, s2⟩ := Dq.readsAll I ds _ _ h2 r2
        exact ⟨_, ReadsAll.cons q1 q2, fun S z => (List.mem_append.mp z).elim (s1 S) (s2 S)⟩
theorem Dq.readsPs (I : Inv X pins σ H s) : ∀ (ds : List (PyData × PyData)) (kvs : List (Key × V)) (vs : List (Key × Value)) (es : List DictEntry), DqPs X.K H kvs ds → KV kvs vs → Pairs (mixKind X.prog X.w) es vs →
    ∃ as bs, ReadsAll s.heap (es.map (·.key)) (ds.map (·.1)) as ∧ ReadsAll s.heap (es.map (·.val)) (ds.map (·.2)) bs ∧ (SysB X.base → sysModules ∉ as ∧ sysModules ∉ bs)
  | [], _, _, _, h, r, p => by
    cases h
    cases r
    cases p
    exact ⟨_, _, ReadsAll.nil, ReadsAll.nil, fun _ => ⟨List.not_mem_nil, List.not_mem_nil⟩⟩
  | (kd, d) :: ds, _, _, _, h, r, p => by
    cases h with
    | cons h1 h2 =>
      cases r with
      | cons r1 r2 =>
        cases p with
        | cons p1 p2 p3 =>
          obtain ⟨e1, rv⟩ := r1
          obtain ⟨bs, q2, s2⟩ := Dq.reads I d _ _ h1 rv
          obtain ⟨as', bs', q3, q4, s3⟩ := Dq.readsPs I ds _ _ _ h2 r2 p3
          subst e1
          rw [← p2] at q2
          refine ⟨_, _, ReadsAll.cons (key_reads p1) q3, ReadsAll.cons q2 q4, fun S => ⟨?_, fun z => ?_⟩⟩
          · exact (s3 S).1
          · exact (List.mem_append.mp z).elim (s2 S) (s3 S).2
end
end
section
variable {X : Cx} {CX : CXT} {n : Nat} {sp : Sp} {E : XK}
/-- repr of data, dicts too: its text -/
def rReprQ (K : PySem.W.Frag) : List V → Hp → VK → Prop := fun xs H Q => ∃ (x : V) (d : PyData), xs = [x] ∧ Dq K H x d ∧ d.showable = true ∧ d.depth ≤ 8 ∧ d.shown.length ≤ sizeLine ∧ Q (.str d.shown) H
theorem call_reprQ (sb : SysB X.base) (gd : X.A.guards = some []) (hu : X.A.units + 64 < cLine) : CallR X (.builtin "repr") (rReprQ X.K) := by
  intro pins s σ H xs us Q I r h
  obtain ⟨x, d, rfl, hd, hs, hdp, hsz, q⟩ := h
  obtain ⟨u, rfl, ru⟩ := vals1 r
  have fin : ∀ (h' : Heap) (tk : Nat) (u : Tok), (∀ b o, s.heap.get? b = some o → h'.get? b = some o) → EP X pins σ Q (.str d.shown u) { s with heap := h', toks := tk } := fun h' tk u k => ⟨.str d.shown, H, I.kept (t' := tk) k, ⟨u, rfl⟩, q⟩
  obtain ⟨as, rd, ns⟩ := Dq.reads I _ _ _ hd ru
  cases hd with
  | non => cases ru; exact PySem.P.repr_of_none (fin s.heap _ _ fun _ _ e => e)
  | bl b => cases ru; exact PySem.P.repr_of_bool (by cases b <;> exact fin s.heap _ _ fun _ _ e => e)
  | int i =>
    obtain ⟨t, rfl⟩ := ru
    have hi : i.natAbs.log2 < 1920 := of_decide_eq_true hs
    exact PySem.P.repr_of_int hi (fin s.heap _ _ fun _ _ e => e)
  | str z => obtain ⟨t, rfl⟩ := ru; exact PySem.P.repr_of_str (fin s.heap _ _ fun _ _ e => e) hsz
  | lst hq ha =>
    cases ru
    exact repr_of_reads' rd hs (fun _ => ns sb) gd (by omega) (fun _ _ e => e) (fun h' u tk k => fin h' tk u k) hsz
  | tup hq ha =>
    cases ru
    exact repr_of_reads' rd hs (fun _ => ns sb) gd (by omega) (fun _ _ e => e) (fun h' u tk k => fin h' tk u k) hsz
  | dic hq ha =>
    cases ru
    exact repr_of_reads' rd hs (fun _ => ns sb) gd (by omega) (fun _ _ e => e) (fun h' u tk k => fin h' tk u k) hsz
end
end Ow
end
section
set_option maxHeartbeats 4000000
namespace Ow
open PySem PySem.Spec PyProof.Rows L2 StX
/-! ### the end of a law whose def wants to know that nothing is being shown -/
section
variable {P : Program} {w : World} {K : PySem.W.Frag} {mg mb : Str → Option Value} {k : Nat} {fa a : Addr} {sp : Sp} {s1 : Shared} {vs : List Value} {ns : List Int}
/-- the call, from one abstract heap that tracks the script alone, or nothing -/
theorem end_fromB (KX : K.In s1.heap) (hns : s1.heap.Ns mainGlobals mg) (hb : s1.heap.Ns builtinsNs mb) (hbb : ∀ x : Str, x ≠ "__name__" → mb x = bootBuiltins x) (hlim : s1.heap.NoLimit) (hsy : SysB s1.heap) (hg : s1.gens = #[]) (hr : Room k callerA)
    (F : ∀ base : Heap, K.In base → base.Ns mainGlobals mg → SysB base → FnG P w K mg base CX0 k fa sp) {H : Hp} (hO : Only H) (hok : HOk P w H s1.heap) (dom : ∀ b u, H b = some u → K.lookup b = none ∧ ∃ o items n, s1.heap.get? b = some o ∧ o.data = .seq items n)
    (hsp : sp [.ref a] H (fun v _ => v = .bl true) fun _ _ _ => False) :
    codeAny (model P w) callerA (.call (.ref fa) ⟨[.ref a], []⟩) (fun r s' => r = .ok (.ret (.bool true)) ∧ OldK s1.heap s'.heap ∧ s'.os = s1.os ∧ AllBare s'.gens) s1 := by
  let base := hidT s1.heap H
  have dicts : ∀ {b : Addr} {o : Obj} {es : Array DictEntry} {ep : Nat}, s1.heap.get? b = some o → o.data = .dict es ep → base.get? b = some o := fun {b o es ep} e d => by
    refine hidT_get e ?_
    cases q : H b with
    | none => rfl
    | some u =>
      obtain ⟨_, o2, items, n, e2, d2⟩ := dom b u q
      rw [e2] at e
      cases e
      rw [d2] at d
      cases d
  have names : ∀ {b : Addr} {m : Str → Option Value}, s1.heap.Ns b m → base.Ns b m := fun z => by
    obtain ⟨o, es, ep, e, d, r⟩ := z
    exact ⟨o, es, ep, dicts e d, d, r⟩
  have hK : K.In base := fun b o e => by
    refine hidT_get (KX b o e) ?_
    cases q : H b with
    | none => rfl
    | some u =>
      have z := (dom b u q).1
      rw [e] at z
      cases z
  have lim : base.NoLimit := by
    obtain ⟨m, h1, h2⟩ := hlim
    exact ⟨m, names h1, h2⟩
  have e0 : Env0 P w K mg base callerA [] s1 H :=
    { frames := rfl, mod := ⟨hK, names hns, ⟨mb, names hb, hbb⟩, lim⟩, bs := fun b o e => of_hidT e, bsz := Nat.le_of_eq (hidT_size _ _), funs := trivial, frf := fun b hb => (List.not_mem_nil hb).elim, hok := hok, bare := .of_eq hg }
  refine codeAny_mono (F base hK (names hns) (let ⟨m, z⟩ := hsy; ⟨m, names z⟩) callerA [] s1 H [.ref a] [.ref a] _ _ hr rfl e0 (.cons rfl .nil) hsp) fun r s' h => ?_
  cases r with
  | error e => exact False.elim h
  | ok fl =>
    cases fl with
    | ret u =>
      obtain ⟨v, H2, os, bare, un, ok2, rv, q⟩ := h
      subst q
      cases rv
      refine ⟨rfl, OldK.of_keep fun b o e => ?_, os, bare⟩
      cases q : H b with
      | none => exact un.keep b o e q (fun z => List.not_mem_nil z) (fun z => List.not_mem_nil z)
      | some u =>
        rcases hO b with z | ⟨ob, xs, z⟩
        · rw [q] at z
          cases z
        · have e1 := (hok b _ z).1
          have e2 := (ok2 b _ (un.frzs b ob _ z)).1
          rw [e] at e1
          cases e1
          exact e2
    | next => exact False.elim h
    | brk => exact False.elim h
    | cont => exact False.elim h
theorem end_callGB (KX : K.In s1.heap) (hns : s1.heap.Ns mainGlobals mg) (hb : s1.heap.Ns builtinsNs mb) (hbb : ∀ x : Str, x ≠ "__name__" → mb x = bootBuiltins x) (hlim : s1.heap.NoLimit) (hsy : SysB s1.heap) (hg : s1.gens = #[]) (hr : Room k callerA)
    (ha : s1.heap.get? a = some { cls := .type "list", data := .seq vs.toArray }) (hi : IntsAre vs ns) (hl : ns.length ≤ sizeLine) (F : ∀ base : Heap, K.In base → base.Ns mainGlobals mg → SysB base → FnG P w K mg base CX0 k fa sp)
    (hsp : ∀ H : Hp, Only H → SqL K H a (ns.map V.int) → sp [.ref a] H (fun v _ => v = .bl true) fun _ _ _ => False) :
    codeAny (model P w) callerA (.call (.ref fa) ⟨[.ref a], []⟩) (fun r s' => r = .ok (.ret (.bool true)) ∧ OldK s1.heap s'.heap ∧ s'.os = s1.os ∧ AllBare s'.gens) s1 := by
  have rv := vals_ints hi
  have hl2 : (ns.map V.int).length ≤ sizeLine := by rw [List.length_map]; exact hl
  cases hk : K.lookup a with
  | some o =>
    have e := KX a o hk
    rw [ha] at e
    cases e
    refine end_fromB KX hns hb hbb hlim hsy hg hr F (H := fun _ => none) (fun _ => .inl rfl) (fun b u z => by cases z) (fun b u z => by cases z) (hsp _ (fun _ => .inl rfl) ?_)
    exact .inr ⟨_, vs.toArray, _, hk, rfl, rfl, rfl, by rw [List.size_toArray, hi.length]; exact hl, by simpa using rv⟩
  | none =>
    let o : Obj := { cls := .type "list", data := .seq vs.toArray }
    let H : Hp := fun b => if b = a then some (.frz o (.lst (ns.map V.int))) else none
    have H1 : H a = some (.frz o (.lst (ns.map V.int))) := if_pos rfl
    have H0 : ∀ b u, H b = some u → b = a ∧ u = .frz o (.lst (ns.map V.int)) := fun b u z => by
      by_cases e : b = a
      · subst e
        rw [H1] at z
        cases z
        exact ⟨rfl, rfl⟩
      · have z0 : H b = none := if_neg e
        rw [z0] at z
        cases z
    have hO : Only H := fun b => by
      by_cases e : b = a
      · subst e; exact .inr ⟨_, _, H1⟩
      · exact .inl (if_neg e)
    refine end_fromB KX hns hb hbb hlim hsy hg hr F (H := H) hO (fun b u z => ?_) (fun b u z => ?_) (hsp _ hO (.inl (.inr ⟨_, H1⟩)))
    · obtain ⟨rfl, rfl⟩ := H0 b u z
      exact ⟨ha, hl2, vs, _, rv, ha⟩
    · obtain ⟨rfl, rfl⟩ := H0 b u z
      exact ⟨hk, _, _, _, ha, rfl⟩
end
theorem walk_ofGB {l : PySem.W.OpenLaw} {n k : Nat} {q : Program} {loose : List Str} {XP : (Str → Option Value) → Heap → Prop} {YP : World → Heap → Prop} {d : DefRec} {K : Params → PySem.W.Frag} {sp : World → Sp}
    (hi : importsNone q = true) (hn : l.most = some n) (hn2 : n ≤ sizeLine) (hdf : d.params.defaults = []) (hr : Room k callerA) (hY : ∀ (w : World) (h : Heap), YP w h → (K w.params).In h)
    (F : ∀ (w : World) (mg : Str → Option Value) (fa : Addr) (h : Heap), (K w.params).In h → h.Ns mainGlobals mg → mg d.name = some (.ref fa) →
      ∀ base : Heap, (K w.params).In base → base.Ns mainGlobals mg → SysB base → FnG l.prog w (K w.params) mg base CX0 k fa (sp w))
    (hsp : ∀ (w : World) (H : Hp) (a : Addr) (ns : List Int), ns.length ≤ n → Only H → SqL (K w.params) H a (ns.map V.int) → sp w [.ref a] H (fun v _ => v = .bl true) fun _ _ _ => False) :
    PySem.W.WalkO q loose XP YP l.row.toRowW d [] (fun f vs => PySem.call f vs) := by
  refine Att.attach_call hn hdf fun w s0 s1 mg mb fa o pm cd doc a vs ns G Y ho hd hcd hmg hobj hints hlen hg => ?_
  have KX := hY w _ Y
  exact end_callGB KX G.T.g G.T.b G.T.builtins G.T.nolimit (let ⟨m, z, _⟩ := (G.T.seer hi).mods; ⟨m, z⟩) hg hr hobj hints (Nat.le_trans hlen hn2) (F w mg fa _ KX G.T.g hmg) fun H hO hS => hsp w H a ns hlen hO hS
end Ow
end
section
set_option maxHeartbeats 4000000
/-! Own errors as values: what holds of one, classes told by the order of their bases, readings of the makings. -/
namespace Ow
open PySem PySem.Spec PyProof.Rows L2 StX
/-- the class's order of bases: itself, the package's base, ValueError, .. -/
def mroE (K : PySem.W.Frag) (C B : Addr) : Bool := match PySem.W.clsIn K C with
  | some cd => cd.mro == [.ref C, .ref B, .type "ValueError", .type "Exception", .type "BaseException", .type "object"]
  | none => false
theorem mroE_mk {K : PySem.W.Frag} {C B : Addr} {cd : PySem.ClassData} (h : PySem.W.clsIn K C = some cd) (m : (cd.mro == [.ref C, .ref B, .type "ValueError", .type "Exception", .type "BaseException", .type "object"]) = true) : mroE K C B = true := by
  unfold mroE
  rw [h]
  exact m
theorem mroE_sub {K : PySem.W.Frag} {C B : Addr} (h : mroE K C B = true) (t : Value) : PySem.W.subIn K (.ref C) t = some (([.ref C, .ref B, .type "ValueError", .type "Exception", .type "BaseException", .type "object"] : List Value).contains t) := by
  unfold mroE at h
  show PySem.W.mroIn K C t = _
  unfold PySem.W.mroIn
  cases e : PySem.W.clsIn K C with
  | none => rw [e] at h; cases h
  | some cd =>
    rw [e] at h
    have q := beq_iff_eq.mp h
    show (if cd.mro.isEmpty then none else some (cd.mro.contains t)) = _
    rw [q]
    rfl
theorem mroE_some {K : PySem.W.Frag} {C B : Addr} (h : mroE K C B = true) : (PySem.W.clsIn K C).isSome = true := by
  unfold mroE at h
  cases e : PySem.W.clsIn K C with
  | none => rw [e] at h; cases h
  | some cd => rfl
/-- isinstance of an own error: its class, the base, a class beside it, ValueError -/
theorem kitE {K : PySem.W.Frag} {C B D : Addr} (h : mroE K C B = true) (i : (PySem.W.clsIn K D).isSome = true) (t : PySem.W.typeIn K (.ref D) = Option.some (.type "type")) (ne : D ≠ C) (nb : D ≠ B) : PySem.W.kitOne K (.ref C) (.ref D) = Option.some false := by
  refine kit_err i t ?_ (beq_eq_false_iff_ne.mpr fun z => ne (by cases z; rfl))
  rw [mroE_sub h]
  simp [ne, nb]
theorem kitEB {K : PySem.W.Frag} {C B : Addr} (h : mroE K C B = true) (i : (PySem.W.clsIn K B).isSome = true) (t : PySem.W.typeIn K (.ref B) = Option.some (.type "type")) (ne : C ≠ B) : PySem.W.kitOne K (.ref C) (.ref B) = Option.some true := by
  refine kit_err i t ?_ (beq_eq_false_iff_ne.mpr fun z => ne (by cases z; rfl))
  rw [mroE_sub h]
  simp
theorem kitEV {K : PySem.W.Frag} {C B : Addr} (h : mroE K C B = true) : PySem.W.kitOne K (.ref C) (.type "ValueError") = Option.some true := by
  unfold PySem.W.kitOne
  rw [if_neg (by simp)]
  show PySem.W.subIn K (.ref C) (.type "ValueError") = _
  rw [mroE_sub h]
  simp
/-- an own error with these fields -/
def EO (H : Hp) (e C : Addr) (fs : List (Str × V)) : Prop := ∃ d, H e = some (exo e C (some d)) ∧ H d = some (exd d fs)
theorem EO.same {H H' : Hp} {e C : Addr} {fs : List (Str × V)} (x : EO H e C fs) (s : ∀ b o, H b = some o → H' b = some o) : EO H' e C fs := by
  obtain ⟨d, h1, h2⟩ := x
  exact ⟨d, s _ _ h1, s _ _ h2⟩
theorem made_keeps {H : Hp} {e d : Addr} {C : Addr} {fs : List (Str × V)} (ha : H e = none) (hd : H d = none) (ne : d ≠ e) :
    (∀ b o, H b = some o → upd (upd (upd H e (exo e C none)) d (exd d fs)) e (exo e C (some d)) b = some o) ∧ EO (upd (upd (upd H e (exo e C none)) d (exd d fs)) e (exo e C (some d))) e C fs := by
  refine ⟨fun b o q => ?_, d, upd_same, by rw [upd_ne ne]; exact upd_same⟩
  have n1 : b ≠ e := ne_of_none q ha
  have n2 : b ≠ d := ne_of_none q hd
  rw [upd_ne n1, upd_ne n2, upd_ne n1]
  exact q
section
variable {H : Hp} {C : Addr} {n m : Str} {v u : V} {Q : VK}
theorem oex1 (k : ∀ (e : Addr) (H' : Hp), (∀ b o, H b = some o → H' b = some o) → EO H' e C [(n, v)] → Q (.ref e) H') :
    [v].length ≤ 1000 ∧ ∀ a, H a = none → spErr1 C n (.ref a :: [v]) (upd H a (exo a C none)) (fun z H2 => z = .non ∧ Q (.ref a) H2) (fun _ _ _ => False) := by
  refine ⟨Nat.le_of_ble_eq_true rfl, fun a ha => ⟨a, v, rfl, upd_same, fun d hd ne => ⟨rfl, ?_⟩⟩⟩
  rw [upd_ne ne] at hd
  exact k a _ (made_keeps ha hd ne).1 (made_keeps ha hd ne).2
theorem oex2 (k : ∀ (e : Addr) (H' : Hp), (∀ b o, H b = some o → H' b = some o) → EO H' e C [(m, u), (n, v)] → Q (.ref e) H') :
    [v, u].length ≤ 1000 ∧ ∀ a, H a = none → spErr2 C n m (.ref a :: [v, u]) (upd H a (exo a C none)) (fun z H2 => z = .non ∧ Q (.ref a) H2) (fun _ _ _ => False) := by
  refine ⟨Nat.le_of_ble_eq_true rfl, fun a ha => ⟨a, v, u, rfl, upd_same, fun d hd ne => ⟨rfl, ?_⟩⟩⟩
  rw [upd_ne ne] at hd
  exact k a _ (made_keeps ha hd ne).1 (made_keeps ha hd ne).2
/-- by keywords, the other way round -/
theorem oexK2 {gV : List V → List V → List V} (hg : ∀ a, gV [V.ref a] [u, v] = [.ref a, v, u]) (k : ∀ (e : Addr) (H' : Hp), (∀ b o, H b = some o → H' b = some o) → EO H' e C [(m, u), (n, v)] → Q (.ref e) H') :
    [u, v].length = 2 ∧ ∀ a, H a = none → spErr2 C n m (gV [.ref a] [u, v]) (upd H a (exo a C none)) (fun z H2 => z = .non ∧ Q (.ref a) H2) (fun _ _ _ => False) := by
  refine ⟨rfl, fun a ha => ?_⟩
  rw [hg]
  exact (oex2 k).2 a ha
end
end Ow
end
section
set_option maxHeartbeats 4000000
/-! An own error without a def of its own, made of nothing, as a value. -/
namespace Ow
open PySem PySem.Spec PyProof.Rows L2 StX
theorem pe_exc0 {X : Cx} {C : Addr} {bmB : List Value} {B newId initId : String} {x : Str} {p pos : Pos} (F : ExcBaseFacts B newId initId bmB) (q : PySem.W.excIn X.K C bmB newId = true) (gC : X.mg x = some (.ref C)) (kC : PySem.W.keepIn X.K (.ref C) = true) (hg : Gl X x)
    (hdb : (x == ("__debug__" : Str)) = false := by decide) : PE X (.Call (.Name x p) [] [] pos) (fun σ H Q => ∀ a, H a = none → Q (.ref a) (upd H a (exo a C none))) := by
  refine ⟨fun pins s σ H Q I h => ?_⟩
  refine wpAny_Call_Name_kw (ld_glob I hg gC ?_ hdb)
  refine PySem.W.callWith_K0 I.kIn kC ?_
  obtain ⟨bm, N, nm, qn, bs, hdct, sn, sub, ab, col, dd, k0, k1, k2, k3, k5, mN, hC, hN, hni, T⟩ := exc_obj I.kIn q
  obtain ⟨hp, g, dr, tk, os⟩ := s
  refine wpAny_call_exc_subT F T hC hN hni (fun h' a hm => ?_) (by show 0 ≤ sizeLine; exact Nat.zero_le _)
  have hn : H a = none := I.hok.gone hm.new
  obtain ⟨t, ht, _, _⟩ := hm.there
  exact ⟨.ref a, upd H a (exo a C none), I.laidN hm.keeps hm.new hn (exo_ok ht), rfl, h a hn⟩
end Ow
end
section
set_option maxHeartbeats 4000000
/-! New objects and comprehensions said once more, so that what is wanted behind them can be read off (the readings unfolded by simp). -/
namespace Ow
open PySem PySem.Spec PyProof.Rows L2 StX
/-- p is a new object o, all else stays -/
structure Fresh (H H' : Hp) (p : Addr) (o : HO) : Prop where
  same : Same H H'
  at_ : H' p = some o
  new : H p = none
theorem Fresh.get {H H' : Hp} {p : Addr} {o : HO} (f : Fresh H H' p o) {b : Addr} {u : HO} (h : H b = some u) : H' b = some u := f.same _ _ h
theorem Fresh.ne {H H' : Hp} {p : Addr} {o : HO} (f : Fresh H H' p o) {b : Addr} {u : HO} (h : H b = some u) : b ≠ p := fun e => by
  rw [e, f.new] at h
  cases h
def kN (o : HO) (Q : VK) : Hp → Prop := fun H => ∀ p, H p = none → Q (.ref p) (upd H p o)
def kNew (f : List V → HO) (Q : VK) : List V → Hp → Prop := fun xs H => xs.length ≤ sizeLine ∧ kN (f xs) Q H
theorem fresh_upd {H : Hp} {p : Addr} {o : HO} (h : H p = none) : Fresh H (upd H p o) p o := ⟨fun b u e => by rw [upd_ne (ne_of_none e h)]; exact e, upd_same, h⟩
theorem kN.mk {o : HO} {Q : VK} {H : Hp} (k : ∀ p H', Fresh H H' p o → Q (.ref p) H') : kN o Q H := fun p h => k p _ (fresh_upd h)
theorem kNew.mk {f : List V → HO} {Q : VK} {xs : List V} {H : Hp} (hs : xs.length ≤ sizeLine) (k : ∀ p H', Fresh H H' p (f xs) → Q (.ref p) H') : kNew f Q xs H := ⟨hs, kN.mk k⟩
theorem tLst_k (t : TA) : tLst t = fun σ H Q => t σ H (kNew .lst Q) := rfl
theorem tTup_k (t : TA) : tTup t = fun σ H Q => t σ H (kNew .tup Q) := rfl
theorem rNewStrs_k (ys : List Str) : rNewStrs ys = fun H Q => kN (.lst (ys.map V.str)) Q H := rfl
theorem rCat_k : rCat = fun x y H Q => ∃ l b xs zs, x = .ref l ∧ y = .ref b ∧ H l = some (.lst xs) ∧ H b = some (.lst zs) ∧ xs.length + zs.length ≤ sizeLine ∧ kN (.lst (xs ++ zs)) Q H := rfl
theorem rRep_k : rRep = fun x y H Q => ∃ l k xs, x = .ref l ∧ y = .int k ∧ H l = some (.lst xs) ∧ -(2 ^ 63) ≤ k ∧ k < 2 ^ 63 ∧ xs.length * k.toNat ≤ sizeLine ∧ kN (.lst (List.replicate k.toNat xs).flatten) Q H := rfl
theorem rSlL_k (K : PySem.W.Frag) : rSlL K = fun x lo hi H Q => ∃ a xs, x = .ref a ∧ SqL K H a xs ∧ kN (.lst (cutV xs lo hi)) Q H := rfl
/-- a list is changed -/
def kPut (l : Addr) (o : HO) (Q : VK) : Hp → Prop := fun H => Q .non (upd H l o)
structure Put (H H' : Hp) (l : Addr) (o : HO) : Prop where
  at_ : H' l = some o
  else_ : ∀ b, b ≠ l → H' b = H b
theorem kPut.mk {l : Addr} {o : HO} {Q : VK} {H : Hp} (k : ∀ H', Put H H' l o → Q .non H') : kPut l o Q H := k _ ⟨upd_same, fun b n => upd_ne n⟩
theorem Put.get {H H' : Hp} {l : Addr} {o : HO} (f : Put H H' l o) {b : Addr} {u : HO} (n : b ≠ l) (h : H b = some u) : H' b = some u := (f.else_ b n).trans h
theorem rAppend_k : rAppend = fun x vs H Q => ∃ l xs y, x = .ref l ∧ vs = [y] ∧ H l = some (.lst xs) ∧ xs.length < sizeLine ∧ kPut l (.lst (xs ++ [y])) Q H := rfl
section
variable {X : Cx}
def rListOf (K : PySem.W.Frag) : List V → Hp → VK → Prop := fun xs H Q => ∃ p ys, xs = [.ref p] ∧ (SqL K H p ys ∨ SqT K H p ys) ∧ kN (.lst ys) Q H
theorem call_listK : CallR X (.type "list") (rListOf X.K) := call_list_of
def rTupOf (K : PySem.W.Frag) : List V → Hp → VK → Prop := fun xs H Q => ∃ p ys, xs = [.ref p] ∧ ((SqL K H p ys ∧ kN (.tup ys) Q H) ∨ (SqT K H p ys ∧ Q (.ref p) H))
theorem call_tupleK : CallR X (.type "tuple") (rTupOf X.K) := call_tuple_of
def rLenSeq (K : PySem.W.Frag) : List V → Hp → VK → Prop := fun xs H Q => ∃ p ys, xs = [.ref p] ∧ (SqL K H p ys ∨ SqT K H p ys) ∧ Q (.int ys.length) H
theorem call_lenK : CallR X (.builtin "len") (rLenSeq X.K) := call_len_seq
end
/-! ### comprehensions whose elements only make new objects -/
def kLc (J : It) (g : TG) (tt : TT) (te : TE) (vs : List Nat) (σ : L2.St) (Q : VK) (H1 : Hp) : Prop := ∀ D, H1 D = none → ∃ W : Nat → Nat → Hp → Prop, (∃ m, W 0 m (upd H1 D (.lst []))) ∧ ∀ i m H, W i m H →
  (J.stop i H ∧ Q (.ref D) H) ∨ (J.go i H ∧ ∃ Nx : Hp → Prop, (∀ H', Nx H' → ∃ m', m' < m ∧ W (i + 1) m' H') ∧ ∀ x H', J.yld i H x H' → g x (wipe σ vs) H' fun σ2 H2 => wipe σ2 vs = wipe σ vs ∧ tt σ2 H2 fun b H3 =>
    if b = true then te σ2 H3 fun y H4 => ∃ acc, H4 D = some (.lst acc) ∧ acc.length < sizeLine ∧ Nx (upd H4 D (.lst (acc ++ [y]))) else Nx H3)
theorem tLc_k (wi : TI) (g : TG) (tt : TT) (te : TE) (vs : List Nat) : tLc wi g tt te vs = fun σ H Q => wi σ H fun J H1 => kLc J g tt te vs σ Q H1 := rfl
/-- within the comprehension: H1 as it was ahead of it, the new list at D -/
structure LcIn (H1 H : Hp) (D : Addr) (acc : List V) : Prop where
  same : Same H1 H
  at_ : H D = some (.lst acc)
  new : H1 D = none
def kApp (D : Addr) (N : Hp → Prop) : VK := fun y H4 => ∃ acc, H4 D = some (.lst acc) ∧ acc.length < sizeLine ∧ N (upd H4 D (.lst (acc ++ [y])))
theorem kApp.mk {H1 H H4 : Hp} {D : Addr} {acc acc' : List V} {y : V} (c : LcIn H1 H D acc) (s : Same H H4) (hl : acc.length < sizeLine) (h : acc ++ [y] = acc') : kApp D (fun H' => LcIn H1 H' D acc') y H4 := by
  refine ⟨acc, s _ _ c.at_, hl, ⟨fun b u e => ?_, by rw [upd_same, h], c.new⟩⟩
  rw [upd_ne (ne_of_none e c.new)]
  exact s _ _ (c.same _ _ e)
theorem kLc.all {J : It} {n : Nat} {G : Hp → Prop} {Y : Nat → Hp → V → Hp → Prop} (w : Walk J n G Y) {g : TG} {tt : TT} {te : TE} {vs : List Nat} {σ : L2.St} {Q : VK} {H1 : Hp} (outs : Nat → List V) (h0 : outs 0 = []) (hG : ∀ H, Same H1 H → G H)
    (hs : ∀ D i x H H', i < n → LcIn H1 H D (outs i) → Y i H x H' → g x (wipe σ vs) H' fun σ2 H2 => wipe σ2 vs = wipe σ vs ∧ tt σ2 H2 fun b H3 => if b = true then te σ2 H3 (kApp D fun H' => LcIn H1 H' D (outs (i + 1))) else LcIn H1 H3 D (outs (i + 1)))
    (hd : ∀ D H', Fresh H1 H' D (.lst (outs n)) → Q (.ref D) H') : kLc J g tt te vs σ Q H1 := fun D hD =>
  lc_it w (fun i H => LcIn H1 H D (outs i)) ⟨(fresh_upd hD).same, by rw [h0]; exact upd_same, hD⟩ (fun i H _ c => hG H c.same) (fun i x H H' hi c y => hs D i x H H' hi c y) fun H c => hd D H ⟨c.same, c.at_, c.new⟩
theorem kLc.map {J : It} {n : Nat} {G : Hp → Prop} {Y : Nat → Hp → V → Hp → Prop} (w : Walk J n G Y) {g : TG} {tt : TT} {te : TE} {vs : List Nat} {σ : L2.St} {Q : VK} {H1 : Hp} (out : List V) (hn : out.length = n) (hG : ∀ H, Same H1 H → G H)
    (hs : ∀ D i x H H', i < n → LcIn H1 H D (out.take i) → Y i H x H' → g x (wipe σ vs) H' fun σ2 H2 => wipe σ2 vs = wipe σ vs ∧ tt σ2 H2 fun b H3 => if b = true then te σ2 H3 (kApp D fun H' => LcIn H1 H' D (out.take (i + 1))) else LcIn H1 H3 D (out.take (i + 1)))
    (hd : ∀ D H', Fresh H1 H' D (.lst out) → Q (.ref D) H') : kLc J g tt te vs σ Q H1 :=
  kLc.all w (fun i => out.take i) (by simp) hG hs fun D H' f => hd D H' (by rw [← hn, List.take_length] at f; exact f)
theorem kApp.at {H1 H H4 : Hp} {D : Addr} {out : List V} {i : Nat} {y : V} (c : LcIn H1 H D (out.take i)) (s : Same H H4) (hl : out.length ≤ sizeLine) (h : out[i]? = some y) : kApp D (fun H' => LcIn H1 H' D (out.take (i + 1))) y H4 := by
  have hi : i < out.length := by
    by_cases q : i < out.length
    · exact q
    · rw [List.getElem?_eq_none (by omega)] at h
      cases h
  refine kApp.mk c s (by rw [List.length_take]; omega) ?_
  rw [List.take_add_one, h]
  rfl
def kFor (J : It) (g : TG) (tb : TS) : TS := fun D σ H => ∃ W : Nat → Nat → L2.St → Hp → Prop, (∃ m, W 0 m σ H) ∧ ∀ i m σ H, W i m σ H →
  (J.stop i H ∧ D.nx σ H) ∨ (J.go i H ∧ ∃ N : L2.St → Hp → Prop, (∀ σ' H', N σ' H' → ∃ m', m' < m ∧ W (i + 1) m' σ' H') ∧ ∀ x H', J.yld i H x H' → g x σ H' fun σ2 H2 => tb { D with nx := N, ct := N, bk := D.nx } σ2 H2)
theorem tFor_k (wi : TI) (g : TG) (tb : TS) : tFor wi g tb = fun D σ H => wi σ H fun J H1 => kFor J g tb D σ H1 := rfl
theorem kFor.it {J : It} {n : Nat} {G : Hp → Prop} {Y : Nat → Hp → V → Hp → Prop} (w : Walk J n G Y) {g : TG} {tb : TS} {D : Ends} {σ : L2.St} {H : Hp} (Pv : Nat → L2.St → Hp → Prop) (h0 : Pv 0 σ H) (hG : ∀ i σ H, i ≤ n → Pv i σ H → G H)
    (hs : ∀ i x σ H H', i < n → Pv i σ H → Y i H x H' → g x σ H' fun σ2 H2 => tb { D with nx := Pv (i + 1), ct := Pv (i + 1), bk := D.nx } σ2 H2) (hd : ∀ σ H, Pv n σ H → D.nx σ H) : kFor J g tb D σ H := for_it w Pv h0 hG hs hd
theorem Same.tup {K : PySem.W.Frag} {H H' : Hp} {a : Addr} {xs : List V} (e : Same H H') (h : SqT K H a xs) : SqT K H' a xs := by
  rcases h with (h | ⟨o, h⟩) | h
  · exact .inl (.inl (e _ _ h))
  · exact .inl (.inr ⟨o, e _ _ h⟩)
  · exact .inr h
/-! ### a new instance -/
def kMake (C : Addr) (sp : Sp) (E : XK) (Q : VK) : List V → Hp → Prop := fun vs H1 => ∀ x dx, H1 x = none → H1 dx = none → dx ≠ x → sp (.ref x :: vs) (upd (upd H1 dx (.own x)) x (.ins C dx [])) (fun v H2 => v = .non ∧ Q (.ref x) H2) E
theorem kMake.mk {C : Addr} {sp : Sp} {E : XK} {Q : VK} {vs : List V} {H : Hp} (k : ∀ x dx H1, Same H H1 → H x = none → H1 x = some (.ins C dx []) → (∀ o, Same H (upd H1 x o)) → sp (.ref x :: vs) H1 (fun v H2 => v = .non ∧ Q (.ref x) H2) E) : kMake C sp E Q vs H := fun x dx nx nd ne => by
  have s : ∀ o, Same H (upd (upd H dx (.own x)) x o) := fun o b u e => by rw [upd_ne (ne_of_none e nx), upd_ne (ne_of_none e nd)]; exact e
  exact k x dx _ (s _) nx upd_same fun o => by rw [upd_upd]; exact s o
theorem tMakeR_k (C : Addr) (sp : Sp) (E : XK) (t : TA) : tMakeR C sp E t = fun σ H Q => t σ H (kMake C sp E Q) := rfl
theorem tDNewK_k : tDNewK = fun _ H Q => kN (.dK []) Q H := rfl
/-- a list is changed by a store -/
def kPutS (l : Addr) (o : HO) (Q : Hp → Prop) : Hp → Prop := fun H => Q (upd H l o)
theorem kPutS.mk {l : Addr} {o : HO} {Q : Hp → Prop} {H : Hp} (k : ∀ H', Put H H' l o → Q H') : kPutS l o Q H := k _ ⟨upd_same, fun b n => upd_ne n⟩
theorem rSetL_k : rSetL = fun o i v H Q => ∃ p xs k j, o = .ref p ∧ i = .int k ∧ H p = some (.lst xs) ∧ ixN xs.length k = some j ∧ kPutS p (.lst (xs.set j v)) Q H := rfl
def kMakeG (C : Addr) (sp : Sp) (gV : List V → List V → List V) (E : XK) (Q : VK) (vs zs : List V) : Hp → Prop := fun H2 => ∀ x dx, H2 x = none → H2 dx = none → dx ≠ x → sp (gV (.ref x :: vs) zs) (upd (upd H2 dx (.own x)) x (.ins C dx [])) (fun v H3 => v = .non ∧ Q (.ref x) H3) E
theorem kMakeG.mk {C : Addr} {sp : Sp} {gV : List V → List V → List V} {E : XK} {Q : VK} {vs zs us : List V} {H : Hp} (e : ∀ x, gV (.ref x :: vs) zs = .ref x :: us) (k : kMake C sp E Q us H) : kMakeG C sp gV E Q vs zs H := fun x dx nx nd ne => by
  rw [e x]
  exact k x dx nx nd ne
theorem tMakeK_k (C : Addr) (n m : Nat) (sp : Sp) (gV : List V → List V → List V) (E : XK) (t tk : TA) : tMakeK C n m sp gV E t tk = fun σ H Q => t σ H fun vs H1 => tk σ H1 fun zs H2 => vs.length = n ∧ zs.length = m ∧ kMakeG C sp gV E Q vs zs H2 := rfl
theorem cx_K {CX : CXT} {P : Program} {w : World} {K : PySem.W.Frag} {mg : Str → Option Value} {base : Heap} {N : List Str} {q : Str} {sc : Scope} {f : Addr} {cdv : Value} {A : Around} {outer : List Env} {s : Shared} {H : Hp} {E : XK} : (cxOf CX P w K mg base N q sc f cdv A outer s H E).K = K := rfl
theorem nox_K {X : Cx} : X.nox.K = X.K := rfl
end Ow
end
section
set_option maxHeartbeats 4000000
/-! o[i] and o[i] = v by an own def; static methods called off a class. -/
namespace Ow
open PySem PySem.Spec PyProof.Rows L2 StX
section
variable {X : Cx} {CX : CXT} {n : Nat} {C g : Addr} {sp : Sp} {E : XK}
def rGetO (C : Addr) (sp : Sp) (E : XK) : R2 := fun x y H Q => ∃ a, x = .ref a ∧ InsAt H a C ∧ sp [x, y] H Q E
theorem pe_subO {o i : Expr} {to ti : TE} {pos : Pos} (hs : PySem.W.findIn X.K (.ref C) "__getitem__" = some (some (.ref g))) (hf : PySem.W.isFn X.K (.ref g) = true) (hfn : PySem.W.fnIn X.K g = true)
    (F : FnR X.prog X.w X.K X.mg X.base CX n g sp) (hr : Room (n + 1) X.A) (hx : Passes CX X E) (ha : PE X o to) (hb : PE X i ti)
    (hsl : ∀ (x : Addr) (u : Value), subscripted i true (.ref x) u = runValue (.builtin "lifetime.subscript" ⟨[.ref x, u], []⟩) := by intro _ _; with_unfolding_all rfl) : PE X (.Subscript o i pos) (tOp (rGetO C sp E) to ti) := by
  refine ⟨fun pins s σ H Q I h => ?_⟩
  refine Subscript_ (binT ha hb I h fun v u s2 x y H2 I2 rx ry q => ?_)
  obtain ⟨a, rfl, hi, q⟩ := q
  obtain rfl : v = Value.ref a := rx
  obtain ⟨ox, od, J⟩ := inst_of I2 hi
  obtain ⟨m, hF⟩ := I2.fr
  refine PySem.W.sub_K hF I2.ok.mod.kin J hs hfn hf ?_ (hsl a u)
  exact wpAny_call (run_fnRS (us := [.ref a, u]) (vs := [.ref a, y]) F hr.in1 rfl hx I2 (.cons rfl (.cons ry .nil)) q)
def rSetO (C : Addr) (sp : Sp) (E : XK) : V → V → V → Hp → (Hp → Prop) → Prop := fun o i v H Q => ∃ a, o = .ref a ∧ InsAt H a C ∧ sp [o, i, v] H (fun _ H' => Q H') E
theorem set_own (hq : PySem.W.noSeq X.K C = true) (hs : PySem.W.findIn X.K (.ref C) "__setitem__" = some (some (.ref g))) (hf : PySem.W.isFn X.K (.ref g) = true)
    (F : FnR X.prog X.w X.K X.mg X.base CX n g sp) (hr : Room n X.A) (hx : Passes CX X E) : PSet X (rSetO C sp E) := by
  intro pins s σ H o i v ov iv u Q I ro ri rv h
  obtain ⟨a, rfl, ha, q⟩ := h
  cases (show ov = Value.ref a from ro)
  obtain ⟨ox, od, J⟩ := inst_of I ha
  obtain ⟨m, hF⟩ := I.fr
  refine PySem.W.ksp_setItem hF I.ok.mod.kin J hq hs hf ?_
  refine wpAny_mono (wpAny_call (run_fnR (us := [.ref a, iv, u]) (vs := [.ref a, i, v]) F hr hx I (.cons rfl (.cons ri (.cons rv .nil))) q)) (fun w s' z => ?_) fun _ _ x => x
  obtain ⟨z', H', I', rz, qz⟩ := z
  exact ⟨H', I', qz⟩
/-- C.m is a static method: its record at p, its def at g -/
structure SMet (K : PySem.W.Frag) (C : Addr) (mc : Value) (m : Str) (p g : Addr) : Prop where
  at_ : PySem.W.findCls K (.ref C) mc m = some (.get (.builtin "staticmethod.__get__") (.ref p) .none (.ref C))
  rc : ∃ rest, PySem.W.recIn K p "staticmethod" = some (.ref g :: rest)
  kp : PySem.W.keepIn K (.ref g) = true
end
section
variable {X : Cx} {pins : List (Addr × Obj)} {σ : L2.St} {H : Hp} {s : Shared} {C p g : Addr} {mc : Value} {m : Str} {A : Around} {E : Value → Shared → Prop}
theorem getsm_ok {b : Bool} {Q : Value → Shared → Prop} (I : Inv X pins σ H s) (r : ClX.CRead X.K C mc) (k : SMet X.K C mc m p g)
    (h : ∀ s', Inv X pins σ H s' → Q (.ref g) s') : wpAny (model X.prog X.w) A (getAttr (.ref C) m b) Q E s := by
  obtain ⟨rest, hp⟩ := k.rc
  refine PySem.W.cls_bind I.kIn r.rd k.at_ ?_
  refine wpAny_call (PySem.W.sm_get (s := { s with toks := s.toks + 1 }) I.kIn hp (PySem.W.handed_on rfl ?_))
  exact h _ (I.tok _)
theorem getmethsm_ok {pl : Sem Bool} {Q : Value × List Value → Shared → Prop} (I : Inv X pins σ H s) (r : ClX.CRead X.K C mc) (k : SMet X.K C mc m p g)
    (h : ∀ s', Inv X pins σ H s' → Q (.ref g, []) s') : wpAny (model X.prog X.w) A (getMethod (.ref C) m pl) Q E s :=
  PySem.W.method_cls I.kIn r.ga (getsm_ok I r k h)
end
section
variable {X : Cx} {CX : CXT} {k : Nat} {C p g : Addr} {mc : Value} {sp : Sp} {E : XK} {o e : Expr} {es : List Expr} {m : Str} {pos apos : Pos} {ta : TE} {t : TA} {pl : Sem Bool}
def tSMeth (C : Addr) (sp : Sp) (E : XK) (ta : TE) (t : TA) : TE := fun σ H Q => ta σ H fun x H1 => x = .ref C ∧ t σ H1 fun vs H2 => sp vs H2 Q E
theorem pe_smeth (he : PE X o ta) (r : ClX.CRead X.K C mc) (c : SMet X.K C mc m p g) (F : FnR X.prog X.w X.K X.mg X.base CX k g sp) (hr : Room k X.A) (hx : Passes CX X E) (ha : PA X (e :: es) t)
    (hst : starEach (e :: es) X.env = (false, eval e X.env) :: starEach es X.env := by rfl) (hpl : (backTo pos (starEach es X.env)).any (·.1) = false := by rfl)
    (ht : eval (.Call (.Attribute o m apos) (e :: es) [] pos) X.env = (do
      let ov ← eval o X.env
      standAt apos.atName
      let (f, first) ← holding [ov] (getMethod ov m pl)
      callWith pos f first (backTo pos (starEach (e :: es) X.env)) (backToKw pos (keywordEach [] X.env))) := by rfl) :
    PE X (.Call (.Attribute o m apos) (e :: es) [] pos) (tSMeth C sp E ta t) := by
  refine ⟨fun pins s σ H Q I h => ?_⟩
  refine PySem.W.methodCall_KW (pl := pl) (thn (he.run pins s σ H _ I h) fun u s1 ⟨x, H1, I1, rx, ex, q⟩ => ?_) ht
  subst ex
  obtain rfl : u = Value.ref C := rx
  refine getmethsm_ok I1 r c fun s2 I2 => ?_
  refine PySem.W.callWith_K (h₀ := X.base) I.ok.mod.kin c.kp (thn (ha.run pos pins s2 σ H1 _ I2 q) fun us s3 ⟨vs, H2, I3, rv, q2⟩ => ⟨I3.kIn, ?_⟩) hst hpl
  refine wpAny_mono (wpAny_call (run_fnR F hr hx I3 rv q2)) (fun w s' z => z) fun _ _ x => x
/-- by keywords alone -/
def tSMethK (C : Addr) (n : Nat) (sp : Sp) (gV : List V → List V → List V) (E : XK) (ta : TE) (tk : TA) : TE := fun σ H Q => ta σ H fun x H1 => x = .ref C ∧ tk σ H1 fun zs H2 => zs.length = n ∧ sp (gV [] zs) H2 Q E
theorem pe_smethK {kws : List Keyword} {fd : FuncData} {ps ks : List Str} {tk : TA} {gl : List Value → List Value → List Value} {gV : List V → List V → List V} (he : PE X o ta) (r : ClX.CRead X.K C mc) (c : SMet X.K C mc m p g)
    (F : FnOk X.prog X.w X.K X.mg X.base CX k g fd ps sp) (hr : Room k X.A) (hb : KBn X.K fd ps 0 ks gl gV) (hx : Passes CX X E) (hkw : PK X kws tk)
    (hall : (backToKw pos (keywordEach kws X.env)).all (·.1.isSome) = true := by rfl) (hks : (backToKw pos (keywordEach kws X.env)).filterMap (·.1) = ks := by rfl)
    (hpl : ((backTo pos (starEach [] X.env)).any (·.1) || (backToKw pos (keywordEach kws X.env)).any (·.1.isNone)) = false := by rfl)
    (ht : eval (.Call (.Attribute o m apos) [] kws pos) X.env = (do
      let ov ← eval o X.env
      standAt apos.atName
      let (f, first) ← holding [ov] (getMethod ov m pl)
      callWith pos f first (backTo pos (starEach [] X.env)) (backToKw pos (keywordEach kws X.env))) := by rfl) :
    PE X (.Call (.Attribute o m apos) [] kws pos) (tSMethK C ks.length sp gV E ta tk) := by
  refine ⟨fun pins s σ H Q I h => ?_⟩
  refine PySem.W.methodCall_KW (pl := pl) (thn (he.run pins s σ H _ I h) fun u s1 ⟨x, H1, I1, rx, ex, q⟩ => ?_) ht
  subst ex
  obtain rfl : u = Value.ref C := rx
  refine getmethsm_ok I1 r c fun s2 I2 => ?_
  refine PySem.W.callWith_KW0 (h₀ := X.base) I.ok.mod.kin c.kp hall ?_ hpl
  refine thn (hkw.run pos pins s2 σ H1 _ I2 q) fun ws s3 ⟨zs, H3, I3, rz, l2, q2⟩ => ⟨I3.kIn, ?_⟩
  rw [hks]
  refine wpAny_call (codeAny_mono (F.run X.A X.stack s3 H3 ⟨[], ks.zip ws⟩ (gl [] ws) (gV [] zs) Q E hr I3.env0 (hb.to s3 [] ws I3.kIn rfl (rz.length.symm.trans l2)) (hb.rel .nil rz) q2) fun r s' hq => ?_)
  cases r with
  | error e => exact hx pins σ H3 s3 e s' I3 hq
  | ok fl =>
    cases fl with
    | ret u => exact I3.after hq
    | next => exact False.elim hq
    | brk => exact False.elim hq
    | cont => exact False.elim hq
end
end Ow
end
section
set_option maxHeartbeats 4000000
/-! enumerate(tuple). -/
namespace Ow
open PySem PySem.Spec PyProof.Rows L2 StX
/-- the tuple at a as it stands at each turn, each item in a new pair -/
def IteT (K : PySem.W.Frag) (a : Addr) : It :=
  ⟨fun i H => ∃ (xs : List V) (x : V), SqT K H a xs ∧ xs[i]? = some x, fun i H v H' => ∃ T x, v = .ref T ∧ H T = none ∧ H' = upd H T (.tup [.int (i : Nat), x]) ∧ ∀ xs, SqT K H a xs → xs[i]? = some x, fun i H => ∃ xs : List V, SqT K H a xs ∧ xs.length ≤ i⟩
theorem cls_ne {h : Heap} {a b : Addr} {oa ob : Obj} {ca cb : String} (ha : h.get? a = some oa) (hb : h.get? b = some ob) (ea : oa.cls = .type ca) (eb : ob.cls = .type cb) (d : ca ≠ cb) : a ≠ b := fun e => by
  subst e
  rw [ha] at hb
  cases hb
  rw [ea] at eb
  exact d (Value.type.inj eb)
theorem enum_doneT {prog : Program} {w : World} {A : Around} {E : Value → Shared → Prop} {s : Shared} {e it a : Addr} {i : Nat} {ys : Array Value} {old : Value} {Q : Option Value → Shared → Prop} (hh : A.in1.handled = none)
    (he : IsEnum s.heap e it i old) (ht : s.heap.IsTupleIter it a i) (hy : s.heap.IsTuple a ys) (hx : ys[i]? = none) (k : ∀ h', Heap.ExtBut it s.heap h' → Q none { s with heap := h' }) : wpAny (model prog w) A (pyNext (.ref e)) Q E s := by
  have ty : s.TypeIs (.ref e) "enumerate" := ⟨_, he, rfl⟩
  unfold pyNext
  refine wpAny_bind (wpAny_attempt (wpAny_callSpecial?_slot (name := Str.ofString "__next__") ty F.slot_enumerate_next (wpAny_call_entry F.slot_enumerate_next ty F.entry_enumerate_next ?_ (F.args_enumerate_next_1 _))))
  show wpAny _ _ (field (.ref e) 2 >>= _) _ _ _
  refine wpAny_bind (wpAny_field he rfl (x := .ref it) rfl (wpAny_bind (wpAny_nextOf_tuple_end hh ht hy hx fun h' x h1 h2 => ?_)))
  obtain ⟨o, ho, hc⟩ := h2
  exact wpAny_bind (wpAny_isInstance (T := "StopIteration") (b := true) ⟨o, ho, hc⟩ isSubtype_stop (wpAny_pure (k _ h1)))
theorem turn_enumT {P : Program} {w : World} {K : PySem.W.Frag} {elts : List Expr} {kk : Nat} {tpos : Pos} (a e it : Addr) :
    Turn P w K (.Tuple elts kk tpos) (IteT K a) [e, it] e (fun i h => (∃ old, IsEnum h e it ((i : Nat) : Int) old) ∧ h.IsTupleIter it a i ∧ e ≠ it) where
  mem := by simp
  obj := fun i h st b hb => by
    obtain ⟨⟨old, he⟩, ⟨o, ho, hc, hd⟩, _⟩ := st
    have e' : b = e ∨ b = it := by simpa using hb
    rcases e' with z | z
    · rw [z]; exact ⟨_, he, fun v q => nomatch q⟩
    · rw [z]; exact ⟨o, ho, fun v q => by rw [hd] at q; cases q⟩
  keep := fun i h h' st k => let ⟨⟨old, he⟩, hi, hne⟩ := st; ⟨⟨old, k e (by simp) _ he⟩, hi.at fun o q => k it (by simp) o q, hne⟩
  item := by
    intro X hP hw hK hc i pins s σ H E I hf st hg
    subst hP hw hK
    obtain ⟨⟨old, he⟩, hit, hne⟩ := st
    obtain ⟨xs, x, hq, hx⟩ := hg
    obtain ⟨its, rv, p, hz⟩ := I.tuple hq
    obtain ⟨u, hu, ru⟩ := rv.get hx
    have hel : e < s.heap.objs.size := Heap.lt_size he
    have hil : it < s.heap.objs.size := by obtain ⟨_, q, _⟩ := hit; exact Heap.lt_size q
    have hai : a ≠ it := by
      obtain ⟨o1, h1, c1, _⟩ := p
      obtain ⟨o2, h2, c2, _⟩ := hit
      exact cls_ne h1 h2 c1 c2 (by decide)
    have hea : e ≠ a := by
      obtain ⟨o1, h1, c1, _⟩ := p
      exact cls_ne he h1 rfl c1 (by decide)
    have hlt : i < its.toArray.size := by
      have := rv.length
      have h3 : i < xs.length := by
        by_cases y : i < xs.length
        · exact y
        · rw [List.getElem?_eq_none (by omega)] at hx
          cases hx
      rw [List.size_toArray]
      omega
    refine wpAny_pyNext_enum_itemD (Draws.tuple (A := X.A.in1) (I.ok.hd hc) it a hai its.toArray) he ⟨hit, p⟩ hlt hne (by simp [hne, hea]) fun x2 h' tk hP ho hit2 hT hsz hk => ?_
    obtain ⟨hit', _⟩ := hit2
    have hxu : x2 = u := by
      have h5 : its[i]? = some x2 := by simpa using hP
      rw [hu] at h5
      exact (Option.some.inj h5).symm
    subst hxu
    refine ⟨_, rfl, wpAny_letOwnedTupleGo_enum (s := { s with heap := h', toks := tk + 1 }) ho fun h'' he' sb => ?_⟩
    have hT2 : h''.get? s.heap.objs.size = some { cls := .type "tuple", data := .seq #[.int i tk, x2] } := (sb.2 _ (Nat.ne_of_gt hel)).trans hT
    have new : ObjOk X.prog X.w (upd H s.heap.objs.size (.tup [.int (i : Nat), x])) h'' s.heap.objs.size (.tup [.int (i : Nat), x]) :=
      ⟨by show 2 ≤ sizeLine; decide, [.int i tk, x2], .cons ⟨_, rfl⟩ (.cons ru .nil), ⟨_, hT2, rfl, _, rfl⟩⟩
    have I1 : Inv X pins σ (upd H s.heap.objs.size (.tup [.int (i : Nat), x])) { s with heap := h'', toks := tk + 1 } :=
      I.turnedNew (ch := [e, it]) (fun b ob hb q => (sb.2 b (fun z => hb (by simp [z]))).trans (hk b ob (fun z => hb (by simp [z])) (fun z => hb (by simp [z])) q)) hf (Nat.le_refl _) new
    refine ⟨.ref s.heap.objs.size, _, I1, rfl, ⟨_, x, rfl, I.hok.fresh (Nat.le_refl _), rfl, fun ys hy => by rw [I.tuple_inj hy hq]; exact hx⟩, ⟨⟨x2, ?_⟩, hit'.at fun o q => (sb.2 it (Ne.symm hne)).trans q, hne⟩, fun b hb => ?_⟩
    · have e1 : ((i + 1 : Nat) : Int) = (i : Int) + 1 := by omega
      rw [e1]; exact he'
    · have hb' : b < s.heap.objs.size := by
        have e' : b = e ∨ b = it := by simpa using hb
        rcases e' with z | z
        · rw [z]; exact hel
        · rw [z]; exact hil
      rw [upd_ne (Nat.ne_of_lt hb')]
      exact (hf b hb).1
  done := by
    intro X hP hw hK hc i pins s σ H E I hf st hg
    subst hP hw hK
    obtain ⟨⟨old, he⟩, hit, hne⟩ := st
    obtain ⟨xs, hq, hx⟩ := hg
    obtain ⟨its, rv, p, hz⟩ := I.tuple hq
    obtain ⟨f0, f1, f2, f3, f4, f5⟩ := hf it (by simp)
    have hl := rv.length
    exact enum_doneT (I.ok.hd hc) he hit p (by simp; omega) fun h' eb => ⟨rfl, I.turned (t' := s.toks) (fun b o hb q => eb b o hb q) f0 f1 f3 f4 f5⟩
  self := fun A i s Q E st h => let ⟨⟨_, he⟩, _⟩ := st; wpAny_pyIter_enum he h
theorem meets_enumT (a : Addr) (ys : Array Value) :
    Meets (Builtin.«enumerate.__new__» ⟨[.type "enumerate", .ref a], []⟩) (fun _ R s => s.heap.IsTuple a ys ∧
      R (.ok (.ret (.ref (s.heap.push { cls := .type "tuple_iterator", data := .fields #[.ref a, .int 0 0] }).objs.size)))
        { s with heap := (s.heap.push { cls := .type "tuple_iterator", data := .fields #[.ref a, .int 0 0] }).push { cls := .type "enumerate", data := .fields #[.none, .bool false, .ref s.heap.objs.size, rawInt 0, .none, .none] } }) :=
  .of_wp fun prog w A R s h => by
    obtain ⟨hp, g, d, tk, os⟩ := s
    obtain ⟨hl, h⟩ := h
    have hsub := sub_enumerate
    have q1 : ∀ {A' : Around} {E : Value → Shared → Prop} {Q : Value → Shared → Prop}, Q (.ref hp.objs.size) ⟨hp.push { cls := .type "tuple_iterator", data := .fields #[.ref a, .int 0 0] }, g, d, tk, os⟩ → wpAny (model prog w) A' (pyIter (.ref a)) Q E ⟨hp, g, d, tk, os⟩ :=
      fun q => wpAny_pyIter_tuple (s := ⟨hp, g, d, tk, os⟩) hl q
    wp_walk using q1
    refine wpAny_stack_any fun st => wpAny_pure ?_
    split
    · rename_i c _ _ _ _ _
      cases (c == Value.type "enumerate")
      · wp_walk using q1
        exact ⟨_, rfl, h⟩
      · wp_walk using q1
        exact ⟨_, rfl, h⟩
    · wp_walk using q1
      exact ⟨_, rfl, h⟩
theorem call_enumT {prog : Program} {w : World} {A : Around} {E : Value → Shared → Prop} {s : Shared} {a : Addr} {ys : Array Value} {Q : Value → Shared → Prop} (hy : s.heap.IsTuple a ys)
    (k : ∀ h', IsEnum h' (s.heap.objs.size + 1) s.heap.objs.size 0 .none → h'.IsTupleIter s.heap.objs.size a 0 → (∀ b o, s.heap.get? b = some o → h'.get? b = some o) → Q (.ref (s.heap.objs.size + 1)) { s with heap := h' }) :
    wpAny (model prog w) A (call (.type "enumerate") [.ref a]) Q E s := by
  refine callType_new F.called_enumerate (by decide) (F.typeCall_enumerate_1 _) (F.newCall_enumerate_1 _) (fun obj => F.args_object_init_2 obj _) F.entry_enumerate_new (meets_enumT a ys) ⟨hy, ?_⟩
  have hz : (s.heap.push { cls := .type "tuple_iterator", data := .fields #[.ref a, .int 0 0] }).objs.size = s.heap.objs.size + 1 := Heap.size_push ..
  have e1 : ((s.heap.push { cls := .type "tuple_iterator", data := .fields #[.ref a, .int 0 0] }).push { cls := .type "enumerate", data := .fields #[.none, .bool false, .ref s.heap.objs.size, rawInt 0, .none, .none] }).get? (s.heap.objs.size + 1) = some { cls := .type "enumerate", data := .fields #[.none, .bool false, .ref s.heap.objs.size, rawInt 0, .none, .none] } := by
    rw [← hz]
    exact Heap.get?_push_size _ rfl
  have e2 : ((s.heap.push { cls := .type "tuple_iterator", data := .fields #[.ref a, .int 0 0] }).push { cls := .type "enumerate", data := .fields #[.none, .bool false, .ref s.heap.objs.size, rawInt 0, .none, .none] }).get? s.heap.objs.size = some { cls := .type "tuple_iterator", data := .fields #[.ref a, .int 0 0] } := Heap.get?_push_of_some _ (Heap.get?_push_size _ rfl)
  show _ ∧ _
  rw [hz]
  exact ⟨⟨_, e1, rfl⟩, k _ e1 ⟨_, e2, rfl, rfl⟩ fun b o e => Heap.get?_push_of_some _ (Heap.get?_push_of_some _ e)⟩
def iEnumT (K : PySem.W.Frag) (ta : TA) : TI := fun σ H R => ta σ H fun vs H1 => ∃ a xs, vs = [.ref a] ∧ ((SqL K H1 a xs ∧ R (Ite K a) H1) ∨ (SqT K H1 a xs ∧ R (IteT K a) H1))
theorem pi_enumT {X : Cx} {e : Expr} {ta : TA} {p pos tpos : Pos} {elts : List Expr} {kk : Nat} (hg : Gl X "enumerate") (hm : X.mg "enumerate" = none) (ha : PA X [e] ta) (hs : starEach [e] X.env = [(false, eval e X.env)] := by rfl) :
    PI X (.Tuple elts kk tpos) (.Call (.Name "enumerate" p) [e] [] pos) (iEnumT X.K ta) := by
  refine ⟨fun pins s σ H R I h => ?_⟩
  refine Call_ (ld_blt I hg hm boot_enumerate (PyProof.Rows.callWith_type1 (thn (ha.run pos pins s σ H _ I h) fun us s1 ⟨vs, H1, I1, r1, q1⟩ => ?_) hs rfl))
  obtain ⟨a, xs, ex, q⟩ := q1
  subst ex
  obtain ⟨u, rfl, ru⟩ := vals1 r1
  obtain rfl : u = Value.ref a := ru
  have fp : ∀ b ∈ [s1.heap.objs.size + 1, s1.heap.objs.size], FpOk X pins H1 b := fun b hb => by
    have hle : s1.heap.objs.size ≤ b := by
      simp only [List.mem_cons, List.not_mem_nil, or_false] at hb
      omega
    exact I1.fpOk hle (I1.hok.fresh hle)
  rcases q with ⟨hq, q⟩ | ⟨hq, q⟩
  · obtain ⟨its, rv, p', hz⟩ := I1.list hq
    refine call_enumerate_list p'.isList fun h' he hit hsz hk => wpAny_pyIter_enum he ?_
    exact ⟨s1.heap.objs.size + 1, _, _, _, H1, rfl, I1.kept (t' := s1.toks) hk, turn_enum a (s1.heap.objs.size + 1) s1.heap.objs.size, ⟨⟨.none, he⟩, hit, Nat.succ_ne_self _⟩, fp, q⟩
  · obtain ⟨its, rv, p', hz⟩ := I1.tuple hq
    refine call_enumT p' fun h' he hit hk => wpAny_pyIter_enum he ?_
    exact ⟨s1.heap.objs.size + 1, _, _, _, H1, rfl, I1.kept (t' := s1.toks) hk, turn_enumT a (s1.heap.objs.size + 1) s1.heap.objs.size, ⟨⟨.none, he⟩, hit, Nat.succ_ne_self _⟩, fp, q⟩
theorem walk_enumT {K : PySem.W.Frag} {a : Addr} {xs : List V} : Walk (IteT K a) xs.length (fun H => SqT K H a xs) (YPair (fun i => some (.int (i : Nat))) (fun i => xs[i]?)) := by
  refine ⟨fun i _ hi q => ⟨xs, xs[i], q, by simp [hi]⟩, fun _ q => ⟨xs, q, Nat.le_refl _⟩, fun i H v H' _ q y => ?_⟩
  obtain ⟨T, x, h1, h2, h3, h4⟩ := y
  exact ⟨T, .int (i : Nat), x, h1, h2, h3, rfl, h4 xs q⟩
/-- text * int -/
def rMulS : R2 := fun x y H Q => ∃ z n, x = .str z ∧ y = .int n ∧ MulOk z n ∧ Q (.str (Txt.mul z n)) H
theorem op_mulS {X : Cx} : OpR X (binaryOp .Mult) rMulS := by
  intro pins s σ H x y v u Q I rx ry h
  obtain ⟨z, n, rfl, rfl, ok, q⟩ := h
  obtain ⟨t, rfl⟩ := rx
  obtain ⟨t', rfl⟩ := ry
  exact SB.mul ok fun t2 k => ⟨.str (Txt.mul z n), H, I.tok _, ⟨t2, rfl⟩, q⟩
theorem fold_one (d : Nat) : ∀ (m : Nat) (acc : List Nat), (List.replicate m #[d]).foldl (fun a b => a ++ b) acc.toArray = (acc ++ List.replicate m d).toArray
  | 0, acc => by simp
  | m + 1, acc => by
    rw [List.replicate_succ, List.foldl_cons, List.append_toArray, fold_one d m (acc ++ [d]), List.replicate_succ, List.append_assoc]
    rfl
theorem mul_one (d : Nat) {n : Int} (h : 1 ≤ n) : Txt.mul (SX.S [d]) n = SX.S (List.replicate n.toNat d) := by
  unfold Txt.mul
  rw [if_neg (by omega)]
  by_cases e : n = 1
  · subst e
    rfl
  · rw [if_neg (by
      rw [SX.S_len]
      simp [e])]
    have := fold_one d n.toNat []
    exact congrArg Str.mk this
theorem mulOk_one (d : Nat) {n : Int} (h : 1 ≤ n) (h2 : n ≤ 100000) : MulOk (SX.S [d]) n := by
  refine ⟨?_, fun _ _ => ?_, fun _ _ => ?_⟩
  · rw [Bool.or_eq_false_iff]
    exact ⟨decide_eq_false (by omega), decide_eq_false (by omega)⟩
  · rw [SX.S_len]
    have : (1 : Int) ≤ (2 ^ 63 - 1) / n := Int.le_ediv_of_mul_le (by omega) (by omega)
    intro z
    have z : (1 : Int) > (2 ^ 63 - 1) / n := z
    omega
  · rw [SX.S_len]
    show Builtin.Str.tooLong (1 * n.toNat) = false
    exact decide_eq_false (Nat.not_lt.mpr (Nat.le_trans (show 1 * n.toNat ≤ 100000 by omega) (by decide +kernel)))
theorem vals_rev {vs : List V} {us : List Value} (r : Vals vs us) : Vals vs.reverse us.reverse := by
  induction r with
  | nil => exact .nil
  | cons h t ih =>
    rw [List.reverse_cons, List.reverse_cons]
    exact ih.append (.cons h .nil)
/-- a def's promise by binds, with the def itself (for calls by keywords) -/
theorem FnT.okF {P : Program} {w : World} {K : PySem.W.Frag} {mg : Str → Option Value} {base : Heap} {x qual : Str} {st : Stmt} {dvs : List V} {f : Addr} {N ps : List Str} {k : Nat} {sp : Sp} (F : FnT K x qual st dvs f) (S : FnScope N ps (defScope st)) (len : ∀ vs H Q E, sp vs H Q E → vs.length = ps.length)
    (hbody : ∀ (cdv : Value) (A : Around) (outer : List Env) (s : Shared) (H : Hp) (vs : List V) (Q : VK) (E : XK), Room k (A.deeper (envOfC qual (defScope st) s.heap.objs.size f cdv)) → sp vs H Q E →
      ∃ t, PSs (cxOf CX0 P w K mg base N qual (defScope st) f cdv A outer s H E).nox (defBody st) t ∧ t { nx := fun _ H' => Q .non H', rt := Q } (L2.start N vs) H) :
    ∃ fd, FnOk P w K mg base CX0 (k + 1) f fd ps sp ∧ FunD K x qual (defArgs st) (defBody st) (defScope st) dvs [] f fd := by
  obtain ⟨fd, F⟩ := F
  exact ⟨fd, F.ok S len fun cdv A outer s H vs Q E hr hsp => by
    obtain ⟨t, h, q⟩ := hbody cdv A outer s H vs Q E hr hsp
    exact ⟨t, h.nox, q⟩, F⟩
end Ow
end
section
namespace Ow
open PySem PySem.Spec PyProof.Rows L2
/-- a static method's facts, of pieces that k_is finds -/
theorem smet_mk {K : PySem.W.Frag} {C p g : Addr} {m : Str} {ta : Value} {rest : List Value}
    (h1 : PySem.W.findIn K (.ref C) m = some (some (.ref p)))
    (h2 : PySem.W.findIn K (.type "type") m = some none)
    (h3 : PySem.W.typeIn K (.ref p) = some ta)
    (h4 : PySem.W.bareKinds.contains ta = false)
    (h5 : PySem.W.specialIn K (.ref p) "__get__" = some (some (.builtin "staticmethod.__get__")))
    (h6 : PySem.W.recIn K p "staticmethod" = some (.ref g :: rest)) (h7 : PySem.W.keepIn K (.ref g) = true) :
    SMet K C (.type "type") m p g := by
  refine ⟨?_, ⟨_, h6⟩, h7⟩
  unfold PySem.W.findCls
  simp only [h2, h1, h3, h4, h5, Option.bind, Builtin.heldUnderItsOwnName]
  rfl
end Ow
end
section
namespace Ow
open PySem PySem.Spec PyProof.Rows L2
/-- a suite that names what was caught: slot i holds it, and is empty behind the suite -/
def asTS (i : Nat) (ts : Addr → Value → Option Addr → TS) : Addr → Value → Option Addr → TS := fun a cls d D σ H =>
  ts a cls d { nx := fun σ' H' => D.nx (σ'.set i none) H', rt := D.rt, bk := fun σ' H' => D.bk (σ'.set i none) H', ct := fun σ' H' => D.ct (σ'.set i none) H' } (σ.set i (some (.ref a))) H
/-- clauses of a try, each with a class by its name, with or without a name for what is caught -/
inductive HdsM (X : Cx) : List ExceptHandler → List (Value × (Addr → Value → Option Addr → TS)) → Prop
  | nil : HdsM X [] []
  | plain {x : Str} {c : Value} {ts : Addr → Value → Option Addr → TS} {b₀ : Stmt} {suite : List Stmt} {np pos' : Pos} {hds : List ExceptHandler} {l : List (Value × (Addr → Value → Option Addr → TS))} (hc : Names X x c)
      (hsu : ∀ (a : Addr) (oe : Obj) (cls : Value) (d : Option Addr) (pn : List (Addr × Obj)), Zc cls d oe → (∃ vs, oe.data = .fields vs) → PSs (X.suite a ((a, oe) :: pn)) (b₀ :: suite) (ts a cls d)) (r : HdsM X hds l) :
      HdsM X (.ExceptHandler (some (.Name x np)) none (b₀ :: suite) pos' :: hds) ((c, ts) :: l)
  | named {x n : Str} {i : Nat} {c : Value} {ts : Addr → Value → Option Addr → TS} {b₀ : Stmt} {suite : List Stmt} {np pos' : Pos} {hds : List ExceptHandler} {l : List (Value × (Addr → Value → Option Addr → TS))} (hi : X.N[i]? = some n) (hln : X.env.kindOf n = some .local) (hc : Names X x c)
      (hsu : ∀ (a : Addr) (oe : Obj) (cls : Value) (d : Option Addr) (pn : List (Addr × Obj)), Zc cls d oe → (∃ vs, oe.data = .fields vs) → PSs (X.suite a ((a, oe) :: pn)) (b₀ :: suite) (ts a cls d)) (r : HdsM X hds l) :
      HdsM X (.ExceptHandler (some (.Name x np)) (some n) (b₀ :: suite) pos' :: hds) ((c, asTS i ts) :: l)
set_option maxHeartbeats 4000000
/-- try with any row of clauses, some with `as` -/
theorem ps_try_mix {X : Cx} {body : List Stmt} {h₀ : ExceptHandler} {hds : List ExceptHandler} {l : List (Value × (Addr → Value → Option Addr → TS))} {pos : Pos} {tb : WX → TS} {Wout : WX} (hs : X.stack = X.env :: X.outer) (hf : X.env.frame = some X.env.locals) (hN : X.N.Nodup) (tk : Takes X Wout)
    (hb : ∀ (W : WX) (pn : List (Addr × Obj)) (xe : Value → Shared → Prop), Takes (X.tr pn xe) W → PassesOwn (model X.prog X.w) X.A X.env xe → PSs (X.tr pn xe) body (tb W)) (hh : HdsM X (h₀ :: hds) l) :
    PS X (.Try body (h₀ :: hds) [] [] pos) (fun D σ H => tb (wMany X.K Wout D l) D σ H) := by
  refine ⟨fun pins s σ H D I h => ?_⟩
  have ok := I.ok
  have hfr : X.A.frames = some (X.env :: X.outer) := by rw [ok.frames, hs]
  refine wpAny_Try_except (wpAny_mono ((hb (wMany X.K Wout D l) (X.pn ++ pins) (fun e s₁ => wpAny (model X.prog X.w) X.A (noteFrame e X.env) (fun _ s₂ => wpAny (model X.prog X.w) X.A (setFlight e none) (fun _ s₃ => wpAny (model X.prog X.w) X.A (handleBy e X.env (h₀ :: hds)) (SP X pins D) X.xe s₃) X.xe s₂) X.xe s₁) ?_ PassesOwn.looking).run [] s σ H D (Inv.toTry I _) h) (fun f s1 hsp => ?_) fun e s1 he => he)
  · intro u s' xx
    obtain ⟨a, B, sI, pins', σ', H', cls, d, rfl, J', nb, up, sky, na, os, ag, w⟩ := xx
    have J := Inv.ofTry J' ok
    have sky' : Sky B (X.env :: X.outer) a (Zc cls d) X.env.locals s'.heap := by rw [← hs]; exact sky
    refine Sky.land Zc.steady hfr hf sky' fun h3 fl3 up3 => ?_
    have J3 := Inv.landed (s' := { heap := h3, gens := s'.gens, drawn := s'.drawn, toks := s'.toks, os := s'.os }) J nb fl3.left (Heap.UpToSlots.trans up up3) os ag
    obtain ⟨oe3, vs3, he3, hz3, hd3⟩ := HandSPX.FlyingZ.there fl3
    have nfr : ¬ a ∈ List.filterMap (fun x : Env => x.frame) (X.env :: X.outer) := fun hm => by
      obtain ⟨_, o', e', hnf⟩ := Heap.FunFrames.mem fl3.right.right.left hm
      have e2 := e'.symm.trans he3
      cases e2
      exact hnf _ hd3
    have nL : a ≠ X.env.locals := fun z => nfr (List.mem_filterMap.mpr ⟨X.env, List.mem_cons_self .., by rw [hf, z]⟩)
    have nF : ¬ a ∈ X.fs := fun hm => by
      obtain ⟨e, he, q⟩ := List.mem_filterMap.mp hm
      exact nfr (List.mem_filterMap.mpr ⟨e, List.mem_cons_of_mem _ he, q⟩)
    have S3 := Inv.suite J3 he3 hd3 na nL nF
    clear h hb
    have key : ∀ (hds' : List ExceptHandler) (l' : List (Value × (Addr → Value → Option Addr → TS))), HdsM X hds' l' → wMany X.K Wout D l' cls d σ' H' → wpAny (model X.prog X.w) X.A (handleBy (.ref a) X.env hds') (SP X pins D) X.xe { heap := h3, gens := s'.gens, drawn := s'.drawn, toks := s'.toks, os := s'.os } := by
      intro hds' l' hk
      have LT : W.Looks (model X.prog X.w) h3 (typeOf (Value.ref a)) cls := fun A Q E s k q => wpAny_typeOf_ref (k a oe3 he3) (by rw [hz3.left]; exact q)
      have test : ∀ {x : Str} {c : Value} {np : Pos} {Q : Value → Shared → Prop} {E : Value → Shared → Prop}, Names X x c → Q c { heap := h3, gens := s'.gens, drawn := s'.drawn, toks := s'.toks, os := s'.os } →
          wpAny (model X.prog X.w) (X.A.mark (some (.ref a))) (eval (.Name x np) X.env) Q E { heap := h3, gens := s'.gens, drawn := s'.drawn, toks := s'.toks, os := s'.os } := by
        intro x c np Q E hc q
        obtain ⟨hg, hdbg, hm | ⟨hm, hv, hnn⟩⟩ := hc
        · exact ld_glob (X := X.suite a _) S3 hg hm q hdbg
        · exact ld_blt (X := X.suite a _) S3 hg hm hv q hnn hdbg
      induction hk with
      | nil =>
        intro w
        refine wpAny_handleBy_nil ?_
        have fl := fl3
        obtain ⟨k1, k2, k3, oe, vs, T, oT, ts', he, hz, hd, h1, hr⟩ := fl3
        unfold PySem.passOn
        refine wpAny_bind (wpAny_field he hd h1 ?_)
        rw [if_neg (by simp)]
        refine wpAny_bind ?_
        rw [hf]
        exact HandSPX.setFlight_upZ fl fun h4 hh4 up4 => wpAny_throw (tk _ _ ⟨a, B, sI, pins, σ', H', cls, d, rfl, J, nb, (up.trans up3).trans up4, .inr (.inr (by rw [hs]; exact hh4)), na, os, ag, w⟩)
      | plain hc hsu r ih =>
        intro w
        obtain ⟨b, hb1, hyes, hno⟩ := w
        refine wpAny_handleBy_cons (codeAny_handlers_test (test hc (W.Looks.here (W.exm_one (Inv.kIn J3) LT hb1) ?_))) (fun q => by cases q)
        cases b with
        | false => exact ih (hno rfl)
        | true =>
          refine codeAny_handlers_suite (HandSPX.lands_againZ fl3 fun h4 fl4 up4 => ?_)
          have J4 := Inv.landed (s' := { heap := h4, gens := s'.gens, drawn := s'.drawn, toks := s'.toks, os := s'.os }) J nb fl4.left (Heap.UpToSlots.trans (Heap.UpToSlots.trans up up3) up4) os ag
          obtain ⟨oe4, vs4, he4, hz4, hd4⟩ := HandSPX.FlyingZ.there fl4
          have S4 := Inv.suite J4 he4 hd4 na nL nF
          refine wpAny_mono ((hsu a oe4 cls d (X.pn ++ pins) hz4 ⟨vs4, hd4⟩).run [] _ σ' H' D S4 (hyes rfl a na)) (fun f s6 hsp => ?_) fun _ _ z => False.elim z
          cases f with
          | next => obtain ⟨σ6, H6, S6, q6⟩ := hsp; exact ⟨σ6, H6, Inv.unsuite S6 ok, q6⟩
          | brk => obtain ⟨σ6, H6, S6, q6⟩ := hsp; exact ⟨σ6, H6, Inv.unsuite S6 ok, q6⟩
          | cont => obtain ⟨σ6, H6, S6, q6⟩ := hsp; exact ⟨σ6, H6, Inv.unsuite S6 ok, q6⟩
          | ret u => obtain ⟨v6, σ6, H6, S6, r6, q6⟩ := hsp; exact ⟨v6, σ6, H6, Inv.unsuite S6 ok, r6, q6⟩
      | named hi hln hc hsu r ih =>
        intro w
        obtain ⟨b, hb1, hyes, hno⟩ := w
        refine wpAny_handleBy_cons (codeAny_handlers_test (test hc (W.Looks.here (W.exm_one (Inv.kIn J3) LT hb1) ?_))) (fun q => by cases q)
        cases b with
        | false => exact ih (hno rfl)
        | true =>
          refine codeAny_handlers_suite_as (HandSPX.lands_againZ fl3 fun h4 fl4 up4 => ?_)
          have J4 := Inv.landed (s' := { heap := h4, gens := s'.gens, drawn := s'.drawn, toks := s'.toks, os := s'.os }) J nb fl4.left (Heap.UpToSlots.trans (Heap.UpToSlots.trans up up3) up4) os ag
          obtain ⟨oe4, vs4, he4, hz4, hd4⟩ := HandSPX.FlyingZ.there fl4
          have S4 := Inv.suite J4 he4 hd4 na nL nF
          refine store_ok (X := X.suite a ((a, oe4) :: (X.pn ++ pins))) (v := .ref a) S4 hN hi (Or.inl hln) rfl (fun s5 S5 => ?_) (Or.inr hln)
          refine wpAny_mono ((hsu a oe4 cls d (X.pn ++ pins) hz4 ⟨vs4, hd4⟩).run [] s5 _ H' _ S5 (hyes rfl a na)) (fun f s6 hsp => ?_) fun _ _ z => False.elim z
          cases f with
          | next => obtain ⟨σ6, H6, S6, q6⟩ := hsp; exact gone_ok (Inv.unsuite S6 ok) hN hi hln fun s7 J7 => ⟨_, H6, J7, q6⟩
          | brk => obtain ⟨σ6, H6, S6, q6⟩ := hsp; exact gone_ok (Inv.unsuite S6 ok) hN hi hln fun s7 J7 => ⟨_, H6, J7, q6⟩
          | cont => obtain ⟨σ6, H6, S6, q6⟩ := hsp; exact gone_ok (Inv.unsuite S6 ok) hN hi hln fun s7 J7 => ⟨_, H6, J7, q6⟩
          | ret u => obtain ⟨v6, σ6, H6, S6, r6, q6⟩ := hsp; exact gone_ok (Inv.unsuite S6 ok) hN hi hln fun s7 J7 => ⟨v6, _, H6, J7, r6, q6⟩
    exact key _ _ hh w
  · cases f with
    | next => obtain ⟨σ', H', J', q⟩ := hsp; exact wpAny_execs_nil ⟨σ', H', Inv.ofTry J' ok, q⟩
    | brk => obtain ⟨σ', H', J', q⟩ := hsp; exact ⟨σ', H', Inv.ofTry J' ok, q⟩
    | cont => obtain ⟨σ', H', J', q⟩ := hsp; exact ⟨σ', H', Inv.ofTry J' ok, q⟩
    | ret u => obtain ⟨v, σ', H', J', r, q⟩ := hsp; exact ⟨v, σ', H', Inv.ofTry J' ok, r, q⟩
end Ow
end
section
set_option maxHeartbeats 4000000
/-! The same for a law that shows dicts, too: the table of modules is told. -/
namespace Ow
open PySem PySem.Spec PyProof.Rows L2 StX
section
variable {P : Program} {w : World} {K : PySem.W.Frag} {mg mb : Str → Option Value} {k : Nat} {fa a c T : Addr} {sp : Sp} {s1 : Shared} {vs : List Value} {ns : List Int}
theorem end_fromTB (KX : K.In s1.heap) (hns : s1.heap.Ns mainGlobals mg) (hb : s1.heap.Ns builtinsNs mb) (hbb : ∀ x : Str, x ≠ "__name__" → mb x = bootBuiltins x) (hlim : s1.heap.NoLimit) (hsy : SysB s1.heap) (hg : s1.gens = #[]) (hr : Room k callerA)
    (eT : s1.heap.get? T = some tab0) (nT : K.lookup T = none) (cT : PySem.W.CodeHd s1.heap c T)
    (main : ∃ (m : Addr) (o : Obj), mg "__builtins__" = some (.ref m) ∧ m ≠ builtinsNs ∧ s1.heap.get? m = some o ∧ o.cls = .type "module" ∧ o.dict = some builtinsNs ∧ o.data = .plain)
    (F : ∀ base : Heap, K.In base → base.Ns mainGlobals mg → LamX.TabB base mg c T → SysB base → FnG P w K mg base CX0 k fa sp) {H : Hp} (B : Begin K s1.heap T H) (hok : HOk P w H s1.heap)
    (hsp : sp [.ref a] H (fun v _ => v = .bl true) fun _ _ _ => False) :
    codeAny (model P w) callerA (.call (.ref fa) ⟨[.ref a], []⟩) (fun r s' => r = .ok (.ret (.bool true)) ∧ OldK s1.heap s'.heap ∧ s'.os = s1.os ∧ AllBare s'.gens) s1 := by
  let base := hidT s1.heap H
  have free : ∀ {b : Addr} {o : Obj}, s1.heap.get? b = some o → (∀ items n, o.data ≠ .seq items n) → o.data ≠ .fields #[] → base.get? b = some o := fun {b o} e d1 d2 => by
    refine hidT_get e ?_
    by_cases q : b = T
    · rw [q, eT] at e
      cases e
      exact (d2 rfl).elim
    · rcases B.rest b q with z | ⟨o2, xs, items, n, _, _, e2, z⟩
      · exact z
      · rw [e] at e2
        cases e2
        exact (d1 _ _ z).elim
  have names : ∀ {b : Addr} {m : Str → Option Value}, s1.heap.Ns b m → base.Ns b m := fun z => by
    obtain ⟨o, es, ep, e, d, r⟩ := z
    exact ⟨o, es, ep, free e (fun _ _ y => by rw [d] at y; cases y) (fun y => by rw [d] at y; cases y), d, r⟩
  have hK : K.In base := fun b o e => by
    refine hidT_get (KX b o e) ?_
    by_cases q : b = T
    · rw [q, nT] at e
      cases e
    · rcases B.rest b q with z | ⟨o2, xs, items, n, _, z, _⟩
      · exact z
      · rw [e] at z
        cases z
  have lim : base.NoLimit := by
    obtain ⟨m, h1, h2⟩ := hlim
    exact ⟨m, names h1, h2⟩
  have TB : LamX.TabB base mg c T := by
    refine ⟨?_, ?_, fun z => ?_⟩
    · obtain ⟨o, us, file, tf, flags, tg, inF, text, tt, e1, p1, p2, p3, p4, p5, p6, p7, p8, p9⟩ := cT
      exact ⟨o, us, file, tf, flags, tg, inF, text, tt, free e1 (fun _ _ y => by rw [p2] at y; cases y) (fun y => by rw [p2] at y; cases y; simp at p3), p1, p2, p3, p4, p5, p6, p7, p8, p9⟩
    · obtain ⟨m, o, q1, q2, q3, q4, q5, q6⟩ := main
      refine ⟨m, o, q1, q2, fun y => ?_, fun y => ?_, free q3 (fun _ _ y => by rw [q6] at y; cases y) (fun y => by rw [q6] at y; cases y), q4, q5, q6⟩
      · obtain ⟨og, es, ep, e, d, _⟩ := hns
        rw [y, e] at q3
        cases q3
        rw [q6] at d
        cases d
      · rw [y, eT] at q3
        cases q3
        cases q6
    · obtain ⟨og, es, ep, e, d, _⟩ := hns
      rw [z, eT] at e
      cases e
      cases d
  have e0 : Env0 P w K mg base callerA [] s1 H :=
    { frames := rfl, mod := ⟨hK, names hns, ⟨mb, names hb, hbb⟩, lim⟩, bs := fun b o e => of_hidT e, bsz := Nat.le_of_eq (hidT_size _ _), funs := trivial, frf := fun b hb => (List.not_mem_nil hb).elim, hok := hok, bare := .of_eq hg }
  refine codeAny_mono (F base hK (names hns) TB (let ⟨m, z⟩ := hsy; ⟨m, names z⟩) callerA [] s1 H [.ref a] [.ref a] _ _ hr rfl e0 (.cons rfl .nil) hsp) fun r s' h => ?_
  cases r with
  | error e => exact False.elim h
  | ok fl =>
    cases fl with
    | next => exact False.elim h
    | brk => exact False.elim h
    | cont => exact False.elim h
    | ret u =>
      obtain ⟨v, H2, os, bare, un, ok2, rv, q⟩ := h
      subst q
      cases rv
      have still : ∀ b o, b ≠ T → s1.heap.get? b = some o → s'.heap.get? b = some o := fun b o nb e => by
        rcases B.rest b nb with z | ⟨o2, xs, items, n, z, _⟩
        · exact un.keep b o e z (fun y => List.not_mem_nil y) (fun y => List.not_mem_nil y)
        · have e1 := (hok b _ z).1
          have e2 := (ok2 b _ (un.frzs b o2 _ z)).1
          rw [e] at e1
          cases e1
          exact e2
      obtain ⟨more, z⟩ := un.tbls T #[] B.tab
      have wide := ok2 T _ z
      refine ⟨rfl, ⟨fun b o e => ?_, fun b o e => ?_⟩, os, bare⟩
      · by_cases q : b = T
        · subst q
          rw [eT] at e
          cases e
          exact .inr (.inl ⟨(cT.tab eT).isCodeTable, rfl, #[], _, rfl, by rw [Array.empty_append]; exact wide⟩)
        · exact .inl (still b o q e)
      · by_cases q : b = T
        · subst q
          exact ⟨_, wide⟩
        · exact ⟨o, still b o q e⟩
theorem end_callTB (KX : K.In s1.heap) (hns : s1.heap.Ns mainGlobals mg) (hb : s1.heap.Ns builtinsNs mb) (hbb : ∀ x : Str, x ≠ "__name__" → mb x = bootBuiltins x) (hlim : s1.heap.NoLimit) (hsy : SysB s1.heap) (hg : s1.gens = #[]) (hr : Room k callerA)
    (eT : s1.heap.get? T = some tab0) (nT : K.lookup T = none) (cT : PySem.W.CodeHd s1.heap c T)
    (main : ∃ (m : Addr) (o : Obj), mg "__builtins__" = some (.ref m) ∧ m ≠ builtinsNs ∧ s1.heap.get? m = some o ∧ o.cls = .type "module" ∧ o.dict = some builtinsNs ∧ o.data = .plain)
    (ha : s1.heap.get? a = some { cls := .type "list", data := .seq vs.toArray }) (hi : IntsAre vs ns) (hl : ns.length ≤ sizeLine) (F : ∀ base : Heap, K.In base → base.Ns mainGlobals mg → LamX.TabB base mg c T → SysB base → FnG P w K mg base CX0 k fa sp)
    (hsp : ∀ H : Hp, H T = some (.tbl #[]) → SqL K H a (ns.map V.int) → sp [.ref a] H (fun v _ => v = .bl true) fun _ _ _ => False) :
    codeAny (model P w) callerA (.call (.ref fa) ⟨[.ref a], []⟩) (fun r s' => r = .ok (.ret (.bool true)) ∧ OldK s1.heap s'.heap ∧ s'.os = s1.os ∧ AllBare s'.gens) s1 := by
  have rv := vals_ints hi
  have hl2 : (ns.map V.int).length ≤ sizeLine := by rw [List.length_map]; exact hl
  have naT : a ≠ T := fun z => by
    rw [z, eT] at ha
    cases ha
  cases hk : K.lookup a with
  | some o =>
    have e := KX a o hk
    rw [ha] at e
    cases e
    let H : Hp := fun b => if b = T then some (.tbl #[]) else none
    have HT : H T = some (.tbl #[]) := if_pos rfl
    have HN : ∀ b, b ≠ T → H b = none := fun b n => if_neg n
    refine end_fromTB KX hns hb hbb hlim hsy hg hr eT nT cT main F (H := H) ⟨HT, fun b n => .inl (HN b n)⟩ (fun b u z => ?_) (hsp H HT ?_)
    · by_cases q : b = T
      · subst q
        rw [HT] at z
        cases z
        exact eT
      · rw [HN b q] at z
        cases z
    · exact .inr ⟨_, vs.toArray, _, hk, rfl, rfl, rfl, by rw [List.size_toArray, hi.length]; exact hl, by simpa using rv⟩
  | none =>
    let o : Obj := { cls := .type "list", data := .seq vs.toArray }
    let H : Hp := fun b => if b = a then some (.frz o (.lst (ns.map V.int))) else if b = T then some (.tbl #[]) else none
    have HA : H a = some (.frz o (.lst (ns.map V.int))) := if_pos rfl
    have HT : H T = some (.tbl #[]) := by show (if T = a then _ else _) = _; rw [if_neg (Ne.symm naT), if_pos rfl]
    have HN : ∀ b, b ≠ a → b ≠ T → H b = none := fun b n n2 => by show (if b = a then _ else _) = _; rw [if_neg n, if_neg n2]
    refine end_fromTB KX hns hb hbb hlim hsy hg hr eT nT cT main F (H := H) ⟨HT, fun b n => ?_⟩ (fun b u z => ?_) (hsp H HT (.inl (.inr ⟨_, HA⟩)))
    · by_cases q : b = a
      · subst q
        exact .inr ⟨o, _, _, _, HA, hk, ha, rfl⟩
      · exact .inl (HN b q n)
    · by_cases q : b = a
      · subst q
        rw [HA] at z
        cases z
        exact ⟨ha, hl2, vs, _, rv, ha⟩
      · by_cases q2 : b = T
        · subst q2
          rw [HT] at z
          cases z
          exact eT
        · rw [HN b q q2] at z
          cases z
end
/-- what is to be known of the law's promise at the head's heap -/
def LawTB (l : PySem.W.OpenLaw) (w : World) (K : PySem.W.Frag) (k n : Nat) (mg : Str → Option Value) (fa : Addr) (h : Heap) : Prop :=
  ∃ (c T : Addr) (sp : Sp), h.get? T = some tab0 ∧ K.lookup T = none ∧ PySem.W.CodeHd h c T ∧
    (∀ (H : Hp) (a : Addr) (ns : List Int), ns.length ≤ n → H T = some (.tbl #[]) → SqL K H a (ns.map V.int) → sp [.ref a] H (fun v _ => v = .bl true) fun _ _ _ => False) ∧
    ∀ base : Heap, K.In base → base.Ns mainGlobals mg → LamX.TabB base mg c T → SysB base → FnG l.prog w K mg base CX0 k fa sp
theorem walk_ofTGB {l : PySem.W.OpenLaw} {n k : Nat} {q : Program} {loose : List Str} {XP : (Str → Option Value) → Heap → Prop} {YP : World → Heap → Prop} {d : DefRec} {K : Params → PySem.W.Frag}
    (hi : importsNone q = true) (hn : l.most = some n) (hn2 : n ≤ sizeLine) (hdf : d.params.defaults = []) (hr : Room k callerA) (hY : ∀ (w : World) (h : Heap), YP w h → (K w.params).In h)
    (F : ∀ (w : World) (mg : Str → Option Value) (fa : Addr) (h : Heap), YP w h → (K w.params).In h → h.Ns mainGlobals mg → mg d.name = some (.ref fa) → LawTB l w (K w.params) k n mg fa h) :
    PySem.W.WalkO q loose XP YP l.row.toRowW d [] (fun f vs => PySem.call f vs) := by
  refine Att.attach_call hn hdf fun w s0 s1 mg mb fa o pm cd doc a vs ns G Y ho hd hcd hmg hobj hints hlen hg => ?_
  have KX := hY w _ Y
  obtain ⟨c, T, sp, eT, nT, cT, hsp, hF⟩ := F w mg fa _ Y KX G.T.g hmg
  exact end_callTB KX G.T.g G.T.b G.T.builtins G.T.nolimit (let ⟨m, z, _⟩ := (G.T.seer hi).mods; ⟨m, z⟩) hg hr eT nT cT G.T.bmain hobj hints (Nat.le_trans hlen hn2) hF fun H hH hS => hsp H a ns hlen hH hS
end Ow
end
section
set_option maxHeartbeats 4000000
namespace Ow
open PySem PySem.Spec PyProof.Rows L2
section
variable {X : Cx} {CX : CXT} {k : Nat} {C g : Addr} {sp : Sp} {E : XK} {o : Expr} {m : Str} {pos apos : Pos} {ta : TE} {pl : Sem Bool}
/-- o.m(k=e, ..): an instance's method, by keywords alone -/
def tMethK (C : Addr) (m : Str) (n : Nat) (sp : Sp) (gV : List V → List V → List V) (E : XK) (ta : TE) (tk : TA) : TE := fun σ H Q => ta σ H fun x H1 => ∃ a dx fs, x = .ref a ∧ H1 a = some (.ins C dx fs) ∧ fs.lookup m = none ∧ tk σ H1 fun zs H2 => zs.length = n ∧ sp (gV [x] zs) H2 Q E
theorem pe_methK {kws : List Keyword} {fd : FuncData} {ps ks : List Str} {tk : TA} {gl : List Value → List Value → List Value} {gV : List V → List V → List V} (he : PE X o ta) (c : Cls X.K C) (hm : Meth X.K C m g)
    (F : FnOk X.prog X.w X.K X.mg X.base CX k g fd ps sp) (hr : Room k X.A) (hb : KBn X.K fd ps 1 ks gl gV) (hx : Passes CX X E) (hkw : PK X kws tk)
    (hall : (backToKw pos (keywordEach kws X.env)).all (·.1.isSome) = true := by rfl) (hks : (backToKw pos (keywordEach kws X.env)).filterMap (·.1) = ks := by rfl)
    (hpl : ((backTo pos (starEach [] X.env)).any (·.1) || (backToKw pos (keywordEach kws X.env)).any (·.1.isNone)) = false := by rfl)
    (ht : eval (.Call (.Attribute o m apos) [] kws pos) X.env = (do
      let ov ← eval o X.env
      standAt apos.atName
      let (f, first) ← holding [ov] (getMethod ov m pl)
      callWith pos f first (backTo pos (starEach [] X.env)) (backToKw pos (keywordEach kws X.env))) := by rfl) :
    PE X (.Call (.Attribute o m apos) [] kws pos) (tMethK C m ks.length sp gV E ta tk) := by
  refine ⟨fun pins s σ H Q I h => ?_⟩
  refine PySem.W.methodCall_KW (pl := pl) (thn (he.run pins s σ H _ I h) fun u s1 ⟨x, H1, I1, rx, a, dx, fs, ex, ea, l, q⟩ => ?_) ht
  subst ex
  obtain rfl : u = Value.ref a := rx
  refine getmeth_ok I1 ea c hm l ?_
  refine PySem.W.callWith_KW0 (h₀ := X.base) I.ok.mod.kin hm.kp hall ?_ hpl
  refine thn (hkw.run pos pins s1 σ H1 _ I1 q) fun ws s3 ⟨zs, H3, I3, rz, l2, q2⟩ => ⟨I3.kIn, ?_⟩
  rw [hks]
  have r1 : Vals [V.ref a] [Value.ref a] := .cons rfl .nil
  refine wpAny_call (codeAny_mono (F.run X.A X.stack s3 H3 ⟨[.ref a], ks.zip ws⟩ (gl [.ref a] ws) (gV [.ref a] zs) Q E hr I3.env0 (hb.to s3 [.ref a] ws I3.kIn rfl (rz.length.symm.trans l2)) (hb.rel r1 rz) q2) fun r s' hq => ?_)
  cases r with
  | error e => exact hx pins σ H3 s3 e s' I3 hq
  | ok fl =>
    cases fl with
    | ret u => exact I3.after hq
    | next => exact False.elim hq
    | brk => exact False.elim hq
    | cont => exact False.elim hq
end
end Ow
end
section
set_option maxHeartbeats 4000000
/-! range(a, b) for any two integers. -/
namespace Ow
open PySem PySem.Spec PyProof.Rows L2
theorem long_self {prog : Program} {w : World} {A : Around} {E : Value → Shared → Prop} {s : Shared} {it : Addr} {x left step : Int} {Q : Value → Shared → Prop} (hit : IsLongIter s.heap it x left step) (h : Q (.ref it) s) : wpAny (model prog w) A (pyIter (.ref it)) Q E s := by
  have hT : s.TypeIs (.ref it) "longrange_iterator" := ⟨_, hit, rfl⟩
  refine wpAny_pyIter_slot hT F.slot_longrange_iterator_iter (wpAny_call_entry F.slot_longrange_iterator_iter hT F.entry_longrange_iterator_iter ?_ (F.args_longrange_iterator_iter_1 (.ref it)))
  exact wpAny_pure ⟨.ref it, rfl, "longrange_iterator", .builtin "longrange_iterator.__next__", hT, F.slot_longrange_iterator_next.lookup, h⟩
theorem turn_long {P : Program} {w : World} {K : PySem.W.Frag} {tg : Expr} (it : Addr) (lo : Int) (n : Nat) : Turn P w K tg (Itr lo n) [it] it fun i h => i ≤ n ∧ IsLongIter h it (lo + (i : Nat) * 1) ((n : Int) - (i : Nat)) 1 where
  mem := by simp
  obj := fun i h st b hb => by
    have e : b = it := by simpa using hb
    subst e
    exact ⟨_, st.2, fun v z => by cases z⟩
  keep := fun i h h' st k => ⟨st.1, k it (by simp) _ st.2⟩
  item := by
    intro X hP hw hK hc i pins s σ H E I hf st hg
    subst hP hw
    obtain ⟨f0, f1, f2, f3, f4, f5⟩ := hf it (by simp)
    have W := Walks.longrange (prog := X.prog) (w := X.w) (I.ok.hd hc) it lo 1 n
    have hlt : i < n := hg
    refine W.item i s _ E hlt st.2 fun v h' tk hv st' kk => ?_
    obtain ⟨t, rfl⟩ := hv
    have I1 := I.turned (t' := tk) (h' := h') (it := it) (fun b o hb e => kk b o (by simpa using hb) e) f0 f1 f3 f4 f5
    refine ⟨.int (lo + (i : Nat) * 1) t, rfl, go_of st' rfl rfl (by decide) ?_⟩
    exact ⟨.int (lo + (i : Nat)), H, I1, ⟨t, by rw [Int.mul_one]⟩, ⟨rfl, rfl⟩, ⟨hlt, st'⟩, fun b hb => (hf b hb).1⟩
  done := by
    intro X hP hw hK hc i pins s σ H E I hf st hg
    subst hP hw
    obtain ⟨f0, f1, f2, f3, f4, f5⟩ := hf it (by simp)
    have W := Walks.longrange (prog := X.prog) (w := X.w) (I.ok.hd hc) it lo 1 n
    have hle : n ≤ i := hg
    obtain ⟨h1, h2⟩ := st
    have e : i = n := by omega
    subst e
    exact W.done s _ E h2 fun h' tk kk => ⟨rfl, I.turned (fun b o hb e => kk b o (by simpa using hb) e) f0 f1 f3 f4 f5⟩
  self := fun A i s Q E st h => long_self st.2 h
theorem size_nat (i j : Int) : Builtin.Range.rangeSize i j 1 = ((j - i).toNat : Int) := by
  rw [rangeSize_one]
  split <;> omega
def iRng2L (ta : TA) : TI := fun σ H R => ta σ H fun vs H1 => ∃ i j : Int, vs = [.int i, .int j] ∧ R (Itr i (j - i).toNat) H1
theorem pi_range2L {X : Cx} {tg a b : Expr} {ta : TA} {p pos : Pos} (hg : Gl X "range") (hm : X.mg "range" = none) (ha : PA X [a, b] ta) (hs : starEach [a, b] X.env = [(false, eval a X.env), (false, eval b X.env)] := by rfl) (hs2 : starEach [b] X.env = [(false, eval b X.env)] := by rfl) :
    PI X tg (.Call (.Name "range" p) [a, b] [] pos) (iRng2L ta) := by
  refine ⟨fun pins s σ H R I h => ?_⟩
  refine Call_ (ld_blt I hg hm boot_range (PyProof.Rows.callWith_type1 (thn (ha.run pos pins s σ H _ I h) fun us s1 ⟨vs, H1, I1, r1, i, j, ex, q⟩ => ?_) (by rw [hs, hs2]) (by rw [hs2]; rfl)))
  subst ex
  obtain ⟨u, u2, rfl, ru, ru2⟩ := vals2 r1
  obtain ⟨t, rfl⟩ := ru
  obtain ⟨t', rfl⟩ := ru2
  refine call_range_2 ?_
  have I2 := I1.kept (h' := s1.heap.push { cls := .type "range", data := .fields #[.int i t, .int j t', .int 1 s1.toks] }) (t' := s1.toks + 1) fun b o e => Heap.get?_push_of_some _ e
  have new := IsRange.new s1.heap i j 1 t t' s1.toks
  cases hz : Builtin.Range.small i j 1 with
  | true =>
    refine wpAny_pyIter_range new hz ?_
    rw [size_nat]
    refine pi_one I2 _ (turn_range _ i _) ?_ q
    have e := Heap.get?_push_size (s1.heap.push { cls := .type "range", data := .fields #[.int i t, .int j t', .int 1 s1.toks] }) (o := { cls := .type "range_iterator", data := .fields #[rawInt i, rawInt ((j - i).toNat : Int), rawInt 1] }) rfl
    simpa using e
  | false =>
    refine wpAny_pyIter_longrange new hz ?_
    rw [size_nat]
    refine pi_one I2 _ (turn_long _ i _) ?_ q
    have e := Heap.get?_push_size (s1.heap.push { cls := .type "range", data := .fields #[.int i t, .int j t', .int 1 s1.toks] }) (o := { cls := .type "longrange_iterator", data := .fields #[rawInt i, rawInt ((j - i).toNat : Int), rawInt 1] }) rfl
    exact ⟨Nat.zero_le _, by simpa using e⟩
end Ow
end
section
set_option maxHeartbeats 4000000
/-! The end of a law of which several defs hand lambdas over: a table for each of them. -/
namespace Ow
open PySem PySem.Spec PyProof.Rows L2 StX
section
variable {P : Program} {w : World} {K : PySem.W.Frag} {mg mb : Str → Option Value} {k : Nat} {fa a : Addr} {TL : List (Addr × Addr)} {sp : Sp} {s1 : Shared} {vs : List Value} {ns : List Int}
/-- what is known of the codes' tables ahead of the call -/
structure TabsAt (K : PySem.W.Frag) (h : Heap) (TL : List (Addr × Addr)) : Prop where
  at_ : ∀ p ∈ TL, h.get? p.2 = some tab0
  no : ∀ p ∈ TL, K.lookup p.2 = none
  cd : ∀ p ∈ TL, PySem.W.CodeHd h p.1 p.2
/-- what stands in the abstract heap at the begin: the tables, and perhaps the script -/
structure BeginL (K : PySem.W.Frag) (h : Heap) (TL : List (Addr × Addr)) (H : Hp) : Prop where
  tab : ∀ p ∈ TL, H p.2 = some (.tbl #[])
  rest : ∀ b, (∀ p ∈ TL, b ≠ p.2) → H b = none ∨ ∃ o xs items n, H b = some (.frz o (.lst xs)) ∧ K.lookup b = none ∧ h.get? b = some o ∧ o.data = .seq items n
theorem end_fromL (KX : K.In s1.heap) (hns : s1.heap.Ns mainGlobals mg) (hb : s1.heap.Ns builtinsNs mb) (hbb : ∀ x : Str, x ≠ "__name__" → mb x = bootBuiltins x) (hlim : s1.heap.NoLimit) (hsy : SysB s1.heap) (hg : s1.gens = #[]) (hr : Room k callerA)
    (tt : TabsAt K s1.heap TL)
    (main : ∃ (m : Addr) (o : Obj), mg "__builtins__" = some (.ref m) ∧ m ≠ builtinsNs ∧ s1.heap.get? m = some o ∧ o.cls = .type "module" ∧ o.dict = some builtinsNs ∧ o.data = .plain)
    (F : ∀ base : Heap, K.In base → base.Ns mainGlobals mg → (∀ p ∈ TL, LamX.TabB base mg p.1 p.2) → SysB base → FnG P w K mg base CX0 k fa sp) {H : Hp} (B : BeginL K s1.heap TL H) (hok : HOk P w H s1.heap)
    (hsp : sp [.ref a] H (fun v _ => v = .bl true) fun _ _ _ => False) :
    codeAny (model P w) callerA (.call (.ref fa) ⟨[.ref a], []⟩) (fun r s' => r = .ok (.ret (.bool true)) ∧ OldK s1.heap s'.heap ∧ s'.os = s1.os ∧ AllBare s'.gens) s1 := by
  let base := hidT s1.heap H
  have free : ∀ {b : Addr} {o : Obj}, s1.heap.get? b = some o → (∀ items n, o.data ≠ .seq items n) → o.data ≠ .fields #[] → base.get? b = some o := fun {b o} e d1 d2 => by
    refine hidT_get e ?_
    by_cases q : ∃ p ∈ TL, b = p.2
    · obtain ⟨p, hp, rfl⟩ := q
      rw [tt.at_ p hp] at e
      cases e
      exact (d2 rfl).elim
    · rcases B.rest b (fun p hp z => q ⟨p, hp, z⟩) with z | ⟨o2, xs, items, n, _, _, e2, z⟩
      · exact z
      · rw [e] at e2
        cases e2
        exact (d1 _ _ z).elim
  have names : ∀ {b : Addr} {m : Str → Option Value}, s1.heap.Ns b m → base.Ns b m := fun z => by
    obtain ⟨o, es, ep, e, d, r⟩ := z
    exact ⟨o, es, ep, free e (fun _ _ y => by rw [d] at y; cases y) (fun y => by rw [d] at y; cases y), d, r⟩
  have hK : K.In base := fun b o e => by
    refine hidT_get (KX b o e) ?_
    by_cases q : ∃ p ∈ TL, b = p.2
    · obtain ⟨p, hp, rfl⟩ := q
      rw [tt.no p hp] at e
      cases e
    · rcases B.rest b (fun p hp z => q ⟨p, hp, z⟩) with z | ⟨o2, xs, items, n, _, z, _⟩
      · exact z
      · rw [e] at z
        cases z
  have lim : base.NoLimit := by
    obtain ⟨m, h1, h2⟩ := hlim
    exact ⟨m, names h1, h2⟩
  have TB : ∀ p ∈ TL, LamX.TabB base mg p.1 p.2 := fun p hp => by
    have eT := tt.at_ p hp
    refine ⟨?_, ?_, fun z => ?_⟩
    · obtain ⟨o, us, file, tf, flags, tg, inF, text, tx, e1, p1, p2, p3, p4, p5, p6, p7, p8, p9⟩ := tt.cd p hp
      exact ⟨o, us, file, tf, flags, tg, inF, text, tx, free e1 (fun _ _ y => by rw [p2] at y; cases y) (fun y => by rw [p2] at y; cases y; simp at p3), p1, p2, p3, p4, p5, p6, p7, p8, p9⟩
    · obtain ⟨m, o, q1, q2, q3, q4, q5, q6⟩ := main
      refine ⟨m, o, q1, q2, fun y => ?_, fun y => ?_, free q3 (fun _ _ y => by rw [q6] at y; cases y) (fun y => by rw [q6] at y; cases y), q4, q5, q6⟩
      · obtain ⟨og, es, ep, e, d, _⟩ := hns
        rw [y, e] at q3
        cases q3
        rw [q6] at d
        cases d
      · rw [y, eT] at q3
        cases q3
        cases q6
    · obtain ⟨og, es, ep, e, d, _⟩ := hns
      rw [z, eT] at e
      cases e
      cases d
  have e0 : Env0 P w K mg base callerA [] s1 H :=
    { frames := rfl, mod := ⟨hK, names hns, ⟨mb, names hb, hbb⟩, lim⟩, bs := fun b o e => of_hidT e, bsz := Nat.le_of_eq (hidT_size _ _), funs := trivial, frf := fun b hb => (List.not_mem_nil hb).elim, hok := hok, bare := .of_eq hg }
  refine codeAny_mono (F base hK (names hns) TB (let ⟨m, z⟩ := hsy; ⟨m, names z⟩) callerA [] s1 H [.ref a] [.ref a] _ _ hr rfl e0 (.cons rfl .nil) hsp) fun r s' h => ?_
  cases r with
  | error e => exact False.elim h
  | ok fl =>
    cases fl with
    | next => exact False.elim h
    | brk => exact False.elim h
    | cont => exact False.elim h
    | ret u =>
      obtain ⟨v, H2, os, bare, un, ok2, rv, q⟩ := h
      subst q
      cases rv
      have still : ∀ b o, (∀ p ∈ TL, b ≠ p.2) → s1.heap.get? b = some o → s'.heap.get? b = some o := fun b o nb e => by
        rcases B.rest b nb with z | ⟨o2, xs, items, n, z, _⟩
        · exact un.keep b o e z (fun y => List.not_mem_nil y) (fun y => List.not_mem_nil y)
        · have e1 := (hok b _ z).1
          have e2 := (ok2 b _ (un.frzs b o2 _ z)).1
          rw [e] at e1
          cases e1
          exact e2
      refine ⟨rfl, ⟨fun b o e => ?_, fun b o e => ?_⟩, os, bare⟩
      · by_cases q : ∃ p ∈ TL, b = p.2
        · obtain ⟨p, hp, rfl⟩ := q
          obtain ⟨more, z⟩ := un.tbls p.2 #[] (B.tab p hp)
          have wide := ok2 p.2 _ z
          have eT := tt.at_ p hp
          rw [eT] at e
          cases e
          exact .inr (.inl ⟨((tt.cd p hp).tab eT).isCodeTable, rfl, #[], _, rfl, by rw [Array.empty_append]; exact wide⟩)
        · exact .inl (still b o (fun p hp z => q ⟨p, hp, z⟩) e)
      · by_cases q : ∃ p ∈ TL, b = p.2
        · obtain ⟨p, hp, rfl⟩ := q
          obtain ⟨more, z⟩ := un.tbls p.2 #[] (B.tab p hp)
          exact ⟨_, ok2 p.2 _ z⟩
        · exact ⟨o, still b o (fun p hp z => q ⟨p, hp, z⟩) e⟩
theorem end_callL (KX : K.In s1.heap) (hns : s1.heap.Ns mainGlobals mg) (hb : s1.heap.Ns builtinsNs mb) (hbb : ∀ x : Str, x ≠ "__name__" → mb x = bootBuiltins x) (hlim : s1.heap.NoLimit) (hsy : SysB s1.heap) (hg : s1.gens = #[]) (hr : Room k callerA)
    (tt : TabsAt K s1.heap TL)
    (main : ∃ (m : Addr) (o : Obj), mg "__builtins__" = some (.ref m) ∧ m ≠ builtinsNs ∧ s1.heap.get? m = some o ∧ o.cls = .type "module" ∧ o.dict = some builtinsNs ∧ o.data = .plain)
    (ha : s1.heap.get? a = some { cls := .type "list", data := .seq vs.toArray }) (hi : IntsAre vs ns) (hl : ns.length ≤ sizeLine) (F : ∀ base : Heap, K.In base → base.Ns mainGlobals mg → (∀ p ∈ TL, LamX.TabB base mg p.1 p.2) → SysB base → FnG P w K mg base CX0 k fa sp)
    (hsp : ∀ H : Hp, (∀ p ∈ TL, H p.2 = some (.tbl #[])) → SqL K H a (ns.map V.int) → sp [.ref a] H (fun v _ => v = .bl true) fun _ _ _ => False) :
    codeAny (model P w) callerA (.call (.ref fa) ⟨[.ref a], []⟩) (fun r s' => r = .ok (.ret (.bool true)) ∧ OldK s1.heap s'.heap ∧ s'.os = s1.os ∧ AllBare s'.gens) s1 := by
  have rv := vals_ints hi
  have hl2 : (ns.map V.int).length ≤ sizeLine := by rw [List.length_map]; exact hl
  have naT : ∀ p ∈ TL, a ≠ p.2 := fun p hp z => by
    rw [z, tt.at_ p hp] at ha
    cases ha
  cases hk : K.lookup a with
  | some o =>
    have e := KX a o hk
    rw [ha] at e
    cases e
    let H : Hp := fun b => if b ∈ TL.map Prod.snd then some (.tbl #[]) else none
    have HT : ∀ p ∈ TL, H p.2 = some (.tbl #[]) := fun p hp => if_pos (List.mem_map_of_mem hp)
    have HN : ∀ b, (∀ p ∈ TL, b ≠ p.2) → H b = none := fun b n => if_neg fun z => by
      obtain ⟨p, hp, e⟩ := List.mem_map.mp z
      exact n p hp e.symm
    refine end_fromL KX hns hb hbb hlim hsy hg hr tt main F (H := H) ⟨HT, fun b n => .inl (HN b n)⟩ (fun b u z => ?_) (hsp H HT ?_)
    · by_cases q : ∃ p ∈ TL, b = p.2
      · obtain ⟨p, hp, rfl⟩ := q
        rw [HT p hp] at z
        cases z
        exact tt.at_ p hp
      · rw [HN b fun p hp y => q ⟨p, hp, y⟩] at z
        cases z
    · exact .inr ⟨_, vs.toArray, _, hk, rfl, rfl, rfl, by rw [List.size_toArray, hi.length]; exact hl, by simpa using rv⟩
  | none =>
    let o : Obj := { cls := .type "list", data := .seq vs.toArray }
    let H : Hp := fun b => if b = a then some (.frz o (.lst (ns.map V.int))) else if b ∈ TL.map Prod.snd then some (.tbl #[]) else none
    have HA : H a = some (.frz o (.lst (ns.map V.int))) := if_pos rfl
    have HT : ∀ p ∈ TL, H p.2 = some (.tbl #[]) := fun p hp => by show (if p.2 = a then _ else _) = _; rw [if_neg (Ne.symm (naT p hp)), if_pos (List.mem_map_of_mem hp)]
    have HN : ∀ b, b ≠ a → (∀ p ∈ TL, b ≠ p.2) → H b = none := fun b n n2 => by
      show (if b = a then _ else _) = _
      rw [if_neg n, if_neg fun z => by
        obtain ⟨p, hp, e⟩ := List.mem_map.mp z
        exact n2 p hp e.symm]
    refine end_fromL KX hns hb hbb hlim hsy hg hr tt main F (H := H) ⟨HT, fun b n => ?_⟩ (fun b u z => ?_) (hsp H HT (.inl (.inr ⟨_, HA⟩)))
    · by_cases q : b = a
      · subst q
        exact .inr ⟨o, _, _, _, HA, hk, ha, rfl⟩
      · exact .inl (HN b q n)
    · by_cases q : b = a
      · subst q
        rw [HA] at z
        cases z
        exact ⟨ha, hl2, vs, _, rv, ha⟩
      · by_cases q2 : ∃ p ∈ TL, b = p.2
        · obtain ⟨p, hp, rfl⟩ := q2
          rw [HT p hp] at z
          cases z
          exact tt.at_ p hp
        · rw [HN b q fun p hp y => q2 ⟨p, hp, y⟩] at z
          cases z
end
/-- what is to be known of the law's promise at the head's heap -/
def LawTL (l : PySem.W.OpenLaw) (w : World) (K : PySem.W.Frag) (k n : Nat) (mg : Str → Option Value) (fa : Addr) (h : Heap) : Prop :=
  ∃ (TL : List (Addr × Addr)) (sp : Sp), TabsAt K h TL ∧
    (∀ (H : Hp) (a : Addr) (ns : List Int), ns.length ≤ n → (∀ p ∈ TL, H p.2 = some (.tbl #[])) → SqL K H a (ns.map V.int) → sp [.ref a] H (fun v _ => v = .bl true) fun _ _ _ => False) ∧
    ∀ base : Heap, K.In base → base.Ns mainGlobals mg → (∀ p ∈ TL, LamX.TabB base mg p.1 p.2) → SysB base → FnG l.prog w K mg base CX0 k fa sp
theorem walk_ofTL {l : PySem.W.OpenLaw} {n k : Nat} {q : Program} {loose : List Str} {XP : (Str → Option Value) → Heap → Prop} {YP : World → Heap → Prop} {d : DefRec} {K : Params → PySem.W.Frag}
    (hi : importsNone q = true) (hn : l.most = some n) (hn2 : n ≤ sizeLine) (hdf : d.params.defaults = []) (hr : Room k callerA) (hY : ∀ (w : World) (h : Heap), YP w h → (K w.params).In h)
    (F : ∀ (w : World) (mg : Str → Option Value) (fa : Addr) (h : Heap), YP w h → (K w.params).In h → h.Ns mainGlobals mg → mg d.name = some (.ref fa) → LawTL l w (K w.params) k n mg fa h) :
    PySem.W.WalkO q loose XP YP l.row.toRowW d [] (fun f vs => PySem.call f vs) := by
  refine Att.attach_call hn hdf fun w s0 s1 mg mb fa o pm cd doc a vs ns G Y ho hd hcd hmg hobj hints hlen hg => ?_
  have KX := hY w _ Y
  obtain ⟨TL, sp, tt, hsp, hF⟩ := F w mg fa _ Y KX G.T.g hmg
  exact end_callL KX G.T.g G.T.b G.T.builtins G.T.nolimit (let ⟨m, z, _⟩ := (G.T.seer hi).mods; ⟨m, z⟩) hg hr tt G.T.bmain hobj hints (Nat.le_trans hlen hn2) hF fun H hH hS => hsp H a ns hlen hH hS
end Ow
end
section
set_option maxHeartbeats 4000000
/-! zip of two or three texts. -/
namespace Ow
open PySem PySem.Spec PyProof.Rows L2
/-- a walk whose items are new tuples with a known content -/
def ItZ (n : Nat) (f : Nat → List V) : It := ⟨fun i _ => i < n, fun i H v H' => ∃ T, v = .ref T ∧ H T = none ∧ H' = upd H T (.tup (f i)), fun i _ => n ≤ i⟩
theorem turn_walksT {P : Program} {w : World} {K : PySem.W.Frag} {elts : List Expr} {kk : Nat} {tpos : Pos} {I : Addr} {fp wr : List Addr} {n : Nat} {Pt : Nat → Array Value → Prop} {St : Nat → Heap → Prop} {Mid : Nat → Addr → Heap → Prop} {f : Nat → List V}
    (W : ∀ A : Around, A.in1.handled = none → WalksT P w A I fp wr n Pt St Mid) (hI : I ∈ fp) (hob : ∀ i h, St i h → ∀ b ∈ fp, ∃ o, h.get? b = some o ∧ ∀ v, o.data ≠ .cell v)
    (hPt : ∀ i vals, Pt i vals → Vals (f i) vals.toList ∧ (f i).length ≤ sizeLine) (hself : ∀ (A : Around) (i : Nat) (s : Shared) (Q E : Value → Shared → Prop), St i s.heap → Q (.ref I) s → wpAny (model P w) A (pyIter (.ref I)) Q E s) :
    Turn P w K (.Tuple elts kk tpos) (ItZ n f) fp I (fun i h => i ≤ n ∧ St i h) where
  mem := hI
  obj := fun i h st b hb => hob i h st.2 b hb
  keep := fun i h h' st k => by
    have W0 := W { callerA with handled := none } rfl
    exact ⟨st.1, W0.frame i h h' st.2 k⟩
  item := by
    intro X hP hw hK hc i pins s σ H E J hf st hg
    subst hP hw
    have W1 := W X.A (J.ok.hd hc)
    have hlt : i < n := hg
    have hlive : ∀ b ∈ fp, b < s.heap.objs.size := fun b hb => by
      obtain ⟨o, ho, _⟩ := hob i _ st.2 b hb
      exact Heap.lt_size ho
    refine W1.item i s _ E hlt st.2 fun T vals h' tk hp hT ht mid kk1 => ?_
    refine ⟨.ref T, rfl, W1.go elts kk tpos i T _ _ E mid fun h'' st'' kk2 => ?_⟩
    have nw : ∀ b, b ∉ fp → b ∉ wr := fun b hb z => hb (W1.sub b z)
    obtain ⟨rv, hl⟩ := hPt i vals hp
    obtain ⟨oT, h1, h2, h3, h4⟩ := ht
    have ht2 : h''.get? T = some oT := kk2 T oT (W1.apart i T _ mid) h1
    have new : ObjOk X.prog X.w (upd H T (.tup (f i))) h'' T (.tup (f i)) := ⟨hl, vals.toList, rv, ⟨oT, ht2, h2, h3, by simpa using h4⟩⟩
    have J1 : Inv X pins σ (upd H T (.tup (f i))) { s with heap := h'', toks := tk } :=
      J.turnedNew (ch := fp) (fun b o hb q => kk2 b o (nw b hb) (kk1 b o (nw b hb) q)) hf hT new
    exact ⟨.ref T, _, J1, rfl, ⟨T, rfl, J.hok.fresh hT, rfl⟩, ⟨hlt, st''⟩, fun b hb => by
      rw [upd_ne (Nat.ne_of_lt (Nat.lt_of_lt_of_le (hlive b hb) hT))]
      exact (hf b hb).1⟩
  done := by
    intro X hP hw hK hc i pins s σ H E J hf st hg
    subst hP hw
    have W1 := W X.A (J.ok.hd hc)
    have hle : n ≤ i := hg
    obtain ⟨h1, h2⟩ := st
    have e : i = n := by omega
    subst e
    exact W1.done s _ E h2 fun h' tk kk => ⟨rfl, J.turnedL (ch := fp) (fun b o hb q => kk b o (fun z => hb (W1.sub b z)) q) hf⟩
  self := fun A i s Q E st h => hself A i s Q E st.2 h
/-- the signs of texts at an index -/
def sgn (x : Str) (i : Nat) : V := .str ⟨#[x.cps.toList.getD i 0]⟩
def iZipS (ta : TA) : TI := fun σ H R => ta σ H fun vs H1 => ∃ x y : Str, vs = [.str x, .str y] ∧ R (ItZ (min x.cps.size y.cps.size) fun i => [sgn x i, sgn y i]) H1
def iZipS3 (ta : TA) : TI := fun σ H R => ta σ H fun vs H1 => ∃ x y z : Str, vs = [.str x, .str y, .str z] ∧ R (ItZ (min (min x.cps.size y.cps.size) z.cps.size) fun i => [sgn x i, sgn y i, sgn z i]) H1
theorem sgn_rel {x : Str} {i : Nat} {v : Value} (h : ∃ c u, x.cps[i]? = some c ∧ v = .str ⟨#[c]⟩ u) : RelV (sgn x i) v := by
  obtain ⟨c, u, h1, rfl⟩ := h
  refine ⟨u, ?_⟩
  have e : x.cps.toList.getD i 0 = c := by rw [List.getD_eq_getElem?_getD, Array.getElem?_toList, h1]; rfl
  rw [e]
theorem stri_ob {h : Heap} {a : Addr} {ty : String} {x : Str} {t : Tok} {i : Nat} (e : h.IsStrIter a ty x t i) : ∃ o, h.get? a = some o ∧ ∀ v, o.data ≠ .cell v := by
  obtain ⟨o, h1, _, h3⟩ := e
  exact ⟨o, h1, fun v z => by rw [h3] at z; cases z⟩
theorem pi_zipS {X : Cx} {e e2 : Expr} {ta : TA} {p pos tpos : Pos} {elts : List Expr} {kk : Nat} (hg : Gl X "zip") (hm : X.mg "zip" = none) (ha : PA X [e, e2] ta) (hs : starEach [e, e2] X.env = [(false, eval e X.env), (false, eval e2 X.env)] := by rfl) (hs2 : starEach [e2] X.env = [(false, eval e2 X.env)] := by rfl) :
    PI X (.Tuple elts kk tpos) (.Call (.Name "zip" p) [e, e2] [] pos) (iZipS ta) := by
  refine ⟨fun pins s σ H R I h => ?_⟩
  refine Call_ (ld_blt I hg hm boot_zip (PyProof.Rows.callWith_type1 (thn (ha.run pos pins s σ H _ I h) fun us s1 ⟨vs, H1, I1, r1, x, y, ex, q⟩ => ?_) (by rw [hs, hs2]) (by rw [hs2]; rfl)))
  subst ex
  obtain ⟨u, u2, rfl, ⟨t1, rfl⟩, ⟨t2, rfl⟩⟩ := vals2 r1
  refine zip_begins2 (begins_text x t1) (begins_text y t2) trivial trivial fun h' hz hTI hTO h1 h2 hsz hk => wpAny_pyIter_zip hz ?_
  have sep : ZipSep2 (s1.heap.objs.size + 4) (s1.heap.objs.size + 2) (s1.heap.objs.size + 3) s1.heap.objs.size (s1.heap.objs.size + 1) [s1.heap.objs.size] [s1.heap.objs.size + 1] := by
    constructor <;> simp <;> omega
  have fp : ∀ b ∈ ((s1.heap.objs.size + 4) :: (s1.heap.objs.size + 2) :: (s1.heap.objs.size + 3) :: ([s1.heap.objs.size] ++ [s1.heap.objs.size + 1])), FpOk X pins H1 b := fun b hb => by
    have hle : s1.heap.objs.size ≤ b := by
      simp only [List.mem_cons, List.mem_append, List.not_mem_nil, or_false] at hb
      omega
    exact I1.fpOk hle (I1.hok.fresh hle)
  refine ⟨s1.heap.objs.size + 4, _, _, _, H1, rfl, I1.kept (t' := s1.toks) hk, turn_walksT (f := fun i => [sgn x i, sgn y i]) (fun A hA => WalksT.zipD2 sep (Draws.text hA s1.heap.objs.size x t1) (Draws.text hA (s1.heap.objs.size + 1) y t2)) (by simp) (fun i h st b hb => ?_) (fun i vals hp => ?_) (fun A i s Q E st hq => wpAny_pyIter_zip st.1 hq), ⟨Nat.zero_le _, hz, hTI, ⟨_, _, hTO⟩, ⟨_, h1, rfl, rfl⟩, ⟨_, h2, rfl, rfl⟩⟩, fp, q⟩
  · obtain ⟨g1, g2, ⟨a1, a2, g3⟩, g4, g5⟩ := st
    simp only [List.mem_cons, List.mem_append, List.not_mem_nil, or_false] at hb
    rcases hb with rfl | rfl | rfl | rfl | rfl
    · exact ⟨_, g1, fun v z => by cases z⟩
    · exact ⟨_, g2, fun v z => by cases z⟩
    · exact ⟨_, g3, fun v z => by cases z⟩
    · exact stri_ob g4
    · exact stri_ob g5
  · obtain ⟨x1, x2, p1, p2, rfl⟩ := hp
    exact ⟨.cons (sgn_rel p1) (.cons (sgn_rel p2) .nil), by show 2 ≤ sizeLine; decide⟩
theorem pi_zipS3 {X : Cx} {e e2 e3 : Expr} {ta : TA} {p pos tpos : Pos} {elts : List Expr} {kk : Nat} (hg : Gl X "zip") (hm : X.mg "zip" = none) (ha : PA X [e, e2, e3] ta) (hs : starEach [e, e2, e3] X.env = [(false, eval e X.env), (false, eval e2 X.env), (false, eval e3 X.env)] := by rfl) (hs2 : starEach [e2, e3] X.env = [(false, eval e2 X.env), (false, eval e3 X.env)] := by rfl) :
    PI X (.Tuple elts kk tpos) (.Call (.Name "zip" p) [e, e2, e3] [] pos) (iZipS3 ta) := by
  refine ⟨fun pins s σ H R I h => ?_⟩
  refine Call_ (ld_blt I hg hm boot_zip (PyProof.Rows.callWith_type1 (thn (ha.run pos pins s σ H _ I h) fun us s1 ⟨vs, H1, I1, r1, x, y, zz, ex, q⟩ => ?_) (by rw [hs, hs2]) (by rw [hs2]; rfl)))
  subst ex
  obtain ⟨u, us2, rfl, ⟨t1, rfl⟩, r2⟩ : ∃ u us2, us = u :: us2 ∧ RelV (.str x) u ∧ Vals [.str y, .str zz] us2 := by
    cases r1 with
    | cons a b => exact ⟨_, _, rfl, a, b⟩
  obtain ⟨u2, u3, rfl, ⟨t2, rfl⟩, ⟨t3, rfl⟩⟩ := vals2 r2
  refine zip_begins3 (begins_text x t1) (begins_text y t2) (begins_text zz t3) trivial trivial trivial fun h' hz hTI hTO h1 h2 h3 hsz hk => wpAny_pyIter_zip hz ?_
  have sep : ZipSep3 (s1.heap.objs.size + 5) (s1.heap.objs.size + 3) (s1.heap.objs.size + 4) s1.heap.objs.size (s1.heap.objs.size + 1) (s1.heap.objs.size + 2) [s1.heap.objs.size] [s1.heap.objs.size + 1] [s1.heap.objs.size + 2] := by
    constructor <;> simp <;> omega
  have fp : ∀ b ∈ ((s1.heap.objs.size + 5) :: (s1.heap.objs.size + 3) :: (s1.heap.objs.size + 4) :: ([s1.heap.objs.size] ++ [s1.heap.objs.size + 1] ++ [s1.heap.objs.size + 2])), FpOk X pins H1 b := fun b hb => by
    have hle : s1.heap.objs.size ≤ b := by
      simp only [List.mem_cons, List.mem_append, List.not_mem_nil, or_false] at hb
      omega
    exact I1.fpOk hle (I1.hok.fresh hle)
  refine ⟨s1.heap.objs.size + 5, _, _, _, H1, rfl, I1.kept (t' := s1.toks) hk, turn_walksT (f := fun i => [sgn x i, sgn y i, sgn zz i]) (fun A hA => WalksT.zipD3 sep (Draws.text hA s1.heap.objs.size x t1) (Draws.text hA (s1.heap.objs.size + 1) y t2) (Draws.text hA (s1.heap.objs.size + 2) zz t3)) (by simp) (fun i h st b hb => ?_) (fun i vals hp => ?_) (fun A i s Q E st hq => wpAny_pyIter_zip st.1 hq), ⟨Nat.zero_le _, hz, hTI, ⟨_, _, _, hTO⟩, ⟨_, h1, rfl, rfl⟩, ⟨_, h2, rfl, rfl⟩, ⟨_, h3, rfl, rfl⟩⟩, fp, q⟩
  · obtain ⟨g1, g2, ⟨a1, a2, a3, g3⟩, g4, g5, g6⟩ := st
    simp only [List.mem_cons, List.mem_append, List.not_mem_nil, or_false] at hb
    rcases hb with rfl | rfl | rfl | (rfl | rfl) | rfl
    · exact ⟨_, g1, fun v z => by cases z⟩
    · exact ⟨_, g2, fun v z => by cases z⟩
    · exact ⟨_, g3, fun v z => by cases z⟩
    · exact stri_ob g4
    · exact stri_ob g5
    · exact stri_ob g6
  · obtain ⟨x1, x2, x3, p1, p2, p3, rfl⟩ := hp
    exact ⟨.cons (sgn_rel p1) (.cons (sgn_rel p2) (.cons (sgn_rel p3) .nil)), by show 3 ≤ sizeLine; decide⟩
/-- as a walk -/
theorem walk_Z {n : Nat} {f : Nat → List V} : Walk (ItZ n f) n (fun _ => True) (fun i H v H' => ∃ T, v = .ref T ∧ H T = none ∧ H' = upd H T (.tup (f i))) := by
  refine ⟨fun i _ hi _ => hi, fun _ _ => Nat.le_refl _, fun i H v H' _ _ y => y⟩
end Ow
end
section
set_option maxHeartbeats 4000000
/-! list(zip(a, b)), a and b tuples. -/
namespace Ow
open PySem PySem.Spec PyProof.Rows L2
section
variable {prog : Program} {w : World} {A : Around} {E : Value → Shared → Prop} {s : Shared} {z TI TO i1 i2 : Addr} {fp1 fp2 : List Addr} {n1 n2 i : Nat} {P1 P2 : Nat → Value → Prop} {St1 St2 : Nat → Heap → Prop} {Q : Value → Shared → Prop}
/-- a zip whose last pair is kept by someone -/
def IsZipH (h : Heap) (z TI TO : Addr) (T : Addr) (b : Bool) : Prop := h.get? z = some { cls := .type "zip", data := .fields #[rawInt (T : Nat), .bool b, .bool false, .ref TI, .ref TO] }
theorem zip_notfree {T : Addr} {b : Bool} {oT : Obj} {K' : Bool → Shared → Prop} (hz : IsZipH s.heap z TI TO T b) (hT : s.heap.get? T = some oT) (k : ∀ h', IsZipH h' z TI TO T true → Heap.SameBut z s.heap h' → K' false { s with heap := h' }) :
    wpAny (model prog w) A (Builtin.SmallTypes.ownedTupleIsFree (.ref z)) K' E s := by
  obtain ⟨hp, g, d, tk0, os⟩ := s
  show wpAny _ _ (field (.ref z) 0 >>= _) _ _ _
  refine wpAny_bind (wpAny_field hz rfl rfl ?_)
  show wpAny _ _ (loadIfAlive T >>= _) _ _ _
  refine wpAny_bind (W.kdx_alive hT ?_)
  show wpAny _ _ (field (.ref z) 1 >>= _) _ _ _
  refine wpAny_bind (wpAny_field hz rfl rfl ?_)
  cases b with
  | true => exact wpAny_pure (k hp hz ⟨rfl, fun _ _ => rfl⟩)
  | false =>
    show wpAny _ _ (setField (.ref z) 1 (.bool true) >>= _) _ _ _
    exact wpAny_bind (wpAny_setField_rec hz (by show 1 < 5; decide) fun g0 hz0 hs0 => wpAny_pure (k g0 hz0 hs0))
theorem zip2_held (S : ZipSep2 z TI TO i1 i2 fp1 fp2) (D1 : Draws prog w A i1 fp1 n1 P1 St1) (D2 : Draws prog w A i2 fp2 n2 P2 St2) {T : Addr} {b : Bool} {oT : Obj} (hz : IsZipH s.heap z TI TO T b) (hT : s.heap.get? T = some oT) (hTI : IsTupOf2 s.heap TI (.ref i1) (.ref i2)) (st1 : St1 i s.heap) (st2 : St2 i s.heap) (lt1 : i < n1) (lt2 : i < n2)
    (hQ : ∀ (x1 x2 : Value) (h' : Heap) (tk : Nat), P1 i x1 → P2 i x2 → IsZipH h' z TI TO T true → St1 (i + 1) h' → St2 (i + 1) h' → IsTupOf2 h' s.heap.objs.size x1 x2 → h'.objs.size = s.heap.objs.size + 1 → (∀ (c : Addr) (o : Obj), c ≠ z → c ≠ i1 → c ≠ i2 → s.heap.get? c = some o → h'.get? c = some o) → Q (.ref s.heap.objs.size) { s with heap := h', toks := tk }) :
    wpAny (model prog w) A (Builtin.«zip.__next__» { pos := [Value.ref z] }) (fun fin s' => ∃ v, fin = Fin.done (Flow.ret v) ∧ Q v s') E s := by
  obtain ⟨hp, g, d, tk0, os⟩ := s
  show wpAny _ _ (field (.ref z) 2 >>= _) _ _ _
  refine wpAny_bind (wpAny_field hz rfl rfl ?_)
  refine wpAny_bind (wpAny_field hz rfl rfl ?_)
  refine wpAny_bind (wpAny_seqItems hTI rfl ?_)
  show wpAny _ _ (Builtin.SmallTypes.ownedTupleIsFree (.ref z) >>= _) _ _ _
  refine wpAny_bind (zip_notfree hz hT fun g0 hz0 hs0 => ?_)
  simp only [Bool.false_eq_true, if_false]
  refine wpAny_bind ?_
  rw [← Array.forIn_toList]
  simp only [List.forIn_cons, List.forIn_nil]
  refine wpAny_bind ?_
  refine wpAny_bind (wpAny_holding ?_)
  show wpAny _ _ (Builtin.SmallTypes.nextOf (.ref i1) >>= _) _ _ _
  refine wpAny_bind (D1.item i _ _ _ lt1 (D1.over st1 hs0 S.zf1) fun x1 p1 tk1 hx1 sn1 hp1 => ?_)
  refine wpAny_pure (wpAny_pure (wpAny_bind (wpAny_bind (wpAny_holding ?_))))
  show wpAny _ _ (Builtin.SmallTypes.nextOf (.ref i2) >>= _) _ _ _
  refine wpAny_bind (D2.item i _ _ _ lt2 (D2.over (D2.over st2 hs0 S.zf2) hp1 S.sep1_2) fun x2 p2 tk2 hx2 sn2 hp2 => ?_)
  refine wpAny_pure (wpAny_pure (wpAny_pure ?_))
  show wpAny _ _ (newTuple [x1, x2] >>= _) _ _ _
  refine wpAny_bind (wpAny_newTuple ?_ (by show 2 ≤ sizeLine; decide))
  have hsz : p2.objs.size = hp.objs.size := by rw [hp2.1, hp1.1, hs0.1]
  have zi1 : z ≠ i1 := fun e => S.zf1 (e ▸ S.mem1)
  have zi2 : z ≠ i2 := fun e => S.zf2 (e ▸ S.mem2)
  have hz2 : p2.get? z = some { cls := .type "zip", data := .fields #[rawInt (T : Nat), .bool true, .bool false, .ref TI, .ref TO] } := hp2.extBut z _ zi2 (hp1.extBut z _ zi1 hz0)
  have j1 := D1.over sn1 hp2 S.sep2_1
  refine wpAny_pure ⟨.ref p2.objs.size, rfl, ?_⟩
  have q := hQ x1 x2 (p2.push { cls := .type "tuple", data := .seq #[x1, x2] }) tk2 hx1 hx2 (Heap.get?_push_of_some _ hz2) (D1.frame (i + 1) p2 _ j1 fun b hb o e => Heap.get?_push_of_some _ e) (D2.frame (i + 1) p2 _ sn2 fun b hb o e => Heap.get?_push_of_some _ e)
    (by show (p2.push _).get? hp.objs.size = _; rw [← hsz]; exact Heap.get?_push_size _ rfl) (by rw [Heap.size_push, hsz]) (fun c o c0 c1 c2 e => Heap.get?_push_of_some _ (hp2.extBut c o c2 (hp1.extBut c o c1 (hs0.extBut c o c0 e))))
  rw [show (Value.ref p2.objs.size) = Value.ref hp.objs.size from by rw [hsz]]
  exact q
theorem zip2_held_end (S : ZipSep2 z TI TO i1 i2 fp1 fp2) (D1 : Draws prog w A i1 fp1 n1 P1 St1) {T : Addr} {b : Bool} {oT : Obj} {R : PySem.Fin → Shared → Prop} (hz : IsZipH s.heap z TI TO T b) (hT : s.heap.get? T = some oT) (hTI : IsTupOf2 s.heap TI (.ref i1) (.ref i2)) (st1 : St1 n1 s.heap)
    (hE : ∀ (h' : Heap) (e : Addr), (∀ (c : Addr) (o : Obj), c ≠ z → c ≠ i1 → s.heap.get? c = some o → h'.get? c = some o) → (∃ o, h'.get? e = some o ∧ o.cls = .type "StopIteration") → E (.ref e) { s with heap := h' }) :
    wpAny (model prog w) A (Builtin.«zip.__next__» { pos := [Value.ref z] }) R E s := by
  obtain ⟨hp, g, d, tk0, os⟩ := s
  show wpAny _ _ (field (.ref z) 2 >>= _) _ _ _
  refine wpAny_bind (wpAny_field hz rfl rfl ?_)
  refine wpAny_bind (wpAny_field hz rfl rfl ?_)
  refine wpAny_bind (wpAny_seqItems hTI rfl ?_)
  show wpAny _ _ (Builtin.SmallTypes.ownedTupleIsFree (.ref z) >>= _) _ _ _
  refine wpAny_bind (zip_notfree hz hT fun g0 hz0 hs0 => ?_)
  simp only [Bool.false_eq_true, if_false]
  refine wpAny_bind ?_
  rw [← Array.forIn_toList]
  simp only [List.forIn_cons, List.forIn_nil]
  refine wpAny_bind ?_
  refine wpAny_bind (wpAny_holding ?_)
  show wpAny _ _ (Builtin.SmallTypes.nextOf (.ref i1) >>= _) _ _ _
  exact wpAny_bind (D1.done _ _ _ (D1.over st1 hs0 S.zf1) fun h' e x h2 => hE h' e (fun c o c0 c1 q => x c o c1 (hs0.extBut c o c0 q)) h2)
end
section
variable {prog : Program} {w : World} {A : Around} {E : Value → Shared → Prop} {s : Shared} {z TI TO i1 i2 : Addr} {fp1 fp2 : List Addr} {n1 n2 i : Nat} {P1 P2 : Nat → Value → Prop} {St1 St2 : Nat → Heap → Prop} {Q : Option Value → Shared → Prop}
theorem pyNext_held (S : ZipSep2 z TI TO i1 i2 fp1 fp2) (D1 : Draws prog w A.in1 i1 fp1 n1 P1 St1) (D2 : Draws prog w A.in1 i2 fp2 n2 P2 St2) {T : Addr} {b : Bool} {oT : Obj} (hz : IsZipH s.heap z TI TO T b) (hT : s.heap.get? T = some oT) (hTI : IsTupOf2 s.heap TI (.ref i1) (.ref i2)) (st1 : St1 i s.heap) (st2 : St2 i s.heap) (lt1 : i < n1) (lt2 : i < n2)
    (hQ : ∀ (x1 x2 : Value) (h' : Heap) (tk : Nat), P1 i x1 → P2 i x2 → IsZipH h' z TI TO T true → St1 (i + 1) h' → St2 (i + 1) h' → IsTupOf2 h' s.heap.objs.size x1 x2 → h'.objs.size = s.heap.objs.size + 1 → (∀ (c : Addr) (o : Obj), c ≠ z → c ≠ i1 → c ≠ i2 → s.heap.get? c = some o → h'.get? c = some o) → Q (some (.ref s.heap.objs.size)) { s with heap := h', toks := tk }) :
    wpAny (model prog w) A (pyNext (.ref z)) Q E s := by
  have ty : s.TypeIs (.ref z) "zip" := ⟨_, hz, rfl⟩
  unfold pyNext
  refine wpAny_bind (wpAny_attempt (wpAny_callSpecial?_slot (name := Str.ofString "__next__") ty F.slot_zip_next (wpAny_call_entry F.slot_zip_next ty F.entry_zip_next ?_ (F.args_zip_next_1 _))))
  refine zip2_held S D1 D2 hz hT hTI st1 st2 lt1 lt2 fun x1 x2 h' tk p1 p2 z1 s1 s2 t1 t2 t3 => ?_
  exact wpAny_pure (hQ x1 x2 h' tk p1 p2 z1 s1 s2 t1 t2 t3)
theorem pyNext_held_end (hh : A.in1.handled = none) (S : ZipSep2 z TI TO i1 i2 fp1 fp2) (D1 : Draws prog w A.in1 i1 fp1 n1 P1 St1) {T : Addr} {b : Bool} {oT : Obj} (hz : IsZipH s.heap z TI TO T b) (hT : s.heap.get? T = some oT) (hTI : IsTupOf2 s.heap TI (.ref i1) (.ref i2)) (st1 : St1 n1 s.heap)
    (hQ : ∀ (h' : Heap), (∀ (c : Addr) (o : Obj), c ≠ z → c ≠ i1 → s.heap.get? c = some o → h'.get? c = some o) → Q none { s with heap := h' }) :
    wpAny (model prog w) A (pyNext (.ref z)) Q E s := by
  have ty : s.TypeIs (.ref z) "zip" := ⟨_, hz, rfl⟩
  unfold pyNext
  refine wpAny_bind (wpAny_attempt (wpAny_callSpecial?_slot (name := Str.ofString "__next__") ty F.slot_zip_next (wpAny_call_entry F.slot_zip_next ty F.entry_zip_next ?_ (F.args_zip_next_1 _))))
  refine zip2_held_end S D1 hz hT hTI st1 fun h' e x hc => ?_
  obtain ⟨o, ho, hc⟩ := hc
  exact wpAny_bind (wpAny_isInstance (T := "StopIteration") (b := true) ⟨o, ho, hc⟩ isSubtype_stop (wpAny_pure (hQ h' x)))
end
end Ow
end
section
set_option maxHeartbeats 4000000
namespace Ow
open PySem PySem.Spec PyProof.Rows L2
section
variable {prog : Program} {w : World} {A : Around} {z TI TO i1 i2 t1 t2 : Addr} {xs ys : Array Value}
/-- a list at S that is being filled with the pairs of a zip: so far those at Ts -/
structure Fill (h0 : Heap) (z TI TO i1 i2 t1 t2 S : Addr) (xs ys : Array Value) (i : Nat) (Ts : List Addr) (h : Heap) : Prop where
  len : Ts.length = i
  lst : ∃ c, h.get? S = some { cls := .type "list", data := .seq (Ts.map Value.ref).toArray c }
  zip : (i = 0 ∧ IsZip h z TI TO .none ∧ ∃ a1 a2, IsTupOf2 h TO a1 a2) ∨ ∃ T b, T ∈ Ts ∧ IsZipH h z TI TO T b
  ti : IsTupOf2 h TI (.ref i1) (.ref i2)
  s1 : h.IsTupleIter i1 t1 i ∧ h.IsTuple t1 xs
  s2 : h.IsTupleIter i2 t2 i ∧ h.IsTuple t2 ys
  at_ : ∀ (j : Nat) (T : Addr), Ts[j]? = some T → ∃ x y, xs[j]? = some x ∧ ys[j]? = some y ∧ IsTupOf2 h T x y
  new : ∀ T ∈ Ts, h0.objs.size ≤ T
  nd : Ts.Nodup
  keep : ∀ b o, h0.get? b = some o → b ≠ z → b ≠ TO → b ≠ i1 → b ≠ i2 → b ≠ S → h.get? b = some o
  size : h0.objs.size ≤ h.objs.size
  lt : ∀ T ∈ Ts, T < h.objs.size
/-- the list is full -/
structure Filled (h0 : Heap) (z TO i1 i2 S : Addr) (xs ys : Array Value) (n : Nat) (Ts : List Addr) (h : Heap) : Prop where
  len : Ts.length = n
  lst : ∃ c, h.get? S = some { cls := .type "list", data := .seq (Ts.map Value.ref).toArray c }
  at_ : ∀ (j : Nat) (T : Addr), Ts[j]? = some T → ∃ x y, xs[j]? = some x ∧ ys[j]? = some y ∧ IsTupOf2 h T x y
  new : ∀ T ∈ Ts, h0.objs.size ≤ T
  nd : Ts.Nodup
  keep : ∀ b o, h0.get? b = some o → b ≠ z → b ≠ TO → b ≠ i1 → b ≠ i2 → b ≠ S → h.get? b = some o
/-- how the parts of a zip stand to each other and to the list -/
structure Parts (h0 : Heap) (z TI TO i1 i2 t1 t2 S : Addr) : Prop where
  sep : ZipSep2 z TI TO i1 i2 [i1, t1] [i2, t2]
  n1 : t1 ≠ i1
  n2 : t2 ≠ i2
  sz : z ≠ S ∧ TI ≠ S ∧ TO ≠ S ∧ i1 ≠ S ∧ i2 ≠ S ∧ t1 ≠ S ∧ t2 ≠ S
  old : z < h0.objs.size ∧ TI < h0.objs.size ∧ TO < h0.objs.size ∧ i1 < h0.objs.size ∧ i2 < h0.objs.size ∧ S < h0.objs.size
theorem Fill.step {h0 h h' : Heap} {S : Addr} {i T : Nat} {Ts : List Addr} {x y : Value} {c : Nat} (J : Fill h0 z TI TO i1 i2 t1 t2 S xs ys i Ts h) (Pt : Parts h0 z TI TO i1 i2 t1 t2 S)
    (hx : xs[i]? = some x) (hy : ys[i]? = some y) (hT : T = h.objs.size) (hz : ∃ T0 b, T0 ∈ Ts ++ [T] ∧ IsZipH h' z TI TO T0 b) (s1 : h'.IsTupleIter i1 t1 (i + 1) ∧ h'.IsTuple t1 xs) (s2 : h'.IsTupleIter i2 t2 (i + 1) ∧ h'.IsTuple t2 ys)
    (ht : IsTupOf2 h' T x y) (hs : h'.objs.size = h.objs.size + 1) (hk : ∀ (c : Addr) (o : Obj), c ≠ z → c ≠ TO → c ≠ i1 → c ≠ i2 → c ≠ S → h.get? c = some o → h'.get? c = some o)
    (hl : h'.get? S = some { cls := .type "list", data := .seq ((Ts ++ [T]).map Value.ref).toArray c }) :
    Fill h0 z TI TO i1 i2 t1 t2 S xs ys (i + 1) (Ts ++ [T]) h' := by
  obtain ⟨o1, o2, o3, o4, o5, o6⟩ := Pt.old
  have big : ∀ T0 ∈ Ts, T0 ≠ z ∧ T0 ≠ TO ∧ T0 ≠ i1 ∧ T0 ≠ i2 ∧ T0 ≠ S := fun T0 hm => by
    have := J.new T0 hm
    exact ⟨Nat.ne_of_gt (Nat.lt_of_lt_of_le o1 this), Nat.ne_of_gt (Nat.lt_of_lt_of_le o3 this), Nat.ne_of_gt (Nat.lt_of_lt_of_le o4 this), Nat.ne_of_gt (Nat.lt_of_lt_of_le o5 this), Nat.ne_of_gt (Nat.lt_of_lt_of_le o6 this)⟩
  refine ⟨by rw [List.length_append, J.len]; rfl, ⟨c, hl⟩, .inr hz, ?_, s1, s2, fun j T0 hj => ?_, fun T0 hm => ?_, ?_, fun b o e a1 a2 a3 a4 a5 => hk b o a1 a2 a3 a4 a5 (J.keep b o e a1 a2 a3 a4 a5), by have := J.size; omega, fun T0 hm => ?_⟩
  · exact hk TI _ Pt.sep.TIz Pt.sep.TITO Pt.sep.TIi1 Pt.sep.TIi2 Pt.sz.2.1 J.ti
  · by_cases hlt : j < Ts.length
    · rw [List.getElem?_append_left hlt] at hj
      obtain ⟨x0, y0, e1, e2, e3⟩ := J.at_ j T0 hj
      obtain ⟨b1, b2, b3, b4, b5⟩ := big T0 (List.mem_of_getElem? hj)
      exact ⟨x0, y0, e1, e2, hk T0 _ b1 b2 b3 b4 b5 e3⟩
    · rw [List.getElem?_append_right (by omega)] at hj
      have hj0 : j - Ts.length = 0 := by
        by_cases q : j - Ts.length = 0
        · exact q
        · rw [List.getElem?_eq_none (by simp; omega)] at hj
          cases hj
      rw [hj0] at hj
      cases hj
      have e : j = i := by have := J.len; omega
      subst e
      exact ⟨x, y, hx, hy, ht⟩
  · rcases List.mem_append.mp hm with h1 | h1
    · exact J.new T0 h1
    · rw [List.mem_singleton.mp h1, hT]
      exact J.size
  · refine List.nodup_append.mpr ⟨J.nd, by simp, fun a ha b hb e => ?_⟩
    rw [List.mem_singleton.mp hb, hT] at e
    exact absurd e (Nat.ne_of_lt (J.lt a ha))
  · rcases List.mem_append.mp hm with h1 | h1
    · exact Nat.lt_of_lt_of_le (J.lt T0 h1) (by rw [hs]; exact Nat.le_succ _)
    · rw [List.mem_singleton.mp h1, hT, hs]
      exact Nat.lt_succ_self _
/-- the loop that fills the list -/
theorem extend_zip {R : Result → Shared → Prop} {h0 : Heap} {S : Addr} {res : Value} {n : Nat} (hh : A.handled = none) (Pt : Parts h0 z TI TO i1 i2 t1 t2 S) (n1 : xs.size = n) (n2 : ys.size = n) (n0 : 0 < n) (hn : n ≤ sizeLine) (g : Array GenState) (d : Drawn) (os : OsState)
    (hR : ∀ (Ts : List Addr) (h' : Heap) (tk : Nat), Filled h0 z TO i1 i2 S xs ys n Ts h' → R (.ok (.ret res)) { heap := h', gens := g, drawn := d, toks := tk, os := os }) :
    ∀ (k i : Nat) (h : Heap) (tk : Nat) (Ts : List Addr), n - i = k → i ≤ n → Fill h0 z TI TO i1 i2 t1 t2 S xs ys i Ts h → codeAny (model prog w) A (.builtin "list.extend.loop" ⟨[.ref S, .ref z, res], []⟩) R { heap := h, gens := g, drawn := d, toks := tk, os := os }
  | 0, i, h, tk, Ts, hk, hi, J => by
    have e : i = n := by omega
    subst e
    obtain ⟨T0, b, hm, hz⟩ : ∃ T b, T ∈ Ts ∧ IsZipH h z TI TO T b := by
      rcases J.zip with ⟨q, _⟩ | q
      · omega
      · exact q
    obtain ⟨j, hj⟩ := List.getElem?_of_mem hm
    obtain ⟨x0, y0, _, _, e3⟩ := J.at_ j T0 hj
    have D1 := Draws.tuple (prog := prog) (w := w) (A := A.in1.in1) hh i1 t1 Pt.n1 xs
    have D2 := Draws.tuple (prog := prog) (w := w) (A := A.in1.in1) hh i2 t2 Pt.n2 ys
    obtain ⟨c, hS⟩ := J.lst
    refine codeAny_builtin F.entry_extend_loop ?_
    rw [Around.under_plainId F.plain_extend_loop _]
    show wpAny _ _ (pyNext (.ref z) >>= _) _ _ _
    refine wpAny_bind (pyNext_held_end (s := { heap := h, gens := g, drawn := d, toks := tk, os := os }) hh Pt.sep D1 hz e3 J.ti (by rw [n1]; exact J.s1) fun h' x => ?_)
    have keepAll : ∀ b o, h.get? b = some o → b ≠ z → b ≠ i1 → h'.get? b = some o := fun b o e a1 a2 => x b o a1 a2 e
    refine wpAny_pure (hR Ts h' tk ?_)
    obtain ⟨o1, o2, o3, o4, o5, o6⟩ := Pt.old
    refine ⟨J.len, ⟨c, keepAll S _ hS (Ne.symm Pt.sz.1) (Ne.symm Pt.sz.2.2.2.1)⟩, fun j T hj => ?_, J.new, J.nd, fun b o e a1 a2 a3 a4 a5 => keepAll b o (J.keep b o e a1 a2 a3 a4 a5) a1 a3⟩
    obtain ⟨x1, y1, q1, q2, q3⟩ := J.at_ j T hj
    have := J.new T (List.mem_of_getElem? hj)
    exact ⟨x1, y1, q1, q2, keepAll T _ q3 (Nat.ne_of_gt (Nat.lt_of_lt_of_le o1 this)) (Nat.ne_of_gt (Nat.lt_of_lt_of_le o4 this))⟩
  | k + 1, i, h, tk, Ts, hk, hi, J => by
    have hlt : i < n := by omega
    obtain ⟨c, hS⟩ := J.lst
    refine codeAny_builtin F.entry_extend_loop ?_
    rw [Around.under_plainId F.plain_extend_loop _]
    show wpAny _ _ (pyNext (.ref z) >>= _) _ _ _
    have D1 := Draws.tuple (prog := prog) (w := w) (A := A.in1.in1) hh i1 t1 Pt.n1 xs
    have D2 := Draws.tuple (prog := prog) (w := w) (A := A.in1.in1) hh i2 t2 Pt.n2 ys
    have next : ∀ (x1 x2 : Value) (h' : Heap) (tk' : Nat), xs[i]? = some x1 → ys[i]? = some x2 → (∃ T0 b, T0 ∈ Ts ++ [h.objs.size] ∧ IsZipH h' z TI TO T0 b) → (h'.IsTupleIter i1 t1 (i + 1) ∧ h'.IsTuple t1 xs) → (h'.IsTupleIter i2 t2 (i + 1) ∧ h'.IsTuple t2 ys) → IsTupOf2 h' h.objs.size x1 x2 → h'.objs.size = h.objs.size + 1 →
        (∀ (c : Addr) (o : Obj), c ≠ z → c ≠ TO → c ≠ i1 → c ≠ i2 → h.get? c = some o → h'.get? c = some o) →
        wpAny (model prog w) A.in1 (do
          Builtin.List.listUpdate (.ref S) fun x_1 => x_1.push (.ref h.objs.size)
          again (Code.builtin "list.extend.loop" ⟨[.ref S, .ref z, res], []⟩)) (fun fin s' => match fin with
          | Fin.done f => R (.ok f) s'
          | Fin.again c' => c'.quiet = true ∧ codeAny (model prog w) A c' R s') (fun e s' => R (.error e) s') { heap := h', gens := g, drawn := d, toks := tk', os := os } := by
      intro x1 x2 h' tk' p1 p2 hz s1 s2 ht hs hk
      have hS' := hk S _ (Ne.symm Pt.sz.1) (Ne.symm Pt.sz.2.2.1) (Ne.symm Pt.sz.2.2.2.1) (Ne.symm Pt.sz.2.2.2.2.1) hS
      refine wpAny_bind (wpAny_updateSeq hS' rfl (wpAny_pure ⟨plainId_quiet F.plain_extend_loop _, ?_⟩) ?_ ?_)
      · have up := fun (b : Addr) (o : Obj) (hb : b ≠ S) (e : h'.get? b = some o) => (Heap.get?_update_other h' (Obj.mapSeq fun x => x.push (.ref h.objs.size)) (Ne.symm hb)).trans e
        refine extend_zip hh Pt n1 n2 n0 hn g d os hR k (i + 1) _ tk' (Ts ++ [h.objs.size]) (by omega) hlt ?_
        have st1 := D1.frame (i + 1) h' (h'.update S (Obj.mapSeq fun x => x.push (.ref h.objs.size))) s1 fun b hb o e => up b o (by
          rcases List.mem_cons.mp hb with rfl | hb
          · exact Pt.sz.2.2.2.1
          · rw [List.mem_singleton.mp hb]; exact Pt.sz.2.2.2.2.2.1) e
        have st2 := D2.frame (i + 1) h' (h'.update S (Obj.mapSeq fun x => x.push (.ref h.objs.size))) s2 fun b hb o e => up b o (by
          rcases List.mem_cons.mp hb with rfl | hb
          · exact Pt.sz.2.2.2.2.1
          · rw [List.mem_singleton.mp hb]; exact Pt.sz.2.2.2.2.2.2) e
        obtain ⟨T0, b, hm, hz⟩ := hz
        have nS : h.objs.size ≠ S := Nat.ne_of_gt (Nat.lt_of_lt_of_le Pt.old.2.2.2.2.2 J.size)
        have hl := Heap.get?_update_self (Obj.mapSeq fun x => x.push (.ref h.objs.size)) hS' rfl
        refine J.step (c := c + 1) Pt p1 p2 rfl ⟨T0, b, hm, up z _ Pt.sz.1 hz⟩ st1 st2 (up _ _ nS ht) (by rw [Heap.size_update]; exact hs) (fun c o c0 c1 c2 c3 c4 e => up c o c4 (hk c o c0 c1 c2 c3 e)) (hl.trans ?_)
        unfold Obj.mapSeq
        simp
      · rw [List.size_toArray, List.length_map, J.len]
        exact Nat.le_trans hi hn
      · rw [Array.size_push, List.size_toArray, List.length_map, J.len]
        exact Nat.succ_le_succ (Nat.le_trans hi hn)
    rcases J.zip with ⟨rfl, hz, a1, a2, hTO⟩ | ⟨T0, b, hm, hz⟩
    · refine wpAny_bind (wpAny_pyNext_zipD2_item (s := { heap := h, gens := g, drawn := d, toks := tk, os := os }) Pt.sep D1 D2 hz J.ti hTO J.s1 J.s2 (by omega) (by omega) fun x1 x2 h' tk' p1 p2 z1 t1' s1 s2 ht hs hk => ?_)
      exact next x1 x2 h' tk' p1 p2 ⟨h.objs.size, false, List.mem_append.mpr (.inr (List.mem_singleton.mpr rfl)), z1⟩ s1 s2 ht hs hk
    · obtain ⟨j, hj⟩ := List.getElem?_of_mem hm
      obtain ⟨x0, y0, _, _, e3⟩ := J.at_ j T0 hj
      refine wpAny_bind (pyNext_held (s := { heap := h, gens := g, drawn := d, toks := tk, os := os }) Pt.sep D1 D2 hz e3 J.ti J.s1 J.s2 (by omega) (by omega) fun x1 x2 h' tk' p1 p2 z1 s1 s2 ht hs hk => ?_)
      exact next x1 x2 h' tk' p1 p2 ⟨T0, true, List.mem_append.mpr (.inl hm), z1⟩ s1 s2 ht hs fun c o c0 c1 c2 c3 e => hk c o c0 c2 c3 e
end
end Ow
end
section
set_option maxHeartbeats 4000000
namespace Ow
open PySem PySem.Spec PyProof.Rows L2
theorem zip_no_len : typeLookup (Value.type "zip") (Str.ofString "__len__") = pure none := by with_unfolding_all rfl
theorem zip_no_hint : typeLookup (Value.type "zip") (Str.ofString "__length_hint__") = pure none := by with_unfolding_all rfl
section
variable {prog : Program} {w : World} {A : Around} {z TI TO i1 i2 t1 t2 : Addr} {xs ys : Array Value}
theorem extendWith_zip {R : Result → Shared → Prop} {h0 : Heap} {S : Addr} {res : Value} {n : Nat} (hh : A.handled = none) (Pt : Parts h0 z TI TO i1 i2 t1 t2 S) (n1 : xs.size = n) (n2 : ys.size = n) (n0 : 0 < n) (hn : n ≤ sizeLine) (g : Array GenState) (d : Drawn) (os : OsState)
    (hR : ∀ (Ts : List Addr) (h' : Heap) (tk : Nat), Filled h0 z TO i1 i2 S xs ys n Ts h' → R (.ok (.ret res)) { heap := h', gens := g, drawn := d, toks := tk, os := os }) (h : Heap) (tk : Nat) (J : Fill h0 z TI TO i1 i2 t1 t2 S xs ys 0 [] h) :
    wpAny (model prog w) A.in1 (Builtin.List.listExtendWith (.ref S) (.ref z) res) (fun fin s' => match fin with
      | Fin.done f => R (.ok f) s'
      | Fin.again c' => c'.quiet = true ∧ codeAny (model prog w) A c' R s') (fun e s' => R (.error e) s') { heap := h, gens := g, drawn := d, toks := tk, os := os } := by
  have hz : IsZip h z TI TO .none := by
    rcases J.zip with ⟨_, q, _⟩ | ⟨T, b, hm, _⟩
    · exact q
    · cases hm
  have ty : ({ heap := h, gens := g, drawn := d, toks := tk, os := os } : Shared).TypeIs (.ref z) "zip" := ⟨_, hz, rfl⟩
  unfold Builtin.List.listExtendWith
  refine wpAny_bind (wpAny_typeOf ty ?_)
  have e1 : (Builtin.List.listSameRef (.ref S) (.ref z) || Value.type "zip" == Value.type "list" || Value.type "zip" == Value.type "tuple") = false := by
    have q : Builtin.List.listSameRef (.ref S) (.ref z) = false := by
      show (S == z) = false
      exact beq_false_of_ne (Ne.symm Pt.sz.1)
    rw [q]
    decide
  rw [if_neg (by rw [e1]; exact Bool.false_ne_true)]
  refine wpAny_bind (wpAny_pyIter_zip hz ?_)
  refine wpAny_bind (wpAny_holding ?_)
  show wpAny _ _ (specialOf (.ref z) (Str.ofString "__len__") >>= _) _ _ _
  refine wpAny_bind (wpAny_specialOf ty zip_no_len ?_)
  show wpAny _ _ (specialOf (.ref z) (Str.ofString "__length_hint__") >>= _) _ _ _
  refine wpAny_bind (wpAny_specialOf ty zip_no_hint (wpAny_pure ?_))
  rw [if_pos (by rfl)]
  refine wpAny_bind (wpAny_rule (wpAny_bind ?_))
  obtain ⟨c, hS⟩ := J.lst
  show wpAny _ _ (updateSeq S (fun x => x.push .none) >>= fun _ => updateSeq S (fun x => x.pop)) _ _ _
  have hS2 := Heap.get?_update_self (Obj.mapSeq fun x => x.push .none) hS rfl
  refine wpAny_bind (wpAny_updateSeq hS rfl ?_ (by show 0 ≤ sizeLine; decide) (by show 1 ≤ sizeLine + 1; decide))
  refine wpAny_updateSeq hS2 rfl ?_ (by show 1 ≤ sizeLine; decide) (by show 0 ≤ sizeLine + 1; decide)
  have hS3 := Heap.get?_update_self (Obj.mapSeq fun x => x.pop) hS2 rfl
  have up : ∀ (b : Addr) (o : Obj), b ≠ S → h.get? b = some o → ((h.update S (Obj.mapSeq fun x => x.push .none)).update S (Obj.mapSeq fun x => x.pop)).get? b = some o := fun b o hb e =>
    (Heap.get?_update_other _ _ (Ne.symm hb)).trans ((Heap.get?_update_other h _ (Ne.symm hb)).trans e)
  have D1 := Draws.tuple (prog := prog) (w := w) (A := A.in1.in1) hh i1 t1 Pt.n1 xs
  have D2 := Draws.tuple (prog := prog) (w := w) (A := A.in1.in1) hh i2 t2 Pt.n2 ys
  obtain ⟨a1, a2, hTO⟩ : ∃ a1 a2, IsTupOf2 h TO a1 a2 := by
    rcases J.zip with ⟨_, _, q⟩ | ⟨T, b, hm, _⟩
    · exact q
    · cases hm
  have J2 : Fill h0 z TI TO i1 i2 t1 t2 S xs ys 0 [] ((h.update S (Obj.mapSeq fun x => x.push .none)).update S (Obj.mapSeq fun x => x.pop)) :=
    { len := rfl
      lst := ⟨_, hS3⟩
      zip := .inl ⟨rfl, up z _ Pt.sz.1 hz, a1, a2, up TO _ Pt.sz.2.2.1 hTO⟩
      ti := up TI _ Pt.sz.2.1 J.ti
      s1 := D1.frame 0 h _ J.s1 fun b hb o e => up b o (by
          rcases List.mem_cons.mp hb with rfl | hb
          · exact Pt.sz.2.2.2.1
          · rw [List.mem_singleton.mp hb]; exact Pt.sz.2.2.2.2.2.1) e
      s2 := D2.frame 0 h _ J.s2 fun b hb o e => up b o (by
          rcases List.mem_cons.mp hb with rfl | hb
          · exact Pt.sz.2.2.2.2.1
          · rw [List.mem_singleton.mp hb]; exact Pt.sz.2.2.2.2.2.2) e
      at_ := fun j T hj => by cases hj
      new := fun T hm => by cases hm
      nd := .nil
      keep := fun b o e b1 b2 b3 b4 b5 => up b o b5 (J.keep b o e b1 b2 b3 b4 b5)
      size := by rw [Heap.size_update, Heap.size_update]; exact J.size
      lt := fun T hm => by cases hm }
  exact wpAny_pure ⟨plainId_quiet F.plain_extend_loop _, extend_zip hh Pt n1 n2 n0 hn g d os hR n 0 _ tk [] (by omega) (Nat.zero_le _) J2⟩
/-- list(z), z a zip of two tuples of one length that has not begun -/
theorem call_list_zip {E : Value → Shared → Prop} {Q : Value → Shared → Prop} {s : Shared} {n : Nat} {a1 a2 : Value} (hh : A.handled = none) (sep : ZipSep2 z TI TO i1 i2 [i1, t1] [i2, t2]) (m1 : t1 ≠ i1) (m2 : t2 ≠ i2) (n1 : xs.size = n) (n2 : ys.size = n) (n0 : 0 < n) (hn : n ≤ sizeLine)
    (hz : IsZip s.heap z TI TO .none) (hTI : IsTupOf2 s.heap TI (.ref i1) (.ref i2)) (hTO : IsTupOf2 s.heap TO a1 a2) (s1 : s.heap.IsTupleIter i1 t1 0 ∧ s.heap.IsTuple t1 xs) (s2 : s.heap.IsTupleIter i2 t2 0 ∧ s.heap.IsTuple t2 ys)
    (hQ : ∀ (Ts : List Addr) (h' : Heap) (tk : Nat), Filled (s.heap.push { cls := .type "list", data := .seq #[] }) z TO i1 i2 s.heap.objs.size xs ys n Ts h' → Q (.ref s.heap.objs.size) { s with heap := h', toks := tk }) :
    wpAny (model prog w) A (call (.type "list") [.ref z]) Q E s := by
  obtain ⟨hp, g, d, tk, os⟩ := s
  refine callType_codes (Q₁ := fun obj s1 => obj = .ref hp.objs.size ∧ s1 = { heap := hp.push { cls := .type "list", data := .seq #[] }, gens := g, drawn := d, toks := tk, os := os }) F.called_list (F.typeCall_list_1 (.ref z)) F.entry_list_init (code_list_new (.ref z) ⟨rfl, rfl⟩) fun obj s₁ h₁ => ?_
  obtain ⟨rfl, rfl⟩ := h₁
  have hS := Heap.get?_push_size hp (o := { cls := .type "list", data := .seq #[] }) rfl
  refine ⟨⟨_, hS, rfl⟩, F.args_list_init_2 _ _, ?_⟩
  show wpAny _ _ (Builtin.List.listItems (.ref hp.objs.size) >>= _) _ _ _
  refine wpAny_bind ?_
  show wpAny _ _ (seqItems? (.ref hp.objs.size) >>= _) _ _ _
  refine wpAny_bind (wpAny_seqItems hS rfl (wpAny_pure ?_))
  refine wpAny_bind (wpAny_updateSeq hS rfl ?_ (by show 0 ≤ sizeLine; decide) (by show 0 ≤ sizeLine + 1; decide))
  refine wpAny_bind (wpAny_letGo ?_)
  have l1 : z < hp.objs.size := Heap.lt_size hz
  have l2 : TI < hp.objs.size := Heap.lt_size hTI
  have l3 : TO < hp.objs.size := Heap.lt_size hTO
  have l4 : i1 < hp.objs.size := by obtain ⟨⟨o, q, _⟩, _⟩ := s1; exact Heap.lt_size q
  have l5 : i2 < hp.objs.size := by obtain ⟨⟨o, q, _⟩, _⟩ := s2; exact Heap.lt_size q
  have l6 : t1 < hp.objs.size := by obtain ⟨_, o, q, _⟩ := s1; exact Heap.lt_size q
  have l7 : t2 < hp.objs.size := by obtain ⟨_, o, q, _⟩ := s2; exact Heap.lt_size q
  have sp : (hp.push { cls := .type "list", data := .seq #[] }).objs.size = hp.objs.size + 1 := Heap.size_push ..
  have Pt : Parts (hp.push { cls := .type "list", data := .seq #[] }) z TI TO i1 i2 t1 t2 hp.objs.size :=
    ⟨sep, m1, m2, ⟨Nat.ne_of_lt l1, Nat.ne_of_lt l2, Nat.ne_of_lt l3, Nat.ne_of_lt l4, Nat.ne_of_lt l5, Nat.ne_of_lt l6, Nat.ne_of_lt l7⟩, by
      rw [sp]
      exact ⟨Nat.lt_succ_of_lt l1, Nat.lt_succ_of_lt l2, Nat.lt_succ_of_lt l3, Nat.lt_succ_of_lt l4, Nat.lt_succ_of_lt l5, Nat.lt_succ_self _⟩⟩
  have up : ∀ (b : Addr) (o : Obj), b ≠ hp.objs.size → hp.get? b = some o → ((hp.push { cls := .type "list", data := .seq #[] }).update hp.objs.size (Obj.mapSeq fun x => #[])).get? b = some o := fun b o hb e =>
    (Heap.get?_update_other _ _ (Ne.symm hb)).trans (Heap.get?_push_of_some _ e)
  have D1 := Draws.tuple (prog := prog) (w := w) (A := A.in1.in1) hh i1 t1 m1 xs
  have D2 := Draws.tuple (prog := prog) (w := w) (A := A.in1.in1) hh i2 t2 m2 ys
  have hS2 := Heap.get?_update_self (Obj.mapSeq fun x => #[]) hS rfl
  have J : Fill (hp.push { cls := .type "list", data := .seq #[] }) z TI TO i1 i2 t1 t2 hp.objs.size xs ys 0 [] ((hp.push { cls := .type "list", data := .seq #[] }).update hp.objs.size (Obj.mapSeq fun x => #[])) :=
    { len := rfl
      lst := ⟨_, hS2⟩
      zip := .inl ⟨rfl, up z _ (Nat.ne_of_lt l1) hz, a1, a2, up TO _ (Nat.ne_of_lt l3) hTO⟩
      ti := up TI _ (Nat.ne_of_lt l2) hTI
      s1 := D1.frame 0 hp _ s1 fun b hb o e => up b o (by
          rcases List.mem_cons.mp hb with rfl | hb
          · exact Nat.ne_of_lt l4
          · rw [List.mem_singleton.mp hb]; exact Nat.ne_of_lt l6) e
      s2 := D2.frame 0 hp _ s2 fun b hb o e => up b o (by
          rcases List.mem_cons.mp hb with rfl | hb
          · exact Nat.ne_of_lt l5
          · rw [List.mem_singleton.mp hb]; exact Nat.ne_of_lt l7) e
      at_ := fun j T hj => by cases hj
      new := fun T hm => by cases hm
      nd := .nil
      keep := fun b o e b1 b2 b3 b4 b5 => (Heap.get?_update_other _ _ (Ne.symm b5)).trans e
      size := by rw [Heap.size_update]; exact Nat.le_refl _
      lt := fun T hm => by cases hm }
  exact extendWith_zip (A := A.in1) hh Pt n1 n2 n0 hn g d os (fun Ts h' tk' q => ⟨rfl, hQ Ts h' tk' q⟩) _ tk J
end
end Ow
end
section
set_option maxHeartbeats 4000000
namespace Ow
open PySem PySem.Spec PyProof.Rows L2
/-- tuples of two laid at addresses -/
def layT (f : Nat → List V) : List Addr → Nat → Hp → Hp
  | [], _, H => H
  | T :: r, i, H => layT f r (i + 1) (upd H T (.tup (f i)))
theorem layT_else (f : Nat → List V) : ∀ (Ts : List Addr) (i : Nat) (H : Hp) (b : Addr), b ∉ Ts → layT f Ts i H b = H b
  | [], _, _, _, _ => rfl
  | T :: r, i, H, b, h => by
    have h1 : b ≠ T := fun e => h (by rw [e]; exact List.mem_cons_self)
    have h2 : b ∉ r := fun e => h (List.mem_cons_of_mem _ e)
    show layT f r (i + 1) (upd H T (.tup (f i))) b = H b
    rw [layT_else f r (i + 1) _ b h2, upd_ne h1]
theorem layT_at (f : Nat → List V) : ∀ (Ts : List Addr) (i : Nat) (H : Hp) (j : Nat) (T : Addr), Ts.Nodup → Ts[j]? = some T → layT f Ts i H T = some (.tup (f (i + j)))
  | [], _, _, _, _, _, h => by cases h
  | T0 :: r, i, H, 0, T, nd, h => by
    have e : T0 = T := by simpa using h
    rw [← e]
    show layT f r (i + 1) (upd H T0 (.tup (f i))) T0 = _
    rw [layT_else f r (i + 1) _ T0 (List.nodup_cons.mp nd).1, upd_same]
    rfl
  | T0 :: r, i, H, j + 1, T, nd, h => by
    show layT f r (i + 1) (upd H T0 (.tup (f i))) T = _
    rw [layT_at f r (i + 1) _ j T (List.nodup_cons.mp nd).2 (by simpa using h)]
    have e : i + 1 + j = i + (j + 1) := by omega
    rw [e]
theorem hok_layT {P : Program} {w : World} {h : Heap} (f : Nat → List V) : ∀ (Ts : List Addr) (i : Nat) (H : Hp), HOk P w H h → Ts.Nodup → (∀ T ∈ Ts, H T = none) → (∀ (j : Nat) (T : Addr), Ts[j]? = some T → ∀ H', ObjOk P w H' h T (.tup (f (i + j)))) → HOk P w (layT f Ts i H) h
  | [], _, _, k, _, _, _ => k
  | T :: r, i, H, k, nd, hn, ho => by
    obtain ⟨n1, n2⟩ := List.nodup_cons.mp nd
    refine hok_layT f r (i + 1) _ (HOk.laidN k (fun _ _ e => e) (hn T List.mem_cons_self) (ho 0 T rfl _)) n2 (fun T' hT' => ?_) fun j T' hj H' => ?_
    · rw [upd_ne (fun e => n1 (by rw [← e]; exact hT'))]
      exact hn T' (List.mem_cons_of_mem _ hT')
    · have := ho (j + 1) T' (by simpa using hj) H'
      have e : i + 1 + j = i + (j + 1) := by omega
      rw [e]
      exact this
theorem vals_refs : ∀ Ts : List Addr, Vals (Ts.map V.ref) (Ts.map Value.ref)
  | [] => .nil
  | T :: r => .cons rfl (vals_refs r)
/-- behind list(zip(a, b)) -/
structure Zipped (H H' : Hp) (S : Addr) (xs ys : List V) : Prop where
  same : Same H H'
  new : H S = none
  at_ : ∃ Ts : List Addr, H' S = some (.lst (Ts.map V.ref)) ∧ Ts.length = xs.length ∧ ∀ (j : Nat) (T : Addr), Ts[j]? = some T → ∃ x y, xs[j]? = some x ∧ ys[j]? = some y ∧ H' T = some (.tup [x, y])
def tListZip (K : PySem.W.Frag) (ta : TA) : TE := fun σ H Q => ta σ H fun vs H1 => ∃ a b xs ys, vs = [.ref a, .ref b] ∧ SqT K H1 a xs ∧ SqT K H1 b ys ∧ xs.length = ys.length ∧ 0 < xs.length ∧ ∀ S H', Zipped H1 H' S xs ys → Q (.ref S) H'
theorem pe_listzip {X : Cx} {e e2 : Expr} {ta : TA} {p p2 pos pos2 : Pos} (hc : X.calm = true) (hgl : Gl X "list") (hml : X.mg "list" = none) (hg : Gl X "zip") (hm : X.mg "zip" = none) (ha : PA X [e, e2] ta)
    (hs : starEach [e, e2] X.env = [(false, eval e X.env), (false, eval e2 X.env)] := by rfl) (hs2 : starEach [e2] X.env = [(false, eval e2 X.env)] := by rfl) :
    PE X (.Call (.Name "list" p) [.Call (.Name "zip" p2) [e, e2] [] pos2] [] pos) (tListZip X.K ta) := by
  refine ⟨fun pins s σ H Q I h => ?_⟩
  refine Call_ (ld_blt I hgl hml boot_list (PyProof.Rows.callWith_type1 ?_ (by rfl) (by rfl)))
  show wpAny _ _ (spliced ((false, eval (.Call (.Name "zip" p2) [e, e2] [] pos2) X.env) :: [])) _ _ _
  refine Calls.spliced_cons ?_
  refine Call_ (ld_blt I hg hm boot_zip (PyProof.Rows.callWith_type1 (thn (ha.run pos2 pins s σ H _ I h) fun us s1 ⟨vs, H1, I1, r1, a, b, xs, ys, ex, hq1, hq2, hl, h0, q⟩ => ?_) (by rw [hs, hs2]) (by rw [hs2]; rfl)))
  subst ex
  obtain ⟨u, u2, rfl, ru, ru2⟩ := vals2 r1
  obtain rfl : u = Value.ref a := ru
  obtain rfl : u2 = Value.ref b := ru2
  obtain ⟨its1, rv1, p1, z1⟩ := I1.tuple hq1
  obtain ⟨its2, rv2, p2', z2⟩ := I1.tuple hq2
  have big1 : a < s1.heap.objs.size := by obtain ⟨o, q, _⟩ := p1; exact Heap.lt_size q
  have big2 : b < s1.heap.objs.size := by obtain ⟨o, q, _⟩ := p2'; exact Heap.lt_size q
  refine zip_begins2 (begins_tuple a its1.toArray) (begins_tuple b its2.toArray) ?_ ?_ fun h' hz hTI hTO g1 g2 hsz hk => Calls.spliced_nil ?_
  · exact p1
  · exact p2'
  have sep : ZipSep2 (s1.heap.objs.size + 4) (s1.heap.objs.size + 2) (s1.heap.objs.size + 3) s1.heap.objs.size (s1.heap.objs.size + 1) [s1.heap.objs.size, a] [s1.heap.objs.size + 1, b] := by
    have ne1 : ∀ k, s1.heap.objs.size + k ≠ a := fun k => Nat.ne_of_gt (Nat.lt_of_lt_of_le big1 (Nat.le_add_right _ _))
    have ne2 : ∀ k, s1.heap.objs.size + k ≠ b := fun k => Nat.ne_of_gt (Nat.lt_of_lt_of_le big2 (Nat.le_add_right _ _))
    have two : ∀ {x y z : Addr}, x ≠ y → x ≠ z → x ∉ [y, z] := fun h1 h2 h => by
      rcases List.mem_cons.mp h with h | h
      · exact h1 h
      · exact h2 (List.mem_singleton.mp h)
    have lt2 : ∀ (k m : Nat), k ≠ m → s1.heap.objs.size + k ≠ s1.heap.objs.size + m := fun k m h e => h (Nat.add_left_cancel e)
    exact ⟨lt2 2 4 (by decide), lt2 3 4 (by decide), lt2 2 3 (by decide), lt2 2 0 (by decide), List.mem_cons_self, two (lt2 4 0 (by decide)) (ne1 4), two (lt2 3 0 (by decide)) (ne1 3), lt2 2 1 (by decide), List.mem_cons_self, two (lt2 4 1 (by decide)) (ne2 4), two (lt2 3 1 (by decide)) (ne2 3), two (lt2 0 1 (by decide)) (ne2 0), two (lt2 1 0 (by decide)) (ne1 1)⟩
  have n1 : its1.toArray.size = xs.length := by rw [List.size_toArray, rv1.length]
  have n2 : its2.toArray.size = xs.length := by rw [List.size_toArray, ← rv2.length, hl]
  have tk : ∀ {c : Addr} {its : Array Value}, s1.heap.IsTuple c its → h'.IsTuple c its := fun z => by
    obtain ⟨o, e1, e2⟩ := z
    exact ⟨o, hk _ o e1, e2⟩
  refine call_list_zip (I1.ok.hd hc) sep (Nat.ne_of_lt big1) (Nat.ne_of_lt (Nat.lt_succ_of_lt big2)) n1 n2 h0 z1 hz hTI hTO ⟨⟨_, g1, rfl, rfl⟩, tk p1⟩ ⟨⟨_, g2, rfl, rfl⟩, tk p2'⟩ fun Ts h'' tk' J => ?_
  have sp : (h'.push { cls := .type "list", data := .seq #[] }).objs.size = s1.heap.objs.size + 6 := by rw [Heap.size_push, hsz]
  have hS0 : h'.objs.size = s1.heap.objs.size + 5 := hsz
  have kp : ∀ (c : Addr) (o : Obj), s1.heap.get? c = some o → h''.get? c = some o := fun c o e => by
    have l : c < s1.heap.objs.size := Heap.lt_size e
    exact J.keep c o (Heap.get?_push_of_some _ (hk c o e)) (Nat.ne_of_lt (Nat.lt_of_lt_of_le l (by omega))) (Nat.ne_of_lt (Nat.lt_of_lt_of_le l (by omega))) (Nat.ne_of_lt (Nat.lt_of_lt_of_le l (by omega))) (Nat.ne_of_lt (Nat.lt_of_lt_of_le l (by omega))) (Nat.ne_of_lt (Nat.lt_of_lt_of_le l (by show s1.heap.objs.size ≤ h'.objs.size; omega)))
  have tnew : ∀ T ∈ Ts, s1.heap.objs.size + 6 ≤ T := fun T hT => by have := J.new T hT; rw [sp] at this; exact this
  have dom : ∀ (c : Addr) (o : HO), H1 c = some o → c < s1.heap.objs.size := fun c o e => by
    by_cases q : c < s1.heap.objs.size
    · exact q
    · rw [I1.hok.fresh (Nat.le_of_not_lt q)] at e
      cases e
  let f : Nat → List V := fun j => [xs.getD j .non, ys.getD j .non]
  have oldT : ∀ c, c < s1.heap.objs.size → layT f Ts 0 H1 c = H1 c := fun c l => layT_else f Ts 0 H1 c fun z => Nat.not_lt.mpr (tnew c z) (Nat.lt_of_lt_of_le l (Nat.le_add_right _ _))
  have old : ∀ c, c < s1.heap.objs.size → upd (layT f Ts 0 H1) h'.objs.size (.lst (Ts.map V.ref)) c = H1 c := fun c l => by
    rw [upd_ne (Nat.ne_of_lt (Nat.lt_of_lt_of_le l (by omega))), oldT c l]
  have pair : ∀ (j : Nat) (T : Addr), Ts[j]? = some T → ∃ x y, xs[j]? = some x ∧ ys[j]? = some y ∧ ∃ u v, IsTupOf2 h'' T u v ∧ RelV x u ∧ RelV y v := fun j T hj => by
    obtain ⟨u, v, e1, e2, e3⟩ := J.at_ j T hj
    have hlt : j < Ts.length := by
      by_cases q : j < Ts.length
      · exact q
      · rw [List.getElem?_eq_none (by omega)] at hj
        cases hj
    have hx : j < xs.length := by rw [← J.len]; exact hlt
    obtain ⟨u', w1, r1⟩ := rv1.get (List.getElem?_eq_getElem hx)
    obtain ⟨v', w2, r2⟩ := rv2.get (List.getElem?_eq_getElem (show j < ys.length by omega))
    rw [List.getElem?_toArray, w1] at e1
    rw [List.getElem?_toArray, w2] at e2
    cases e1
    cases e2
    exact ⟨_, _, List.getElem?_eq_getElem hx, List.getElem?_eq_getElem (by omega), _, _, e3, r1, r2⟩
  have okT : HOk X.prog X.w (layT f Ts 0 H1) h'' := by
    refine hok_layT f Ts 0 H1 (I1.hok.kept kp) J.nd (fun T hT => I1.hok.fresh (Nat.le_trans (Nat.le_add_right _ _) (tnew T hT))) fun j T hj H'' => ?_
    obtain ⟨x, y, e1, e2, u, v, e3, r1, r2⟩ := pair j T hj
    have ef : f (0 + j) = [x, y] := by
      show [xs.getD (0 + j) .non, ys.getD (0 + j) .non] = _
      rw [Nat.zero_add, List.getD_eq_getElem?_getD, List.getD_eq_getElem?_getD, e1, e2]
      rfl
    rw [ef]
    exact ⟨by show 2 ≤ sizeLine; decide, [u, v], .cons r1 (.cons r2 .nil), ⟨_, e3, rfl, _, rfl⟩⟩
  obtain ⟨cL, hL⟩ := J.lst
  have ok2 : HOk X.prog X.w (upd (layT f Ts 0 H1) h'.objs.size (.lst (Ts.map V.ref))) h'' := by
    refine HOk.laidN okT (fun _ _ e => e) ?_ ?_
    · rw [layT_else f Ts 0 H1 _ (fun z => by have := tnew _ z; omega)]
      exact I1.hok.fresh (by omega)
    · exact ⟨by rw [List.length_map, J.len]; exact z1, Ts.map Value.ref, _, vals_refs Ts, hL⟩
  have I2 := I1.un (t' := tk') (h' := h'') (H' := upd (layT f Ts 0 H1) h'.objs.size (.lst (Ts.map V.ref)))
    ⟨fun c o e _ _ _ => kp c o e, fun c o e _ _ _ => ⟨o.slots, kp c o e⟩, fun c o e n _ => by rw [old c (Heap.lt_size e)]; exact n, fun c o e _ => ⟨o, kp c o e⟩, fun c zs e => by rw [old c (dom c _ e)]; exact e, fun c o u e => by rw [old c (dom c _ e)]; exact e, fun c ps e => ⟨#[], by rw [old c (dom c _ e), Array.append_empty]; exact e⟩⟩ ok2
  refine ⟨.ref h'.objs.size, _, I2, rfl, q _ _ ⟨fun c o e => by rw [old c (dom c o e)]; exact e, I1.hok.fresh (by omega), Ts, upd_same, J.len, fun j T hj => ?_⟩⟩
  obtain ⟨x, y, e1, e2, u, v, e3, r1, r2⟩ := pair j T hj
  refine ⟨x, y, e1, e2, ?_⟩
  have hT := tnew T (List.mem_of_getElem? hj)
  rw [upd_ne (Nat.ne_of_gt (Nat.lt_of_lt_of_le (show h'.objs.size < s1.heap.objs.size + 6 by omega) hT)), layT_at f Ts 0 H1 j T J.nd hj]
  show some (HO.tup [xs.getD (0 + j) .non, ys.getD (0 + j) .non]) = _
  rw [Nat.zero_add, List.getD_eq_getElem?_getD, List.getD_eq_getElem?_getD, e1, e2]
  rfl
end Ow
end
section
set_option maxHeartbeats 4000000
/-! raise X(), X an own error without a def of its own. -/
namespace Ow
open PySem PySem.Spec PyProof.Rows L2 StX
theorem pmk_own0 {X : Cx} {C : Addr} {bmB : List Value} {B newId initId : String} {x : Str} {p pos : Pos} (F : ExcBaseFacts B newId initId bmB) (q : PySem.W.excIn X.K C bmB newId = true) (gC : X.mg x = some (.ref C)) (kC : PySem.W.keepIn X.K (.ref C) = true) (r : Raises X (.ref C)) (hg : Gl X x)
    (hdb : (x == ("__debug__" : Str)) = false := by decide) : PMk X (.Call (.Name x p) [] [] pos) (fun _ H Q => Q (.ref C) none H) := by
  intro pins s σ H Q I h
  refine wpAny_Call_Name_kw (ld_glob I hg gC ?_ hdb)
  refine PySem.W.callWith_K0 I.kIn kC ?_
  obtain ⟨bm, N, nm, qn, bs, hdct, sn, sub, ab, col, dd, k0, k1, k2, k3, k5, mN, hC, hN, hni, T⟩ := exc_obj I.kIn q
  obtain ⟨hp, g, dr, tk, os⟩ := s
  exact wpAny_call_exc_subT F T hC hN hni (fun h' e hm => mk_of I hm r h (I.hok.gone hm.new)) (by show 0 ≤ sizeLine; exact Nat.zero_le _)
end Ow
end
section
set_option maxHeartbeats 4000000
/-! x op= y where the class has that method of its own; ~x. -/
namespace Ow
open PySem PySem.Spec PyProof.Rows L2
section
variable {X : Cx} {CX : CXT} {n : Nat} {C g : Addr} {sp : Sp} {E : XK}
theorem iop_own {op : Operator} (hc : PySem.W.selfFirst X.K C = true) (hs : PySem.W.findIn X.K (.ref C) (dunderI op.info.2) = some (some (.ref g))) (hf : PySem.W.isFn X.K (.ref g) = true)
    (F : FnR X.prog X.w X.K X.mg X.base CX n g sp) (hr : Room n X.A) (hx : Passes CX X E) : OpR X (inplaceOp op) (rBin C sp E) := by
  intro pins s σ H x y v u Q I rx ry h
  obtain ⟨a, b, rfl, rfl, ha, hb, q⟩ := h
  cases (show v = Value.ref a from rx)
  cases (show u = Value.ref b from ry)
  obtain ⟨ox, od, J⟩ := inst_of I ha
  obtain ⟨m, hF⟩ := I.fr
  refine PySem.W.ksp_inplace (op := op) hF I.ok.mod.kin J hc hs hf ?_
  refine wpAny_mono (wpAny_call (run_fnR (us := [.ref a, .ref b]) (vs := [.ref a, .ref b]) F hr hx I (.cons rfl (.cons rfl .nil)) q)) (fun w s' z => ?_) fun _ _ x => x
  obtain ⟨z', H', I', rz, qz⟩ := z
  exact cmpbackR rz ⟨z', H', I', rz, qz⟩
end
end Ow
end
section
set_option maxHeartbeats 4000000
/-! A comprehension of which each item is known by what it is, not by where it stands. -/
namespace Ow
open PySem PySem.Spec PyProof.Rows L2
/-- all objects but lists stay -/
def NL (H H' : Hp) : Prop := ∀ b o, H b = some o → (∀ xs, o ≠ .lst xs) → H' b = some o
def LcE (R : Nat → V → Hp → Prop) (H1 H : Hp) (D : Addr) (i : Nat) : Prop := ∃ out, LcIn H1 H D out ∧ out.length = i ∧ ∀ j v, out[j]? = some v → R j v H
theorem kLc.each {J : It} {n : Nat} {G : Hp → Prop} {Y : Nat → Hp → V → Hp → Prop} (w : Walk J n G Y) {g : TG} {tt : TT} {te : TE} {vs : List Nat} {σ : L2.St} {Q : VK} {H1 : Hp} (R : Nat → V → Hp → Prop) (hG : ∀ H, Same H1 H → G H)
    (hs : ∀ D i x H H', i < n → LcE R H1 H D i → Y i H x H' → g x (wipe σ vs) H' fun σ2 H2 => wipe σ2 vs = wipe σ vs ∧ tt σ2 H2 fun b H3 => if b = true then te σ2 H3 (kApp D fun H' => LcE R H1 H' D (i + 1)) else LcE R H1 H3 D (i + 1))
    (hd : ∀ D H' out, Fresh H1 H' D (.lst out) → out.length = n → (∀ i v, out[i]? = some v → R i v H') → Q (.ref D) H') : kLc J g tt te vs σ Q H1 := fun D hD =>
  lc_it w (fun i H => LcE R H1 H D i) ⟨[], ⟨(fresh_upd hD).same, upd_same, hD⟩, rfl, fun j v h => by cases h⟩ (fun i H _ c => hG H (let ⟨_, c, _⟩ := c; c.same)) (fun i x H H' hi c y => hs D i x H H' hi c y) fun H c => let ⟨out, c, h1, h2⟩ := c; hd D H out ⟨c.same, c.at_, c.new⟩ h1 h2
theorem kApp.each {R : Nat → V → Hp → Prop} (hR : ∀ i v H H', R i v H → NL H H' → R i v H') {H1 H H4 : Hp} {D : Addr} {i : Nat} {y : V} (c : LcE R H1 H D i) (s : Same H H4) (hl : i < sizeLine) (h : R i y H4) : kApp D (fun H' => LcE R H1 H' D (i + 1)) y H4 := by
  obtain ⟨out, c, h1, h2⟩ := c
  have at4 := s _ _ c.at_
  have nl : NL H4 (upd H4 D (.lst (out ++ [y]))) := fun b o e n => by
    rw [upd_ne]
    · exact e
    · intro z
      rw [z, at4] at e
      exact n _ (Option.some.inj e).symm
  refine ⟨out, at4, by rw [h1]; exact hl, out ++ [y], ⟨fun b u e => ?_, upd_same, c.new⟩, by rw [List.length_append, h1]; rfl, fun j v hj => ?_⟩
  · rw [upd_ne (ne_of_none e c.new)]
    exact s _ _ (c.same _ _ e)
  · by_cases hlt : j < out.length
    · rw [List.getElem?_append_left hlt] at hj
      exact hR j v _ _ (h2 j v hj) fun b o e n => nl b o (s b o e) n
    · rw [List.getElem?_append_right (by omega)] at hj
      have hz : j - out.length = 0 := by
        by_cases q : j - out.length = 0
        · exact q
        · rw [List.getElem?_eq_none (by rw [List.length_singleton]; omega)] at hj
          cases hj
      rw [hz] at hj
      cases hj
      have e : j = i := by omega
      subst e
      exact hR _ _ _ _ h nl
theorem Same.putNew {H H1 H2 : Hp} {l : Addr} {o : HO} (s : Same H H1) (nl : H l = none) (f : Put H1 H2 l o) : Same H H2 := fun b u e => f.get (ne_of_none e nl) (s b u e)
theorem none_back {H H1 : Hp} {p : Addr} (s : Same H H1) (n : H1 p = none) : H p = none := by
  cases h : H p with
  | none => rfl
  | some o => rw [s _ _ h] at n; cases n
end Ow
end
section
set_option maxHeartbeats 4000000
/-! A comprehension with any invariant (its items may change what stands). -/
namespace Ow
open PySem PySem.Spec PyProof.Rows L2
theorem kLc.it {J : It} {n : Nat} {G : Hp → Prop} {Y : Nat → Hp → V → Hp → Prop} (w : Walk J n G Y) {g : TG} {tt : TT} {te : TE} {vs : List Nat} {σ : L2.St} {Q : VK} {H1 : Hp} (I : Addr → Nat → Hp → Prop) (h0 : ∀ D H', Fresh H1 H' D (.lst []) → I D 0 H') (hG : ∀ D i H, I D i H → G H)
    (hs : ∀ D i x H H', i < n → I D i H → Y i H x H' → g x (wipe σ vs) H' fun σ2 H2 => wipe σ2 vs = wipe σ vs ∧ tt σ2 H2 fun b H3 => if b = true then te σ2 H3 (kApp D fun H' => I D (i + 1) H') else I D (i + 1) H3)
    (hd : ∀ D H', I D n H' → Q (.ref D) H') : kLc J g tt te vs σ Q H1 := fun D hD =>
  lc_it w (fun i H => I D i H) (h0 D _ (fresh_upd hD)) (fun i H _ c => hG D i H c) (fun i x H H' hi c y => hs D i x H H' hi c y) fun H c => hd D H c
end Ow
end
section
set_option maxHeartbeats 4000000
/-! Rules whose readings name the knowledge K itself, not the context's: within comprehensions, where the context hangs on what is bound there. -/
namespace Ow
open PySem PySem.Spec PyProof.Rows L2
section
variable {X : Cx} {K : PySem.W.Frag}
def rJoin (K : PySem.W.Frag) : V → List V → Hp → VK → Prop := fun x xs H Q => ∃ a p, ∃ ys : List Str, x = .str a ∧ xs = [.ref p] ∧ (SqL K H p (ys.map V.str) ∨ SqT K H p (ys.map V.str)) ∧ (ys.map (·.length)).sum + ys.length * a.length ≤ 16777216 ∧ Q (.str (Txt.join a ys)) H
theorem pe_joinK {o e : Expr} {to te : TE} {apos pos : Pos} (hK : X.K = K) (ho : PE X o to) (he : PE X e te) (hs : starEach [e] X.env = [(false, eval e X.env)] := by rfl) (hbase : attributeBase o "join" X.env (eval o X.env) = eval o X.env := by rfl) (hline : (apos.endLine == pos.line) = true := by rfl) :
    PE X (.Call (.Attribute o "join" apos) [e] [] pos) (tM1 (rJoin K) to te) := by
  subst hK
  exact pe_join ho he hs hbase hline
theorem pi_listK {tg l : Expr} {tl : TE} (hK : X.K = K) (hl : PE X l tl) : PI X tg l (iList K tl) := by
  subst hK
  exact pi_list hl
theorem pi_tupK {tg l : Expr} {tl : TE} (hK : X.K = K) (hl : PE X l tl) : PI X tg l (iTup K tl) := by
  subst hK
  exact pi_tup hl
theorem ix_listK (hK : X.K = K) : IxR X (rIxL K) := by
  subst hK
  exact ix_list
theorem call_lenKK (hK : X.K = K) : CallR X (.builtin "len") (rLenSeq K) := by
  subst hK
  exact call_lenK
theorem call_tupleKK (hK : X.K = K) : CallR X (.type "tuple") (rTupOf K) := by
  subst hK
  exact call_tupleK
theorem call_listKK (hK : X.K = K) : CallR X (.type "list") (rListOf K) := by
  subst hK
  exact call_listK
theorem op_eqDK (hK : X.K = K) (hu : X.A.units + 64 < cLine) : OpR X (compareOp .Eq) (rEqD K) := by
  subst hK
  exact op_eqD hu
theorem op_neDK (hK : X.K = K) (hu : X.A.units + 64 < cLine) : OpR X (compareOp .NotEq) (rNeD K) := by
  subst hK
  exact op_neD hu
theorem op_inK (hK : X.K = K) : OpR X (compareOp .In) (rIn K false) := by
  subst hK
  exact op_in_seq
end
end Ow
end
section
set_option maxHeartbeats 4000000
/-! x in t, x not in t: t a tuple, items and x data of any depth. -/
namespace Ow
open PySem PySem.Spec PyProof.Rows L2
section
variable {X : Cx}
def rInDT (K : PySem.W.Frag) (neg : Bool) : R2 := fun x y H Q => ∃ d ds, Dp K H x d ∧ Dp K H y (.tuple ds) ∧ SeqAt.shaped d = true ∧ SeqAt.shaped (.tuple ds) = true ∧ Q (.bl (if neg then !(ds.any fun z => PyData.eqv z d) else ds.any fun z => PyData.eqv z d)) H
theorem op_notInDT (hu : X.A.units + 65 < cLine) : OpR X (compareOp .NotIn) (rInDT X.K true) := by
  intro pins s σ H x y v u Q I rx ry h
  obtain ⟨d, ds, hd, he, sd, se, q⟩ := h
  obtain ⟨as, r1⟩ := Dp.reads I d x v hd rx
  obtain ⟨bs, r2⟩ := Dp.reads I (.tuple ds) y u he ry
  exact SeqAt.notIn_tuple_reads r2 r1 (SeqAt.canLay_of_shaped se) (SeqAt.canLay_of_shaped sd) (room_in_shaped sd hu) ⟨.bl _, H, I, rfl, q⟩
theorem op_inDT (hu : X.A.units + 65 < cLine) : OpR X (compareOp .In) (rInDT X.K false) := by
  intro pins s σ H x y v u Q I rx ry h
  obtain ⟨d, ds, hd, he, sd, se, q⟩ := h
  obtain ⟨as, r1⟩ := Dp.reads I d x v hd rx
  obtain ⟨bs, r2⟩ := Dp.reads I (.tuple ds) y u he ry
  exact SeqAt.in_tuple_reads r2 r1 (SeqAt.canLay_of_shaped se) (SeqAt.canLay_of_shaped sd) (room_in_shaped sd hu) ⟨.bl _, H, I, rfl, q⟩
end
end Ow
end
section
set_option maxHeartbeats 4000000
/-! tuple * int, the int 1 or more. -/
namespace Ow
open PySem PySem.Spec PyProof.Rows L2
theorem tuple_mul1W (l : Addr) (items : Array Value) (n : Nat) (dd : Option Addr) (sl : Array (Option Value)) (u : Tok) :
    Meets (Builtin.«tuple.__mul__» ⟨[.ref l, .int 1 u], []⟩) (fun _ R s => s.heap.get? l = some { cls := .type "tuple", dict := dd, data := .seq items n, slots := sl } ∧
      R (.ok (.ret (Value.ref l))) s) :=
  .of_wp fun prog w A R s h => by
    obtain ⟨hp, g, d, tk, os⟩ := s
    obtain ⟨hl, h⟩ := h
    have f1 := AutoSeq1.idx_int
    wp_walk using wpAny_loadPart' hl
    exact ⟨_, rfl, h⟩
section
variable {X : Cx}
theorem op_repT1 : OpR X (binaryOp .Mult) (fun x y H Q => ∃ l xs, x = .ref l ∧ y = .int 1 ∧ SqT X.K H l xs ∧ Q (.ref l) H) := by
  intro pins s σ H x y v u Q I rx ry h
  obtain ⟨l, xs, rfl, rfl, hT, q⟩ := h
  cases rx
  obtain ⟨t, rfl⟩ := ry
  obtain ⟨its, r, ⟨⟨cls, dd, data, sl⟩, ho, hc, n, hd⟩, hs⟩ := I.tuple hT
  simp only at hc hd
  subst hc hd
  refine wpAny_binaryOp_repeat_ref (T := "tuple") (U := "int") (by decide) ⟨_, ho, rfl⟩ (fun s' => typeIs_int s' 1 t) noFill_tuple_mul F.fills_int_mul F.slot_int_rmul repeat_tuple F.slot_int_index.lookup
    (call_meets F.slot_int_rmul (typeIs_int s 1 t) F.entry_int_rmul (F.args_int_rmul_2 _ _) (int_rmul_tuple 1 t l its.toArray n dd sl)
      ⟨ho, rfl, ⟨_, ho, rfl⟩, call_meets F.slot_tuple_mul ⟨_, ho, rfl⟩ F.entry_tuple_mul (F.args_tuple_mul_2 _ _) (tuple_mul1W l its.toArray n dd sl t) ⟨ho, ?_⟩⟩)
  exact ⟨.ref l, H, I, rfl, q⟩
/-- t * k, k from 1 on: a new tuple, or the very one -/
def rRepT1 : R2 := fun x y H Q => ∃ l k xs, x = .ref l ∧ y = .int k ∧ H l = some (.tup xs) ∧ xs ≠ [] ∧ 1 ≤ k ∧ k ≤ 1000 ∧ xs.length ≤ 1000 ∧ ∀ t H', Same H H' → H' t = some (.tup (List.replicate k.toNat xs).flatten) → (H t = none ∨ t = l) → Q (.ref t) H'
theorem op_repTK : OpR X (binaryOp .Mult) rRepT1 := by
  intro pins s σ H x y v u Q I rx ry h
  obtain ⟨l, k, xs, rfl, rfl, hT, hne, h1, h2, h3, q⟩ := h
  by_cases e : k = 1
  · subst e
    exact op_repT1 pins s σ H _ _ v u Q I rx ry ⟨l, xs, rfl, rfl, .inl (.inl hT), q l H (Same.refl H) (by simpa using hT) (.inr rfl)⟩
  · exact op_repT pins s σ H _ _ v u Q I rx ry ⟨l, k, xs, rfl, rfl, .inl (.inl hT), hne, by omega, h2, h3, fun p hp => q p _ (fresh_upd hp).same (fresh_upd (o := .tup (List.replicate k.toNat xs).flatten) hp).at_ (.inl hp)⟩
end
end Ow
end
section
set_option maxHeartbeats 4000000
/-! An instance made by a local name that holds the class; a classmethod called by keywords. -/
namespace Ow
open PySem PySem.Spec PyProof.Rows L2 StX ClX
section
variable {X : Cx} {CX : CXT} {n i : Nat} {C g : Addr} {sp : Sp} {E : XK} {x : Str} {p pos : Pos} {e : Expr} {es : List Expr} {t : TA}
/-- x(e, ..): slot i holds the class at C -/
def tMakeL (i : Nat) (C : Addr) (sp : Sp) (E : XK) (t : TA) : TE := fun σ H Q => σ[i]? = some (some (.ref C)) ∧ t σ H (kMake C sp E Q)
theorem pe_makeL (M : Mk X.K C g) (F : FnR X.prog X.w X.K X.mg X.base CX n g sp) (hr : Room (n + 1) X.A) (hN : X.N[i]? = some x) (hv : Vis X.env.scope x) (hx : Passes CX X E) (ha : PA X (e :: es) t)
    (hdb : (x == ("__debug__" : Str)) = false := by decide) (hcd : (x == ("__classdict__" : Str)) = false := by decide)
    (he : starEach (e :: es) X.env = (false, eval e X.env) :: starEach es X.env := by rfl) (hpl : (backTo pos (starEach es X.env)).any (·.1) = false := by rfl) : PE X (.Call (.Name x p) (e :: es) [] pos) (tMakeL i C sp E t) := by
  refine ⟨fun pins s σ H Q I h => ?_⟩
  obtain ⟨hs, ht⟩ := h
  refine wpAny_Call_Name_kw (thn ((pe_var (pos := p) hN hv hdb hcd).run pins s σ H (fun v H1 => v = .ref C ∧ H1 = H) I ⟨.ref C, hs, rfl, rfl⟩) fun u s1 ⟨v, H1, I1, r1, q1⟩ => ?_)
  obtain ⟨rfl, rfl⟩ := q1
  cases r1
  refine PySem.W.callWith_K (h₀ := X.base) I.ok.mod.kin M.kp (thn (ha.run pos pins s1 σ _ _ I1 ht) fun us s2 ⟨vs, H2, I2, r, q⟩ => ⟨I2.kIn, ?_⟩) he hpl
  exact run_makeR M F hr hx I2 r q
end
section
variable {X : Cx} {CX : CXT} {k : Nat} {C p g : Addr} {mc : Value} {sp : Sp} {E : XK} {o : Expr} {m : Str} {pos apos : Pos} {ta : TE} {pl : Sem Bool}
/-- C.m(k=e, ..), m a classmethod, by keywords alone -/
def tCMethK (C : Addr) (n : Nat) (sp : Sp) (gV : List V → List V → List V) (E : XK) (ta : TE) (tk : TA) : TE := fun σ H Q => ta σ H fun x H1 => x = .ref C ∧ tk σ H1 fun zs H2 => zs.length = n ∧ sp (gV [.ref C] zs) H2 Q E
theorem pe_cmethK {kws : List Keyword} {fd : FuncData} {ps ks : List Str} {tk : TA} {gl : List Value → List Value → List Value} {gV : List V → List V → List V} (he : PE X o ta) (r : CRead X.K C mc) (c : CMet X.K C mc m p g)
    (F : FnOk X.prog X.w X.K X.mg X.base CX k g fd ps sp) (hr : Room k X.A) (hb : KBn X.K fd ps 1 ks gl gV) (hx : Passes CX X E) (hkw : PK X kws tk)
    (hall : (backToKw pos (keywordEach kws X.env)).all (·.1.isSome) = true := by rfl) (hks : (backToKw pos (keywordEach kws X.env)).filterMap (·.1) = ks := by rfl)
    (hpl : ((backTo pos (starEach [] X.env)).any (·.1) || (backToKw pos (keywordEach kws X.env)).any (·.1.isNone)) = false := by rfl)
    (ht : eval (.Call (.Attribute o m apos) [] kws pos) X.env = (do
      let ov ← eval o X.env
      standAt apos.atName
      let (f, first) ← holding [ov] (getMethod ov m pl)
      callWith pos f first (backTo pos (starEach [] X.env)) (backToKw pos (keywordEach kws X.env))) := by rfl) :
    PE X (.Call (.Attribute o m apos) [] kws pos) (tCMethK C ks.length sp gV E ta tk) := by
  refine ⟨fun pins s σ H Q I h => ?_⟩
  refine PySem.W.methodCall_KW (pl := pl) (thn (he.run pins s σ H _ I h) fun u s1 ⟨x, H1, I1, rx, ex, q⟩ => ?_) ht
  subst ex
  obtain rfl : u = Value.ref C := rx
  refine getmethcm_ok I1 r c fun s2 I2 => ?_
  refine PySem.W.callWith_of hpl (PySem.W.keeps_M c.fi) (evalArgs_kw2_nil hall (thn (hkw.run pos _ s2 σ H1 _ I2 q) fun ws s3 ⟨zs, H3, I3, rz, l2, q2⟩ => ⟨⟨pin_at I3, I3.kIn⟩, ?_⟩))
  rw [hks]
  have r1 : Vals [V.ref C] [Value.ref C] := .cons rfl .nil
  refine thn (Q := EP X ((s1.heap.objs.size, PySem.W.methodObj (.ref g) (.ref C)) :: pins) σ Q) (wpAny_call (PySem.W.method_call (pin_at I3) (codeAny_mono (F.run X.A X.stack s3 H3 ⟨[.ref C], ks.zip ws⟩ (gl [.ref C] ws) (gV [.ref C] zs) Q E hr I3.env0 (hb.to s3 [.ref C] ws I3.kIn rfl (rz.length.symm.trans l2)) (hb.rel r1 rz) q2) fun r s' hq => ?_))) fun _ _ y => unpinE y
  cases r with
  | error e => exact hx _ σ H3 s3 e s' I3 hq
  | ok fl =>
    cases fl with
    | ret u => exact I3.after hq
    | next => exact False.elim hq
    | brk => exact False.elim hq
    | cont => exact False.elim hq
end
end Ow
end
section
/-! Texts of one sign: lstrip, rstrip, find within; runs; the region of a grid. -/
namespace Rg
open PySem PySem.Builtin PySem.Builtin.Str
open SX (S)
/-! ### lstrip, rstrip of one sign -/
def lead (c : Nat) : List Nat → Nat
  | [] => 0
  | d :: r => if d = c then lead c r + 1 else 0
theorem lead_tw (c : Nat) : ∀ r : List Nat, (r.takeWhile (fun d => (S [c]).cps.contains d)).length = lead c r
  | [] => rfl
  | d :: r => by
    have e : (S [c]).cps.contains d = decide (d = c) := by
      show (#[c] : Array Nat).contains d = _
      rw [Bool.eq_iff_iff]
      simp
    unfold lead
    by_cases h : d = c
    · rw [List.takeWhile_cons_of_pos (by rw [e, h]; simp), if_pos h, List.length_cons, lead_tw c r]
    · rw [List.takeWhile_cons_of_neg (by rw [e]; simp [h]), if_neg h]
      rfl
theorem lead_le (c : Nat) : ∀ r : List Nat, lead c r ≤ r.length
  | [] => Nat.le_refl _
  | d :: r => by
    have := lead_le c r
    unfold lead
    rw [List.length_cons]
    split <;> omega
theorem lead_at (c : Nat) : ∀ (r : List Nat) (i : Nat), i < lead c r → r[i]? = some c
  | [], i, h => absurd h (Nat.not_lt_zero _)
  | d :: r, i, h => by
    unfold lead at h
    by_cases e : d = c
    · rw [if_pos e] at h
      cases i with
      | zero => rw [e]; rfl
      | succ i => exact lead_at c r i (by omega)
    · rw [if_neg e] at h
      exact absurd h (Nat.not_lt_zero _)
theorem lead_end (c : Nat) : ∀ (r : List Nat), r[lead c r]? ≠ some c
  | [] => by simp
  | d :: r => by
    unfold lead
    by_cases e : d = c
    · rw [if_pos e]
      exact lead_end c r
    · rw [if_neg e]
      intro z
      cases z
      exact e rfl
theorem strip_eq (g : Nat → Bool) (l r : Bool) (x : Str) : Txt.stripBy g l r x = PySem.stripped g l r x := by
  unfold Txt.stripBy
  split
  · rename_i h
    simp only [PySem.stripSame, Bool.and_eq_true, beq_iff_eq] at h
    unfold PySem.stripped
    rw [h.2, h.1]
    exact (congrArg Str.mk (by simp [Str.length])).symm
  · rfl
theorem lstrip_S (r : List Nat) (c : Nat) : Txt.lstripChars (S r) (S [c]) = S (r.drop (lead c r)) := by
  unfold Txt.lstripChars
  rw [strip_eq]
  unfold PySem.stripped PySem.stripLo PySem.stripHi
  simp only [if_true, Bool.false_eq_true, if_false]
  have e := lead_tw c r
  have e2 : ((S r).cps.toList.takeWhile (S [c]).cps.contains).length = lead c r := e
  rw [e2]
  refine congrArg Str.mk ?_
  rw [SX.S_len]
  simp [List.take_of_length_le]
theorem rstrip_len (r : List Nat) (c : Nat) : (Txt.rstripChars (S r) (S [c])).length = r.length - lead c r.reverse := by
  unfold Txt.rstripChars
  rw [strip_eq]
  unfold PySem.stripped PySem.stripLo PySem.stripHi
  simp only [if_true, Bool.false_eq_true, if_false]
  have e2 : (((S r).cps.toList.drop 0).reverse.takeWhile (S [c]).cps.contains).length = lead c r.reverse := lead_tw c r.reverse
  rw [e2, SX.S_len]
  show ((S r).cps.extract 0 (r.length - lead c r.reverse)).size = _
  simp
/-- [b, e) is the whole run of c around x -/
structure Run (row : List Nat) (c x b e : Nat) : Prop where
  bx : b ≤ x
  xe : x < e
  el : e ≤ row.length
  all : ∀ i, b ≤ i → i < e → row[i]? = some c
  lo : ∀ i, i + 1 = b → row[i]? ≠ some c
  hi : row[e]? ≠ some c
theorem run_of {row : List Nat} {c x : Nat} (h : row[x]? = some c) : Run row c x ((row.take x).length - lead c (row.take x).reverse) (x + lead c (row.drop x)) := by
  have hx := (List.getElem?_eq_some_iff.mp h).1
  have tl : (row.take x).length = x := List.length_take_of_le (by omega)
  have l1 := lead_le c (row.take x).reverse
  have l2 := lead_le c (row.drop x)
  rw [List.length_reverse, tl] at l1
  rw [List.length_drop] at l2
  have a1 := lead_at c (row.drop x)
  have a2 := lead_end c (row.drop x)
  have b1 := lead_at c (row.take x).reverse
  have b2 := lead_end c (row.take x).reverse
  rw [tl]
  have rv : ∀ i, i < x → (row.take x).reverse[i]? = row[x - 1 - i]? := fun i hi => by
    rw [List.getElem?_reverse (by rw [tl]; exact hi), tl, List.getElem?_take, if_pos (by omega)]
  have l0 : 0 < lead c (row.drop x) := by
    refine Nat.pos_of_ne_zero fun z => a2 ?_
    rw [z, List.getElem?_drop]
    exact h
  refine ⟨by omega, by omega, by omega, fun i h1 h2 => ?_, fun i hi => ?_, ?_⟩
  · by_cases hi : i < x
    · have := b1 (x - 1 - i) (by omega)
      rw [rv _ (by omega), show x - 1 - (x - 1 - i) = i from by omega] at this
      exact this
    · have := a1 (i - x) (by omega)
      rw [List.getElem?_drop, show x + (i - x) = i from by omega] at this
      exact this
  · rw [rv _ (by omega), show x - 1 - lead c (row.take x).reverse = i from by omega] at b2
    exact b2
  · rw [List.getElem?_drop] at a2
    exact a2
/-! ### find within -/
theorem occ_stay (s sub : Str) (hi : Nat) : ∀ (l : List Nat) (st : Array Nat × Nat), 1 ≤ st.fst.size → (forIn l st (StrLaws.occBody s sub hi 1)).run.fst = st.fst
  | [], st, h => rfl
  | a :: l, st, h => by
    rw [List.forIn_cons]
    unfold StrLaws.occBody
    rw [if_neg (by omega)]
    exact occ_stay s sub hi l _ h
theorem occ_first (s sub : Str) (hi : Nat) : ∀ (l : List Nat) (free : Nat), (∀ i ∈ l, free ≤ i) →
    (forIn l ((#[] : Array Nat), free) (StrLaws.occBody s sub hi 1)).run.fst.toList = (l.find? fun i => decide (i + sub.length ≤ hi ∧ subAt s sub i = true)).toList
  | [], free, _ => rfl
  | a :: l, free, hf => by
    rw [List.forIn_cons]
    unfold StrLaws.occBody
    have ha : free ≤ a := hf a List.mem_cons_self
    by_cases hc : a + sub.length ≤ hi ∧ subAt s sub a = true
    · have c1 : (((#[] : Array Nat), free).fst.size < 1 ∧ ((#[] : Array Nat), free).snd ≤ a) ∧ a + sub.length ≤ hi := ⟨⟨by simp, ha⟩, hc.1⟩
      rw [if_pos ⟨c1, hc.2⟩, List.find?_cons_of_pos (by simp [hc.1, hc.2])]
      exact congrArg Array.toList (occ_stay s sub hi l (#[].push a, a + sub.length) (by simp))
    · have c2 : ¬ (((((#[] : Array Nat), free).fst.size < 1 ∧ ((#[] : Array Nat), free).snd ≤ a) ∧ a + sub.length ≤ hi) ∧ subAt s sub a = true) := fun h => hc ⟨h.1.2, h.2⟩
      rw [if_neg c2, List.find?_cons_of_neg (by simpa using hc)]
      exact occ_first s sub hi l free fun i h => hf i (List.mem_cons_of_mem _ h)
theorem find_in (row : List Nat) (c b e : Nat) (he : e ≤ row.length) :
    (Txt.findIn (S row) (S [c]) b e = -1 ∧ ∀ i, b ≤ i → i < e → row[i]? ≠ some c) ∨
    ∃ i : Nat, Txt.findIn (S row) (S [c]) b e = i ∧ b ≤ i ∧ i < e ∧ row[i]? = some c ∧ ∀ j, b ≤ j → j < i → row[j]? ≠ some c := by
  have hb : fromIndex (S row).length (b : Int) = b := by unfold fromIndex; rw [if_neg (by omega)]; omega
  have hE : toIndexW (S row).length (e : Int) = e := by rw [SX.S_len]; unfold toIndexW; rw [if_neg (by omega)]; omega
  have iff : ∀ i, (i + (S [c]).length ≤ e ∧ subAt (S row) (S [c]) i = true) ↔ (i < e ∧ row[i]? = some c) := fun i => by
    have z := StrLaws.subAt_one (S row) c i
    have l1 : (S [c]).length = 1 := rfl
    rw [l1]
    rw [show ((⟨#[c]⟩ : Str).length) = 1 from rfl, SX.S_len] at z
    exact ⟨fun h => ⟨by omega, z.mp ⟨by omega, h.2⟩⟩, fun h => ⟨by omega, (z.mpr h.2).2⟩⟩
  unfold Txt.findIn
  have oc : occurrences (S row) (S [c]) b e 1 = ((List.range' b (e + 1 - b)).find? fun i => decide (i + (S [c]).length ≤ e ∧ subAt (S row) (S [c]) i = true)).toList := by
    rw [StrLaws.occ_eq]
    exact occ_first _ _ _ _ _ fun i hi => by
      exact (List.mem_range'_1.mp hi).1
  rw [hb, hE, oc]
  cases hf : (List.range' b (e + 1 - b)).find? (fun i => decide (i + (S [c]).length ≤ e ∧ subAt (S row) (S [c]) i = true)) with
  | none =>
    refine .inl ⟨rfl, fun i h1 h2 h3 => ?_⟩
    have z := List.find?_eq_none.mp hf i (List.mem_range'_1.mpr ⟨h1, by omega⟩)
    exact z (decide_eq_true ((iff i).mpr ⟨h2, h3⟩))
  | some i =>
    obtain ⟨p, hm, hj⟩ := List.find?_range'_eq_some.mp hf
    have z := (iff i).mp (of_decide_eq_true p)
    have hm : b ≤ i := (List.mem_range'_1.mp hm).1
    refine .inr ⟨i, rfl, hm, z.1, z.2, fun j h1 h2 h3 => ?_⟩
    have q := hj j h1 h2
    rw [decide_eq_true ((iff j).mpr ⟨by omega, h3⟩)] at q
    cases q
end Rg
end
section
/-! The region of a grid: marked run by run. -/
namespace Rg
abbrev Cel : Type := Nat × Nat
def cell (g : List (List Nat)) (p : Cel) : Option Nat := (g[p.2]?).bind fun r => r[p.1]?
def Adj (p q : Cel) : Prop := (p.1 = q.1 ∧ (p.2 + 1 = q.2 ∨ q.2 + 1 = p.2)) ∨ (p.2 = q.2 ∧ (p.1 + 1 = q.1 ∨ q.1 + 1 = p.1))
/-- what hangs together with s in the sign c -/
inductive Conn (g : List (List Nat)) (c : Nat) (s : Cel) : Cel → Prop
  | base : cell g s = some c → Conn g c s s
  | step {p q : Cel} : Conn g c s p → Adj p q → cell g q = some c → Conn g c s q
theorem Conn.at_ {g : List (List Nat)} {c : Nat} {s p : Cel} (h : Conn g c s p) : cell g p = some c := by
  cases h with
  | base h => exact h
  | step _ _ h => exact h
def mkr (row : List Nat) (m b e : Nat) : List Nat := row.take b ++ List.replicate (e - b) m ++ row.drop e
theorem mkr_len {row : List Nat} {m b e : Nat} (hb : b ≤ e) (he : e ≤ row.length) : (mkr row m b e).length = row.length := by
  unfold mkr
  rw [List.length_append, List.length_append, List.length_take, List.length_replicate, List.length_drop]
  omega
theorem mkr_at {row : List Nat} {m b e : Nat} (hb : b ≤ e) (he : e ≤ row.length) (i : Nat) : (mkr row m b e)[i]? = if b ≤ i ∧ i < e then some m else row[i]? := by
  unfold mkr
  have lt : (row.take b).length = b := List.length_take_of_le (by omega)
  by_cases h1 : i < b
  · rw [if_neg (by omega), List.append_assoc, List.getElem?_append_left (by omega), List.getElem?_take, if_pos h1]
  · by_cases h2 : i < e
    · rw [if_pos ⟨by omega, h2⟩, List.append_assoc, List.getElem?_append_right (by omega), lt, List.getElem?_append_left (by rw [List.length_replicate]; omega), List.getElem?_replicate, if_pos (by omega)]
    · rw [if_neg (by omega), List.getElem?_append_right (by rw [List.length_append, lt, List.length_replicate]; omega), List.getElem?_drop, List.length_append, lt, List.length_replicate]
      congr 1
      omega
theorem cell_set {g : List (List Nat)} {y : Nat} {r : List Nat} (hy : y < g.length) (p : Cel) : cell (g.set y r) p = if p.2 = y then r[p.1]? else cell g p := by
  unfold cell
  by_cases h : p.2 = y
  · rw [if_pos h, h, List.getElem?_set_self hy]
    rfl
  · rw [if_neg h, List.getElem?_set_ne (fun e => h e.symm)]
theorem cell_mk {g : List (List Nat)} {y m b e : Nat} {row : List Nat} (hy : g[y]? = some row) (hb : b ≤ e) (he : e ≤ row.length) (p : Cel) : cell (g.set y (mkr row m b e)) p = if p.2 = y ∧ b ≤ p.1 ∧ p.1 < e then some m else cell g p := by
  rw [cell_set (List.getElem?_eq_some_iff.mp hy).1]
  by_cases h : p.2 = y
  · rw [if_pos h, mkr_at hb he]
    by_cases h2 : b ≤ p.1 ∧ p.1 < e
    · rw [if_pos h2, if_pos ⟨h, h2⟩]
    · rw [if_neg h2, if_neg (fun z => h2 z.2)]
      unfold cell
      rw [h, hy]
      rfl
  · rw [if_neg h, if_neg (fun z => h z.1)]
/-- q lies on one run with a seed -/
def Reach (new : List (List Nat)) (c : Nat) (sd : List Cel) (q : Cel) : Prop := ∃ e ∈ sd, e.2 = q.2 ∧ ∀ i, min e.1 q.1 ≤ i → i ≤ max e.1 q.1 → cell new (i, q.2) = some c
structure Mid (g new : List (List Nat)) (c m : Nat) (s : Cel) (sd : List Cel) : Prop where
  cells : ∀ p, cell new p = cell g p ∨ (cell new p = some m ∧ Conn g c s p)
  seeds : ∀ q ∈ sd, Conn g c s q
  clos : ∀ p q, cell new p = some m → Adj p q → cell g q = some c → cell new q = some m ∨ Reach new c sd q
  start : cell new s = some m ∨ Reach new c sd s
theorem Mid.init {g : List (List Nat)} {c m : Nat} {s : Cel} (hs : cell g s = some c) (gm : ∀ p, cell g p ≠ some m) : Mid g g c m s [s] where
  cells _ := .inl rfl
  seeds q hq := by rw [List.mem_singleton.mp hq]; exact .base hs
  clos p _ h := absurd h (gm p)
  start := .inr ⟨s, List.mem_singleton.mpr rfl, rfl, fun i h1 h2 => by
    have : i = s.1 := by omega
    subst this
    exact hs⟩
theorem Mid.skip {g new : List (List Nat)} {c m : Nat} {s e0 : Cel} {sd : List Cel} (h : Mid g new c m s (sd ++ [e0])) (hn : cell new e0 ≠ some c) : Mid g new c m s sd := by
  have tr : ∀ q, Reach new c (sd ++ [e0]) q → Reach new c sd q := fun q ⟨e, he, e2, hr⟩ => by
    rcases List.mem_append.mp he with he | he
    · exact ⟨e, he, e2, hr⟩
    · rw [List.mem_singleton.mp he] at e2 hr
      have z := hr e0.1 (by omega) (by omega)
      rw [← e2] at z
      exact absurd z hn
  exact ⟨h.cells, fun q hq => h.seeds q (List.mem_append_left _ hq), fun p q h1 h2 h3 => (h.clos p q h1 h2 h3).imp id (tr q), h.start.imp id (tr s)⟩
theorem Mid.mark {g new : List (List Nat)} {c m : Nat} {s e0 : Cel} {sd sd' : List Cel} {row : List Nat} {b e : Nat} (hcm : c ≠ m) (h : Mid g new c m s (sd ++ [e0])) (hy : new[e0.2]? = some row) (R : Run row c e0.1 b e)
    (hk : ∀ q ∈ sd, q ∈ sd') (hs : ∀ q ∈ sd', q ∈ sd ∨ ((q.2 + 1 = e0.2 ∨ e0.2 + 1 = q.2) ∧ b ≤ q.1 ∧ q.1 < e ∧ cell new q = some c))
    (hc : ∀ q : Cel, (q.2 + 1 = e0.2 ∨ e0.2 + 1 = q.2) → b ≤ q.1 → q.1 < e → cell new q = some c → ∃ t ∈ sd', t.2 = q.2 ∧ t.1 ≤ q.1 ∧ ∀ i, t.1 ≤ i → i ≤ q.1 → cell new (i, q.2) = some c) :
    Mid g (new.set e0.2 (mkr row m b e)) c m s sd' := by
  have cm := cell_mk (m := m) hy (Nat.le_of_lt (Nat.lt_of_le_of_lt R.bx R.xe)) R.el
  have inr : ∀ i, cell new (i, e0.2) = row[i]? := fun i => by
    unfold cell
    show (new[e0.2]?).bind _ = _
    rw [hy]
    rfl
  have gc : ∀ p, cell new p = some c → cell g p = some c := fun p hp => by
    rcases h.cells p with z | z
    · rw [← z]; exact hp
    · rw [hp] at z
      exact absurd (Option.some.inj z.1) hcm
  have runC : ∀ i, b ≤ i → i < e → cell new (i, e0.2) = some c := fun i h1 h2 => (inr i).trans (R.all i h1 h2)
  have c0 := h.seeds e0 (by simp)
  have right : ∀ k, e0.1 + k < e → Conn g c s (e0.1 + k, e0.2) := fun k => by
    induction k with
    | zero => exact fun _ => c0
    | succ k ih => exact fun hk => .step (ih (by omega)) (.inr ⟨rfl, .inl rfl⟩) (gc _ (runC _ (by have := R.bx; omega) hk))
  have left : ∀ k, b + k ≤ e0.1 → Conn g c s (e0.1 - k, e0.2) := fun k => by
    induction k with
    | zero => exact fun _ => c0
    | succ k ih => exact fun hk => .step (ih (by omega)) (.inr ⟨rfl, .inr (by show e0.1 - (k + 1) + 1 = e0.1 - k; omega)⟩) (gc _ (runC _ (by have := R.xe; omega) (by have := R.xe; omega)))
  have conn : ∀ i, b ≤ i → i < e → Conn g c s (i, e0.2) := fun i h1 h2 => by
    by_cases z : e0.1 ≤ i
    · have := right (i - e0.1) (by omega)
      rw [show e0.1 + (i - e0.1) = i from by omega] at this
      exact this
    · have := left (e0.1 - i) (by omega)
      rw [show e0.1 - (e0.1 - i) = i from by omega] at this
      exact this
  have tr : ∀ q, Reach new c (sd ++ [e0]) q → cell (new.set e0.2 (mkr row m b e)) q = some m ∨ Reach (new.set e0.2 (mkr row m b e)) c sd' q := fun q ⟨d, hd, d2, hr⟩ => by
    by_cases hq : q.2 = e0.2
    · by_cases hin : b ≤ q.1 ∧ q.1 < e
      · left
        rw [cm, if_pos ⟨hq, hin⟩]
      · right
        have hr' : ∀ i, min d.1 q.1 ≤ i → i ≤ max d.1 q.1 → row[i]? = some c := fun i h1 h2 => by
          have z := hr i h1 h2
          rw [hq, inr] at z
          exact z
        have out : ∀ i, min d.1 q.1 ≤ i → i ≤ max d.1 q.1 → ¬ (b ≤ i ∧ i < e) := fun i h1 h2 h3 => by
          by_cases lo : q.1 < b
          · exact R.lo (b - 1) (by omega) (hr' (b - 1) (by omega) (by omega))
          · exact R.hi (hr' e (by omega) (by omega))
        have ne : d ≠ e0 := fun z => out d.1 (by omega) (by omega) (by rw [z]; exact ⟨R.bx, R.xe⟩)
        have hd' : d ∈ sd := by
          rcases List.mem_append.mp hd with z | z
          · exact z
          · exact absurd (List.mem_singleton.mp z) ne
        exact ⟨d, hk d hd', d2, fun i h1 h2 => by rw [cm, if_neg (fun z => out i h1 h2 z.2)]; exact hr i h1 h2⟩
    · right
      have ne : d ≠ e0 := fun z => hq (by rw [← d2, z])
      have hd' : d ∈ sd := by
        rcases List.mem_append.mp hd with z | z
        · exact z
        · exact absurd (List.mem_singleton.mp z) ne
      exact ⟨d, hk d hd', d2, fun i h1 h2 => by rw [cm, if_neg (fun z => hq z.1)]; exact hr i h1 h2⟩
  have keep : ∀ q, cell new q = some m → cell (new.set e0.2 (mkr row m b e)) q = some m := fun q hq => by
    rw [cm]
    split
    · rfl
    · exact hq
  refine ⟨fun p => ?_, fun q hq => ?_, fun p q h1 h2 h3 => ?_, h.start.elim (fun z => .inl (keep s z)) (tr s)⟩
  · rw [cm]
    by_cases hp : p.2 = e0.2 ∧ b ≤ p.1 ∧ p.1 < e
    · rw [if_pos hp]
      right
      refine ⟨rfl, ?_⟩
      have := conn p.1 hp.2.1 hp.2.2
      rw [← hp.1] at this
      exact this
    · rw [if_neg hp]
      exact h.cells p
  · rcases hs q hq with z | ⟨z1, z2, z3, z4⟩
    · exact h.seeds q (List.mem_append_left _ z)
    · exact .step (conn q.1 z2 z3) (.inl ⟨rfl, by rcases z1 with z1 | z1; exact .inr z1; exact .inl z1⟩) (gc _ z4)
  · rw [cm] at h1
    by_cases hp : p.2 = e0.2 ∧ b ≤ p.1 ∧ p.1 < e
    · rcases h2 with ⟨a1, a2⟩ | ⟨a1, a2⟩
      · have qy : q.2 + 1 = e0.2 ∨ e0.2 + 1 = q.2 := by omega
        rcases h.cells q with z | z
        · have z' : cell new q = some c := z.trans h3
          obtain ⟨t, ht, t2, t3, t4⟩ := hc q qy (by omega) (by omega) z'
          right
          refine ⟨t, ht, t2, fun i g1 g2 => ?_⟩
          rw [cm, if_neg (fun z => by have := z.1; simp only at this; omega)]
          exact t4 i (by omega) (by omega)
        · exact .inl (keep q z.1)
      · left
        by_cases hq : b ≤ q.1 ∧ q.1 < e
        · rw [cm, if_pos ⟨by omega, hq⟩]
        · rcases h.cells q with z | z
          · have z' : cell new (q.1, e0.2) = some c := by
              rw [show ((q.1, e0.2) : Cel) = q from by rw [← hp.1, a1]]
              exact z.trans h3
            rw [inr] at z'
            by_cases lo : q.1 < b
            · exact absurd z' (R.lo q.1 (by omega))
            · have : q.1 = e := by omega
              rw [this] at z'
              exact absurd z' R.hi
          · exact keep q z.1
    · rw [if_neg hp] at h1
      exact (h.clos p q h1 h2 h3).elim (fun z => .inl (keep q z)) (tr q)
theorem Mid.done {g new : List (List Nat)} {c m : Nat} {s : Cel} (gm : ∀ p, cell g p ≠ some m) (h : Mid g new c m s []) (p : Cel) : (Conn g c s p → cell new p = some m) ∧ (¬ Conn g c s p → cell new p = cell g p) := by
  have no : ∀ q, ¬ Reach new c [] q := fun q ⟨e, he, _⟩ => by cases he
  refine ⟨fun hp => ?_, fun hp => (h.cells p).elim id fun z => absurd z.2 hp⟩
  induction hp with
  | base _ => exact h.start.resolve_right (no _)
  | step _ a b ih => exact (h.clos _ _ ih a b).resolve_right (no _)
/-! ### how much is left -/
def left (g : List (List Nat)) (c : Nat) : Nat := (g.map (·.count c)).sum
theorem left_set (c : Nat) : ∀ (g : List (List Nat)) (y : Nat) (row r : List Nat), g[y]? = some row → left (g.set y r) c + row.count c = left g c + r.count c
  | [], y, row, r, h => by cases h
  | q :: g, 0, row, r, h => by
    cases h
    show (r.count c + left g c) + q.count c = (q.count c + left g c) + r.count c
    omega
  | q :: g, y + 1, row, r, h => by
    have := left_set c g y row r h
    show (q.count c + left (g.set y r) c) + row.count c = (q.count c + left g c) + r.count c
    omega
theorem mkr_count {row : List Nat} {c m x b e : Nat} (hcm : c ≠ m) (R : Run row c x b e) : (mkr row m b e).count c + (e - b) = row.count c := by
  have hbe := Nat.lt_of_le_of_lt R.bx R.xe
  have hm : (row.drop b).take (e - b) = List.replicate (e - b) c := by
    refine List.ext_getElem? fun i => ?_
    rw [List.getElem?_take, List.getElem?_drop, List.getElem?_replicate]
    by_cases hi : i < e - b
    · rw [if_pos hi, if_pos hi]
      exact R.all _ (by omega) (by omega)
    · rw [if_neg hi, if_neg hi]
  have sp : row = row.take b ++ List.replicate (e - b) c ++ row.drop e := by
    have z1 := (List.take_append_drop b row).symm
    have z2 := (List.take_append_drop (e - b) (row.drop b)).symm
    rw [hm, List.drop_drop, show b + (e - b) = e from by omega] at z2
    rw [z2, ← List.append_assoc] at z1
    exact z1
  have e1 := congrArg (List.count c) sp
  rw [List.count_append, List.count_append, List.count_replicate_self] at e1
  unfold mkr
  rw [List.count_append, List.count_append, List.count_eq_zero.mpr (show c ∉ List.replicate (e - b) m from fun z => hcm (List.mem_replicate.mp z).2)]
  omega
end Rg
end
section
/-! Comprehensions of two loops. -/
namespace Ow
open PySem PySem.Spec PyProof.Rows L2 StX
/-- the inner loop -/
def kIn (J1 : It) (g1 : TG) (tt1 : TT) (te : TE) (vs1 : List Nat) (σ2 : L2.St) (D : Addr) (N : Hp → Prop) (H4 : Hp) : Prop := ∃ W1 : Nat → Nat → Hp → Prop, (∃ m, W1 0 m H4) ∧ ∀ j k H, W1 j k H →
  (J1.stop j H ∧ N H) ∨ (J1.go j H ∧ ∃ Nx1 : Hp → Prop, (∀ H', Nx1 H' → ∃ k', k' < k ∧ W1 (j + 1) k' H') ∧ ∀ x H', J1.yld j H x H' → g1 x (wipe σ2 vs1) H' fun σ3 H5 => wipe σ3 vs1 = wipe σ2 vs1 ∧ tt1 σ3 H5 fun b H6 =>
    if b = true then te σ3 H6 (kApp D Nx1) else Nx1 H6)
def kLc2 (J : It) (g : TG) (tt : TT) (wi1 : TI) (g1 : TG) (tt1 : TT) (te : TE) (vs vs1 : List Nat) (σ : L2.St) (Q : VK) (H1 : Hp) : Prop := ∀ D, H1 D = none → ∃ W : Nat → Nat → Hp → Prop, (∃ m, W 0 m (upd H1 D (.lst []))) ∧ ∀ i m H, W i m H →
  (J.stop i H ∧ Q (.ref D) H) ∨ (J.go i H ∧ ∃ Nx : Hp → Prop, (∀ H', Nx H' → ∃ m', m' < m ∧ W (i + 1) m' H') ∧ ∀ x H', J.yld i H x H' → g x (wipe σ vs) H' fun σ2 H2 => wipe σ2 vs = wipe σ vs ∧ tt σ2 H2 fun b H3 =>
    if b = true then wi1 σ2 H3 fun J1 H4 => kIn J1 g1 tt1 te vs1 σ2 D Nx H4 else Nx H3)
theorem tLc2_k (wi : TI) (g : TG) (tt : TT) (wi1 : TI) (g1 : TG) (tt1 : TT) (te : TE) (vs vs1 : List Nat) : tLc2 wi g tt wi1 g1 tt1 te vs vs1 = fun σ H Q => wi σ H fun J H1 => kLc2 J g tt wi1 g1 tt1 te vs vs1 σ Q H1 := rfl
theorem kIn.it {J : It} {n : Nat} {G : Hp → Prop} {Y : Nat → Hp → V → Hp → Prop} (w : Walk J n G Y) {g : TG} {tt : TT} {te : TE} {vs : List Nat} {σ : L2.St} {D : Addr} {N : Hp → Prop} {H4 : Hp} (I : Nat → Hp → Prop) (h0 : I 0 H4) (hG : ∀ i H, I i H → G H)
    (hs : ∀ i x H H', i < n → I i H → Y i H x H' → g x (wipe σ vs) H' fun σ2 H2 => wipe σ2 vs = wipe σ vs ∧ tt σ2 H2 fun b H3 => if b = true then te σ2 H3 (kApp D (I (i + 1))) else I (i + 1) H3)
    (hd : ∀ H', I n H' → N H') : kIn J g tt te vs σ D N H4 := by
  refine ⟨fun i m H => m = n - i ∧ i ≤ n ∧ I i H, ⟨n, by simp, Nat.zero_le _, h0⟩, ?_⟩
  rintro i m H ⟨rfl, hi, p⟩
  have q := hG i H p
  by_cases hlt : i < n
  · exact .inr ⟨w.goes i H hlt q, I (i + 1), fun H' p' => ⟨n - (i + 1), by omega, rfl, hlt, p'⟩, fun x H' y => hs i x H H' hlt p (w.yields i H x H' hlt q y)⟩
  · have e : i = n := by omega
    subst e
    exact .inl ⟨w.stops H q, hd H p⟩
theorem kLc2.it {J : It} {n : Nat} {G : Hp → Prop} {Y : Nat → Hp → V → Hp → Prop} (w : Walk J n G Y) {g : TG} {tt : TT} {wi1 : TI} {g1 : TG} {tt1 : TT} {te : TE} {vs vs1 : List Nat} {σ : L2.St} {Q : VK} {H1 : Hp} (I : Addr → Nat → Hp → Prop) (h0 : ∀ D H', Fresh H1 H' D (.lst []) → I D 0 H') (hG : ∀ D i H, I D i H → G H)
    (hs : ∀ D i x H H', i < n → I D i H → Y i H x H' → g x (wipe σ vs) H' fun σ2 H2 => wipe σ2 vs = wipe σ vs ∧ tt σ2 H2 fun b H3 => if b = true then wi1 σ2 H3 fun J1 H4 => kIn J1 g1 tt1 te vs1 σ2 D (I D (i + 1)) H4 else I D (i + 1) H3)
    (hd : ∀ D H', I D n H' → Q (.ref D) H') : kLc2 J g tt wi1 g1 tt1 te vs vs1 σ Q H1 := fun D hD => by
  refine ⟨fun i m H => m = n - i ∧ i ≤ n ∧ I D i H, ⟨n, by simp, Nat.zero_le _, h0 D _ (fresh_upd hD)⟩, ?_⟩
  rintro i m H ⟨rfl, hi, p⟩
  have q := hG D i H p
  by_cases hlt : i < n
  · exact .inr ⟨w.goes i H hlt q, I D (i + 1), fun H' p' => ⟨n - (i + 1), by omega, rfl, hlt, p'⟩, fun x H' y => hs D i x H H' hlt p (w.yields i H x H' hlt q y)⟩
  · have e : i = n := by omega
    subst e
    exact .inl ⟨w.stops H q, hd D H p⟩
end Ow
end
section
set_option maxHeartbeats 2000000
/-! A displayed dict of one pair whose key is a tuple. -/
namespace Ow
open PySem PySem.Spec PyProof.Rows L2 StX
def tDispT (tk tv : TE) : TE := fun σ H Q => ∀ p, H p = none → tk σ (upd H p (.dT [])) fun x H1 => tv σ H1 fun y H2 => H2 p = some (.dT []) ∧ ∃ (k : List Key) (b : Addr), x = .ref b ∧ H2 b = some (.tup (k.map kV)) ∧ Q (.ref p) (upd H2 p (.dT [(k, y)]))
theorem pe_dispT {X : Cx} {pos : Pos} {k v : Expr} {tk tv : TE} (hu : X.A.units + 1 < cLine) (hk : PE X k tk) (hv : PE X v tv) : PE X (.Dict [some k] [v] pos) (tDispT tk tv) := by
  refine ⟨fun pins s σ H Q I q => ?_⟩
  have hn := I.hok.fresh (Nat.le_refl s.heap.objs.size)
  have I1 := I.laid (a := s.heap.objs.size) (o := .dT []) (h' := s.heap.push { cls := .type "dict", data := .dict #[] }) (t' := s.toks) (fun _ _ q => Heap.get?_push_of_some _ q) (Nat.le_refl _) (dt_empty s.heap I.big)
  rw [arm_eval_Dict, zip_pairTrees [some k] [v] X.env pos rfl rfl, dictDisplay_pairs (pairTrees [some k] [v] X.env pos) (by simp [pairTrees]) (by simp [pairTrees])]
  refine wpAny_bind (wpAny_standAt (wpAny_bind (wpAny_subDictH (knd := tupleKind (mixKind X.prog X.w)) (Q := fun d s' => wpAny (model X.prog X.w) X.A (pure (Value.ref d)) (EP X pins σ Q) X.xe s') (show X.A.units < cLine by omega) (by simp [pairTrees]) ?_)))
  have hp : PPs X pos [some k] [v] [(tk, tv)] := pps_cons hk hv pps_nil
  refine thn (hp.run pins _ σ _ (fun ps H2 => match ps with
    | [(x, y)] => H2 s.heap.objs.size = some (.dT []) ∧ ∃ (k : List Key) (b : Addr), x = .ref b ∧ H2 b = some (.tup (k.map kV)) ∧ Q (.ref s.heap.objs.size) (upd H2 s.heap.objs.size (.dT [(k, y)]))
    | _ => False) I1 (q _ hn)) fun vs s2 ⟨ps, H2, I2, rel, q2⟩ => ?_
  cases rel with
  | nil => exact False.elim q2
  | @cons p w ps ws hpw rest =>
    cases rest with
    | cons _ _ => exact False.elim q2
    | nil =>
      obtain ⟨x, y⟩ := p
      obtain ⟨u1, u2⟩ := w
      obtain ⟨e, ks, b, ex, eb, q3⟩ := q2
      obtain ⟨rx, ry⟩ := hpw
      subst ex
      cases (show u1 = Value.ref b from rx)
      obtain ⟨z, hd, xs, r0, dd⟩ := dt_of I2.hok e
      cases r0
      refine ⟨[(ks, b, u2)], ⟨rfl, rfl, key_of I2.hok eb, True.intro⟩, dd, fun h' tk' dd' hs => wpAny_pure ?_⟩
      obtain ⟨o, es, ep, hq, h2, h3, h4, _, h5⟩ := dd'
      refine ⟨.ref s.heap.objs.size, _, d_write (ob := .dT [(ks, y)]) I2 (by rw [e]; exact True.intro) hs ⟨o, hq⟩ ⟨by show 1 ≤ sizeLine; decide, hd, [(ks, b, u2)], .cons ⟨rfl, ?_, ry⟩ .nil, o, es, ep, hq, h2, h3, h4, h5⟩, rfl, q3⟩
      rw [upd_ne (ne_of eb e (fun z => nomatch z))]
      exact eb
end Ow
end
section
set_option maxHeartbeats 2000000
/-! A list's slice [::e], e 1 or -1. -/
namespace Ow
open PySem PySem.Spec PyProof.Rows L2 StX
def tSlSt (K : PySem.W.Frag) (te tt : TE) : TE := fun σ H Q => te σ H fun x H1 => tt σ H1 fun y H2 => ∃ (a : Addr) (xs : List V), x = .ref a ∧ SqL K H2 a xs ∧ ((y = .int 1 ∧ kN (.lst xs) Q H2) ∨ (y = .int (-1) ∧ kN (.lst xs.reverse) Q H2))
theorem pick_one (its : List Value) : PySem.slicePick its.toArray none none (some 1) = its.toArray := by
  have h : PySem.slicePick its.toArray none none (some 1) = PySem.slicePick its.toArray none none none := rfl
  rw [h, slicePick_cut]
  simp [HT.sIx]
theorem pick_back (its : List Value) : PySem.slicePick its.toArray none none (some (-1)) = its.reverse.toArray := by
  have hb : sliceBounds none none (some (-1)) its.toArray.size = ((its.length : Int) - 1, -1, -1) := by
    simp [sliceBounds]
  unfold PySem.slicePick
  rw [hb]
  unfold sliceRange
  have hc : (if (-1 : Int) > 0 then (if (its.length : Int) - 1 < -1 then (-1 - ((its.length : Int) - 1) + -1 - 1) / -1 else 0) else (if (its.length : Int) - 1 > -1 then ((its.length : Int) - 1 - -1 - -1 - 1) / (- -1) else 0)) = (its.length : Int) := by
    rw [if_neg (by decide)]
    by_cases h : (its.length : Int) - 1 > -1
    · rw [if_pos h]
      show ((its.length : Int) - 1 - -1 - -1 - 1) / 1 = _
      rw [Int.ediv_one]
      omega
    · rw [if_neg h]
      omega
  simp only at hc ⊢
  rw [hc, Int.toNat_natCast, List.filterMap_map]
  congr 1
  have key : ∀ n, n ≤ its.length → (List.range n).filterMap ((fun x => its.toArray[x]?) ∘ fun (k : Nat) => ((its.length : Int) - 1 + -1 * (k : Int)).toNat) = its.reverse.take n := fun n => by
    induction n with
    | zero => intro _; rfl
    | succ n ih =>
      intro h
      rw [List.range_succ, List.filterMap_append, ih (by omega), List.take_add_one, List.getElem?_reverse (by omega)]
      congr 1
      have e : (((fun x => its.toArray[x]?) ∘ fun (k : Nat) => ((its.length : Int) - 1 + -1 * (k : Int)).toNat) n) = its[its.length - 1 - n]? := by
        show its.toArray[((its.length : Int) - 1 + -1 * (n : Int)).toNat]? = _
        rw [show ((its.length : Int) - 1 + -1 * (n : Int)).toNat = its.length - 1 - n from by omega]
        simp
      rw [List.filterMap_cons, e, List.getElem?_eq_getElem (show its.length - 1 - n < its.length by omega)]
      rfl
  have z := key its.length (Nat.le_refl _)
  rw [List.take_of_length_le (by rw [List.length_reverse]; exact Nat.le_refl _)] at z
  exact z
theorem pe_sliceSt {X : Cx} {e st : Expr} {te tt : TE} {p2 pos : Pos} (he : PE X e te) (ht : PE X st tt) : PE X (.Subscript e (.Slice none none (some st) p2) pos) (tSlSt X.K te tt) := by
  refine ⟨fun pins s σ H Q I h => ?_⟩
  refine Subscript_ (thn (he.run pins s σ H _ I h) fun v s1 ⟨x, H1, I1, r1, q1⟩ => ?_)
  refine wpAny_Slice ?_
  rw [evalPart_none]
  refine wpAny_pure (wpAny_pure ?_)
  rw [evalPart_some]
  refine thn (ht.run pins s1 σ H1 _ I1 q1) fun u s2 ⟨y, H2, I2, r2, a, xs, ex, hx, q2⟩ => ?_
  subst ex
  cases r1
  have I3 : Inv X pins σ H2 { s2 with heap := s2.heap.push { cls := .type "slice", data := .fields #[.none, .none, u] } } := I2.kept (t' := s2.toks) fun b ob q => Heap.get?_push_of_some _ q
  obtain ⟨its, r, hl, hz⟩ := I3.list hx
  have fin : ∀ (k : Int) (ys : List V) (jts : List Value), IsPart u (some k) → k ≠ 0 → PySem.slicePick its.toArray none none (some k) = jts.toArray → Vals ys jts → ys.length ≤ xs.length → kN (.lst ys) Q H2 →
      wpAny (model X.prog X.w) X.A (getItem (.ref a) (.ref s2.heap.objs.size)) (EP X pins σ Q) X.xe { s2 with heap := s2.heap.push { cls := .type "slice", data := .fields #[.none, .none, u] } } := fun k ys jts hp k0 hpk rv hle q => by
    refine wpAny_getItem_list_slice hl.isList (Heap.IsSliceOf.new ..) .none .none hp (fun z => k0 (Option.some.inj z)) ?_ (by rw [List.size_toArray, ← r.length]; exact hz)
    rw [hpk]
    exact ⟨.ref _, _, I3.laid (t' := s2.toks) (o := .lst ys) (fun b ob q => Heap.get?_push_of_some _ q) (Nat.le_refl _) ⟨Nat.le_trans hle hz, _, 0, rv, Heap.get?_push_size _ rfl⟩, rfl, q _ (I3.hok.fresh (Nat.le_refl _))⟩
  have hid : typeLookup (.type "list") "__getitem__" = pure (some (.builtin _)) := slot_list_getitem.lookup
  have hrun : wpAny (model X.prog X.w) X.A (getItem (.ref a) (.ref s2.heap.objs.size)) (EP X pins σ Q) X.xe { s2 with heap := s2.heap.push { cls := .type "slice", data := .fields #[.none, .none, u] } } := by
    rcases q2 with ⟨rfl, q⟩ | ⟨rfl, q⟩
    · obtain ⟨t, rfl⟩ := r2
      exact fin 1 xs its (.int _ _) (by decide) (pick_one its) r (Nat.le_refl _) q
    · obtain ⟨t, rfl⟩ := r2
      exact fin (-1) xs.reverse its.reverse (.int _ _) (by decide) (pick_back its) (vals_rev r) (by rw [List.length_reverse]; exact Nat.le_refl _) q
  show wpAny (model X.prog X.w) X.A (subscriptTail e (.Slice none none (some st) p2) (.ref a) (.ref s2.heap.objs.size)) (EP X pins σ Q) X.xe { s2 with heap := s2.heap.push { cls := .type "slice", data := .fields #[.none, .none, u] } }
  exact tail_any (ops := [.ref a, .ref s2.heap.objs.size]) hl.isList.typeIs hid hrun (by with_unfolding_all rfl)
end Ow
end
section
set_option maxHeartbeats 2000000
/-! A text's and a tuple's slice [::e], e -1. -/
namespace Ow
open PySem PySem.Spec PyProof.Rows L2 StX
def revS (z : Str) : Str := ⟨z.cps.toList.reverse.toArray⟩
def tBackS (te tt : TE) : TE := fun σ H Q => te σ H fun x H1 => tt σ H1 fun y H2 => ∃ z, x = .str z ∧ y = .int (-1) ∧ z.length ≤ sizeLine ∧ Q (.str (revS z)) H2
def tBackT (K : PySem.W.Frag) (te tt : TE) : TE := fun σ H Q => te σ H fun x H1 => tt σ H1 fun y H2 => ∃ (a : Addr) (xs : List V), x = .ref a ∧ y = .int (-1) ∧ SqT K H2 a xs ∧ kN (.tup xs.reverse) Q H2
theorem pick_rev {α : Type} (xs : List α) : (List.range xs.length).filterMap (fun (k : Nat) => xs[((xs.length : Int) - 1 + -1 * (k : Int)).toNat]?) = xs.reverse := by
  have key : ∀ n, n ≤ xs.length → (List.range n).filterMap (fun (k : Nat) => xs[((xs.length : Int) - 1 + -1 * (k : Int)).toNat]?) = xs.reverse.take n := fun n => by
    induction n with
    | zero => intro _; rfl
    | succ n ih =>
      intro h
      rw [List.range_succ, List.filterMap_append, ih (by omega), List.take_add_one, List.getElem?_reverse (by omega)]
      congr 1
      rw [List.filterMap_cons, show ((xs.length : Int) - 1 + -1 * (n : Int)).toNat = xs.length - 1 - n from by omega, List.getElem?_eq_getElem (show xs.length - 1 - n < xs.length by omega)]
      rfl
  have z := key xs.length (Nat.le_refl _)
  rw [List.take_of_length_le (by rw [List.length_reverse]; exact Nat.le_refl _)] at z
  exact z
theorem range_back (n : Nat) : sliceRange ((n : Int) - 1) (-1) (-1) = (List.range n).map fun (k : Nat) => ((n : Int) - 1 + -1 * (k : Int)).toNat := by
  unfold sliceRange
  have hc : (if (-1 : Int) > 0 then (if (n : Int) - 1 < -1 then (-1 - ((n : Int) - 1) + -1 - 1) / -1 else 0) else (if (n : Int) - 1 > -1 then ((n : Int) - 1 - -1 - -1 - 1) / (- -1) else 0)) = (n : Int) := by
    rw [if_neg (by decide)]
    by_cases h : (n : Int) - 1 > -1
    · rw [if_pos h]
      show ((n : Int) - 1 - -1 - -1 - 1) / 1 = _
      rw [Int.ediv_one]
      omega
    · rw [if_neg h]
      omega
  simp only at hc ⊢
  rw [hc, Int.toNat_natCast]
theorem made_back (x : Str) (t u : Tok) : sliceMade x t none none (some (-1, u)) = .str (revS x) := by
  have e : slicePicked x none none (some (-1, u)) = (List.range x.length).map fun (k : Nat) => ((x.length : Int) - 1 + -1 * (k : Int)).toNat := range_back x.length
  unfold sliceMade
  rw [e]
  show (if ((-1 : Int) == 1 && _) = true then _ else _) = _
  rw [if_neg (by simp), List.filterMap_map]
  unfold revS
  congr 2
  have z := pick_rev x.cps.toList
  rw [Array.length_toList] at z
  rw [← z]
  congr 1
  refine congrArg (fun f => List.filterMap f _) (funext fun k => ?_)
  simp [Function.comp]
  rfl
theorem pe_backS {X : Cx} {e st : Expr} {te tt : TE} {p2 pos : Pos} (he : PE X e te) (ht : PE X st tt) : PE X (.Subscript e (.Slice none none (some st) p2) pos) (tBackS te tt) := by
  refine ⟨fun pins s σ H Q I h => ?_⟩
  refine Subscript_ (thn (he.run pins s σ H _ I h) fun v s1 ⟨x, H1, I1, r1, q1⟩ => ?_)
  refine wpAny_Slice ?_
  rw [evalPart_none]
  refine wpAny_pure (wpAny_pure ?_)
  rw [evalPart_some]
  refine thn (ht.run pins s1 σ H1 _ I1 q1) fun u s2 ⟨y, H2, I2, r2, z, ex, ey, hz, q2⟩ => ?_
  subst ex
  subst ey
  obtain ⟨t, rfl⟩ := r1
  obtain ⟨tu, rfl⟩ := r2
  have I3 : Inv X pins σ H2 { s2 with heap := s2.heap.push { cls := .type "slice", data := .fields #[.none, .none, .int (-1) tu] } } := I2.kept (t' := s2.toks) fun b ob q => Heap.get?_push_of_some _ q
  have hid : typeLookup (.type "str") "__getitem__" = pure (some (.builtin _)) := F.slot_str_getitem.lookup
  have hl : (revS z).length ≤ sizeLine := by
    have : (revS z).length = z.length := by
      show (z.cps.toList.reverse.toArray).size = z.cps.size
      simp
    rw [this]
    exact hz
  have hrun : wpAny (model X.prog X.w) X.A (getItem (.str z t) (.ref s2.heap.objs.size)) (EP X pins σ Q) X.xe { s2 with heap := s2.heap.push { cls := .type "slice", data := .fields #[.none, .none, .int (-1) tu] } } := by
    refine wpAny_getItem_str_slice (l := none) (u := none) (st := some (-1, tu)) (by
      obtain ⟨o, h1, h2, h3⟩ := Heap.IsSliceOf.new (h := s2.heap) Value.none Value.none (Value.int (-1) tu)
      exact ⟨o, h1, h2, h3⟩) rfl ?_
    rw [made_back]
    exact ⟨hl, .str _, H2, I3.tok _, ⟨_, rfl⟩, q2⟩
  show wpAny (model X.prog X.w) X.A (subscriptTail e (.Slice none none (some st) p2) (.str z t) (.ref s2.heap.objs.size)) (EP X pins σ Q) X.xe { s2 with heap := s2.heap.push { cls := .type "slice", data := .fields #[.none, .none, .int (-1) tu] } }
  exact tail_any (ops := [.str z t, .ref s2.heap.objs.size]) (typeIs_str _ _ _) hid hrun (by with_unfolding_all rfl)
section
variable {prog : Program} {w : World} {A : Around} {E : Value → Shared → Prop} {s : Shared}
theorem adjust_back (n : Nat) : Builtin.Slice.sliceAdjust none none (-1) (n : Int) = ((n : Int) - 1, -1) := by
  unfold Builtin.Slice.sliceAdjust
  rfl
theorem places_back (n : Nat) : Builtin.Slice.slicePlaces ((n : Int) - 1) (-1) (-1) = n := by
  unfold Builtin.Slice.slicePlaces
  rw [if_neg (by decide)]
  by_cases h : (n : Int) - 1 > -1
  · rw [if_pos h]
    show (((n : Int) - 1 - -1 - 1) / 1 + 1).toNat = n
    rw [Int.ediv_one]
    omega
  · rw [if_neg h]
    omega
theorem tupBack {t sl : Addr} {items : Array Value} {tu : Tok} {Q : Value → Shared → Prop} (ht : IsTup s.heap t items) (hs : s.heap.IsSliceOf sl .none .none (.int (-1) tu))
    (h : Q (.ref s.heap.objs.size) { s with heap := s.heap.push { cls := .type "tuple", data := .seq items.toList.reverse.toArray } }) (hsz : items.size ≤ sizeLine) : wpAny (model prog w) A (getItem (.ref t) (.ref sl)) Q E s := by
  have small : sizeOk (.seq items.toList.reverse.toArray) := by
    show items.toList.reverse.toArray.size ≤ sizeLine
    rw [List.size_toArray, List.length_reverse, Array.length_toList]; exact hsz
  obtain ⟨os, hos, hcs, hds⟩ := id hs
  have isl : s.TypeIs (.ref sl) "slice" := ⟨os, hos, hcs⟩
  unfold getItem
  (try with_reducible refine wpAny_holding ?_); (first | refine wpAny_bind (wpAny_pure ?_) | skip)
  refine wpAny_bind (wpAny_sequenceKey ht.typeIs (by decide) (wpAny_bind (wpAny_callSpecial?_slot (name := Str.ofString "__getitem__") ht.typeIs PyProof.Rows.slot_tuple_getitem (wpAny_call_entry PyProof.Rows.slot_tuple_getitem ht.typeIs entry_tuple_getitem ?_ (args_tuple_getitem _ _)))))
  show wpAny (model prog w) _ (Builtin.Tuple.tupleItemsOf (.ref t) >>= _) _ _ s
  refine wpAny_bind (tupleItemsOf_ ht (wpAny_bind (wpAny_typeOf isl ?_)))
  rw [if_pos (by decide : _ = true)]
  refine wpAny_bind ?_
  unfold Builtin.Slice.sliceApplied Builtin.Slice.sliceFields
  refine wpAny_bind (wpAny_bind (wpAny_field hos hds (x := .none) rfl (wpAny_bind (wpAny_field hos hds (x := .none) rfl (wpAny_bind (wpAny_field hos hds (x := .int (-1) tu) rfl (wpAny_pure ?_)))))))
  refine wpAny_bind (PyProof.Rows.slicePart_int ?_)
  show wpAny (model prog w) _ (if ((-1 : Int) == 0) = true then _ else _) _ _ s
  rw [if_neg (by decide : ¬ ((-1 : Int) == 0) = true)]
  refine wpAny_bind (PyProof.Rows.slicePart_none (wpAny_bind (PyProof.Rows.slicePart_none (wpAny_bind (wpAny_pure ?_)))))
  show wpAny (model prog w) _ (match Builtin.Slice.sliceAdjust none none (-1) (items.size : Int) with | (lo, hi) => pure (lo, (-1 : Int), Builtin.Slice.slicePlaces lo hi (-1))) _ _ s
  rw [adjust_back]
  show wpAny (model prog w) _ (pure ((items.size : Int) - 1, (-1 : Int), Builtin.Slice.slicePlaces ((items.size : Int) - 1) (-1) (-1))) _ _ s
  rw [places_back]
  refine wpAny_pure ?_
  have hno : ¬ (((((items.size : Int) - 1) == 0) && ((-1 : Int) == 1) && (items.size == items.size)) = true) := by simp
  show wpAny (model prog w) _ (if ((((items.size : Int) - 1) == 0) && ((-1 : Int) == 1) && (items.size == items.size)) = true then _ else _) _ _ s
  rw [if_neg hno]
  have ep : ((List.range items.size).filterMap fun (k : Nat) => items[(((items.size : Int) - 1) + (k : Int) * (-1)).toNat]?).toArray = items.toList.reverse.toArray := by
    have z := pick_rev items.toList
    rw [Array.length_toList] at z
    rw [← z]
    congr 1
    refine congrArg (fun f => List.filterMap f _) (funext fun k => ?_)
    rw [Int.mul_comm]
    simp
  rw [ep]
  first
    | (exact wpAny_bind (m := Builtin.Tuple.tupleExact _) (wpAny_newObj_type (wpAny_pure ⟨_, rfl, wpAny_pure h⟩) small))
    | (exact wpAny_bind (m := Builtin.Tuple.tupleExact _) (wpAny_newObj_type (wpAny_bind (wpAny_pure (wpAny_pure ⟨_, rfl, wpAny_pure h⟩))) small))
    | (exact wpAny_bind (wpAny_bind (m := Builtin.Tuple.tupleExact _) (wpAny_newObj_type (wpAny_pure (wpAny_pure ⟨_, rfl, wpAny_pure h⟩)) small)))
    | (exact wpAny_bind (wpAny_bind (m := Builtin.Tuple.tupleExact _) (wpAny_newObj_type (wpAny_pure ⟨_, rfl, wpAny_pure h⟩) small)))
end
theorem pe_backT {X : Cx} {e st : Expr} {te tt : TE} {p2 pos : Pos} (he : PE X e te) (ht : PE X st tt) : PE X (.Subscript e (.Slice none none (some st) p2) pos) (tBackT X.K te tt) := by
  refine ⟨fun pins s σ H Q I h => ?_⟩
  refine Subscript_ (thn (he.run pins s σ H _ I h) fun v s1 ⟨x, H1, I1, r1, q1⟩ => ?_)
  refine wpAny_Slice ?_
  rw [evalPart_none]
  refine wpAny_pure (wpAny_pure ?_)
  rw [evalPart_some]
  refine thn (ht.run pins s1 σ H1 _ I1 q1) fun u s2 ⟨y, H2, I2, r2, a, xs, ex, ey, hx, q2⟩ => ?_
  subst ex
  subst ey
  cases r1
  obtain ⟨tu, rfl⟩ := r2
  have I3 : Inv X pins σ H2 { s2 with heap := s2.heap.push { cls := .type "slice", data := .fields #[.none, .none, .int (-1) tu] } } := I2.kept (t' := s2.toks) fun b ob q => Heap.get?_push_of_some _ q
  obtain ⟨its, r, hl, hz⟩ := I3.tuple hx
  have hid : typeLookup (.type "tuple") "__getitem__" = pure (some (.builtin _)) := PyProof.Rows.slot_tuple_getitem.lookup
  have hrun : wpAny (model X.prog X.w) X.A (getItem (.ref a) (.ref s2.heap.objs.size)) (EP X pins σ Q) X.xe { s2 with heap := s2.heap.push { cls := .type "slice", data := .fields #[.none, .none, .int (-1) tu] } } := by
    refine tupBack hl (Heap.IsSliceOf.new ..) ?_ (by rw [List.size_toArray, ← r.length]; exact hz)
    exact ⟨.ref _, _, I3.laid (t' := s2.toks) (o := .tup xs.reverse) (fun b ob q => Heap.get?_push_of_some _ q) (Nat.le_refl _) ⟨by rw [List.length_reverse]; exact hz, _, vals_rev r, IsTup.new _ _⟩, rfl, q2 _ (I3.hok.fresh (Nat.le_refl _))⟩
  show wpAny (model X.prog X.w) X.A (subscriptTail e (.Slice none none (some st) p2) (.ref a) (.ref s2.heap.objs.size)) (EP X pins σ Q) X.xe { s2 with heap := s2.heap.push { cls := .type "slice", data := .fields #[.none, .none, .int (-1) tu] } }
  exact tail_any (ops := [.ref a, .ref s2.heap.objs.size]) hl.typeIs hid hrun (by with_unfolding_all rfl)
end Ow
end
section
/-! Rules for a comprehension's body that name K. -/
namespace Ow
open PySem PySem.Spec PyProof.Rows L2 StX
section
variable {X : Cx} {K : PySem.W.Frag}
theorem ix_tupK (hK : X.K = K) : IxR X (rIxT K) := by
  subst hK
  exact ix_tup
theorem op_notInDTK (hK : X.K = K) (hu : X.A.units + 65 < cLine) : OpR X (compareOp .NotIn) (rInDT K true) := by
  subst hK
  exact op_notInDT hu
theorem op_inDTK (hK : X.K = K) (hu : X.A.units + 65 < cLine) : OpR X (compareOp .In) (rInDT K false) := by
  subst hK
  exact op_inDT hu
end
end Ow
end
section
namespace Pf
open PySem PySem.Spec PyProof.Rows L2 Ow
def topS (i : Nat) : Stmt := PySem.Challenge.pw_heldfloods_k23_whole_pictures_flipped.main.body.getD i (.Pass ⟨0, 0, 0, 0⟩)
abbrev s__law_pen : Stmt := topS 36
theorem sc__law_pen : FnScope ["_law_script"] ["_law_script"] (defScope s__law_pen) := ⟨rfl, rfl, rfl, by decide +kernel, rfl, by decide +kernel, by decide +kernel⟩
abbrev s__law_draw : Stmt := topS 37
theorem sc__law_draw : FnScope ["_law_pen_here", "_law_many", "_law_digit", "_law_begun", "_law_cell", "_law_great", "_law_mixed"] ["_law_pen_here", "_law_many"] (defScope s__law_draw) := ⟨rfl, rfl, rfl, by decide +kernel, rfl, by decide +kernel, by decide +kernel⟩
abbrev s__law_pick : Stmt := topS 38
theorem sc__law_pick : FnScope ["_law_pen_here", "_law_some"] ["_law_pen_here", "_law_some"] (defScope s__law_pick) := ⟨rfl, rfl, rfl, by decide +kernel, rfl, by decide +kernel, by decide +kernel⟩
abbrev s__law_lines : Stmt := topS 39
theorem sc__law_lines : FnScope ["_law_pen_here", "_law_wide", "_law_tall", "_law_some", "_law_found", "_law_j", "_law_i"] ["_law_pen_here", "_law_wide", "_law_tall"] (defScope s__law_lines) := ⟨rfl, rfl, rfl, by decide +kernel, rfl, by decide +kernel, by decide +kernel⟩
abbrev s_is_int : Stmt := topS 11
theorem sc_is_int : FnScope ["value"] ["value"] (defScope s_is_int) := ⟨rfl, rfl, rfl, by decide +kernel, rfl, by decide +kernel, by decide +kernel⟩
abbrev s_is_int_in : Stmt := topS 12
theorem sc_is_int_in : FnScope ["value", "low", "beyond"] ["value", "low", "beyond"] (defScope s_is_int_in) := ⟨rfl, rfl, rfl, by decide +kernel, rfl, by decide +kernel, by decide +kernel⟩
abbrev s_is_colour : Stmt := topS 13
theorem sc_is_colour : FnScope ["value"] ["value"] (defScope s_is_colour) := ⟨rfl, rfl, rfl, by decide +kernel, rfl, by decide +kernel, by decide +kernel⟩
abbrev s_check_colour : Stmt := topS 14
theorem sc_check_colour : FnScope ["value"] ["value"] (defScope s_check_colour) := ⟨rfl, rfl, rfl, by decide +kernel, rfl, by decide +kernel, by decide +kernel⟩
abbrev s_is_row : Stmt := topS 19
theorem sc_is_row : FnScope ["value", "most"] ["value", "most"] (defScope s_is_row) := ⟨rfl, rfl, rfl, by decide +kernel, rfl, by decide +kernel, by decide +kernel⟩
abbrev s_wrong_row : Stmt := topS 18
theorem sc_wrong_row : FnScope ["rows", "most", "at", "row"] ["rows", "most"] (defScope s_wrong_row) := ⟨rfl, rfl, rfl, by decide +kernel, rfl, by decide +kernel, by decide +kernel⟩
abbrev s_is_pixel : Stmt := topS 20
theorem sc_is_pixel : FnScope ["rows", "x", "y"] ["rows", "x", "y"] (defScope s_is_pixel) := ⟨rfl, rfl, rfl, by decide +kernel, rfl, by decide +kernel, by decide +kernel⟩
abbrev s_check_pixel : Stmt := topS 21
theorem sc_check_pixel : FnScope ["rows", "x", "y"] ["rows", "x", "y"] (defScope s_check_pixel) := ⟨rfl, rfl, rfl, by decide +kernel, rfl, by decide +kernel, by decide +kernel⟩
abbrev s_add_seeds : Stmt := topS 24
theorem sc_add_seeds : FnScope ["seeds", "row", "y", "begin", "end", "sign", "at", "behind"] ["seeds", "row", "y", "begin", "end", "sign"] (defScope s_add_seeds) := ⟨rfl, rfl, rfl, by decide +kernel, rfl, by decide +kernel, by decide +kernel⟩
abbrev s_marked_region : Stmt := topS 23
theorem sc_marked_region : FnScope ["rows", "x", "y", "sign", "new", "seeds", "row", "begin", "behind", "end"] ["rows", "x", "y"] (defScope s_marked_region) := ⟨rfl, rfl, rfl, by decide +kernel, rfl, by decide +kernel, by decide +kernel⟩
abbrev s_run_end : Stmt := topS 25
theorem sc_run_end : FnScope ["row", "x"] ["row", "x"] (defScope s_run_end) := ⟨rfl, rfl, rfl, by decide +kernel, rfl, by decide +kernel, by decide +kernel⟩
abbrev s_runs : Stmt := topS 26
theorem sc_runs : FnScope ["rows", "sign", "found", "y", "row", "begin", "end"] ["rows", "sign"] (defScope s_runs) := ⟨rfl, rfl, rfl, by decide +kernel, rfl, by decide +kernel, by decide +kernel⟩
abbrev s_region_pixels : Stmt := topS 27
theorem sc_region_pixels : FnScope ["rows", "x", "y", "marked", "line", "begin", "end", "at"] ["rows", "x", "y"] (defScope s_region_pixels) := ⟨rfl, rfl, rfl, by decide +kernel, rfl, by decide +kernel, by decide +kernel⟩
abbrev s_Picture_init : Stmt := inClass (topS 29) 1
theorem sc_Picture_init : FnScope ["self", "rows", "wrong"] ["self", "rows"] (defScope s_Picture_init) := ⟨rfl, rfl, rfl, by decide +kernel, rfl, by decide +kernel, by decide +kernel⟩
abbrev s_Picture_rows : Stmt := inClass (topS 29) 3
theorem sc_Picture_rows : FnScope ["self"] ["self"] (defScope s_Picture_rows) := ⟨rfl, rfl, rfl, by decide +kernel, rfl, by decide +kernel, by decide +kernel⟩
abbrev s_Picture_width : Stmt := inClass (topS 29) 4
theorem sc_Picture_width : FnScope ["self"] ["self"] (defScope s_Picture_width) := ⟨rfl, rfl, rfl, by decide +kernel, rfl, by decide +kernel, by decide +kernel⟩
abbrev s_Picture_height : Stmt := inClass (topS 29) 6
theorem sc_Picture_height : FnScope ["self"] ["self"] (defScope s_Picture_height) := ⟨rfl, rfl, rfl, by decide +kernel, rfl, by decide +kernel, by decide +kernel⟩
abbrev s_Picture_area : Stmt := inClass (topS 29) 11
theorem sc_Picture_area : FnScope ["self", "colour", "row"] ["self", "colour"] (defScope s_Picture_area) := ⟨rfl, rfl, rfl, by decide +kernel, rfl, by decide +kernel, by decide +kernel⟩
abbrev s_Picture_eq : Stmt := inClass (topS 29) 12
theorem sc_Picture_eq : FnScope ["self", "other"] ["self", "other"] (defScope s_Picture_eq) := ⟨rfl, rfl, rfl, by decide +kernel, rfl, by decide +kernel, by decide +kernel⟩
abbrev s_row_pairs : Stmt := topS 30
theorem sc_row_pairs : FnScope ["one", "other"] ["one", "other"] (defScope s_row_pairs) := ⟨rfl, rfl, rfl, by decide +kernel, rfl, by decide +kernel, by decide +kernel⟩
abbrev s_lies_within : Stmt := topS 31
theorem sc_lies_within : FnScope ["row", "whole", "sign", "beside"] ["row", "whole"] (defScope s_lies_within) := ⟨rfl, rfl, rfl, by decide +kernel, rfl, by decide +kernel, by decide +kernel⟩
abbrev s_Picture_le : Stmt := inClass (topS 29) 13
theorem sc_Picture_le : FnScope ["self", "other", "row", "whole"] ["self", "other"] (defScope s_Picture_le) := ⟨rfl, rfl, rfl, by decide +kernel, rfl, by decide +kernel, by decide +kernel⟩
abbrev s_Picture_lt : Stmt := inClass (topS 29) 14
theorem sc_Picture_lt : FnScope ["self", "other"] ["self", "other"] (defScope s_Picture_lt) := ⟨rfl, rfl, rfl, by decide +kernel, rfl, by decide +kernel, by decide +kernel⟩
abbrev s_laid_over : Stmt := topS 32
theorem sc_laid_over : FnScope ["row", "under", "sign", "below"] ["row", "under"] (defScope s_laid_over) := ⟨rfl, rfl, rfl, by decide +kernel, rfl, by decide +kernel, by decide +kernel⟩
abbrev s_what_agrees : Stmt := topS 33
theorem sc_what_agrees : FnScope ["row", "under", "sign", "below"] ["row", "under"] (defScope s_what_agrees) := ⟨rfl, rfl, rfl, by decide +kernel, rfl, by decide +kernel, by decide +kernel⟩
abbrev s_what_differs : Stmt := topS 34
theorem sc_what_differs : FnScope ["row", "under", "laid", "sign", "below", "upper"] ["row", "under"] (defScope s_what_differs) := ⟨rfl, rfl, rfl, by decide +kernel, rfl, by decide +kernel, by decide +kernel⟩
abbrev s_Picture_or : Stmt := inClass (topS 29) 17
theorem sc_Picture_or : FnScope ["self", "other", "row", "under"] ["self", "other"] (defScope s_Picture_or) := ⟨rfl, rfl, rfl, by decide +kernel, rfl, by decide +kernel, by decide +kernel⟩
abbrev s_Picture_and : Stmt := inClass (topS 29) 18
theorem sc_Picture_and : FnScope ["self", "other", "row", "under"] ["self", "other"] (defScope s_Picture_and) := ⟨rfl, rfl, rfl, by decide +kernel, rfl, by decide +kernel, by decide +kernel⟩
abbrev s_Picture_xor : Stmt := inClass (topS 29) 19
theorem sc_Picture_xor : FnScope ["self", "other", "row", "under"] ["self", "other"] (defScope s_Picture_xor) := ⟨rfl, rfl, rfl, by decide +kernel, rfl, by decide +kernel, by decide +kernel⟩
abbrev s_check_axis : Stmt := topS 15
theorem sc_check_axis : FnScope ["value"] ["value"] (defScope s_check_axis) := ⟨rfl, rfl, rfl, by decide +kernel, rfl, by decide +kernel, by decide +kernel⟩
abbrev s_flipped_rows : Stmt := topS 22
theorem sc_flipped_rows : FnScope ["rows", "axis", "row"] ["rows", "axis"] (defScope s_flipped_rows) := ⟨rfl, rfl, rfl, by decide +kernel, rfl, by decide +kernel, by decide +kernel⟩
abbrev s_Picture_flipped : Stmt := inClass (topS 29) 23
theorem sc_Picture_flipped : FnScope ["self", "axis"] ["self", "axis"] (defScope s_Picture_flipped) := ⟨rfl, rfl, rfl, by decide +kernel, rfl, by decide +kernel, by decide +kernel⟩
abbrev s_Picture_invert : Stmt := inClass (topS 29) 24
theorem sc_Picture_invert : FnScope ["self"] ["self"] (defScope s_Picture_invert) := ⟨rfl, rfl, rfl, by decide +kernel, rfl, by decide +kernel, by decide +kernel⟩
abbrev s_Picture_region : Stmt := inClass (topS 29) 25
theorem sc_Picture_region : FnScope ["self", "x", "y"] ["self", "x", "y"] (defScope s_Picture_region) := ⟨rfl, rfl, rfl, by decide +kernel, rfl, by decide +kernel, by decide +kernel⟩
abbrev s__law_plain_right : Stmt := topS 40
theorem sc__law_plain_right : FnScope ["_law_made", "_law_lines_here", "_law_across", "_law_down", "_law_paint", "_law_line"] ["_law_made", "_law_lines_here"] (defScope s__law_plain_right) := ⟨rfl, rfl, rfl, by decide +kernel, rfl, by decide +kernel, by decide +kernel⟩
abbrev s__law_region_right : Stmt := topS 41
theorem sc__law_region_right : FnScope ["_law_pen_here", "_law_made", "_law_lines_here", "_law_wide", "_law_tall", "_law_i", "_law_j", "_law_found", "_law_across", "_law_down", "_law_pixel"] ["_law_pen_here", "_law_made", "_law_lines_here"] (defScope s__law_region_right) := ⟨rfl, rfl, rfl, by decide +kernel, rfl, by decide +kernel, by decide +kernel⟩
abbrev s__law_two_right : Stmt := topS 42
theorem sc__law_two_right : FnScope ["_law_one", "_law_two", "_law_turn", "_law_a", "_law_b"] ["_law_one", "_law_two"] (defScope s__law_two_right) := ⟨rfl, rfl, rfl, by decide +kernel, rfl, by decide +kernel, by decide +kernel⟩
abbrev s_law : Stmt := topS 43
theorem sc_law : FnScope ["_law_script", "_law_pen_here", "_law_turn", "_law_wide", "_law_tall", "_law_lines_here", "_law_made", "_law_other", "_law_again"] ["_law_script"] (defScope s_law) := ⟨rfl, rfl, rfl, by decide +kernel, rfl, by decide +kernel, by decide +kernel⟩
structure Adr where
  _law_pen : Addr
  _law_draw : Addr
  _law_pick : Addr
  _law_lines : Addr
  is_int : Addr
  is_int_in : Addr
  is_colour : Addr
  check_colour : Addr
  is_row : Addr
  wrong_row : Addr
  is_pixel : Addr
  check_pixel : Addr
  add_seeds : Addr
  marked_region : Addr
  run_end : Addr
  runs : Addr
  region_pixels : Addr
  Picture_init : Addr
  Picture_rows : Addr
  Picture_width : Addr
  Picture_height : Addr
  Picture_area : Addr
  Picture_eq : Addr
  row_pairs : Addr
  lies_within : Addr
  Picture_le : Addr
  Picture_lt : Addr
  laid_over : Addr
  what_agrees : Addr
  what_differs : Addr
  Picture_or : Addr
  Picture_and : Addr
  Picture_xor : Addr
  check_axis : Addr
  flipped_rows : Addr
  Picture_flipped : Addr
  Picture_invert : Addr
  Picture_region : Addr
  _law_plain_right : Addr
  _law_region_right : Addr
  _law_two_right : Addr
  law : Addr
  Picture : Addr
  pr_Picture_rows : Addr
  pr_Picture_width : Addr
  pr_Picture_height : Addr
  HoldError : Addr
  Unlike : Addr
  MARKt : Addr
  AXES : Addr
structure Txt (K : PySem.W.Frag) (mg : Str → Option Value) (a : Adr) : Prop where
  n_len : mg "len" = none
  n_int : mg "int" = none
  n_abs : mg "abs" = none
  n_list : mg "list" = none
  n_range : mg "range" = none
  n_repr : mg "repr" = none
  n_tuple : mg "tuple" = none
  n_str : mg "str" = none
  n_isinstance : mg "isinstance" = none
  n_bool : mg "bool" = none
  n_enumerate : mg "enumerate" = none
  n_zip : mg "zip" = none
  n_all : mg "all" = none
  n_sum : mg "sum" = none
  d__law_pen : FnT K "_law_pen" "_law_pen" s__law_pen [] a._law_pen
  m__law_pen : mg "_law_pen" = some (.ref a._law_pen)
  k__law_pen : PySem.W.keepIn K (.ref a._law_pen) = true
  d__law_draw : FnT K "_law_draw" "_law_draw" s__law_draw [] a._law_draw
  m__law_draw : mg "_law_draw" = some (.ref a._law_draw)
  k__law_draw : PySem.W.keepIn K (.ref a._law_draw) = true
  d__law_pick : FnT K "_law_pick" "_law_pick" s__law_pick [] a._law_pick
  m__law_pick : mg "_law_pick" = some (.ref a._law_pick)
  k__law_pick : PySem.W.keepIn K (.ref a._law_pick) = true
  d__law_lines : FnT K "_law_lines" "_law_lines" s__law_lines [] a._law_lines
  m__law_lines : mg "_law_lines" = some (.ref a._law_lines)
  k__law_lines : PySem.W.keepIn K (.ref a._law_lines) = true
  d_is_int : FnT K "is_int" "is_int" s_is_int [] a.is_int
  m_is_int : mg "is_int" = some (.ref a.is_int)
  k_is_int : PySem.W.keepIn K (.ref a.is_int) = true
  d_is_int_in : FnT K "is_int_in" "is_int_in" s_is_int_in [] a.is_int_in
  m_is_int_in : mg "is_int_in" = some (.ref a.is_int_in)
  k_is_int_in : PySem.W.keepIn K (.ref a.is_int_in) = true
  d_is_colour : FnT K "is_colour" "is_colour" s_is_colour [] a.is_colour
  m_is_colour : mg "is_colour" = some (.ref a.is_colour)
  k_is_colour : PySem.W.keepIn K (.ref a.is_colour) = true
  d_check_colour : FnT K "check_colour" "check_colour" s_check_colour [] a.check_colour
  m_check_colour : mg "check_colour" = some (.ref a.check_colour)
  k_check_colour : PySem.W.keepIn K (.ref a.check_colour) = true
  d_is_row : FnT K "is_row" "is_row" s_is_row [] a.is_row
  m_is_row : mg "is_row" = some (.ref a.is_row)
  k_is_row : PySem.W.keepIn K (.ref a.is_row) = true
  d_wrong_row : FnT K "wrong_row" "wrong_row" s_wrong_row [] a.wrong_row
  m_wrong_row : mg "wrong_row" = some (.ref a.wrong_row)
  k_wrong_row : PySem.W.keepIn K (.ref a.wrong_row) = true
  d_is_pixel : FnT K "is_pixel" "is_pixel" s_is_pixel [] a.is_pixel
  m_is_pixel : mg "is_pixel" = some (.ref a.is_pixel)
  k_is_pixel : PySem.W.keepIn K (.ref a.is_pixel) = true
  d_check_pixel : FnT K "check_pixel" "check_pixel" s_check_pixel [] a.check_pixel
  m_check_pixel : mg "check_pixel" = some (.ref a.check_pixel)
  k_check_pixel : PySem.W.keepIn K (.ref a.check_pixel) = true
  d_add_seeds : FnT K "add_seeds" "add_seeds" s_add_seeds [] a.add_seeds
  m_add_seeds : mg "add_seeds" = some (.ref a.add_seeds)
  k_add_seeds : PySem.W.keepIn K (.ref a.add_seeds) = true
  d_marked_region : FnT K "marked_region" "marked_region" s_marked_region [] a.marked_region
  m_marked_region : mg "marked_region" = some (.ref a.marked_region)
  k_marked_region : PySem.W.keepIn K (.ref a.marked_region) = true
  d_run_end : FnT K "run_end" "run_end" s_run_end [] a.run_end
  m_run_end : mg "run_end" = some (.ref a.run_end)
  k_run_end : PySem.W.keepIn K (.ref a.run_end) = true
  d_runs : FnT K "runs" "runs" s_runs [] a.runs
  m_runs : mg "runs" = some (.ref a.runs)
  k_runs : PySem.W.keepIn K (.ref a.runs) = true
  d_region_pixels : FnT K "region_pixels" "region_pixels" s_region_pixels [] a.region_pixels
  m_region_pixels : mg "region_pixels" = some (.ref a.region_pixels)
  k_region_pixels : PySem.W.keepIn K (.ref a.region_pixels) = true
  d_Picture_init : FnT K "__init__" "Picture.__init__" s_Picture_init [] a.Picture_init
  d_Picture_rows : FnT K "rows" "Picture.rows" s_Picture_rows [] a.Picture_rows
  d_Picture_width : FnT K "width" "Picture.width" s_Picture_width [] a.Picture_width
  d_Picture_height : FnT K "height" "Picture.height" s_Picture_height [] a.Picture_height
  d_Picture_area : FnT K "area" "Picture.area" s_Picture_area [] a.Picture_area
  d_Picture_eq : FnT K "__eq__" "Picture.__eq__" s_Picture_eq [] a.Picture_eq
  d_row_pairs : FnT K "row_pairs" "row_pairs" s_row_pairs [] a.row_pairs
  m_row_pairs : mg "row_pairs" = some (.ref a.row_pairs)
  k_row_pairs : PySem.W.keepIn K (.ref a.row_pairs) = true
  d_lies_within : FnT K "lies_within" "lies_within" s_lies_within [] a.lies_within
  m_lies_within : mg "lies_within" = some (.ref a.lies_within)
  k_lies_within : PySem.W.keepIn K (.ref a.lies_within) = true
  d_Picture_le : FnT K "__le__" "Picture.__le__" s_Picture_le [] a.Picture_le
  d_Picture_lt : FnT K "__lt__" "Picture.__lt__" s_Picture_lt [] a.Picture_lt
  d_laid_over : FnT K "laid_over" "laid_over" s_laid_over [] a.laid_over
  m_laid_over : mg "laid_over" = some (.ref a.laid_over)
  k_laid_over : PySem.W.keepIn K (.ref a.laid_over) = true
  d_what_agrees : FnT K "what_agrees" "what_agrees" s_what_agrees [] a.what_agrees
  m_what_agrees : mg "what_agrees" = some (.ref a.what_agrees)
  k_what_agrees : PySem.W.keepIn K (.ref a.what_agrees) = true
  d_what_differs : FnT K "what_differs" "what_differs" s_what_differs [] a.what_differs
  m_what_differs : mg "what_differs" = some (.ref a.what_differs)
  k_what_differs : PySem.W.keepIn K (.ref a.what_differs) = true
  d_Picture_or : FnT K "__or__" "Picture.__or__" s_Picture_or [] a.Picture_or
  d_Picture_and : FnT K "__and__" "Picture.__and__" s_Picture_and [] a.Picture_and
  d_Picture_xor : FnT K "__xor__" "Picture.__xor__" s_Picture_xor [] a.Picture_xor
  d_check_axis : FnT K "check_axis" "check_axis" s_check_axis [] a.check_axis
  m_check_axis : mg "check_axis" = some (.ref a.check_axis)
  k_check_axis : PySem.W.keepIn K (.ref a.check_axis) = true
  d_flipped_rows : FnT K "flipped_rows" "flipped_rows" s_flipped_rows [] a.flipped_rows
  m_flipped_rows : mg "flipped_rows" = some (.ref a.flipped_rows)
  k_flipped_rows : PySem.W.keepIn K (.ref a.flipped_rows) = true
  d_Picture_flipped : FnT K "flipped" "Picture.flipped" s_Picture_flipped [] a.Picture_flipped
  d_Picture_invert : FnT K "__invert__" "Picture.__invert__" s_Picture_invert [] a.Picture_invert
  d_Picture_region : FnT K "region" "Picture.region" s_Picture_region [] a.Picture_region
  d__law_plain_right : FnT K "_law_plain_right" "_law_plain_right" s__law_plain_right [] a._law_plain_right
  m__law_plain_right : mg "_law_plain_right" = some (.ref a._law_plain_right)
  k__law_plain_right : PySem.W.keepIn K (.ref a._law_plain_right) = true
  d__law_region_right : FnT K "_law_region_right" "_law_region_right" s__law_region_right [] a._law_region_right
  m__law_region_right : mg "_law_region_right" = some (.ref a._law_region_right)
  k__law_region_right : PySem.W.keepIn K (.ref a._law_region_right) = true
  d__law_two_right : FnT K "_law_two_right" "_law_two_right" s__law_two_right [] a._law_two_right
  m__law_two_right : mg "_law_two_right" = some (.ref a._law_two_right)
  k__law_two_right : PySem.W.keepIn K (.ref a._law_two_right) = true
  d_law : FnT K "law" "law" s_law [] a.law
  m_law : mg "law" = some (.ref a.law)
  k_law : PySem.W.keepIn K (.ref a.law) = true
  m_Picture : mg "Picture" = some (.ref a.Picture)
  c_Picture : ClsF K a.Picture
  M_Picture : Mk K a.Picture a.Picture_init
  a_Picture__rows : NoAttr K a.Picture "_rows"
  p_Picture_rows : PropR K a.Picture "rows" a.pr_Picture_rows a.Picture_rows
  p_Picture_width : PropR K a.Picture "width" a.pr_Picture_width a.Picture_width
  p_Picture_height : PropR K a.Picture "height" a.pr_Picture_height a.Picture_height
  o_Picture_eq : PySem.W.findIn K (.ref a.Picture) "__eq__" = some (some (.ref a.Picture_eq))
  f_Picture_eq : PySem.W.isFn K (.ref a.Picture_eq) = true
  o_Picture_le : PySem.W.findIn K (.ref a.Picture) "__le__" = some (some (.ref a.Picture_le))
  f_Picture_le : PySem.W.isFn K (.ref a.Picture_le) = true
  o_Picture_lt : PySem.W.findIn K (.ref a.Picture) "__lt__" = some (some (.ref a.Picture_lt))
  f_Picture_lt : PySem.W.isFn K (.ref a.Picture_lt) = true
  o_Picture_invert : PySem.W.findIn K (.ref a.Picture) "__invert__" = some (some (.ref a.Picture_invert))
  f_Picture_invert : PySem.W.isFn K (.ref a.Picture_invert) = true
  cr_Picture : ClX.CRead K a.Picture (.type "type")
  cv_MOST : ∃ u, ClX.CVal K a.Picture (.type "type") "MOST" (.int 200) u
  s_Picture_first : PySem.W.selfFirst K a.Picture = true
  s_Picture_not : PySem.W.notFirst K a.Picture (.ref a.Picture) = true
  o_Picture_ne : PySem.W.findIn K (.ref a.Picture) "__ne__" = some (some (.builtin "object.__ne__"))
  s_Picture_obj : PySem.W.subIn K (.ref a.Picture) (.type "object") = some true
  o_Picture_or : PySem.W.findIn K (.ref a.Picture) (PySem.dunder "or") = some (some (.ref a.Picture_or))
  f_Picture_or : PySem.W.isFn K (.ref a.Picture_or) = true
  o_Picture_and : PySem.W.findIn K (.ref a.Picture) (PySem.dunder "and") = some (some (.ref a.Picture_and))
  f_Picture_and : PySem.W.isFn K (.ref a.Picture_and) = true
  o_Picture_xor : PySem.W.findIn K (.ref a.Picture) (PySem.dunder "xor") = some (some (.ref a.Picture_xor))
  f_Picture_xor : PySem.W.isFn K (.ref a.Picture_xor) = true
  mt_area : Meth K a.Picture "area" a.Picture_area
  mt_flipped : Meth K a.Picture "flipped" a.Picture_flipped
  mt_region : Meth K a.Picture "region" a.Picture_region
  m_HoldError : mg "HoldError" = some (.ref a.HoldError)
  m_AXES : mg "AXES" = some (.ref a.AXES)
  m_MARK : mg "MARK" = some (.str (Str.ofString "x") a.MARKt)
  b_Unlike : PySem.W.subIn K (.ref a.Unlike) (.type "BaseException") = some true
  t_Unlike : PySem.W.typeIn K (.ref a.Unlike) = some (.type "type")
  xm_Unlike_Unlike : PySem.W.exmOne K (.ref a.Unlike) (.ref a.Unlike) = some true
  t_AXES : ∃ (o : Obj) (its : Array Value) (n : Nat), K.lookup a.AXES = some o ∧ o.cls = .type "tuple" ∧ o.data = .seq its n ∧ its.size ≤ sizeLine ∧ Vals [.str "across", .str "down"] its.toList
  ei_Unlike : PySem.W.excIn K a.Unlike [.type "ValueError", .type "Exception", .type "BaseException", .type "object"] "ValueError.__new__" = true
  kp_Unlike : PySem.W.keepIn K (.ref a.Unlike) = true
  m_Unlike : mg "Unlike" = some (.ref a.Unlike)
def SameBut (d : Addr) (H H' : Hp) : Prop := ∀ b o, b ≠ d → H b = some o → H' b = some o
theorem SameBut.of {d : Addr} {H H' : Hp} (s : Same H H') : SameBut d H H' := fun b o _ e => s b o e
theorem SameBut.trans {d : Addr} {H H1 H2 : Hp} (x : SameBut d H H1) (y : SameBut d H1 H2) : SameBut d H H2 := fun b o n e => y b o n (x b o n e)
theorem SameBut.upd {d : Addr} {H : Hp} {o : HO} : SameBut d H (upd H d o) := fun b u n e => by rw [upd_ne n]; exact e
theorem same_new {H : Hp} {p : Addr} {o : HO} (h : H p = none) : Same H (upd H p o) := fun b u e => by rw [upd_ne (ne_of_none e h)]; exact e
theorem dp_ints {K : PySem.W.Frag} {H : Hp} : ∀ ns : List Int, DpAll K H (ns.map V.int) (ns.map PyData.int)
  | [] => .nil
  | i :: r => .cons (.int i) (dp_ints r)
theorem lay_ints : ∀ ns : List Int, PyData.canLayAll0 (ns.map PyData.int) = true ∧ PyData.depthAll (ns.map PyData.int) ≤ 1
  | [] => ⟨rfl, by simp [PyData.depthAll]⟩
  | i :: r => by
    obtain ⟨h1, h2⟩ := lay_ints r
    refine ⟨by simp only [List.map_cons, PyData.canLayAll0, PyData.canLay0, h1]; rfl, ?_⟩
    simp only [List.map_cons, PyData.depthAll, PyData.depth]
    omega
theorem shaped_ints (ns : List Int) : SeqAt.shaped (.list (ns.map PyData.int)) = true := by
  obtain ⟨h1, h2⟩ := lay_ints ns
  refine Bool.and_eq_true_iff.mpr ⟨h1, decide_eq_true ?_⟩
  simp only [PyData.depth]
  omega
theorem eqv_ints (ns : List Int) : PyData.eqv (.list (ns.map PyData.int)) (.list []) = decide (ns = []) := by
  cases ns with
  | nil => simp [PyData.eqv, PyData.eqvAll]
  | cons i r => simp [PyData.eqv, PyData.eqvAll]
/-! ### the pen that draws: its cells' list at c, the index of the next one, the rest of a great cell -/
def Pen (H : Hp) (p c : Addr) (n : Int) : Prop := ∃ (ns : List Int) (b r : Int), H p = some (.lst [.ref c, .int b, .int r]) ∧ H c = some (.lst (ns.map V.int)) ∧ c ≠ p ∧ ns.length ≤ 63 ∧ 0 ≤ b ∧ b ≤ n ∧ 0 ≤ r
theorem Pen.same {H H' : Hp} {p c : Addr} {n : Int} (x : Pen H p c n) (s : Same H H') : Pen H' p c n := by
  obtain ⟨ns, b, r, h1, h2, h⟩ := x
  exact ⟨ns, b, r, s _ _ h1, s _ _ h2, h⟩
theorem atI_any {xs : List V} {z : Int} (h0 : 0 ≤ z) (h1 : z < xs.length) : ∃ v, v ∈ xs ∧ atI xs z = some v := by
  obtain ⟨k, rfl⟩ : ∃ k : Nat, z = (k : Int) := ⟨z.toNat, by omega⟩
  have hk : k < xs.length := by omega
  exact ⟨xs[k], List.getElem_mem hk, atI_nat (List.getElem?_eq_getElem hk)⟩
theorem great0 {c : Int} (h : (10 : Int) ^ Int.toNat 18 ≤ if c < 0 then -c else c) : 0 ≤ 2 * ((if c < 0 then -c else c) - 10 ^ Int.toNat 18) + (if decide (c < 0) = true then 1 else 0) := by
  split <;> split <;> omega
theorem pow1 {c b : Int} (h0 : 0 ≤ b) (h1 : b < 1048576) : (c % 2147483563 + 41891 * b + 669).natAbs < 2 ^ 64 := by
  have a := Int.emod_nonneg c (show (2147483563 : Int) ≠ 0 by decide)
  have d := Int.emod_lt_of_pos c (show (0 : Int) < 2147483563 by decide)
  have e : (2 : Nat) ^ 64 = 18446744073709551616 := by decide
  rw [e]
  omega
theorem pA : (0 : Int) < 2147483563 := by decide
theorem pB : (0 : Int) < 2147483647 := by decide
theorem pC : (0 : Int) < 2147483587 := by decide
theorem lo64 {x : Int} (h : 0 ≤ x) : -(2 ^ 64) < x := by omega
theorem hi64 {x : Int} (h : x < 2147483647) : x < 2 ^ 64 := by omega
theorem pow2 {M b : Int} (m0 : 0 ≤ M) (m1 : M < 2147483647) (h0 : 0 ≤ b) (h1 : b < 1048576) : (M * (2 * b + 103) + 50711 * b * b + 9577).natAbs < 2 ^ 64 := by
  have e : (2 : Nat) ^ 64 = 18446744073709551616 := by decide
  have a1 : M * (2 * b + 103) ≤ 2147483647 * 2097255 := Int.mul_le_mul (by omega) (by omega) (by omega) (by omega)
  have a0 : 0 ≤ M * (2 * b + 103) := Int.mul_nonneg m0 (by omega)
  have b1 : 50711 * b * b ≤ 53174337536 * 1048576 := Int.mul_le_mul (by omega) (by omega) h0 (by omega)
  have b0 : 0 ≤ 50711 * b * b := Int.mul_nonneg (by omega) h0
  rw [e]
  omega
def spPDraw : Sp := fun vs H Q _ => ∃ (p c : Addr) (m n : Int), vs = [.ref p, .int m] ∧ Pen H p c n ∧ n < 1048576 ∧ 0 < m ∧ m < 1073741824 ∧ ∀ (z : Int) (H' : Hp), 0 ≤ z → z < m → SameBut p H H' → Pen H' p c (n + 1) → Q (.int z) H'
section
variable {P : Program} {w : World} {K : PySem.W.Frag} {mg : Str → Option Value} {base : Heap} {a : Adr}
set_option maxHeartbeats 4000000
theorem ok_pdraw (T : Txt K mg a) : FnR P w K mg base CX0 1 a._law_draw spPDraw := by
  refine T.d__law_draw.ok sc__law_draw (fun _ _ _ _ _ _ us hl => match us, hl with | [_, _], _ => rfl) (fun vs H Q E h => by obtain ⟨p, c, m, n, rfl, _⟩ := h; rfl) (fun cdv A outer s H vs Q E hr h => ?_)
  obtain ⟨p, c, m, n, rfl, ⟨ns, b, r, hp, hc, hcp, hns, hb, hbn, hr0⟩, hn, hm, hm2, k⟩ := h
  have hu := hu_of hr
  refine ⟨_, (pss_cons (ps_if (pt_cmpR op_gt (pe_ix ix_list (pv 0) pe_int (fun _ _ => rfl)) pe_int (nomark _))
          (pss_cons (ps_set (i := 2) sc__law_draw.nd rfl (Or.inl rfl) (pe_op op_mod (pe_callTy call_int1 (by rfl) T.n_int (by decide +kernel) (pa_cons (pe_ix ix_list (pv 0) pe_int (fun _ _ => rfl)) pa_nil)) (pv 1)))
          (pss_cons (ps_asg (pe_op op_fdiv (pe_ix ix_list (pv 0) pe_int (fun _ _ => rfl)) (pv 1)) (pg_sub (pv 0) pe_int set_list))
          (pss_one (ps_ret (pv 2)))))
          pss_nil)
      (pss_cons (ps_set (i := 3) sc__law_draw.nd rfl (Or.inl rfl) (pe_ix ix_list (pv 0) pe_int (fun _ _ => rfl)))
      (pss_cons (ps_asg (pe_op op_add (pv 3) pe_int) (pg_sub (pv 0) pe_int set_list))
      (pss_cons (ps_set (i := 4) sc__law_draw.nd rfl (Or.inl rfl) (pe_op op_add (pe_op op_mul pe_int (pv 3)) pe_int))
      (pss_cons (ps_if (pt_cmpR (op_neD hr.units) (pe_ix ix_list (pv 0) pe_int (fun _ _ => rfl)) (pe_lst pa_nil) (nomark _))
          (pss_one (ps_set (i := 4) sc__law_draw.nd rfl (Or.inl rfl) (pe_ix ix_list (pe_ix ix_list (pv 0) pe_int (fun _ _ => rfl)) (pe_op op_mod (pe_callTy call_int1 (by rfl) T.n_int (by decide +kernel) (pa_cons (pv 3) pa_nil)) (pe_callB call_len_seq (by rfl) T.n_len (by decide +kernel) (pa_cons (pe_ix ix_list (pv 0) pe_int (fun _ _ => rfl)) pa_nil))) (fun _ _ => rfl))))
          pss_nil)
      (pss_cons (ps_if (PW.pt (pw_and (pt_cmpR op_lt (pv 3) (pe_callB call_len_seq (by rfl) T.n_len (by decide +kernel) (pa_cons (pe_ix ix_list (pv 0) pe_int (fun _ _ => rfl)) pa_nil)) (nomark _)) (pw_and1 (pt_cmpR op_ge (pe_callB call_abs (by rfl) T.n_abs (by decide +kernel) (pa_cons (pv 4) pa_nil)) (pe_op op_pow pe_int pe_int) (nomark _)))))
          (pss_cons (ps_set (i := 5) sc__law_draw.nd rfl (Or.inl rfl) (pe_op op_add (pe_op op_mul pe_int (pe_op op_sub (pe_callB call_abs (by rfl) T.n_abs (by decide +kernel) (pa_cons (pv 4) pa_nil)) (pe_op op_pow pe_int pe_int))) (pe_callTy call_int1 (by rfl) T.n_int (by decide +kernel) (pa_cons (pe_cmpR op_lt (pv 4) pe_int (nomark _)) pa_nil))))
          (pss_cons (ps_asg (pe_op op_fdiv (pv 5) (pv 1)) (pg_sub (pv 0) pe_int set_list))
          (pss_one (ps_ret (pe_op op_mod (pe_callTy call_int1 (by rfl) T.n_int (by decide +kernel) (pa_cons (pv 5) pa_nil)) (pv 1))))))
          pss_nil)
      (pss_cons (ps_set (i := 6) sc__law_draw.nd rfl (Or.inl rfl) (pe_op op_mod (pe_callTy call_int1 (by rfl) T.n_int (by decide +kernel) (pa_cons (pe_op op_pow (pe_op op_add (pe_op op_add (pe_op op_mod (pe_callTy call_int1 (by rfl) T.n_int (by decide +kernel) (pa_cons (pv 4) pa_nil)) pe_int) (pe_op op_mul pe_int (pv 3))) pe_int) pe_int) pa_nil)) pe_int))
      (pss_cons (ps_set (i := 6) sc__law_draw.nd rfl (Or.inl rfl) (pe_op op_mod (pe_callTy call_int1 (by rfl) T.n_int (by decide +kernel) (pa_cons (pe_op op_pow (pe_op op_add (pe_op op_add (pe_op op_mul (pv 6) (pe_op op_add (pe_op op_mul pe_int (pv 3)) pe_int)) (pe_op op_mul (pe_op op_mul pe_int (pv 3)) (pv 3))) pe_int) pe_int) pa_nil)) pe_int))
      (pss_one (ps_ret (pe_op op_mod (pe_callTy call_int1 (by rfl) T.n_int (by decide +kernel) (pa_cons (pe_op op_fdiv (pv 6) pe_int) pa_nil)) (pv 1)))))))))))), ?_⟩
  refine ⟨_, rfl, p, _, _, _, rfl, rfl, SqL.of hp, rfl, _, _, rfl, rfl, _, rfl, ite2 (fun h0 => ?_) fun h0 => ?_⟩
  · refine ⟨_, rfl, p, _, _, _, rfl, rfl, SqL.of hp, rfl, .inl ⟨_, rfl, _, rfl, _, _, rfl, rfl, hm, ?_⟩⟩
    refine ⟨_, rfl, p, _, _, _, rfl, rfl, SqL.of hp, rfl, _, rfl, _, _, rfl, rfl, ⟨hm, hm2⟩, ?_⟩
    refine ⟨_, rfl, p, _, 2, 2, rfl, rfl, hp, rfl, _, rfl, ?_⟩
    exact k _ _ (Int.emod_nonneg _ (by omega)) (Int.emod_lt_of_pos _ hm) SameBut.upd ⟨ns, b, r / m, upd_same, by rw [upd_ne hcp]; exact hc, hcp, hns, hb, by omega, Int.ediv_nonneg hr0 (by omega)⟩
  · refine ⟨_, rfl, p, _, _, _, rfl, rfl, SqL.of hp, rfl, ?_⟩
    refine ⟨_, rfl, _, _, rfl, rfl, _, rfl, p, _, 1, 1, rfl, rfl, hp, rfl, ?_⟩
    refine ⟨_, rfl, _, _, rfl, rfl, .inl ⟨by decide, by decide⟩, _, _, rfl, rfl, ?_⟩
    have e1 : upd H p (.lst [.ref c, .int (b + 1), .int r]) p = some (.lst [.ref c, .int (b + 1), .int r]) := upd_same
    have c1 : upd H p (.lst [.ref c, .int (b + 1), .int r]) c = some (.lst (ns.map V.int)) := by rw [upd_ne hcp]; exact hc
    have s1 : SameBut p H (upd H p (.lst [.ref c, .int (b + 1), .int r])) := SameBut.upd
    show tSeq _ _ _ _ (upd H p (.lst [.ref c, .int (b + 1), .int r]))
    generalize upd H p (.lst [.ref c, .int (b + 1), .int r]) = H1 at *
    refine ⟨_, rfl, p, _, _, _, rfl, rfl, SqL.of e1, rfl, (by show 0 ≤ sizeLine; decide), fun q hq => ?_⟩
    have mq := same_new (o := .lst []) hq
    refine ⟨.list (ns.map .int), .list [], .lst (SqL.of (mq _ _ c1)) (dp_ints ns), .lst (SqL.of upd_same) .nil, shaped_ints ns, rfl, _, rfl, ?_⟩
    rw [eqv_ints]
    have e2 := mq _ _ e1
    have c2 := mq _ _ c1
    have s2 := s1.trans (SameBut.of mq)
    clear e1 c1 s1 mq hq
    generalize upd H1 q (.lst []) = H2 at *
    refine ite2 (fun hne => ?_) fun hne => ?_
    · have hlen : 0 < ns.length := by
        cases ns with
        | nil => rw [decide_eq_true rfl] at hne; cases hne
        | cons x y => exact Nat.succ_pos _
      obtain ⟨w, hw, hat⟩ := atI_any (xs := ns.map V.int) (z := b % (ns.length : Int)) (Int.emod_nonneg _ (by omega)) (by rw [List.length_map]; exact Int.emod_lt_of_pos _ (by omega))
      obtain ⟨cell, _, rfl⟩ := List.mem_map.mp hw
      refine ⟨_, rfl, p, _, _, _, rfl, rfl, SqL.of e2, rfl, _, rfl, .inl ⟨_, rfl, _, rfl, p, _, _, _, rfl, rfl, SqL.of e2, rfl, c, _, rfl, .inl (SqL.of c2), _, _, rfl, rfl, by rw [List.length_map]; omega, c, _, _, _, rfl, rfl, SqL.of c2, by rw [List.length_map]; exact hat, ?_⟩⟩
      refine ⟨_, rfl, _, rfl, p, _, _, _, rfl, rfl, SqL.of e2, rfl, c, _, rfl, .inl (SqL.of c2), _, _, rfl, rfl, _, rfl, ite2 (fun hb1 => ?_) fun hb1 => ?_⟩
      · refine ⟨_, rfl, _, rfl, _, _, rfl, rfl, ⟨by decide, by decide, by decide⟩, _, _, rfl, rfl, _, rfl, ite2 (fun hb2 => ?_) fun hb2 => ?_⟩
        · refine ⟨_, rfl, _, rfl, _, _, rfl, rfl, ⟨by decide, by decide, by decide⟩, _, _, rfl, rfl, _, _, rfl, rfl, .inl ⟨by decide, by decide⟩, _, rfl, _, _, rfl, rfl, .inr ⟨_, rfl, _, _, rfl, rfl, ?_⟩⟩
          refine ⟨_, rfl, _, rfl, _, _, rfl, rfl, ⟨hm, hm2⟩, _, rfl, p, _, 2, 2, rfl, rfl, e2, rfl, ?_⟩
          refine ⟨_, rfl, .inl ⟨_, rfl, _, rfl, _, _, rfl, rfl, hm, ?_⟩⟩
          have g0 := of_decide_eq_true hb2
          refine k _ _ (Int.emod_nonneg _ (by omega)) (Int.emod_lt_of_pos _ hm) (s2.trans SameBut.upd) ⟨ns, b + 1, _, upd_same, by rw [upd_ne hcp]; exact c2, hcp, hns, by omega, by omega, Int.ediv_nonneg (great0 g0) (by omega)⟩
        · refine ⟨_, rfl, .inl ⟨_, rfl, _, _, rfl, rfl, pA, _, rfl, _, _, rfl, rfl, .inl ⟨by decide, by decide⟩, _, _, rfl, rfl, _, _, rfl, rfl, _, _, rfl, rfl, ⟨by decide, by decide, pow1 hb (by omega)⟩, .inl ⟨_, rfl, _, _, rfl, rfl, pB, ?_⟩⟩⟩
          refine ⟨_, rfl, _, rfl, _, _, rfl, rfl, .inl ⟨by decide, by decide⟩, _, _, rfl, rfl, _, _, rfl, rfl, .inl ⟨lo64 (Int.emod_nonneg _ (by decide)), hi64 (Int.emod_lt_of_pos _ pB)⟩, _, rfl, _, _, rfl, rfl, .inl ⟨by decide, by decide⟩, _, rfl, _, _, rfl, rfl, .inr ⟨lo64 hb, by omega⟩, _, _, rfl, rfl, _, _, rfl, rfl, _, _, rfl, rfl, ⟨by decide, by decide, pow2 (Int.emod_nonneg _ (by decide)) (Int.emod_lt_of_pos _ pB) hb (by omega)⟩, .inl ⟨_, rfl, _, _, rfl, rfl, pC, ?_⟩⟩
          refine ⟨_, rfl, _, _, rfl, rfl, ⟨by decide, by decide⟩, .inl ⟨_, rfl, _, rfl, _, _, rfl, rfl, hm, ?_⟩⟩
          exact k _ _ (Int.emod_nonneg _ (by omega)) (Int.emod_lt_of_pos _ hm) s2 ⟨ns, b + 1, r, e2, c2, hcp, hns, by omega, by omega, hr0⟩
      · refine iteF ?_
        refine ⟨_, rfl, .inl ⟨_, rfl, _, _, rfl, rfl, pA, _, rfl, _, _, rfl, rfl, .inl ⟨by decide, by decide⟩, _, _, rfl, rfl, _, _, rfl, rfl, _, _, rfl, rfl, ⟨by decide, by decide, pow1 hb (by omega)⟩, .inl ⟨_, rfl, _, _, rfl, rfl, pB, ?_⟩⟩⟩
        refine ⟨_, rfl, _, rfl, _, _, rfl, rfl, .inl ⟨by decide, by decide⟩, _, _, rfl, rfl, _, _, rfl, rfl, .inl ⟨lo64 (Int.emod_nonneg _ (by decide)), hi64 (Int.emod_lt_of_pos _ pB)⟩, _, rfl, _, _, rfl, rfl, .inl ⟨by decide, by decide⟩, _, rfl, _, _, rfl, rfl, .inr ⟨lo64 hb, by omega⟩, _, _, rfl, rfl, _, _, rfl, rfl, _, _, rfl, rfl, ⟨by decide, by decide, pow2 (Int.emod_nonneg _ (by decide)) (Int.emod_lt_of_pos _ pB) hb (by omega)⟩, .inl ⟨_, rfl, _, _, rfl, rfl, pC, ?_⟩⟩
        refine ⟨_, rfl, _, _, rfl, rfl, ⟨by decide, by decide⟩, .inl ⟨_, rfl, _, rfl, _, _, rfl, rfl, hm, ?_⟩⟩
        exact k _ _ (Int.emod_nonneg _ (by omega)) (Int.emod_lt_of_pos _ hm) s2 ⟨ns, b + 1, r, e2, c2, hcp, hns, by omega, by omega, hr0⟩
    · skip
      refine ⟨_, rfl, _, rfl, p, _, _, _, rfl, rfl, SqL.of e2, rfl, c, _, rfl, .inl (SqL.of c2), _, _, rfl, rfl, _, rfl, ite2 (fun hb1 => ?_) fun hb1 => ?_⟩
      · refine ⟨_, rfl, _, rfl, _, _, rfl, rfl, ⟨by decide, by decide, by decide⟩, _, _, rfl, rfl, _, rfl, ite2 (fun hb2 => ?_) fun hb2 => ?_⟩
        · refine ⟨_, rfl, _, rfl, _, _, rfl, rfl, ⟨by decide, by decide, by decide⟩, _, _, rfl, rfl, _, _, rfl, rfl, .inl ⟨by decide, by decide⟩, _, rfl, _, _, rfl, rfl, .inr ⟨_, rfl, _, _, rfl, rfl, ?_⟩⟩
          refine ⟨_, rfl, _, rfl, _, _, rfl, rfl, ⟨hm, hm2⟩, _, rfl, p, _, 2, 2, rfl, rfl, e2, rfl, ?_⟩
          refine ⟨_, rfl, .inl ⟨_, rfl, _, rfl, _, _, rfl, rfl, hm, ?_⟩⟩
          have g0 := of_decide_eq_true hb2
          refine k _ _ (Int.emod_nonneg _ (by omega)) (Int.emod_lt_of_pos _ hm) (s2.trans SameBut.upd) ⟨ns, b + 1, _, upd_same, by rw [upd_ne hcp]; exact c2, hcp, hns, by omega, by omega, Int.ediv_nonneg (great0 g0) (by omega)⟩
        · refine ⟨_, rfl, .inl ⟨_, rfl, _, _, rfl, rfl, pA, _, rfl, _, _, rfl, rfl, .inl ⟨by decide, by decide⟩, _, _, rfl, rfl, _, _, rfl, rfl, _, _, rfl, rfl, ⟨by decide, by decide, pow1 hb (by omega)⟩, .inl ⟨_, rfl, _, _, rfl, rfl, pB, ?_⟩⟩⟩
          refine ⟨_, rfl, _, rfl, _, _, rfl, rfl, .inl ⟨by decide, by decide⟩, _, _, rfl, rfl, _, _, rfl, rfl, .inl ⟨lo64 (Int.emod_nonneg _ (by decide)), hi64 (Int.emod_lt_of_pos _ pB)⟩, _, rfl, _, _, rfl, rfl, .inl ⟨by decide, by decide⟩, _, rfl, _, _, rfl, rfl, .inr ⟨lo64 hb, by omega⟩, _, _, rfl, rfl, _, _, rfl, rfl, _, _, rfl, rfl, ⟨by decide, by decide, pow2 (Int.emod_nonneg _ (by decide)) (Int.emod_lt_of_pos _ pB) hb (by omega)⟩, .inl ⟨_, rfl, _, _, rfl, rfl, pC, ?_⟩⟩
          refine ⟨_, rfl, _, _, rfl, rfl, ⟨by decide, by decide⟩, .inl ⟨_, rfl, _, rfl, _, _, rfl, rfl, hm, ?_⟩⟩
          exact k _ _ (Int.emod_nonneg _ (by omega)) (Int.emod_lt_of_pos _ hm) s2 ⟨ns, b + 1, r, e2, c2, hcp, hns, by omega, by omega, hr0⟩
      · refine iteF ?_
        refine ⟨_, rfl, .inl ⟨_, rfl, _, _, rfl, rfl, pA, _, rfl, _, _, rfl, rfl, .inl ⟨by decide, by decide⟩, _, _, rfl, rfl, _, _, rfl, rfl, _, _, rfl, rfl, ⟨by decide, by decide, pow1 hb (by omega)⟩, .inl ⟨_, rfl, _, _, rfl, rfl, pB, ?_⟩⟩⟩
        refine ⟨_, rfl, _, rfl, _, _, rfl, rfl, .inl ⟨by decide, by decide⟩, _, _, rfl, rfl, _, _, rfl, rfl, .inl ⟨lo64 (Int.emod_nonneg _ (by decide)), hi64 (Int.emod_lt_of_pos _ pB)⟩, _, rfl, _, _, rfl, rfl, .inl ⟨by decide, by decide⟩, _, rfl, _, _, rfl, rfl, .inr ⟨lo64 hb, by omega⟩, _, _, rfl, rfl, _, _, rfl, rfl, _, _, rfl, rfl, ⟨by decide, by decide, pow2 (Int.emod_nonneg _ (by decide)) (Int.emod_lt_of_pos _ pB) hb (by omega)⟩, .inl ⟨_, rfl, _, _, rfl, rfl, pC, ?_⟩⟩
        refine ⟨_, rfl, _, _, rfl, rfl, ⟨by decide, by decide⟩, .inl ⟨_, rfl, _, rfl, _, _, rfl, rfl, hm, ?_⟩⟩
        exact k _ _ (Int.emod_nonneg _ (by omega)) (Int.emod_lt_of_pos _ hm) s2 ⟨ns, b + 1, r, e2, c2, hcp, hns, by omega, by omega, hr0⟩
theorem cut63 {ns : List Int} (h : ns.length ≤ 63) : cutV (ns.map V.int) none (some 63) = ns.map V.int := by
  have e1 : HT.sIx (ns.map V.int).length 0 none = 0 := rfl
  have e2 : (ns.map V.int).length ≤ HT.sIx (ns.map V.int).length (ns.map V.int).length (some 63) := by
    rw [List.length_map]
    unfold HT.sIx
    simp
    omega
  unfold cutV
  rw [e1, List.drop_zero, Nat.sub_zero]
  exact List.take_of_length_le e2
def spPen (K : PySem.W.Frag) : Sp := fun vs H Q _ => ∃ (sa : Addr) (ns : List Int), vs = [.ref sa] ∧ SqL K H sa (ns.map V.int) ∧ ns.length ≤ 63 ∧ ∀ (p c : Addr) (H' : Hp), Same H H' → H p = none → Pen H' p c 0 → Q (.ref p) H'
theorem ok_pen (T : Txt K mg a) : FnR P w K mg base CX0 1 a._law_pen (spPen K) := by
  refine T.d__law_pen.ok sc__law_pen (fun _ _ _ _ _ _ us hl => match us, hl with | [_], _ => rfl) (fun vs H Q E h => by obtain ⟨sa, ns, rfl, _⟩ := h; rfl) (fun cdv A outer s H vs Q E hr h => ?_)
  obtain ⟨sa, ns, rfl, hS, hns, k⟩ := h
  refine ⟨_, (pss_one (ps_ret (pe_lst (pa_cons (pe_callTy call_list_of (by rfl) T.n_list (by decide +kernel) (pa_cons (pe_slice sl_list (pv 0) po_none (po_some pe_int)) pa_nil)) (pa_cons pe_int (pa_cons pe_int pa_nil)))))), ?_⟩
  refine ⟨_, rfl, _, rfl, sa, _, rfl, hS, fun q hq => ?_⟩
  rw [cut63 hns]
  refine ⟨q, _, rfl, .inl (SqL.of upd_same), fun c hc => ⟨(by show 3 ≤ sizeLine; decide), fun p hp => ?_⟩⟩
  have m1 := same_new (o := .lst (ns.map V.int)) hq
  have m2 := same_new (o := .lst (ns.map V.int)) hc
  have m3 := same_new (o := .lst [.ref c, .int 0, .int 0]) hp
  have ec : upd (upd (upd H q (.lst (ns.map V.int))) c (.lst (ns.map V.int))) p (.lst [.ref c, .int 0, .int 0]) c = some (.lst (ns.map V.int)) := m3 _ _ upd_same
  refine k p c _ (m1.trans (m2.trans m3)) ?_ ⟨ns, 0, 0, upd_same, ec, ?_, hns, by decide, by decide, by decide⟩
  · cases e : H p with
    | none => rfl
    | some o =>
      have z := m2 _ _ (m1 _ _ e)
      rw [hp] at z
      cases z
  · intro e
    rw [e, upd_same] at hp
    cases hp
def spPick : Sp := fun vs H Q _ => ∃ (p c l : Addr) (n : Int) (xs : List V), vs = [.ref p, .ref l] ∧ Pen H p c n ∧ n < 1048576 ∧ H l = some (.lst xs) ∧ l ≠ p ∧ 0 < xs.length ∧ xs.length < 1073741824 ∧ ∀ (v : V) (H' : Hp), v ∈ xs → SameBut p H H' → Pen H' p c (n + 1) → Q v H'
theorem ok_pick (T : Txt K mg a) : FnR P w K mg base CX0 2 a._law_pick spPick := by
  have G__law_draw : FnR P w K mg base CX0 1 a._law_draw spPDraw := ok_pdraw T
  refine T.d__law_pick.ok sc__law_pick (fun _ _ _ _ _ _ us hl => match us, hl with | [_, _], _ => rfl) (fun vs H Q E h => by obtain ⟨p, c, l, n, xs, rfl, _⟩ := h; rfl) (fun cdv A outer s H vs Q E hr h => ?_)
  obtain ⟨p, c, l, n, xs, rfl, hP, hn, hl, hlp, h0, h1, k⟩ := h
  refine ⟨_, (pss_one (ps_ret (pe_ix ix_list (pv 1) (pe_callR G__law_draw (hr.mono (by decide)) T.m__law_draw T.k__law_draw pass0 (pa_cons (pv 0) (pa_cons (pe_callB call_len_seq (by rfl) T.n_len (by decide +kernel) (pa_cons (pv 1) pa_nil)) pa_nil))) (fun _ _ => rfl)))), ?_⟩
  refine ⟨_, rfl, _, rfl, _, rfl, l, _, rfl, .inl (SqL.of hl), p, c, xs.length, n, rfl, hP, hn, by omega, by omega, fun z H' z0 z1 sB hP' => ?_⟩
  obtain ⟨v, hv, hat⟩ := atI_any (xs := xs) z0 z1
  exact ⟨l, _, _, _, rfl, rfl, SqL.of (sB _ _ hlp hl), hat, k v H' hv sB hP'⟩
end
end Pf
end
section
namespace Pf
open PySem PySem.Spec PyProof.Rows L2 Ow StX
open SX (S)
def DigL (r : List Nat) : Prop := ∀ c ∈ r, 48 ≤ c ∧ c ≤ 57
structure Good (w : Nat) (rs : List (List Nat)) : Prop where
  l0 : 1 ≤ rs.length
  l1 : rs.length ≤ 200
  w0 : 1 ≤ w
  w1 : w ≤ 200
  row : ∀ r ∈ rs, r.length = w ∧ DigL r
abbrev rowsV (rs : List (List Nat)) : List V := rs.map fun r => V.str (S r)
def Pic (H : Hp) (C x : Addr) (rs : List (List Nat)) : Prop := ∃ dx t, H x = some (.ins C dx [("_rows", .ref t)]) ∧ H t = some (.tup (rowsV rs))
theorem Pic.same {H H' : Hp} {C x : Addr} {rs : List (List Nat)} (p : Pic H C x rs) (s : Same H H') : Pic H' C x rs := by
  obtain ⟨dx, t, h1, h2⟩ := p
  exact ⟨dx, t, s _ _ h1, s _ _ h2⟩
theorem Pic.ins {H : Hp} {C x : Addr} {rs : List (List Nat)} (p : Pic H C x rs) : InsAt H x C := by
  obtain ⟨dx, t, h1, h2⟩ := p
  exact ⟨dx, _, h1⟩
theorem dig_isDigit {c : Nat} (h : 48 ≤ c ∧ c ≤ 57) : Unicode.isDigit c = true := by
  obtain ⟨h1, h2⟩ := h
  rcases (by omega : c = 48 ∨ c = 49 ∨ c = 50 ∨ c = 51 ∨ c = 52 ∨ c = 53 ∨ c = 54 ∨ c = 55 ∨ c = 56 ∨ c = 57) with rfl | rfl | rfl | rfl | rfl | rfl | rfl | rfl | rfl | rfl <;> decide +kernel
theorem digL_ascii {r : List Nat} (h : DigL r) : Txt.isascii (S r) = true := by
  show (r.toArray.all fun c => decide (c < 128)) = true
  rw [← Array.all_toList]
  exact List.all_eq_true.mpr fun c hc => decide_eq_true (by have := h c hc; omega)
theorem digL_digit {r : List Nat} (h : DigL r) (h0 : 1 ≤ r.length) : Txt.isdigit (S r) = true := by
  show (decide ((S r).length > 0) && r.toArray.all fun c => Unicode.isDigit c) = true
  rw [← Array.all_toList, SX.S_len, Bool.and_eq_true]
  exact ⟨decide_eq_true (by omega), List.all_eq_true.mpr fun c hc => dig_isDigit (h c hc)⟩
theorem size200 {n : Nat} (h : n ≤ 200) : n ≤ sizeLine := Nat.le_trans h (by decide +kernel)
def spIntIn (K : PySem.W.Frag) : Sp := fun vs H Q _ => ∃ v lo hi, vs = [v, .int lo, .int hi] ∧ ((∃ i, v = .int i ∧ Q (.bl (decide (lo ≤ i) && decide (i < hi))) H) ∨ (NoInt K H v ∧ Q (.bl false) H))
def spIsCol (K : PySem.W.Frag) : Sp := fun vs H Q _ => ∃ v, vs = [v] ∧ ((∃ i, v = .int i ∧ Q (.bl (decide (0 ≤ i) && decide (i < 10))) H) ∨ (NoInt K H v ∧ Q (.bl false) H))
def spChCol : Sp := fun vs H Q _ => ∃ i : Int, vs = [.int i] ∧ 0 ≤ i ∧ i < 10 ∧ Q .non H
def spIsRow : Sp := fun vs H Q _ => ∃ (r : List Nat) (m : Int), vs = [.str (S r), .int m] ∧ DigL r ∧ 1 ≤ r.length ∧ r.length ≤ 200 ∧ (r.length : Int) ≤ m ∧ Q (.bl true) H
def spWrong (K : PySem.W.Frag) : Sp := fun vs H Q _ => ∃ (l : Addr) (w : Nat) (rs : List (List Nat)), vs = [.ref l, .int 200] ∧ Good w rs ∧ (SqL K H l (rowsV rs) ∨ SqT K H l (rowsV rs)) ∧ ∀ H', Same H H' → Q .non H'
section
variable {P : Program} {w : World} {K : PySem.W.Frag} {mg : Str → Option Value} {base : Heap} {a : Adr}
set_option maxHeartbeats 4000000
theorem ok_intV (T : Txt K mg a) : FnR P w K mg base CX0 1 a.is_int (spIntV K) := by
  refine T.d_is_int.ok sc_is_int (fun _ _ _ _ _ _ us hl => match us, hl with | [_], _ => rfl) (fun vs H Q E h => by obtain ⟨v, rfl, _⟩ := h; rfl) (fun cdv A outer s H vs Q E hr h => ?_)
  obtain ⟨v, rfl, h⟩ := h
  refine ⟨_, (pss_one (ps_ret (pe_and (pe_callB call_isi (by rfl) T.n_isinstance (by decide +kernel) (pa_cons (pv 0) (pa_cons (pe_bltn (v := .ty "int") (by rfl) T.n_int (by decide +kernel) rfl) pa_nil))) (pe_one (pe_not (pe_callB call_isi (by rfl) T.n_isinstance (by decide +kernel) (pa_cons (pv 0) (pa_cons (pe_bltn (v := .ty "bool") (by rfl) T.n_bool (by decide +kernel) rfl) pa_nil)))))))), ?_⟩
  rcases h with ⟨i, rfl, k⟩ | ⟨⟨b, rfl⟩ | ⟨t, ht, hk⟩, k⟩
  · exact ⟨_, rfl, _, _, _, _, _, rfl, .ty _, .base (.int _), kit_int_int, true, rfl, _, rfl, _, _, _, _, _, rfl, .ty _, .base (.int _), kit_int_bool, false, rfl, k⟩
  · exact ⟨_, rfl, _, _, _, _, _, rfl, .ty _, .base (.bl _), kit_bool_int, true, rfl, _, rfl, _, _, _, _, _, rfl, .ty _, .base (.bl _), kit_self, true, rfl, k⟩
  · exact ⟨_, rfl, _, _, _, _, _, rfl, .ty _, ht, hk, false, rfl, k⟩
theorem ok_int_in (T : Txt K mg a) : FnR P w K mg base CX0 2 a.is_int_in (spIntIn K) := by
  have G_is_int : FnR P w K mg base CX0 1 a.is_int (spIntV K) := ok_intV T
  refine T.d_is_int_in.ok sc_is_int_in (fun _ _ _ _ _ _ us hl => match us, hl with | [_, _, _], _ => rfl) (fun vs H Q E h => by obtain ⟨v, lo, hi, rfl, _⟩ := h; rfl) (fun cdv A outer s H vs Q E hr h => ?_)
  obtain ⟨v, lo, hi, rfl, h⟩ := h
  refine ⟨_, (pss_one (ps_ret (pe_and (pe_callR G_is_int (hr.mono (by decide)) T.m_is_int T.k_is_int pass0 (pa_cons (pv 0) pa_nil)) (pe_one (pe_chain op_le op_lt (pv 1) (pv 0) (pv 2)))))), ?_⟩
  simp only [tSeq, tIfS, tTest, tB, tAnd, tOr, tNot, tAndV, tOrV, tNotV, tIf, tOp, tUn, tChain, rEq, rNe, rI0, rI, rU, tCallR, tCons, tNil, tC, tVar, tRet, tRetN, tTup_k, tLst_k, tCB, tNext, tAsg, gName, gTup, gCons, gNil, tDrop, tPar, tFld, ClX.tCVal, tPropR, rBin, rBinT, rNeOwn, rSetL_k, gSub, tMakeK_k, tMethR, rInO, tDNewK_k, tYes, wipe, tMakeR_k, tSMeth, tSMethK, rMulS, decide_true, tNever, sFld, rIsiT, and_false, rListOf, rTupOf, rLenSeq, rIxL, rIxT, rIxS, rCat_k, rRep_k, rSlL_k, rSlS, rNewStrs_k, rAppend_k, tBM, tBM0, tM0, tM1, tSl, tNoPart, tPart, tLc_k, tFor_k, iList, iTup, iEnumT, iRng1, iRng2, iRng2L, iStr, L2.start, List.map, List.length_cons, List.length_nil, List.cons_append, List.nil_append, List.getElem?_cons_succ, List.getElem?_cons_zero, Option.some.injEq, V.int.injEq, V.bl.injEq, V.str.injEq, V.ref.injEq, exists_eq_left', exists_eq_left, and_assoc, exists_and_left, exists_eq, exists_eq', true_and, and_true, List.set_cons_zero, List.set_cons_succ, List.set, decide_eq_true_eq, Bool.not_eq_true', if_true, if_false, rIx, cx_K, nox_K, List.replicate_succ, List.replicate_zero, Nat.reduceSub, Bool.true_eq_false, Bool.false_eq_true, Nat.reduceAdd, List.cons.injEq, reduceCtorEq, false_and, false_or, or_false, tAug, rSetO, rJoin, tMakeL, rStrO, ClX.tCMeth, rPop, tLc2_k, iEnum, tPar3, iZipS, iZipS3, tListZip, rInDT, tBackS, tBackT, tSlSt, rUn]
  rcases h with ⟨i, rfl, k⟩ | ⟨hn, k⟩
  · refine ⟨_, rfl, .inl ⟨i, rfl, true, rfl, ?_⟩⟩
    simp only [tSeq, tIfS, tTest, tB, tAnd, tOr, tNot, tAndV, tOrV, tNotV, tIf, tOp, tUn, tChain, rEq, rNe, rI0, rI, rU, tCallR, tCons, tNil, tC, tVar, tRet, tRetN, tTup_k, tLst_k, tCB, tNext, tAsg, gName, gTup, gCons, gNil, tDrop, tPar, tFld, ClX.tCVal, tPropR, rBin, rBinT, rNeOwn, rSetL_k, gSub, tMakeK_k, tMethR, rInO, tDNewK_k, tYes, wipe, tMakeR_k, tSMeth, tSMethK, rMulS, decide_true, tNever, sFld, rIsiT, and_false, rListOf, rTupOf, rLenSeq, rIxL, rIxT, rIxS, rCat_k, rRep_k, rSlL_k, rSlS, rNewStrs_k, rAppend_k, tBM, tBM0, tM0, tM1, tSl, tNoPart, tPart, tLc_k, tFor_k, iList, iTup, iEnumT, iRng1, iRng2, iRng2L, iStr, L2.start, List.map, List.length_cons, List.length_nil, List.cons_append, List.nil_append, List.getElem?_cons_succ, List.getElem?_cons_zero, Option.some.injEq, V.int.injEq, V.bl.injEq, V.str.injEq, V.ref.injEq, exists_eq_left', exists_eq_left, and_assoc, exists_and_left, exists_eq, exists_eq', true_and, and_true, List.set_cons_zero, List.set_cons_succ, List.set, decide_eq_true_eq, Bool.not_eq_true', if_true, if_false, rIx, cx_K, nox_K, List.replicate_succ, List.replicate_zero, Nat.reduceSub, Bool.true_eq_false, Bool.false_eq_true, Nat.reduceAdd, List.cons.injEq, reduceCtorEq, false_and, false_or, or_false, tAug, rSetO, rJoin, tMakeL, rStrO, ClX.tCMeth, rPop, tLc2_k, iEnum, tPar3, iZipS, iZipS3, tListZip, rInDT, tBackS, tBackT, tSlSt, rUn]
    by_cases h : lo ≤ i
    · simpa [h] using k
    · simpa [h] using k
  · exact ⟨_, rfl, .inr ⟨hn, false, rfl, k⟩⟩
theorem ok_is_colour (T : Txt K mg a) : FnR P w K mg base CX0 3 a.is_colour (spIsCol K) := by
  have G_is_int_in : FnR P w K mg base CX0 2 a.is_int_in (spIntIn K) := ok_int_in T
  refine T.d_is_colour.ok sc_is_colour (fun _ _ _ _ _ _ us hl => match us, hl with | [_], _ => rfl) (fun vs H Q E h => by obtain ⟨v, rfl, _⟩ := h; rfl) (fun cdv A outer s H vs Q E hr h => ?_)
  obtain ⟨v, rfl, h⟩ := h
  refine ⟨_, (pss_one (ps_ret (pe_callR G_is_int_in (hr.mono (by decide)) T.m_is_int_in T.k_is_int_in pass0 (pa_cons (pv 0) (pa_cons pe_int (pa_cons pe_int pa_nil)))))), ?_⟩
  simp only [tSeq, tIfS, tTest, tB, tAnd, tOr, tNot, tAndV, tOrV, tNotV, tIf, tOp, tUn, tChain, rEq, rNe, rI0, rI, rU, tCallR, tCons, tNil, tC, tVar, tRet, tRetN, tTup_k, tLst_k, tCB, tNext, tAsg, gName, gTup, gCons, gNil, tDrop, tPar, tFld, ClX.tCVal, tPropR, rBin, rBinT, rNeOwn, rSetL_k, gSub, tMakeK_k, tMethR, rInO, tDNewK_k, tYes, wipe, tMakeR_k, tSMeth, tSMethK, rMulS, decide_true, tNever, sFld, rIsiT, and_false, rListOf, rTupOf, rLenSeq, rIxL, rIxT, rIxS, rCat_k, rRep_k, rSlL_k, rSlS, rNewStrs_k, rAppend_k, tBM, tBM0, tM0, tM1, tSl, tNoPart, tPart, tLc_k, tFor_k, iList, iTup, iEnumT, iRng1, iRng2, iRng2L, iStr, L2.start, List.map, List.length_cons, List.length_nil, List.cons_append, List.nil_append, List.getElem?_cons_succ, List.getElem?_cons_zero, Option.some.injEq, V.int.injEq, V.bl.injEq, V.str.injEq, V.ref.injEq, exists_eq_left', exists_eq_left, and_assoc, exists_and_left, exists_eq, exists_eq', true_and, and_true, List.set_cons_zero, List.set_cons_succ, List.set, decide_eq_true_eq, Bool.not_eq_true', if_true, if_false, rIx, cx_K, nox_K, List.replicate_succ, List.replicate_zero, Nat.reduceSub, Bool.true_eq_false, Bool.false_eq_true, Nat.reduceAdd, List.cons.injEq, reduceCtorEq, false_and, false_or, or_false, tAug, rSetO, rJoin, tMakeL, rStrO, ClX.tCMeth, rPop, tLc2_k, iEnum, tPar3, iZipS, iZipS3, tListZip, rInDT, tBackS, tBackT, tSlSt, rUn]
  exact ⟨_, _, _, rfl, h⟩
theorem ok_check_colour (T : Txt K mg a) : FnR P w K mg base CX0 4 a.check_colour spChCol := by
  have G_is_colour : FnR P w K mg base CX0 3 a.is_colour (spIsCol K) := ok_is_colour T
  refine T.d_check_colour.ok sc_check_colour (fun _ _ _ _ _ _ us hl => match us, hl with | [_], _ => rfl) (fun vs H Q E h => by obtain ⟨i, rfl, _⟩ := h; rfl) (fun cdv A outer s H vs Q E hr h => ?_)
  obtain ⟨i, rfl, h0, h1, k⟩ := h
  refine ⟨_, (pss_one (ps_if (pt_not (pt_val (pe_callR G_is_colour (hr.mono (by decide)) T.m_is_colour T.k_is_colour pass0 (pa_cons (pv 0) pa_nil))))
          (pss_one ps_never)
          pss_nil)), ?_⟩
  simp only [tSeq, tIfS, tTest, tB, tAnd, tOr, tNot, tAndV, tOrV, tNotV, tIf, tOp, tUn, tChain, rEq, rNe, rI0, rI, rU, tCallR, tCons, tNil, tC, tVar, tRet, tRetN, tTup_k, tLst_k, tCB, tNext, tAsg, gName, gTup, gCons, gNil, tDrop, tPar, tFld, ClX.tCVal, tPropR, rBin, rBinT, rNeOwn, rSetL_k, gSub, tMakeK_k, tMethR, rInO, tDNewK_k, tYes, wipe, tMakeR_k, tSMeth, tSMethK, rMulS, decide_true, tNever, sFld, rIsiT, and_false, rListOf, rTupOf, rLenSeq, rIxL, rIxT, rIxS, rCat_k, rRep_k, rSlL_k, rSlS, rNewStrs_k, rAppend_k, tBM, tBM0, tM0, tM1, tSl, tNoPart, tPart, tLc_k, tFor_k, iList, iTup, iEnumT, iRng1, iRng2, iRng2L, iStr, L2.start, List.map, List.length_cons, List.length_nil, List.cons_append, List.nil_append, List.getElem?_cons_succ, List.getElem?_cons_zero, Option.some.injEq, V.int.injEq, V.bl.injEq, V.str.injEq, V.ref.injEq, exists_eq_left', exists_eq_left, and_assoc, exists_and_left, exists_eq, exists_eq', true_and, and_true, List.set_cons_zero, List.set_cons_succ, List.set, decide_eq_true_eq, Bool.not_eq_true', if_true, if_false, rIx, cx_K, nox_K, List.replicate_succ, List.replicate_zero, Nat.reduceSub, Bool.true_eq_false, Bool.false_eq_true, Nat.reduceAdd, List.cons.injEq, reduceCtorEq, false_and, false_or, or_false, tAug, rSetO, rJoin, tMakeL, rStrO, ClX.tCMeth, rPop, tLc2_k, iEnum, tPar3, iZipS, iZipS3, tListZip, rInDT, tBackS, tBackT, tSlSt, rUn]
  refine ⟨_, rfl, .inl ⟨i, rfl, ?_⟩⟩
  simpa [h0, h1] using k
end
end Pf
end
section
namespace Pf
open PySem PySem.Spec PyProof.Rows L2 Ow StX
open SX (S)
theorem rowsV_get {rs : List (List Nat)} {i : Nat} {x : V} (h : (rowsV rs)[i]? = some x) : ∃ r, rs[i]? = some r ∧ x = .str (S r) := by
  rw [List.getElem?_map] at h
  cases q : rs[i]? with
  | none => rw [q] at h; cases h
  | some r => rw [q] at h; cases h; exact ⟨r, rfl, rfl⟩
theorem Good.at_ {w i : Nat} {rs : List (List Nat)} {r : List Nat} (g : Good w rs) (h : rs[i]? = some r) : r.length = w ∧ DigL r := g.row r (List.mem_of_getElem? h)
theorem at0 {rs : List (List Nat)} {w : Nat} (g : Good w rs) : ∃ r, rs[0]? = some r ∧ atI (rowsV rs) 0 = some (.str (S r)) := by
  cases rs with
  | nil => exact absurd g.l0 (by decide)
  | cons r t => exact ⟨r, rfl, atI_nat (j := 0) rfl⟩
theorem Good.len {w : Nat} {rs : List (List Nat)} {r : List Nat} (g : Good w rs) (h : r ∈ rs) : r.length ≤ 200 := by rw [(g.row r h).1]; exact g.w1
theorem rowsV_len (rs : List (List Nat)) : (rowsV rs).length = rs.length := List.length_map ..
section
variable {P : Program} {w : World} {K : PySem.W.Frag} {mg : Str → Option Value} {base : Heap} {a : Adr}
set_option maxHeartbeats 4000000
theorem ok_is_row (T : Txt K mg a) : FnR P w K mg base CX0 1 a.is_row spIsRow := by
  refine T.d_is_row.ok sc_is_row (fun _ _ _ _ _ _ us hl => match us, hl with | [_, _], _ => rfl) (fun vs H Q E h => by obtain ⟨r, m, rfl, _⟩ := h; rfl) (fun cdv A outer s H vs Q E hr h => ?_)
  obtain ⟨r, m, rfl, hd, h0, hl, hm, k⟩ := h
  refine ⟨_, (pss_one (ps_ret (pe_and (pe_callB call_isi (by rfl) T.n_isinstance (by decide +kernel) (pa_cons (pv 0) (pa_cons (pe_bltn (v := .ty "str") (by rfl) T.n_str (by decide +kernel) rfl) pa_nil))) (pe_and (pe_m0 PySem.F.slot_str_isascii PySem.F.type_str_isascii mt_isascii (pv 0)) (pe_and (pe_m0 PySem.F.slot_str_isdigit PySem.F.type_str_isdigit mt_isdigit (pv 0)) (pe_one (pe_cmpR op_le (pe_callB call_len_str (by rfl) T.n_len (by decide +kernel) (pa_cons (pv 0) pa_nil)) (pv 1) (nomark _)))))))), ?_⟩
  simp only [tSeq, tIfS, tTest, tB, tAnd, tOr, tNot, tAndV, tOrV, tNotV, tIf, tOp, tUn, tChain, rEq, rNe, rI0, rI, rU, tCallR, tCons, tNil, tC, tVar, tRet, tRetN, tTup_k, tLst_k, tCB, tNext, tAsg, gName, gTup, gCons, gNil, tDrop, tPar, tFld, ClX.tCVal, tPropR, rBin, rBinT, rNeOwn, rSetL_k, gSub, tMakeK_k, tMethR, rInO, tDNewK_k, tYes, wipe, tMakeR_k, tSMeth, tSMethK, rMulS, decide_true, tNever, sFld, rIsiT, and_false, rListOf, rTupOf, rLenSeq, rIxL, rIxT, rIxS, rCat_k, rRep_k, rSlL_k, rSlS, rNewStrs_k, rAppend_k, tBM, tBM0, tM0, tM1, tSl, tNoPart, tPart, tLc_k, tFor_k, iList, iTup, iEnumT, iRng1, iRng2, iRng2L, iStr, L2.start, List.map, List.length_cons, List.length_nil, List.cons_append, List.nil_append, List.getElem?_cons_succ, List.getElem?_cons_zero, Option.some.injEq, V.int.injEq, V.bl.injEq, V.str.injEq, V.ref.injEq, exists_eq_left', exists_eq_left, and_assoc, exists_and_left, exists_eq, exists_eq', true_and, and_true, List.set_cons_zero, List.set_cons_succ, List.set, decide_eq_true_eq, Bool.not_eq_true', if_true, if_false, rIx, cx_K, nox_K, List.replicate_succ, List.replicate_zero, Nat.reduceSub, Bool.true_eq_false, Bool.false_eq_true, Nat.reduceAdd, List.cons.injEq, reduceCtorEq, false_and, false_or, or_false, tAug, rSetO, rJoin, tMakeL, rStrO, ClX.tCMeth, rPop, tLc2_k, iEnum, tPar3, iZipS, iZipS3, tListZip, rInDT, tBackS, tBackT, tSlSt, rUn]
  refine ⟨_, _, _, _, true, rfl, .ty _, .base (.str _), kit_self, _, rfl, ?_⟩
  simp only [digL_ascii hd, digL_digit hd h0, tSeq, tIfS, tTest, tB, tAnd, tOr, tNot, tAndV, tOrV, tNotV, tIf, tOp, tUn, tChain, rEq, rNe, rI0, rI, rU, tCallR, tCons, tNil, tC, tVar, tRet, tRetN, tTup_k, tLst_k, tCB, tNext, tAsg, gName, gTup, gCons, gNil, tDrop, tPar, tFld, ClX.tCVal, tPropR, rBin, rBinT, rNeOwn, rSetL_k, gSub, tMakeK_k, tMethR, rInO, tDNewK_k, tYes, wipe, tMakeR_k, tSMeth, tSMethK, rMulS, decide_true, tNever, sFld, rIsiT, and_false, rListOf, rTupOf, rLenSeq, rIxL, rIxT, rIxS, rCat_k, rRep_k, rSlL_k, rSlS, rNewStrs_k, rAppend_k, tBM, tBM0, tM0, tM1, tSl, tNoPart, tPart, tLc_k, tFor_k, iList, iTup, iEnumT, iRng1, iRng2, iRng2L, iStr, L2.start, List.map, List.length_cons, List.length_nil, List.cons_append, List.nil_append, List.getElem?_cons_succ, List.getElem?_cons_zero, Option.some.injEq, V.int.injEq, V.bl.injEq, V.str.injEq, V.ref.injEq, exists_eq_left', exists_eq_left, and_assoc, exists_and_left, exists_eq, exists_eq', true_and, and_true, List.set_cons_zero, List.set_cons_succ, List.set, decide_eq_true_eq, Bool.not_eq_true', if_true, if_false, rIx, cx_K, nox_K, List.replicate_succ, List.replicate_zero, Nat.reduceSub, Bool.true_eq_false, Bool.false_eq_true, Nat.reduceAdd, List.cons.injEq, reduceCtorEq, false_and, false_or, or_false, tAug, rSetO, rJoin, tMakeL, rStrO, ClX.tCMeth, rPop, tLc2_k, iEnum, tPar3, iZipS, iZipS3, tListZip, rInDT, tBackS, tBackT, tSlSt, rUn]
  rw [SX.S_len, decide_eq_true hm]
  exact ⟨size200 hl, k⟩
theorem ok_wrong_row (T : Txt K mg a) : FnR P w K mg base CX0 2 a.wrong_row (spWrong K) := by
  have G_is_row : FnR P w K mg base CX0 1 a.is_row spIsRow := ok_is_row T
  refine T.d_wrong_row.ok sc_wrong_row (fun _ _ _ _ _ _ us hl => match us, hl with | [_, _], _ => rfl) (fun vs H Q E h => by obtain ⟨l, w, rs, rfl, _⟩ := h; rfl) (fun cdv A outer s H vs Q E hr h => ?_)
  obtain ⟨l, wd, rs, rfl, g, hs, k⟩ := h
  refine ⟨_, (pss_cons (ps_for PassesOwn.never rfl (pi_enumT (by rfl) T.n_enumerate (pa_cons (pv 0) pa_nil)) (pg_tup rfl (pgs_cons (pg_name (i := 2) sc_wrong_row.nd rfl (Or.inl rfl)) (pgs_cons (pg_name (i := 3) sc_wrong_row.nd rfl (Or.inl rfl)) pgs_nil)))
          (pss_one (ps_if (PW.pt (pw_or (pt_not (pt_val (pe_callR G_is_row (hr.mono (by decide)) T.m_is_row T.k_is_row pass0 (pa_cons (pv 3) (pa_cons (pv 1) pa_nil))))) (pw_or1 (pt_cmpR op_ne (pe_callB call_len_str (by rfl) T.n_len (by decide +kernel) (pa_cons (pv 3) pa_nil)) (pe_callB call_len_str (by rfl) T.n_len (by decide +kernel) (pa_cons (pe_ix ix_seq (pv 0) pe_int (fun _ _ => rfl)) pa_nil)) (nomark _)))))
              (pss_one (ps_ret (pv 2)))
              pss_nil)))
      (pss_one (ps_ret pe_non))), ?_⟩
  simp only [tSeq, tIfS, tTest, tB, tAnd, tOr, tNot, tAndV, tOrV, tNotV, tIf, tOp, tUn, tChain, rEq, rNe, rI0, rI, rU, tCallR, tCons, tNil, tC, tVar, tRet, tRetN, tTup_k, tLst_k, tCB, tNext, tAsg, gName, gTup, gCons, gNil, tDrop, tPar, tFld, ClX.tCVal, tPropR, rBin, rBinT, rNeOwn, rSetL_k, gSub, tMakeK_k, tMethR, rInO, tDNewK_k, tYes, wipe, tMakeR_k, tSMeth, tSMethK, rMulS, decide_true, tNever, sFld, rIsiT, and_false, rListOf, rTupOf, rLenSeq, rIxL, rIxT, rIxS, rCat_k, rRep_k, rSlL_k, rSlS, rNewStrs_k, rAppend_k, tBM, tBM0, tM0, tM1, tSl, tNoPart, tPart, tLc_k, tFor_k, iList, iTup, iEnumT, iRng1, iRng2, iRng2L, iStr, L2.start, List.map, List.length_cons, List.length_nil, List.cons_append, List.nil_append, List.getElem?_cons_succ, List.getElem?_cons_zero, Option.some.injEq, V.int.injEq, V.bl.injEq, V.str.injEq, V.ref.injEq, exists_eq_left', exists_eq_left, and_assoc, exists_and_left, exists_eq, exists_eq', true_and, and_true, List.set_cons_zero, List.set_cons_succ, List.set, decide_eq_true_eq, Bool.not_eq_true', if_true, if_false, rIx, cx_K, nox_K, List.replicate_succ, List.replicate_zero, Nat.reduceSub, Bool.true_eq_false, Bool.false_eq_true, Nat.reduceAdd, List.cons.injEq, reduceCtorEq, false_and, false_or, or_false, tAug, rSetO, rJoin, tMakeL, rStrO, ClX.tCMeth, rPop, tLc2_k, iEnum, tPar3, iZipS, iZipS3, tListZip, rInDT, tBackS, tBackT, tSlSt, rUn]
  obtain ⟨r0, hr0, ha0⟩ := at0 g
  have h0 : ∃ (x2 x3 : Option V), Same H H ∧ ([some (V.ref l), some (.int 200), none, none] : List (Option V)) = [some (.ref l), some (.int 200), x2, x3] := ⟨_, _, Same.refl H, rfl⟩
  rcases hs with hs | hs
  · refine ⟨_, .inl ⟨hs, kFor.it walk_enum (fun _ σ H' => ∃ (x2 x3 : Option V), Same H H' ∧ σ = [some (.ref l), some (.int 200), x2, x3]) h0 (fun _ _ H' _ q => by obtain ⟨_, _, s1, _⟩ := q; exact s1.seq hs) (fun i x σ H1 H2 hi hP hY => ?_) fun σ H' q => by obtain ⟨_, _, s1, _⟩ := q; exact k _ s1⟩⟩
    obtain ⟨at_, rw_, s1, rfl⟩ := hP
    obtain ⟨t1, y1, y2, rfl, ht1, rfl, e1, e2⟩ := hY
    cases e1
    obtain ⟨r, hri, rfl⟩ := rowsV_get e2
    have f1 := fresh_upd (o := .tup [.int (i : Nat), .str (S r)]) ht1
    obtain ⟨hw, hd⟩ := g.at_ hri
    have s2 := s1.trans f1.same
    refine ⟨t1, _, rfl, .inl (.inl f1.at_), rfl, ?_⟩
    simp only [tSeq, tIfS, tTest, tB, tAnd, tOr, tNot, tAndV, tOrV, tNotV, tIf, tOp, tUn, tChain, rEq, rNe, rI0, rI, rU, tCallR, tCons, tNil, tC, tVar, tRet, tRetN, tTup_k, tLst_k, tCB, tNext, tAsg, gName, gTup, gCons, gNil, tDrop, tPar, tFld, ClX.tCVal, tPropR, rBin, rBinT, rNeOwn, rSetL_k, gSub, tMakeK_k, tMethR, rInO, tDNewK_k, tYes, wipe, tMakeR_k, tSMeth, tSMethK, rMulS, decide_true, tNever, sFld, rIsiT, and_false, rListOf, rTupOf, rLenSeq, rIxL, rIxT, rIxS, rCat_k, rRep_k, rSlL_k, rSlS, rNewStrs_k, rAppend_k, tBM, tBM0, tM0, tM1, tSl, tNoPart, tPart, tLc_k, tFor_k, iList, iTup, iEnumT, iRng1, iRng2, iRng2L, iStr, L2.start, List.map, List.length_cons, List.length_nil, List.cons_append, List.nil_append, List.getElem?_cons_succ, List.getElem?_cons_zero, Option.some.injEq, V.int.injEq, V.bl.injEq, V.str.injEq, V.ref.injEq, exists_eq_left', exists_eq_left, and_assoc, exists_and_left, exists_eq, exists_eq', true_and, and_true, List.set_cons_zero, List.set_cons_succ, List.set, decide_eq_true_eq, Bool.not_eq_true', if_true, if_false, rIx, cx_K, nox_K, List.replicate_succ, List.replicate_zero, Nat.reduceSub, Bool.true_eq_false, Bool.false_eq_true, Nat.reduceAdd, List.cons.injEq, reduceCtorEq, false_and, false_or, or_false, tAug, rSetO, rJoin, tMakeL, rStrO, ClX.tCMeth, rPop, tLc2_k, iEnum, tPar3, iZipS, iZipS3, tListZip, rInDT, tBackS, tBackT, tSlSt, rUn]
    refine ⟨r, 200, rfl, hd, by rw [hw]; exact g.w0, by rw [hw]; exact g.w1, by rw [hw]; have := g.w1; omega, ?_⟩
    simp only [tSeq, tIfS, tTest, tB, tAnd, tOr, tNot, tAndV, tOrV, tNotV, tIf, tOp, tUn, tChain, rEq, rNe, rI0, rI, rU, tCallR, tCons, tNil, tC, tVar, tRet, tRetN, tTup_k, tLst_k, tCB, tNext, tAsg, gName, gTup, gCons, gNil, tDrop, tPar, tFld, ClX.tCVal, tPropR, rBin, rBinT, rNeOwn, rSetL_k, gSub, tMakeK_k, tMethR, rInO, tDNewK_k, tYes, wipe, tMakeR_k, tSMeth, tSMethK, rMulS, decide_true, tNever, sFld, rIsiT, and_false, rListOf, rTupOf, rLenSeq, rIxL, rIxT, rIxS, rCat_k, rRep_k, rSlL_k, rSlS, rNewStrs_k, rAppend_k, tBM, tBM0, tM0, tM1, tSl, tNoPart, tPart, tLc_k, tFor_k, iList, iTup, iEnumT, iRng1, iRng2, iRng2L, iStr, L2.start, List.map, List.length_cons, List.length_nil, List.cons_append, List.nil_append, List.getElem?_cons_succ, List.getElem?_cons_zero, Option.some.injEq, V.int.injEq, V.bl.injEq, V.str.injEq, V.ref.injEq, exists_eq_left', exists_eq_left, and_assoc, exists_and_left, exists_eq, exists_eq', true_and, and_true, List.set_cons_zero, List.set_cons_succ, List.set, decide_eq_true_eq, Bool.not_eq_true', if_true, if_false, rIx, cx_K, nox_K, List.replicate_succ, List.replicate_zero, Nat.reduceSub, Bool.true_eq_false, Bool.false_eq_true, Nat.reduceAdd, List.cons.injEq, reduceCtorEq, false_and, false_or, or_false, tAug, rSetO, rJoin, tMakeL, rStrO, ClX.tCMeth, rPop, tLc2_k, iEnum, tPar3, iZipS, iZipS3, tListZip, rInDT, tBackS, tBackT, tSlSt, rUn]
    have hw0 := (g.at_ hr0).1
    have q1 := g.w1
    refine ⟨by rw [SX.S_len, hw]; exact size200 q1, ?_⟩
    first
      | refine .inl ⟨_, Same.seq s2 hs, _, ha0, _, rfl, by rw [SX.S_len, hw0]; exact size200 q1, rfl, ?_⟩
      | refine .inr (.inl ⟨_, Same.tup s2 hs, _, ha0, _, rfl, by rw [SX.S_len, hw0]; exact size200 q1, rfl, ?_⟩)
    rw [SX.S_len, SX.S_len, hw, hw0, decide_eq_true rfl]
    exact s2
  · refine ⟨_, .inr ⟨hs, kFor.it walk_enumT (fun _ σ H' => ∃ (x2 x3 : Option V), Same H H' ∧ σ = [some (.ref l), some (.int 200), x2, x3]) h0 (fun _ _ H' _ q => by obtain ⟨_, _, s1, _⟩ := q; exact Same.tup s1 hs) (fun i x σ H1 H2 hi hP hY => ?_) fun σ H' q => by obtain ⟨_, _, s1, _⟩ := q; exact k _ s1⟩⟩
    obtain ⟨at_, rw_, s1, rfl⟩ := hP
    obtain ⟨t1, y1, y2, rfl, ht1, rfl, e1, e2⟩ := hY
    cases e1
    obtain ⟨r, hri, rfl⟩ := rowsV_get e2
    have f1 := fresh_upd (o := .tup [.int (i : Nat), .str (S r)]) ht1
    obtain ⟨hw, hd⟩ := g.at_ hri
    have s2 := s1.trans f1.same
    refine ⟨t1, _, rfl, .inl (.inl f1.at_), rfl, ?_⟩
    simp only [tSeq, tIfS, tTest, tB, tAnd, tOr, tNot, tAndV, tOrV, tNotV, tIf, tOp, tUn, tChain, rEq, rNe, rI0, rI, rU, tCallR, tCons, tNil, tC, tVar, tRet, tRetN, tTup_k, tLst_k, tCB, tNext, tAsg, gName, gTup, gCons, gNil, tDrop, tPar, tFld, ClX.tCVal, tPropR, rBin, rBinT, rNeOwn, rSetL_k, gSub, tMakeK_k, tMethR, rInO, tDNewK_k, tYes, wipe, tMakeR_k, tSMeth, tSMethK, rMulS, decide_true, tNever, sFld, rIsiT, and_false, rListOf, rTupOf, rLenSeq, rIxL, rIxT, rIxS, rCat_k, rRep_k, rSlL_k, rSlS, rNewStrs_k, rAppend_k, tBM, tBM0, tM0, tM1, tSl, tNoPart, tPart, tLc_k, tFor_k, iList, iTup, iEnumT, iRng1, iRng2, iRng2L, iStr, L2.start, List.map, List.length_cons, List.length_nil, List.cons_append, List.nil_append, List.getElem?_cons_succ, List.getElem?_cons_zero, Option.some.injEq, V.int.injEq, V.bl.injEq, V.str.injEq, V.ref.injEq, exists_eq_left', exists_eq_left, and_assoc, exists_and_left, exists_eq, exists_eq', true_and, and_true, List.set_cons_zero, List.set_cons_succ, List.set, decide_eq_true_eq, Bool.not_eq_true', if_true, if_false, rIx, cx_K, nox_K, List.replicate_succ, List.replicate_zero, Nat.reduceSub, Bool.true_eq_false, Bool.false_eq_true, Nat.reduceAdd, List.cons.injEq, reduceCtorEq, false_and, false_or, or_false, tAug, rSetO, rJoin, tMakeL, rStrO, ClX.tCMeth, rPop, tLc2_k, iEnum, tPar3, iZipS, iZipS3, tListZip, rInDT, tBackS, tBackT, tSlSt, rUn]
    refine ⟨r, 200, rfl, hd, by rw [hw]; exact g.w0, by rw [hw]; exact g.w1, by rw [hw]; have := g.w1; omega, ?_⟩
    simp only [tSeq, tIfS, tTest, tB, tAnd, tOr, tNot, tAndV, tOrV, tNotV, tIf, tOp, tUn, tChain, rEq, rNe, rI0, rI, rU, tCallR, tCons, tNil, tC, tVar, tRet, tRetN, tTup_k, tLst_k, tCB, tNext, tAsg, gName, gTup, gCons, gNil, tDrop, tPar, tFld, ClX.tCVal, tPropR, rBin, rBinT, rNeOwn, rSetL_k, gSub, tMakeK_k, tMethR, rInO, tDNewK_k, tYes, wipe, tMakeR_k, tSMeth, tSMethK, rMulS, decide_true, tNever, sFld, rIsiT, and_false, rListOf, rTupOf, rLenSeq, rIxL, rIxT, rIxS, rCat_k, rRep_k, rSlL_k, rSlS, rNewStrs_k, rAppend_k, tBM, tBM0, tM0, tM1, tSl, tNoPart, tPart, tLc_k, tFor_k, iList, iTup, iEnumT, iRng1, iRng2, iRng2L, iStr, L2.start, List.map, List.length_cons, List.length_nil, List.cons_append, List.nil_append, List.getElem?_cons_succ, List.getElem?_cons_zero, Option.some.injEq, V.int.injEq, V.bl.injEq, V.str.injEq, V.ref.injEq, exists_eq_left', exists_eq_left, and_assoc, exists_and_left, exists_eq, exists_eq', true_and, and_true, List.set_cons_zero, List.set_cons_succ, List.set, decide_eq_true_eq, Bool.not_eq_true', if_true, if_false, rIx, cx_K, nox_K, List.replicate_succ, List.replicate_zero, Nat.reduceSub, Bool.true_eq_false, Bool.false_eq_true, Nat.reduceAdd, List.cons.injEq, reduceCtorEq, false_and, false_or, or_false, tAug, rSetO, rJoin, tMakeL, rStrO, ClX.tCMeth, rPop, tLc2_k, iEnum, tPar3, iZipS, iZipS3, tListZip, rInDT, tBackS, tBackT, tSlSt, rUn]
    have hw0 := (g.at_ hr0).1
    have q1 := g.w1
    refine ⟨by rw [SX.S_len, hw]; exact size200 q1, ?_⟩
    first
      | refine .inl ⟨_, Same.seq s2 hs, _, ha0, _, rfl, by rw [SX.S_len, hw0]; exact size200 q1, rfl, ?_⟩
      | refine .inr (.inl ⟨_, Same.tup s2 hs, _, ha0, _, rfl, by rw [SX.S_len, hw0]; exact size200 q1, rfl, ?_⟩)
    rw [SX.S_len, SX.S_len, hw, hw0, decide_eq_true rfl]
    exact s2
end
def spPix (K : PySem.W.Frag) : Sp := fun vs H Q _ => ∃ (t : Addr) (w : Nat) (rs : List (List Nat)) (x y : Int), vs = [.ref t, .int x, .int y] ∧ SqT K H t (rowsV rs) ∧ Good w rs ∧ 0 ≤ x ∧ x < w ∧ 0 ≤ y ∧ y < rs.length ∧ Q (.bl true) H
def spChPix (K : PySem.W.Frag) : Sp := fun vs H Q _ => ∃ (t : Addr) (w : Nat) (rs : List (List Nat)) (x y : Int), vs = [.ref t, .int x, .int y] ∧ SqT K H t (rowsV rs) ∧ Good w rs ∧ 0 ≤ x ∧ x < w ∧ 0 ≤ y ∧ y < rs.length ∧ Q .non H
def IsRows (H : Hp) (l : Addr) (rs : List (List Nat)) : Prop := H l = some (.lst (rowsV rs)) ∨ H l = some (.tup (rowsV rs))
theorem IsRows.same {H H' : Hp} {l : Addr} {rs : List (List Nat)} (h : IsRows H l rs) (s : Same H H') : IsRows H' l rs := h.elim (fun h => .inl (s _ _ h)) fun h => .inr (s _ _ h)
theorem IsRows.seq {K : PySem.W.Frag} {H : Hp} {l : Addr} {rs : List (List Nat)} (h : IsRows H l rs) : SqL K H l (rowsV rs) ∨ SqT K H l (rowsV rs) := h.elim (fun h => .inl (SqL.of h)) fun h => .inr (.inl (.inl h))
def spPicInit (C : Addr) : Sp := fun vs H Q _ => ∃ (p dx l : Addr) (w : Nat) (rs : List (List Nat)), vs = [.ref p, .ref l] ∧ H p = some (.ins C dx []) ∧ Good w rs ∧ IsRows H l rs ∧
  ∀ (t : Addr) (H1 : Hp), Same H H1 → H1 t = some (.tup (rowsV rs)) → Q .non (upd H1 p (.ins C dx [("_rows", .ref t)]))
section
variable {P : Program} {w : World} {K : PySem.W.Frag} {mg : Str → Option Value} {base : Heap} {a : Adr}
set_option maxHeartbeats 4000000
theorem ok_is_pixel (T : Txt K mg a) : FnR P w K mg base CX0 3 a.is_pixel (spPix K) := by
  have G_is_int_in : FnR P w K mg base CX0 2 a.is_int_in (spIntIn K) := ok_int_in T
  refine T.d_is_pixel.ok sc_is_pixel (fun _ _ _ _ _ _ us hl => match us, hl with | [_, _, _], _ => rfl) (fun vs H Q E h => by obtain ⟨t, w, rs, x, y, rfl, _⟩ := h; rfl) (fun cdv A outer s H vs Q E hr h => ?_)
  obtain ⟨t, wd, rs, x, y, rfl, ht, g, x0, x1, y0, y1, k⟩ := h
  refine ⟨_, (pss_one (ps_ret (pe_and (pe_callR G_is_int_in (hr.mono (by decide)) T.m_is_int_in T.k_is_int_in pass0 (pa_cons (pv 1) (pa_cons pe_int (pa_cons (pe_callB call_len_str (by rfl) T.n_len (by decide +kernel) (pa_cons (pe_ix ix_tup (pv 0) pe_int (fun _ _ => rfl)) pa_nil)) pa_nil)))) (pe_one (pe_callR G_is_int_in (hr.mono (by decide)) T.m_is_int_in T.k_is_int_in pass0 (pa_cons (pv 2) (pa_cons pe_int (pa_cons (pe_callB call_len_seq (by rfl) T.n_len (by decide +kernel) (pa_cons (pv 0) pa_nil)) pa_nil)))))))), ?_⟩
  obtain ⟨r0, hr0, ha0⟩ := at0 g
  have hw0 := (g.at_ hr0).1
  have q1 := g.w1
  simp only [tSeq, tIfS, tTest, tB, tAnd, tOr, tNot, tAndV, tOrV, tNotV, tIf, tOp, tUn, tChain, rEq, rNe, rI0, rI, rU, tCallR, tCons, tNil, tC, tVar, tRet, tRetN, tTup_k, tLst_k, tCB, tNext, tAsg, gName, gTup, gCons, gNil, tDrop, tPar, tFld, ClX.tCVal, tPropR, rBin, rBinT, rNeOwn, rSetL_k, gSub, tMakeK_k, tMethR, rInO, tDNewK_k, tYes, wipe, tMakeR_k, tSMeth, tSMethK, rMulS, decide_true, tNever, sFld, rIsiT, and_false, rListOf, rTupOf, rLenSeq, rIxL, rIxT, rIxS, rCat_k, rRep_k, rSlL_k, rSlS, rNewStrs_k, rAppend_k, tBM, tBM0, tM0, tM1, tSl, tNoPart, tPart, tLc_k, tFor_k, iList, iTup, iEnumT, iRng1, iRng2, iRng2L, iStr, L2.start, List.map, List.length_cons, List.length_nil, List.cons_append, List.nil_append, List.getElem?_cons_succ, List.getElem?_cons_zero, Option.some.injEq, V.int.injEq, V.bl.injEq, V.str.injEq, V.ref.injEq, exists_eq_left', exists_eq_left, and_assoc, exists_and_left, exists_eq, exists_eq', true_and, and_true, List.set_cons_zero, List.set_cons_succ, List.set, decide_eq_true_eq, Bool.not_eq_true', if_true, if_false, rIx, cx_K, nox_K, List.replicate_succ, List.replicate_zero, Nat.reduceSub, Bool.true_eq_false, Bool.false_eq_true, Nat.reduceAdd, List.cons.injEq, reduceCtorEq, false_and, false_or, or_false, tAug, rSetO, rJoin, tMakeL, rStrO, ClX.tCMeth, rPop, tLc2_k, iEnum, tPar3, iZipS, iZipS3, tListZip, rInDT, tBackS, tBackT, tSlSt, rUn]
  refine ⟨_, ht, _, ha0, _, rfl, by rw [SX.S_len, hw0]; exact size200 q1, _, _, _, rfl, .inl ⟨_, rfl, ?_⟩⟩
  rw [SX.S_len, hw0]
  simp only [decide_eq_true x0, decide_eq_true x1, Bool.and_self, tSeq, tIfS, tTest, tB, tAnd, tOr, tNot, tAndV, tOrV, tNotV, tIf, tOp, tUn, tChain, rEq, rNe, rI0, rI, rU, tCallR, tCons, tNil, tC, tVar, tRet, tRetN, tTup_k, tLst_k, tCB, tNext, tAsg, gName, gTup, gCons, gNil, tDrop, tPar, tFld, ClX.tCVal, tPropR, rBin, rBinT, rNeOwn, rSetL_k, gSub, tMakeK_k, tMethR, rInO, tDNewK_k, tYes, wipe, tMakeR_k, tSMeth, tSMethK, rMulS, decide_true, tNever, sFld, rIsiT, and_false, rListOf, rTupOf, rLenSeq, rIxL, rIxT, rIxS, rCat_k, rRep_k, rSlL_k, rSlS, rNewStrs_k, rAppend_k, tBM, tBM0, tM0, tM1, tSl, tNoPart, tPart, tLc_k, tFor_k, iList, iTup, iEnumT, iRng1, iRng2, iRng2L, iStr, L2.start, List.map, List.length_cons, List.length_nil, List.cons_append, List.nil_append, List.getElem?_cons_succ, List.getElem?_cons_zero, Option.some.injEq, V.int.injEq, V.bl.injEq, V.str.injEq, V.ref.injEq, exists_eq_left', exists_eq_left, and_assoc, exists_and_left, exists_eq, exists_eq', true_and, and_true, List.set_cons_zero, List.set_cons_succ, List.set, decide_eq_true_eq, Bool.not_eq_true', if_true, if_false, rIx, cx_K, nox_K, List.replicate_succ, List.replicate_zero, Nat.reduceSub, Bool.true_eq_false, Bool.false_eq_true, Nat.reduceAdd, List.cons.injEq, reduceCtorEq, false_and, false_or, or_false, tAug, rSetO, rJoin, tMakeL, rStrO, ClX.tCMeth, rPop, tLc2_k, iEnum, tPar3, iZipS, iZipS3, tListZip, rInDT, tBackS, tBackT, tSlSt, rUn]
  refine ⟨_, .inr ht, _, _, _, rfl, .inl ⟨_, rfl, ?_⟩⟩
  rw [rowsV_len, decide_eq_true y0, decide_eq_true y1]
  exact k
theorem ok_check_pixel (T : Txt K mg a) : FnR P w K mg base CX0 4 a.check_pixel (spChPix K) := by
  have G_is_pixel : FnR P w K mg base CX0 3 a.is_pixel (spPix K) := ok_is_pixel T
  refine T.d_check_pixel.ok sc_check_pixel (fun _ _ _ _ _ _ us hl => match us, hl with | [_, _, _], _ => rfl) (fun vs H Q E h => by obtain ⟨t, w, rs, x, y, rfl, _⟩ := h; rfl) (fun cdv A outer s H vs Q E hr h => ?_)
  obtain ⟨t, wd, rs, x, y, rfl, ht, g, x0, x1, y0, y1, k⟩ := h
  refine ⟨_, (pss_one (ps_if (pt_not (pt_val (pe_callR G_is_pixel (hr.mono (by decide)) T.m_is_pixel T.k_is_pixel pass0 (pa_cons (pv 0) (pa_cons (pv 1) (pa_cons (pv 2) pa_nil))))))
          (pss_one ps_never)
          pss_nil)), ?_⟩
  simp only [tSeq, tIfS, tTest, tB, tAnd, tOr, tNot, tAndV, tOrV, tNotV, tIf, tOp, tUn, tChain, rEq, rNe, rI0, rI, rU, tCallR, tCons, tNil, tC, tVar, tRet, tRetN, tTup_k, tLst_k, tCB, tNext, tAsg, gName, gTup, gCons, gNil, tDrop, tPar, tFld, ClX.tCVal, tPropR, rBin, rBinT, rNeOwn, rSetL_k, gSub, tMakeK_k, tMethR, rInO, tDNewK_k, tYes, wipe, tMakeR_k, tSMeth, tSMethK, rMulS, decide_true, tNever, sFld, rIsiT, and_false, rListOf, rTupOf, rLenSeq, rIxL, rIxT, rIxS, rCat_k, rRep_k, rSlL_k, rSlS, rNewStrs_k, rAppend_k, tBM, tBM0, tM0, tM1, tSl, tNoPart, tPart, tLc_k, tFor_k, iList, iTup, iEnumT, iRng1, iRng2, iRng2L, iStr, L2.start, List.map, List.length_cons, List.length_nil, List.cons_append, List.nil_append, List.getElem?_cons_succ, List.getElem?_cons_zero, Option.some.injEq, V.int.injEq, V.bl.injEq, V.str.injEq, V.ref.injEq, exists_eq_left', exists_eq_left, and_assoc, exists_and_left, exists_eq, exists_eq', true_and, and_true, List.set_cons_zero, List.set_cons_succ, List.set, decide_eq_true_eq, Bool.not_eq_true', if_true, if_false, rIx, cx_K, nox_K, List.replicate_succ, List.replicate_zero, Nat.reduceSub, Bool.true_eq_false, Bool.false_eq_true, Nat.reduceAdd, List.cons.injEq, reduceCtorEq, false_and, false_or, or_false, tAug, rSetO, rJoin, tMakeL, rStrO, ClX.tCMeth, rPop, tLc2_k, iEnum, tPar3, iZipS, iZipS3, tListZip, rInDT, tBackS, tBackT, tSlSt, rUn]
  refine ⟨_, _, _, _, _, rfl, ht, g, x0, x1, y0, y1, ?_⟩
  simp only [tSeq, tIfS, tTest, tB, tAnd, tOr, tNot, tAndV, tOrV, tNotV, tIf, tOp, tUn, tChain, rEq, rNe, rI0, rI, rU, tCallR, tCons, tNil, tC, tVar, tRet, tRetN, tTup_k, tLst_k, tCB, tNext, tAsg, gName, gTup, gCons, gNil, tDrop, tPar, tFld, ClX.tCVal, tPropR, rBin, rBinT, rNeOwn, rSetL_k, gSub, tMakeK_k, tMethR, rInO, tDNewK_k, tYes, wipe, tMakeR_k, tSMeth, tSMethK, rMulS, decide_true, tNever, sFld, rIsiT, and_false, rListOf, rTupOf, rLenSeq, rIxL, rIxT, rIxS, rCat_k, rRep_k, rSlL_k, rSlS, rNewStrs_k, rAppend_k, tBM, tBM0, tM0, tM1, tSl, tNoPart, tPart, tLc_k, tFor_k, iList, iTup, iEnumT, iRng1, iRng2, iRng2L, iStr, L2.start, List.map, List.length_cons, List.length_nil, List.cons_append, List.nil_append, List.getElem?_cons_succ, List.getElem?_cons_zero, Option.some.injEq, V.int.injEq, V.bl.injEq, V.str.injEq, V.ref.injEq, exists_eq_left', exists_eq_left, and_assoc, exists_and_left, exists_eq, exists_eq', true_and, and_true, List.set_cons_zero, List.set_cons_succ, List.set, decide_eq_true_eq, Bool.not_eq_true', if_true, if_false, rIx, cx_K, nox_K, List.replicate_succ, List.replicate_zero, Nat.reduceSub, Bool.true_eq_false, Bool.false_eq_true, Nat.reduceAdd, List.cons.injEq, reduceCtorEq, false_and, false_or, or_false, tAug, rSetO, rJoin, tMakeL, rStrO, ClX.tCMeth, rPop, tLc2_k, iEnum, tPar3, iZipS, iZipS3, tListZip, rInDT, tBackS, tBackT, tSlSt, rUn]
  exact k
theorem pic_init_body (T : Txt K mg a) {cdv : Value} {A : Around} {outer : List Env} {s : Shared} {H : Hp} {vs : List V} {Q : VK} {E : XK} (hr : Room 2 (A.deeper (envOfC "Picture.__init__" (defScope s_Picture_init) s.heap.objs.size a.Picture_init cdv))) (h : spPicInit a.Picture vs H Q E) :
    ∃ t, PSs (cxOf CX0 P w K mg base ["self", "rows", "wrong"] "Picture.__init__" (defScope s_Picture_init) a.Picture_init cdv A outer s H E).nox (defBody s_Picture_init) t ∧ t { nx := fun _ H' => Q .non H', rt := Q } (L2.start ["self", "rows", "wrong"] vs) H := by
  have G_wrong_row : FnR P w K mg base CX0 2 a.wrong_row (spWrong K) := ok_wrong_row T
  obtain ⟨uM, cvM⟩ := T.cv_MOST
  obtain ⟨p, dx, l, wd, rs, rfl, hp, g, hl, k⟩ := h
  refine ⟨_, (pss_cons (ps_if (PW.pt (pw_or (pt_not (pt_val (pe_callB call_isiT (by rfl) T.n_isinstance (by decide +kernel) (pa_cons (pv 1) (pa_cons (pe_tup (pa_cons (pe_bltn (v := .ty "list") (by rfl) T.n_list (by decide +kernel) rfl) (pa_cons (pe_bltn (v := .ty "tuple") (by rfl) T.n_tuple (by decide +kernel) rfl) pa_nil))) pa_nil))))) (pw_or1 (pt_not (pt_chain op_le op_le pe_int (pe_callB call_len_seq (by rfl) T.n_len (by decide +kernel) (pa_cons (pv 1) pa_nil)) (ClX.pe_cval (pe_glob (v := .ref a.Picture) rfl T.m_Picture rfl)))))))
          (pss_one ps_never)
          pss_nil)
      (pss_cons (ps_set (i := 2) sc_Picture_init.nd rfl (Or.inl rfl) (pe_callR G_wrong_row (hr.mono (by decide)) T.m_wrong_row T.k_wrong_row pass0 (pa_cons (pv 1) (pa_cons (ClX.pe_cval (pe_glob (v := .ref a.Picture) rfl T.m_Picture rfl)) pa_nil))))
      (pss_cons (ps_if (pt_cmpR op_notN (pv 2) pe_non (nomark _))
          (pss_one ps_never)
          pss_nil)
      (pss_one (ps_fld (pv 0) (pe_callTy call_tupleK (by rfl) T.n_tuple (by decide +kernel) (pa_cons (pv 1) pa_nil)) rfl))))), ?_⟩
  simp only [tSeq, tIfS, tTest, tB, tAnd, tOr, tNot, tAndV, tOrV, tNotV, tIf, tOp, tUn, tChain, rEq, rNe, rI0, rI, rU, tCallR, tCons, tNil, tC, tVar, tRet, tRetN, tTup_k, tLst_k, tCB, tNext, tAsg, gName, gTup, gCons, gNil, tDrop, tPar, tFld, ClX.tCVal, tPropR, rBin, rBinT, rNeOwn, rSetL_k, gSub, tMakeK_k, tMethR, rInO, tDNewK_k, tYes, wipe, tMakeR_k, tSMeth, tSMethK, rMulS, decide_true, tNever, sFld, rIsiT, and_false, rListOf, rTupOf, rLenSeq, rIxL, rIxT, rIxS, rCat_k, rRep_k, rSlL_k, rSlS, rNewStrs_k, rAppend_k, tBM, tBM0, tM0, tM1, tSl, tNoPart, tPart, tLc_k, tFor_k, iList, iTup, iEnumT, iRng1, iRng2, iRng2L, iStr, L2.start, List.map, List.length_cons, List.length_nil, List.cons_append, List.nil_append, List.getElem?_cons_succ, List.getElem?_cons_zero, Option.some.injEq, V.int.injEq, V.bl.injEq, V.str.injEq, V.ref.injEq, exists_eq_left', exists_eq_left, and_assoc, exists_and_left, exists_eq, exists_eq', true_and, and_true, List.set_cons_zero, List.set_cons_succ, List.set, decide_eq_true_eq, Bool.not_eq_true', if_true, if_false, rIx, cx_K, nox_K, List.replicate_succ, List.replicate_zero, Nat.reduceSub, Bool.true_eq_false, Bool.false_eq_true, Nat.reduceAdd, List.cons.injEq, reduceCtorEq, false_and, false_or, or_false, tAug, rSetO, rJoin, tMakeL, rStrO, ClX.tCMeth, rPop, tLc2_k, iEnum, tPar3, iZipS, iZipS3, tListZip, rInDT, tBackS, tBackT, tSlSt, rUn]
  have lt : TyX K H (.ref l) (.type "list") ∨ TyX K H (.ref l) (.type "tuple") := hl.elim (fun h => .inl (.base (.lst h))) fun h => .inr (.base (.tup h))
  refine kNew.mk (by show 2 ≤ sizeLine; decide) fun tp H1 f1 => ?_
  have hl1 := hl.same f1.same
  obtain ⟨tt, hty, hk⟩ : ∃ tt, TyX K H1 (.ref l) tt ∧ PySem.W.kitAny K tt [.type "list", .type "tuple"] = some true := by
    rcases hl1 with h | h
    · exact ⟨_, .base (.lst h), kitAny_cons kit_self (by intro z; cases z) (fun _ => rfl)⟩
    · exact ⟨_, .base (.tup h), kitAny_cons (b := false) (kit_ty (by decide +kernel)) (fun _ => kitAny_cons kit_self (by intro z; cases z) (fun _ => rfl)) (by intro z; cases z)⟩
  simp only [tSeq, tIfS, tTest, tB, tAnd, tOr, tNot, tAndV, tOrV, tNotV, tIf, tOp, tUn, tChain, rEq, rNe, rI0, rI, rU, tCallR, tCons, tNil, tC, tVar, tRet, tRetN, tTup_k, tLst_k, tCB, tNext, tAsg, gName, gTup, gCons, gNil, tDrop, tPar, tFld, ClX.tCVal, tPropR, rBin, rBinT, rNeOwn, rSetL_k, gSub, tMakeK_k, tMethR, rInO, tDNewK_k, tYes, wipe, tMakeR_k, tSMeth, tSMethK, rMulS, decide_true, tNever, sFld, rIsiT, and_false, rListOf, rTupOf, rLenSeq, rIxL, rIxT, rIxS, rCat_k, rRep_k, rSlL_k, rSlS, rNewStrs_k, rAppend_k, tBM, tBM0, tM0, tM1, tSl, tNoPart, tPart, tLc_k, tFor_k, iList, iTup, iEnumT, iRng1, iRng2, iRng2L, iStr, L2.start, List.map, List.length_cons, List.length_nil, List.cons_append, List.nil_append, List.getElem?_cons_succ, List.getElem?_cons_zero, Option.some.injEq, V.int.injEq, V.bl.injEq, V.str.injEq, V.ref.injEq, exists_eq_left', exists_eq_left, and_assoc, exists_and_left, exists_eq, exists_eq', true_and, and_true, List.set_cons_zero, List.set_cons_succ, List.set, decide_eq_true_eq, Bool.not_eq_true', if_true, if_false, rIx, cx_K, nox_K, List.replicate_succ, List.replicate_zero, Nat.reduceSub, Bool.true_eq_false, Bool.false_eq_true, Nat.reduceAdd, List.cons.injEq, reduceCtorEq, false_and, false_or, or_false, tAug, rSetO, rJoin, tMakeL, rStrO, ClX.tCMeth, rPop, tLc2_k, iEnum, tPar3, iZipS, iZipS3, tListZip, rInDT, tBackS, tBackT, tSlSt, rUn]
  refine ⟨_, f1.at_, _, _, .cons (.ty _) (.cons (.ty _) .nil), hty, true, hk, ?_⟩
  simp only [tSeq, tIfS, tTest, tB, tAnd, tOr, tNot, tAndV, tOrV, tNotV, tIf, tOp, tUn, tChain, rEq, rNe, rI0, rI, rU, tCallR, tCons, tNil, tC, tVar, tRet, tRetN, tTup_k, tLst_k, tCB, tNext, tAsg, gName, gTup, gCons, gNil, tDrop, tPar, tFld, ClX.tCVal, tPropR, rBin, rBinT, rNeOwn, rSetL_k, gSub, tMakeK_k, tMethR, rInO, tDNewK_k, tYes, wipe, tMakeR_k, tSMeth, tSMethK, rMulS, decide_true, tNever, sFld, rIsiT, and_false, rListOf, rTupOf, rLenSeq, rIxL, rIxT, rIxS, rCat_k, rRep_k, rSlL_k, rSlS, rNewStrs_k, rAppend_k, tBM, tBM0, tM0, tM1, tSl, tNoPart, tPart, tLc_k, tFor_k, iList, iTup, iEnumT, iRng1, iRng2, iRng2L, iStr, L2.start, List.map, List.length_cons, List.length_nil, List.cons_append, List.nil_append, List.getElem?_cons_succ, List.getElem?_cons_zero, Option.some.injEq, V.int.injEq, V.bl.injEq, V.str.injEq, V.ref.injEq, exists_eq_left', exists_eq_left, and_assoc, exists_and_left, exists_eq, exists_eq', true_and, and_true, List.set_cons_zero, List.set_cons_succ, List.set, decide_eq_true_eq, Bool.not_eq_true', if_true, if_false, rIx, cx_K, nox_K, List.replicate_succ, List.replicate_zero, Nat.reduceSub, Bool.true_eq_false, Bool.false_eq_true, Nat.reduceAdd, List.cons.injEq, reduceCtorEq, false_and, false_or, or_false, tAug, rSetO, rJoin, tMakeL, rStrO, ClX.tCMeth, rPop, tLc2_k, iEnum, tPar3, iZipS, iZipS3, tListZip, rInDT, tBackS, tBackT, tSlSt, rUn]
  refine ⟨_, hl1.seq, ?_⟩
  have l0 : 1 ≤ ((rowsV rs).length : Int) := by rw [rowsV_len]; have := g.l0; omega
  have l1 : ((rowsV rs).length : Int) ≤ 200 := by rw [rowsV_len]; have := g.l1; omega
  rw [if_pos l0]
  refine ⟨_, T.cr_Picture, _, _, cvM, _, rfl, ?_⟩
  simp only [decide_eq_true l1, tSeq, tIfS, tTest, tB, tAnd, tOr, tNot, tAndV, tOrV, tNotV, tIf, tOp, tUn, tChain, rEq, rNe, rI0, rI, rU, tCallR, tCons, tNil, tC, tVar, tRet, tRetN, tTup_k, tLst_k, tCB, tNext, tAsg, gName, gTup, gCons, gNil, tDrop, tPar, tFld, ClX.tCVal, tPropR, rBin, rBinT, rNeOwn, rSetL_k, gSub, tMakeK_k, tMethR, rInO, tDNewK_k, tYes, wipe, tMakeR_k, tSMeth, tSMethK, rMulS, decide_true, tNever, sFld, rIsiT, and_false, rListOf, rTupOf, rLenSeq, rIxL, rIxT, rIxS, rCat_k, rRep_k, rSlL_k, rSlS, rNewStrs_k, rAppend_k, tBM, tBM0, tM0, tM1, tSl, tNoPart, tPart, tLc_k, tFor_k, iList, iTup, iEnumT, iRng1, iRng2, iRng2L, iStr, L2.start, List.map, List.length_cons, List.length_nil, List.cons_append, List.nil_append, List.getElem?_cons_succ, List.getElem?_cons_zero, Option.some.injEq, V.int.injEq, V.bl.injEq, V.str.injEq, V.ref.injEq, exists_eq_left', exists_eq_left, and_assoc, exists_and_left, exists_eq, exists_eq', true_and, and_true, List.set_cons_zero, List.set_cons_succ, List.set, decide_eq_true_eq, Bool.not_eq_true', if_true, if_false, rIx, cx_K, nox_K, List.replicate_succ, List.replicate_zero, Nat.reduceSub, Bool.true_eq_false, Bool.false_eq_true, Nat.reduceAdd, List.cons.injEq, reduceCtorEq, false_and, false_or, or_false, tAug, rSetO, rJoin, tMakeL, rStrO, ClX.tCMeth, rPop, tLc2_k, iEnum, tPar3, iZipS, iZipS3, tListZip, rInDT, tBackS, tBackT, tSlSt, rUn]
  refine ⟨_, T.cr_Picture, _, _, cvM, _, _, _, rfl, g, hl1.seq, fun H2 s2 => ?_⟩
  have hl2 := hl1.same s2
  have hp2 := s2 _ _ (f1.same _ _ hp)
  simp only [tSeq, tIfS, tTest, tB, tAnd, tOr, tNot, tAndV, tOrV, tNotV, tIf, tOp, tUn, tChain, rEq, rNe, rI0, rI, rU, tCallR, tCons, tNil, tC, tVar, tRet, tRetN, tTup_k, tLst_k, tCB, tNext, tAsg, gName, gTup, gCons, gNil, tDrop, tPar, tFld, ClX.tCVal, tPropR, rBin, rBinT, rNeOwn, rSetL_k, gSub, tMakeK_k, tMethR, rInO, tDNewK_k, tYes, wipe, tMakeR_k, tSMeth, tSMethK, rMulS, decide_true, tNever, sFld, rIsiT, and_false, rListOf, rTupOf, rLenSeq, rIxL, rIxT, rIxS, rCat_k, rRep_k, rSlL_k, rSlS, rNewStrs_k, rAppend_k, tBM, tBM0, tM0, tM1, tSl, tNoPart, tPart, tLc_k, tFor_k, iList, iTup, iEnumT, iRng1, iRng2, iRng2L, iStr, L2.start, List.map, List.length_cons, List.length_nil, List.cons_append, List.nil_append, List.getElem?_cons_succ, List.getElem?_cons_zero, Option.some.injEq, V.int.injEq, V.bl.injEq, V.str.injEq, V.ref.injEq, exists_eq_left', exists_eq_left, and_assoc, exists_and_left, exists_eq, exists_eq', true_and, and_true, List.set_cons_zero, List.set_cons_succ, List.set, decide_eq_true_eq, Bool.not_eq_true', if_true, if_false, rIx, cx_K, nox_K, List.replicate_succ, List.replicate_zero, Nat.reduceSub, Bool.true_eq_false, Bool.false_eq_true, Nat.reduceAdd, List.cons.injEq, reduceCtorEq, false_and, false_or, or_false, tAug, rSetO, rJoin, tMakeL, rStrO, ClX.tCMeth, rPop, tLc2_k, iEnum, tPar3, iZipS, iZipS3, tListZip, rInDT, tBackS, tBackT, tSlSt, rUn]
  rcases hl2 with h | h
  · exact ⟨_, .inl ⟨SqL.of h, kN.mk fun t H3 f3 => ⟨_, dx, [], f3.get hp2, T.c_Picture.cl, T.a_Picture__rows, by decide, k t H3 ((f1.same.trans s2).trans f3.same) f3.at_⟩⟩⟩
  · exact ⟨_, .inr ⟨.inl (.inl h), _, dx, [], hp2, T.c_Picture.cl, T.a_Picture__rows, by decide, k l H2 (f1.same.trans s2) h⟩⟩
theorem ok_pic_init (T : Txt K mg a) : FnR P w K mg base CX0 3 a.Picture_init (spPicInit a.Picture) :=
  T.d_Picture_init.ok sc_Picture_init (fun _ _ _ _ _ _ us hl => match us, hl with | [_, _], _ => rfl) (fun vs H Q E h => by obtain ⟨p, dx, l, w, rs, rfl, _⟩ := h; rfl) (fun cdv A outer s H vs Q E hr h => pic_init_body T hr h)
theorem newPic {C l : Addr} {w : Nat} {rs : List (List Nat)} {H : Hp} {Q : VK} {E : XK} (g : Good w rs) (hl : IsRows H l rs) (k : ∀ x H', Same H H' → H x = none → Pic H' C x rs → Q (.ref x) H') : kMake C (spPicInit C) E Q [.ref l] H :=
  kMake.mk fun x dx H1 s1 nx hx so => ⟨x, dx, l, w, rs, rfl, hx, g, hl.same s1, fun t H2 s2 ht => by
    refine ⟨rfl, k x _ ?_ nx ⟨dx, t, upd_same, ?_⟩⟩
    · intro b u e
      rw [upd_ne (ne_of_none e nx)]
      exact s2 _ _ (s1 _ _ e)
    · rw [upd_ne (ne_of ht (s2 _ _ hx) (fun z => by cases z))]
      exact ht⟩
end
theorem cut_to {a : List Nat} {i : Nat} (h : i ≤ a.length) : cutS (S a) none (some (i : Int)) = S (a.take i) := by
  unfold cutS
  rw [HT.sIx_nat, HT.sIx_none, SX.S_len, Nat.min_eq_left h, List.drop_zero, Nat.sub_zero]
theorem cut_from {a : List Nat} {i : Nat} (h : i ≤ a.length) : cutS (S a) (some (i : Int)) none = S (a.drop i) := by
  unfold cutS
  rw [HT.sIx_nat, HT.sIx_none, SX.S_len, Nat.min_eq_left h]
  exact congrArg S (List.take_of_length_le (by rw [List.length_drop]; exact Nat.le_refl _))
theorem rowsV_set (rs : List (List Nat)) (j : Nat) (r : List Nat) : (rowsV rs).set j (.str (S r)) = rowsV (rs.set j r) := by
  show (List.map _ rs).set j _ = List.map _ (rs.set j r)
  rw [List.map_set]
theorem cut_fromA {a : List Nat} {i : Nat} : cutS (S a) (some (i : Int)) none = S (a.drop i) := by
  by_cases h : i ≤ a.length
  · exact cut_from h
  · unfold cutS
    rw [HT.sIx_nat, HT.sIx_none, SX.S_len, Nat.min_eq_right (by omega), List.drop_of_length_le (show a.length ≤ i by omega)]
    exact congrArg S (by rw [show (S a).cps.toList = a from rfl, List.drop_of_length_le (Nat.le_refl _), List.take_nil])
theorem mul_any (d : Nat) {n : Int} (h : 0 ≤ n) : Txt.mul (S [d]) n = S (List.replicate n.toNat d) := by
  by_cases e : n = 0
  · subst e
    unfold Txt.mul
    rw [if_pos (by decide)]
    rfl
  · exact mul_one d (by omega)
theorem mulOk_any (d : Nat) {n : Int} (h : 0 ≤ n) (h2 : n ≤ 100000) : MulOk (S [d]) n := by
  by_cases e : n = 0
  · subst e
    exact ⟨by decide, fun z => absurd (by decide) z, fun z => absurd (by decide) z⟩
  · exact mulOk_one d (by omega) h2
end Pf
end
section
namespace Pf
open PySem PySem.Spec PyProof.Rows L2 Ow StX
open SX (S)
theorem dig_S {c : Int} (h0 : 0 ≤ c) (h1 : c < 10) : Str.ofString (toString c) = S [48 + c.toNat] ∧ c.natAbs.log2 < 1920 := by
  rcases (by omega : c = 0 ∨ c = 1 ∨ c = 2 ∨ c = 3 ∨ c = 4 ∨ c = 5 ∨ c = 6 ∨ c = 7 ∨ c = 8 ∨ c = 9) with rfl | rfl | rfl | rfl | rfl | rfl | rfl | rfl | rfl | rfl <;> exact ⟨by decide +kernel, by decide +kernel⟩
theorem flat_one {α : Type} (x : α) : ∀ n : Nat, (List.replicate n [x]).flatten = List.replicate n x
  | 0 => rfl
  | n + 1 => by rw [List.replicate_succ, List.flatten_cons, flat_one x n, List.replicate_succ]; rfl
def spPRows (C : Addr) : Sp := fun vs H Q _ => ∃ (x dx t : Addr), vs = [.ref x] ∧ H x = some (.ins C dx [("_rows", .ref t)]) ∧ Q (.ref t) H
def spPWidth (C : Addr) : Sp := fun vs H Q _ => ∃ (x : Addr) (w : Nat) (rs : List (List Nat)), vs = [.ref x] ∧ Pic H C x rs ∧ Good w rs ∧ Q (.int w) H
def spPHeight (C : Addr) : Sp := fun vs H Q _ => ∃ (x : Addr) (rs : List (List Nat)), vs = [.ref x] ∧ Pic H C x rs ∧ Q (.int rs.length) H
section
variable {P : Program} {w : World} {K : PySem.W.Frag} {mg : Str → Option Value} {base : Heap} {a : Adr}
set_option maxHeartbeats 4000000
theorem ok_prows (T : Txt K mg a) : FnR P w K mg base CX0 1 a.Picture_rows (spPRows a.Picture) := by
  refine T.d_Picture_rows.ok sc_Picture_rows (fun _ _ _ _ _ _ us hl => match us, hl with | [_], _ => rfl) (fun vs H Q E h => by obtain ⟨x, dx, t, rfl, _⟩ := h; rfl) (fun cdv A outer s H vs Q E hr h => ?_)
  obtain ⟨x, dx, t, rfl, hx, k⟩ := h
  refine ⟨_, (pss_one (ps_ret (pe_fld (pv 0) rfl))), ?_⟩
  simp only [tSeq, tIfS, tTest, tB, tAnd, tOr, tNot, tAndV, tOrV, tNotV, tIf, tOp, tUn, tChain, rEq, rNe, rI0, rI, rU, tCallR, tCons, tNil, tC, tVar, tRet, tRetN, tTup_k, tLst_k, tCB, tNext, tAsg, gName, gTup, gCons, gNil, tDrop, tPar, tFld, ClX.tCVal, tPropR, rBin, rBinT, rNeOwn, rSetL_k, gSub, tMakeK_k, tMethR, rInO, tDNewK_k, tYes, wipe, tMakeR_k, tSMeth, tSMethK, rMulS, decide_true, tNever, sFld, rIsiT, and_false, rListOf, rTupOf, rLenSeq, rIxL, rIxT, rIxS, rCat_k, rRep_k, rSlL_k, rSlS, rNewStrs_k, rAppend_k, tBM, tBM0, tM0, tM1, tSl, tNoPart, tPart, tLc_k, tFor_k, iList, iTup, iEnumT, iRng1, iRng2, iRng2L, iStr, L2.start, List.map, List.length_cons, List.length_nil, List.cons_append, List.nil_append, List.getElem?_cons_succ, List.getElem?_cons_zero, Option.some.injEq, V.int.injEq, V.bl.injEq, V.str.injEq, V.ref.injEq, exists_eq_left', exists_eq_left, and_assoc, exists_and_left, exists_eq, exists_eq', true_and, and_true, List.set_cons_zero, List.set_cons_succ, List.set, decide_eq_true_eq, Bool.not_eq_true', if_true, if_false, rIx, cx_K, nox_K, List.replicate_succ, List.replicate_zero, Nat.reduceSub, Bool.true_eq_false, Bool.false_eq_true, Nat.reduceAdd, List.cons.injEq, reduceCtorEq, false_and, false_or, or_false, tAug, rSetO, rJoin, tMakeL, rStrO, ClX.tCMeth, rPop, tLc2_k, iEnum, tPar3, iZipS, iZipS3, tListZip, rInDT, tBackS, tBackT, tSlSt, rUn]
  exact ⟨_, dx, _, hx, T.c_Picture.cl, T.a_Picture__rows, _, rfl, k⟩
theorem ok_pwidth (T : Txt K mg a) : FnR P w K mg base CX0 1 a.Picture_width (spPWidth a.Picture) := by
  refine T.d_Picture_width.ok sc_Picture_width (fun _ _ _ _ _ _ us hl => match us, hl with | [_], _ => rfl) (fun vs H Q E h => by obtain ⟨x, w, rs, rfl, _⟩ := h; rfl) (fun cdv A outer s H vs Q E hr h => ?_)
  obtain ⟨x, wd, rs, rfl, ⟨dx, t, hx, ht⟩, g, k⟩ := h
  obtain ⟨r0, hr0, ha0⟩ := at0 g
  have hw0 := (g.at_ hr0).1
  have q1 := g.w1
  refine ⟨_, (pss_one (ps_ret (pe_callB call_len_str (by rfl) T.n_len (by decide +kernel) (pa_cons (pe_ix ix_tup (pe_fld (pv 0) rfl) pe_int (fun _ _ => rfl)) pa_nil)))), ?_⟩
  simp only [tSeq, tIfS, tTest, tB, tAnd, tOr, tNot, tAndV, tOrV, tNotV, tIf, tOp, tUn, tChain, rEq, rNe, rI0, rI, rU, tCallR, tCons, tNil, tC, tVar, tRet, tRetN, tTup_k, tLst_k, tCB, tNext, tAsg, gName, gTup, gCons, gNil, tDrop, tPar, tFld, ClX.tCVal, tPropR, rBin, rBinT, rNeOwn, rSetL_k, gSub, tMakeK_k, tMethR, rInO, tDNewK_k, tYes, wipe, tMakeR_k, tSMeth, tSMethK, rMulS, decide_true, tNever, sFld, rIsiT, and_false, rListOf, rTupOf, rLenSeq, rIxL, rIxT, rIxS, rCat_k, rRep_k, rSlL_k, rSlS, rNewStrs_k, rAppend_k, tBM, tBM0, tM0, tM1, tSl, tNoPart, tPart, tLc_k, tFor_k, iList, iTup, iEnumT, iRng1, iRng2, iRng2L, iStr, L2.start, List.map, List.length_cons, List.length_nil, List.cons_append, List.nil_append, List.getElem?_cons_succ, List.getElem?_cons_zero, Option.some.injEq, V.int.injEq, V.bl.injEq, V.str.injEq, V.ref.injEq, exists_eq_left', exists_eq_left, and_assoc, exists_and_left, exists_eq, exists_eq', true_and, and_true, List.set_cons_zero, List.set_cons_succ, List.set, decide_eq_true_eq, Bool.not_eq_true', if_true, if_false, rIx, cx_K, nox_K, List.replicate_succ, List.replicate_zero, Nat.reduceSub, Bool.true_eq_false, Bool.false_eq_true, Nat.reduceAdd, List.cons.injEq, reduceCtorEq, false_and, false_or, or_false, tAug, rSetO, rJoin, tMakeL, rStrO, ClX.tCMeth, rPop, tLc2_k, iEnum, tPar3, iZipS, iZipS3, tListZip, rInDT, tBackS, tBackT, tSlSt, rUn]
  refine ⟨_, dx, _, hx, T.c_Picture.cl, T.a_Picture__rows, _, rfl, _, rfl, _, .inl (.inl ht), _, ha0, _, rfl, ?_⟩
  rw [SX.S_len, hw0]
  exact ⟨size200 q1, k⟩
theorem ok_pheight (T : Txt K mg a) : FnR P w K mg base CX0 1 a.Picture_height (spPHeight a.Picture) := by
  refine T.d_Picture_height.ok sc_Picture_height (fun _ _ _ _ _ _ us hl => match us, hl with | [_], _ => rfl) (fun vs H Q E h => by obtain ⟨x, rs, rfl, _⟩ := h; rfl) (fun cdv A outer s H vs Q E hr h => ?_)
  obtain ⟨x, rs, rfl, ⟨dx, t, hx, ht⟩, k⟩ := h
  refine ⟨_, (pss_one (ps_ret (pe_callB call_len_seq (by rfl) T.n_len (by decide +kernel) (pa_cons (pe_fld (pv 0) rfl) pa_nil)))), ?_⟩
  simp only [tSeq, tIfS, tTest, tB, tAnd, tOr, tNot, tAndV, tOrV, tNotV, tIf, tOp, tUn, tChain, rEq, rNe, rI0, rI, rU, tCallR, tCons, tNil, tC, tVar, tRet, tRetN, tTup_k, tLst_k, tCB, tNext, tAsg, gName, gTup, gCons, gNil, tDrop, tPar, tFld, ClX.tCVal, tPropR, rBin, rBinT, rNeOwn, rSetL_k, gSub, tMakeK_k, tMethR, rInO, tDNewK_k, tYes, wipe, tMakeR_k, tSMeth, tSMethK, rMulS, decide_true, tNever, sFld, rIsiT, and_false, rListOf, rTupOf, rLenSeq, rIxL, rIxT, rIxS, rCat_k, rRep_k, rSlL_k, rSlS, rNewStrs_k, rAppend_k, tBM, tBM0, tM0, tM1, tSl, tNoPart, tPart, tLc_k, tFor_k, iList, iTup, iEnumT, iRng1, iRng2, iRng2L, iStr, L2.start, List.map, List.length_cons, List.length_nil, List.cons_append, List.nil_append, List.getElem?_cons_succ, List.getElem?_cons_zero, Option.some.injEq, V.int.injEq, V.bl.injEq, V.str.injEq, V.ref.injEq, exists_eq_left', exists_eq_left, and_assoc, exists_and_left, exists_eq, exists_eq', true_and, and_true, List.set_cons_zero, List.set_cons_succ, List.set, decide_eq_true_eq, Bool.not_eq_true', if_true, if_false, rIx, cx_K, nox_K, List.replicate_succ, List.replicate_zero, Nat.reduceSub, Bool.true_eq_false, Bool.false_eq_true, Nat.reduceAdd, List.cons.injEq, reduceCtorEq, false_and, false_or, or_false, tAug, rSetO, rJoin, tMakeL, rStrO, ClX.tCMeth, rPop, tLc2_k, iEnum, tPar3, iZipS, iZipS3, tListZip, rInDT, tBackS, tBackT, tSlSt, rUn]
  refine ⟨_, dx, _, hx, T.c_Picture.cl, T.a_Picture__rows, _, rfl, _, rfl, _, .inr (.inl (.inl ht)), ?_⟩
  rw [rowsV_len]
  exact k
end
def areaOf (rs : List (List Nat)) (i : Int) : Int := (rs.map fun r => ((r.count (48 + i.toNat) : Nat) : Int)).sum
def spPArea (C : Addr) : Sp := fun vs H Q _ => ∃ (p : Addr) (rs : List (List Nat)) (w : Nat) (i : Int), vs = [.ref p, .int i] ∧ Pic H C p rs ∧ Good w rs ∧ 0 ≤ i ∧ i < 10 ∧ ∀ H', Same H H' → Q (.int (areaOf rs i)) H'
theorem kit_ty_own {K : PySem.W.Frag} {C : Addr} {T : String} {b : Bool} (c : ClsF K C) (h : PySem.W.subIn K (.type T) (.ref C) = some b) : PySem.W.kitOne K (.type T) (.ref C) = some b :=
  kit_own c h (Bool.eq_false_iff.mpr fun q => by cases beq_iff_eq.mp q)
abbrev rowsD (rs : List (List Nat)) : List PyData := rs.map fun r => .str (S r)
theorem dp_rows {K : PySem.W.Frag} {H : Hp} : ∀ rs : List (List Nat), DpAll K H (rowsV rs) (rowsD rs)
  | [] => .nil
  | r :: t => .cons (.str _) (dp_rows t)
theorem digL_ok {r : List Nat} (h : DigL r) : PyData.strOk (S r) = true := by
  show (r.toArray.all fun c => decide (c < 0x110000)) = true
  rw [← Array.all_toList]
  exact List.all_eq_true.mpr fun c hc => decide_eq_true (by have := h c hc; omega)
theorem rows_lay : ∀ rs : List (List Nat), (∀ r ∈ rs, DigL r) → PyData.canLayAll0 (rowsD rs) = true ∧ PyData.depthAll (rowsD rs) = 0
  | [], _ => ⟨rfl, by simp [PyData.depthAll]⟩
  | r :: t, h => by
    obtain ⟨h1, h2⟩ := rows_lay t fun s q => h s (List.mem_cons_of_mem _ q)
    refine ⟨?_, ?_⟩
    · simp only [List.map_cons, PyData.canLayAll0, PyData.canLay0, h1, digL_ok (h r List.mem_cons_self)]
      rfl
    · simp only [List.map_cons, PyData.depthAll, PyData.depth, h2]
      rfl
theorem rows_shaped {w : Nat} {rs : List (List Nat)} (g : Good w rs) : SeqAt.shaped (.tuple (rowsD rs)) = true := by
  obtain ⟨h1, h2⟩ := rows_lay rs fun r hr => (g.row r hr).2
  refine Bool.and_eq_true_iff.mpr ⟨h1, decide_eq_true ?_⟩
  simp only [PyData.depth, h2]
  decide
theorem eqv_rows : ∀ rs rs' : List (List Nat), PyData.eqv (.tuple (rowsD rs)) (.tuple (rowsD rs')) = decide (rs = rs') := by
  have key : ∀ rs rs' : List (List Nat), PyData.eqvAll (rowsD rs) (rowsD rs') = decide (rs = rs') := by
    intro rs
    induction rs with
    | nil => intro rs'; cases rs' <;> simp [PyData.eqvAll]
    | cons r t ih =>
      intro rs'
      cases rs' with
      | nil => simp [PyData.eqvAll]
      | cons r' t' =>
        simp only [List.map_cons, PyData.eqvAll, PyData.eqv, ih t', SX.S_beq_eq]
        by_cases h1 : r = r' <;> by_cases h2 : t = t' <;> simp [h1, h2]
  intro rs rs'
  simp only [PyData.eqv, key]
def spPEq (K : PySem.W.Frag) (C : Addr) : Sp := fun vs H Q _ => ∃ (p : Addr) (rs : List (List Nat)) (w : Nat) (v : V), vs = [.ref p, v] ∧ Pic H C p rs ∧ Good w rs ∧
  ((∃ (q : Addr) (rs' : List (List Nat)) (w' : Nat), v = .ref q ∧ Pic H C q rs' ∧ Good w' rs' ∧ Q (.bl (decide (rs = rs'))) H) ∨ (∃ t : String, TyX K H v (.type t) ∧ PySem.W.subIn K (.type t) (.ref C) = some false ∧ Q (.bl false) H))
section
variable {P : Program} {w : World} {K : PySem.W.Frag} {mg : Str → Option Value} {base : Heap} {a : Adr}
set_option maxHeartbeats 4000000
theorem ok_peq (T : Txt K mg a) : FnR P w K mg base CX0 3 a.Picture_eq (spPEq K a.Picture) := by
  have G_Picture_rows : FnR P w K mg base CX0 1 a.Picture_rows (spPRows a.Picture) := ok_prows T
  refine T.d_Picture_eq.ok sc_Picture_eq (fun _ _ _ _ _ _ us hl => match us, hl with | [_, _], _ => rfl) (fun vs H Q E h => by obtain ⟨p, rs, w, v, rfl, _⟩ := h; rfl) (fun cdv A outer s H vs Q E hr h => ?_)
  obtain ⟨p, rs, wd, v, rfl, ⟨dx, tr, hp, htr⟩, g, h⟩ := h
  refine ⟨_, (pss_one (ps_ret (pe_and (pe_callB call_isi (by rfl) T.n_isinstance (by decide +kernel) (pa_cons (pv 1) (pa_cons (pe_glob (v := .ref a.Picture) rfl T.m_Picture rfl) pa_nil))) (pe_one (pe_cmpR (op_eqD hr.units) (pe_fld (pv 0) rfl) (pe_propR (pv 1) T.c_Picture.cl T.p_Picture_rows G_Picture_rows (hr.mono (by decide))  pass0) (nomark _)))))), ?_⟩
  simp only [tSeq, tIfS, tTest, tB, tAnd, tOr, tNot, tAndV, tOrV, tNotV, tIf, tOp, tUn, tChain, rEq, rNe, rI0, rI, rU, tCallR, tCons, tNil, tC, tVar, tRet, tRetN, tTup_k, tLst_k, tCB, tNext, tAsg, gName, gTup, gCons, gNil, tDrop, tPar, tFld, ClX.tCVal, tPropR, rBin, rBinT, rNeOwn, rSetL_k, gSub, tMakeK_k, tMethR, rInO, tDNewK_k, tYes, wipe, tMakeR_k, tSMeth, tSMethK, rMulS, decide_true, tNever, sFld, rIsiT, and_false, rListOf, rTupOf, rLenSeq, rIxL, rIxT, rIxS, rCat_k, rRep_k, rSlL_k, rSlS, rNewStrs_k, rAppend_k, tBM, tBM0, tM0, tM1, tSl, tNoPart, tPart, tLc_k, tFor_k, iList, iTup, iEnumT, iRng1, iRng2, iRng2L, iStr, L2.start, List.map, List.length_cons, List.length_nil, List.cons_append, List.nil_append, List.getElem?_cons_succ, List.getElem?_cons_zero, Option.some.injEq, V.int.injEq, V.bl.injEq, V.str.injEq, V.ref.injEq, exists_eq_left', exists_eq_left, and_assoc, exists_and_left, exists_eq, exists_eq', true_and, and_true, List.set_cons_zero, List.set_cons_succ, List.set, decide_eq_true_eq, Bool.not_eq_true', if_true, if_false, rIx, cx_K, nox_K, List.replicate_succ, List.replicate_zero, Nat.reduceSub, Bool.true_eq_false, Bool.false_eq_true, Nat.reduceAdd, List.cons.injEq, reduceCtorEq, false_and, false_or, or_false, tAug, rSetO, rJoin, tMakeL, rStrO, ClX.tCMeth, rPop, tLc2_k, iEnum, tPar3, iZipS, iZipS3, tListZip, rInDT, tBackS, tBackT, tSlSt, rUn]
  rcases h with ⟨q, rs', w', rfl, ⟨dy, tq, hq, htq⟩, g', k⟩ | ⟨t, ht, hs, k⟩
  · refine ⟨_, _, _, _, _, rfl, .own _, T.c_Picture.tyOf hq, kit_self, true, rfl, ?_⟩
    simp only [tSeq, tIfS, tTest, tB, tAnd, tOr, tNot, tAndV, tOrV, tNotV, tIf, tOp, tUn, tChain, rEq, rNe, rI0, rI, rU, tCallR, tCons, tNil, tC, tVar, tRet, tRetN, tTup_k, tLst_k, tCB, tNext, tAsg, gName, gTup, gCons, gNil, tDrop, tPar, tFld, ClX.tCVal, tPropR, rBin, rBinT, rNeOwn, rSetL_k, gSub, tMakeK_k, tMethR, rInO, tDNewK_k, tYes, wipe, tMakeR_k, tSMeth, tSMethK, rMulS, decide_true, tNever, sFld, rIsiT, and_false, rListOf, rTupOf, rLenSeq, rIxL, rIxT, rIxS, rCat_k, rRep_k, rSlL_k, rSlS, rNewStrs_k, rAppend_k, tBM, tBM0, tM0, tM1, tSl, tNoPart, tPart, tLc_k, tFor_k, iList, iTup, iEnumT, iRng1, iRng2, iRng2L, iStr, L2.start, List.map, List.length_cons, List.length_nil, List.cons_append, List.nil_append, List.getElem?_cons_succ, List.getElem?_cons_zero, Option.some.injEq, V.int.injEq, V.bl.injEq, V.str.injEq, V.ref.injEq, exists_eq_left', exists_eq_left, and_assoc, exists_and_left, exists_eq, exists_eq', true_and, and_true, List.set_cons_zero, List.set_cons_succ, List.set, decide_eq_true_eq, Bool.not_eq_true', if_true, if_false, rIx, cx_K, nox_K, List.replicate_succ, List.replicate_zero, Nat.reduceSub, Bool.true_eq_false, Bool.false_eq_true, Nat.reduceAdd, List.cons.injEq, reduceCtorEq, false_and, false_or, or_false, tAug, rSetO, rJoin, tMakeL, rStrO, ClX.tCMeth, rPop, tLc2_k, iEnum, tPar3, iZipS, iZipS3, tListZip, rInDT, tBackS, tBackT, tSlSt, rUn]
    refine ⟨_, dx, _, hp, T.c_Picture.cl, T.a_Picture__rows, _, rfl, dy, _, hq, q, dy, tq, rfl, hq, ?_⟩
    refine ⟨.tuple (rowsD rs), .tuple (rowsD rs'), .tup (.inl (.inl htr)) (dp_rows rs), .tup (.inl (.inl htq)) (dp_rows rs'), rows_shaped g, rows_shaped g', ?_⟩
    rw [eqv_rows]
    exact k
  · exact ⟨_, _, _, _, _, rfl, .own _, ht, kit_ty_own T.c_Picture hs, false, rfl, k⟩
end
theorem eqv_rowsL (rs rs' : List (List Nat)) : PyData.eqv (.list (rowsD rs)) (.list (rowsD rs')) = decide (rs = rs') := by
  have h := eqv_rows rs rs'
  simp only [PyData.eqv] at h ⊢
  exact h
theorem rows_shapedL {w : Nat} {rs : List (List Nat)} (g : Good w rs) : SeqAt.shaped (.list (rowsD rs)) = true := by
  obtain ⟨h1, h2⟩ := rows_lay rs fun r hr => (g.row r hr).2
  refine Bool.and_eq_true_iff.mpr ⟨h1, decide_eq_true ?_⟩
  simp only [PyData.depth, h2]
  decide
end Pf
end
section
namespace Pf
open PySem PySem.Spec PyProof.Rows L2 Ow StX
open SX (S)
/-! ### pictures laid over one another -/
def gOr (a b : Nat) : Nat := if a = 48 then b else a
def gAnd (a b : Nat) : Nat := if a = b then a else 48
def gXor (a b : Nat) : Nat := if a = b then 48 else if a = 48 then b else a
def jR (g : Nat → Nat → Nat) (r r' : List Nat) : List Nat := List.zipWith g r r'
def jRs (g : Nat → Nat → Nat) (rs rs' : List (List Nat)) : List (List Nat) := List.zipWith (jR g) rs rs'
theorem sgn_S {r : List Nat} {i : Nat} (h : i < r.length) : sgn (S r) i = .str (S [r[i]]) := by
  show V.str ⟨#[r.toArray.toList.getD i 0]⟩ = _
  have e : r.toArray.toList.getD i 0 = r[i] := by rw [List.getD_eq_getElem?_getD, List.getElem?_eq_getElem (by simpa using h)]; simp
  rw [e]
theorem S_eq (a b : Nat) : decide (V.str (S [a]) = V.str (S [b])) = decide (a = b) := by
  by_cases e : a = b
  · subst e
    simp
  · rw [decide_eq_false e]
    exact decide_eq_false fun z => e (by injection z with z; injection z with z; injection z with z; injection z)
theorem zero_S : Str.ofString "0" = S [48] := by decide +kernel
theorem joinL_nil : ∀ ys : List (List Nat), TL.joinL [] ys = ys.flatten
  | [] => rfl
  | [x] => by simp [TL.joinL]
  | x :: y :: r => by
    show x ++ ([] ++ TL.joinL [] (y :: r)) = _
    rw [joinL_nil (y :: r)]
    rfl
theorem join_rows (rs : List (List Nat)) : Txt.join (Str.ofString "") (rs.map S) = S rs.flatten := by
  have e : Str.ofString "" = S [] := by decide +kernel
  rw [e, SX.join_S, joinL_nil]
theorem join_sgn (cs : List Nat) : Txt.join (Str.ofString "") (cs.map fun c => S [c]) = S cs := by
  have e := join_rows (cs.map fun c => [c])
  rw [List.map_map] at e
  have f : (cs.map fun c => [c]).flatten = cs := by
    induction cs with
    | nil => rfl
    | cons c t ih => rw [List.map_cons, List.flatten_cons, ih (by rw [← join_rows, List.map_map])]; rfl
  rw [f] at e
  exact e
theorem sum_sgn (cs : List Nat) (h : cs.length ≤ 200) : ((cs.map fun c => S [c]).map fun x => x.length).sum + (cs.map fun c => S [c]).length * (Str.ofString "").length ≤ 16777216 := by
  have e : ∀ t : List Nat, ((t.map fun c => S [c]).map fun x => x.length).sum = t.length := fun t => by
    induction t with
    | nil => rfl
    | cons c t ih => rw [List.map_cons, List.map_cons, List.sum_cons, ih, List.length_cons, SX.S_len]; simp; omega
  have z : (Str.ofString "").length = 0 := by decide +kernel
  rw [e, z]
  omega
theorem jR_len {g : Nat → Nat → Nat} {r r' : List Nat} (h : r.length = r'.length) : (jR g r r').length = r.length := by
  unfold jR
  rw [List.length_zipWith, ← h, Nat.min_self]
def sgnsV (cs : List Nat) : List V := (cs.map fun c => S [c]).map V.str
theorem sgnsV_len (cs : List Nat) : (sgnsV cs).length = cs.length := by unfold sgnsV; rw [List.length_map, List.length_map]
theorem sgnsV_get {g : Nat → Nat → Nat} {r r' : List Nat} {i : Nat} (h1 : i < r.length) (h2 : i < r'.length) : (sgnsV (jR g r r'))[i]? = some (.str (S [g r[i] r'[i]])) := by
  unfold sgnsV jR
  rw [List.getElem?_map, List.getElem?_map, List.getElem?_zipWith, List.getElem?_eq_getElem h1, List.getElem?_eq_getElem h2]
  rfl
def spZip (g : Nat → Nat → Nat) : Sp := fun vs H Q _ => ∃ r r' : List Nat, vs = [.str (S r), .str (S r')] ∧ r.length = r'.length ∧ r.length ≤ 200 ∧ ∀ H', Same H H' → Q (.str (S (jR g r r'))) H'
theorem strS_eq {x y : Nat} : (V.str (S [x]) = V.str (S [y])) = (x = y) := by
  have h := S_eq x y
  by_cases e : x = y
  · subst e; simp
  · rw [decide_eq_false e] at h
    exact propext ⟨fun z => absurd z (of_decide_eq_false h), fun z => absurd z e⟩
section
variable {P : Program} {w : World} {K : PySem.W.Frag} {mg : Str → Option Value} {base : Heap} {a : Adr}
set_option maxHeartbeats 4000000
theorem ok_laid (T : Txt K mg a) : FnR P w K mg base CX0 1 a.laid_over (spZip gOr) := by
  refine T.d_laid_over.ok sc_laid_over (fun _ _ _ _ _ _ us hl => match us, hl with | [_, _], _ => rfl) (fun vs H Q E h => by obtain ⟨r, r', rfl, _⟩ := h; rfl) (fun cdv A outer s H vs Q E hr h => ?_)
  obtain ⟨r, r', rfl, hl, h200, k⟩ := h
  refine ⟨_, (pss_one (ps_ret (pe_join pe_str (pe_lc (own := [("sign", 2), ("below", 3)]) (g := gTup K 2 (gCons (gName 2) (gCons (gName 3) gNil))) (by rfl) sc_laid_over.nd (pi_zipS rfl T.n_zip (pa_cons (pv 0) (pa_cons (pv 1) pa_nil))) (blkOk_by (own := [("sign", 2), ("below", 3)]) (N := ["row", "under", "sign", "below"]) (sc := defScope s_laid_over) (by decide +kernel)) (fun _ _ _ _ _ => (pg_tup rfl (pgs_cons (pg_name (i := 2) sc_laid_over.nd rfl (Or.inl rfl)) (pgs_cons (pg_name (i := 3) sc_laid_over.nd rfl (Or.inl rfl)) pgs_nil)))) (fun _ _ _ _ _ => pts_nil) (fun _ _ _ _ _ => (pe_ifExp (pt_cmpR op_eq (pv 2) pe_str (nomark _)) (pv 3) (pv 2))))))), ?_⟩
  simp only [tSeq, tIfS, tTest, tB, tAnd, tOr, tNot, tAndV, tOrV, tNotV, tIf, tOp, tUn, tChain, rEq, rNe, rI0, rI, rU, tCallR, tCons, tNil, tC, tVar, tRet, tRetN, tTup_k, tLst_k, tCB, tNext, tAsg, gName, gTup, gCons, gNil, tDrop, tPar, tFld, ClX.tCVal, tPropR, rBin, rBinT, rNeOwn, rSetL_k, gSub, tMakeK_k, tMethR, rInO, tDNewK_k, tYes, wipe, tMakeR_k, tSMeth, tSMethK, rMulS, decide_true, tNever, sFld, rIsiT, and_false, rListOf, rTupOf, rLenSeq, rIxL, rIxT, rIxS, rCat_k, rRep_k, rSlL_k, rSlS, rNewStrs_k, rAppend_k, tBM, tBM0, tM0, tM1, tSl, tNoPart, tPart, tLc_k, tFor_k, iList, iTup, iEnumT, iRng1, iRng2, iRng2L, iStr, L2.start, List.map, List.length_cons, List.length_nil, List.cons_append, List.nil_append, List.getElem?_cons_succ, List.getElem?_cons_zero, Option.some.injEq, V.int.injEq, V.bl.injEq, V.str.injEq, V.ref.injEq, exists_eq_left', exists_eq_left, and_assoc, exists_and_left, exists_eq, exists_eq', true_and, and_true, List.set_cons_zero, List.set_cons_succ, List.set, decide_eq_true_eq, Bool.not_eq_true', if_true, if_false, rIx, cx_K, nox_K, List.replicate_succ, List.replicate_zero, Nat.reduceSub, Bool.true_eq_false, Bool.false_eq_true, Nat.reduceAdd, List.cons.injEq, reduceCtorEq, false_and, false_or, or_false, tAug, rSetO, rJoin, tMakeL, rStrO, ClX.tCMeth, rPop, tLc2_k, iEnum, tPar3, iZipS, iZipS3, tListZip, rInDT, tBackS, tBackT, tSlSt, rUn]
  have hm : min r.toArray.size r'.toArray.size = r.length := by rw [List.size_toArray, List.size_toArray, ← hl, Nat.min_self]
  rw [hm]
  refine kLc.map walk_Z (sgnsV (jR gOr r r')) (by rw [sgnsV_len, jR_len hl]) (fun _ _ => trivial) (fun D i x H1 H2 hi c hY => ?_) fun D H1 f1 => ?_
  · obtain ⟨Tt, rfl, hT, rfl⟩ := hY
    have hi' : i < r'.length := by omega
    have f2 := fresh_upd (o := .tup [sgn (S r) i, sgn (S r') i]) hT
    rw [sgn_S hi, sgn_S hi'] at f2 ⊢
    generalize upd H1 Tt (.tup [.str (S [r[i]]), .str (S [r'[i]])]) = H2 at *
    simp only [tSeq, tIfS, tTest, tB, tAnd, tOr, tNot, tAndV, tOrV, tNotV, tIf, tOp, tUn, tChain, rEq, rNe, rI0, rI, rU, tCallR, tCons, tNil, tC, tVar, tRet, tRetN, tTup_k, tLst_k, tCB, tNext, tAsg, gName, gTup, gCons, gNil, tDrop, tPar, tFld, ClX.tCVal, tPropR, rBin, rBinT, rNeOwn, rSetL_k, gSub, tMakeK_k, tMethR, rInO, tDNewK_k, tYes, wipe, tMakeR_k, tSMeth, tSMethK, rMulS, decide_true, tNever, sFld, rIsiT, and_false, rListOf, rTupOf, rLenSeq, rIxL, rIxT, rIxS, rCat_k, rRep_k, rSlL_k, rSlS, rNewStrs_k, rAppend_k, tBM, tBM0, tM0, tM1, tSl, tNoPart, tPart, tLc_k, tFor_k, iList, iTup, iEnumT, iRng1, iRng2, iRng2L, iStr, L2.start, List.map, List.length_cons, List.length_nil, List.cons_append, List.nil_append, List.getElem?_cons_succ, List.getElem?_cons_zero, Option.some.injEq, V.int.injEq, V.bl.injEq, V.str.injEq, V.ref.injEq, exists_eq_left', exists_eq_left, and_assoc, exists_and_left, exists_eq, exists_eq', true_and, and_true, List.set_cons_zero, List.set_cons_succ, List.set, decide_eq_true_eq, Bool.not_eq_true', if_true, if_false, rIx, cx_K, nox_K, List.replicate_succ, List.replicate_zero, Nat.reduceSub, Bool.true_eq_false, Bool.false_eq_true, Nat.reduceAdd, List.cons.injEq, reduceCtorEq, false_and, false_or, or_false, tAug, rSetO, rJoin, tMakeL, rStrO, ClX.tCMeth, rPop, tLc2_k, iEnum, tPar3, iZipS, iZipS3, tListZip, rInDT, tBackS, tBackT, tSlSt, rUn]
    refine ⟨_, .inl (.inl f2.at_), rfl, _, _, rfl, _, _, rfl, rfl, ?_⟩
    have fin : ∀ (v : V), v = .str (S [gOr r[i] r'[i]]) → kApp D (fun H' => LcIn H H' D (List.take (i + 1) (sgnsV (jR gOr r r')))) v H2 := fun v e => by
      subst e
      exact kApp.at c f2.same (by rw [sgnsV_len, jR_len hl]; exact size200 h200) (sgnsV_get hi hi')
    rw [zero_S]
    refine ⟨rfl, ?_⟩
    by_cases e : V.str (S [r[i]]) = V.str (S [48])
    · rw [if_pos e]
      exact fin _ (by unfold gOr; rw [if_pos (cast strS_eq e)])
    · rw [if_neg e]
      exact fin _ (by unfold gOr; rw [if_neg fun z => e (cast strS_eq.symm z)])
  · exact ⟨D, rfl, _, .inl (SqL.of f1.at_), sum_sgn _ (by rw [jR_len hl]; exact h200), by rw [join_sgn]; exact k H1 f1.same⟩
theorem ok_agrees (T : Txt K mg a) : FnR P w K mg base CX0 1 a.what_agrees (spZip gAnd) := by
  refine T.d_what_agrees.ok sc_what_agrees (fun _ _ _ _ _ _ us hl => match us, hl with | [_, _], _ => rfl) (fun vs H Q E h => by obtain ⟨r, r', rfl, _⟩ := h; rfl) (fun cdv A outer s H vs Q E hr h => ?_)
  obtain ⟨r, r', rfl, hl, h200, k⟩ := h
  refine ⟨_, (pss_one (ps_ret (pe_join pe_str (pe_lc (own := [("sign", 2), ("below", 3)]) (g := gTup K 2 (gCons (gName 2) (gCons (gName 3) gNil))) (by rfl) sc_what_agrees.nd (pi_zipS rfl T.n_zip (pa_cons (pv 0) (pa_cons (pv 1) pa_nil))) (blkOk_by (own := [("sign", 2), ("below", 3)]) (N := ["row", "under", "sign", "below"]) (sc := defScope s_what_agrees) (by decide +kernel)) (fun _ _ _ _ _ => (pg_tup rfl (pgs_cons (pg_name (i := 2) sc_what_agrees.nd rfl (Or.inl rfl)) (pgs_cons (pg_name (i := 3) sc_what_agrees.nd rfl (Or.inl rfl)) pgs_nil)))) (fun _ _ _ _ _ => pts_nil) (fun _ _ _ _ _ => (pe_ifExp (pt_cmpR op_eq (pv 2) (pv 3) (nomark _)) (pv 2) pe_str)))))), ?_⟩
  simp only [tSeq, tIfS, tTest, tB, tAnd, tOr, tNot, tAndV, tOrV, tNotV, tIf, tOp, tUn, tChain, rEq, rNe, rI0, rI, rU, tCallR, tCons, tNil, tC, tVar, tRet, tRetN, tTup_k, tLst_k, tCB, tNext, tAsg, gName, gTup, gCons, gNil, tDrop, tPar, tFld, ClX.tCVal, tPropR, rBin, rBinT, rNeOwn, rSetL_k, gSub, tMakeK_k, tMethR, rInO, tDNewK_k, tYes, wipe, tMakeR_k, tSMeth, tSMethK, rMulS, decide_true, tNever, sFld, rIsiT, and_false, rListOf, rTupOf, rLenSeq, rIxL, rIxT, rIxS, rCat_k, rRep_k, rSlL_k, rSlS, rNewStrs_k, rAppend_k, tBM, tBM0, tM0, tM1, tSl, tNoPart, tPart, tLc_k, tFor_k, iList, iTup, iEnumT, iRng1, iRng2, iRng2L, iStr, L2.start, List.map, List.length_cons, List.length_nil, List.cons_append, List.nil_append, List.getElem?_cons_succ, List.getElem?_cons_zero, Option.some.injEq, V.int.injEq, V.bl.injEq, V.str.injEq, V.ref.injEq, exists_eq_left', exists_eq_left, and_assoc, exists_and_left, exists_eq, exists_eq', true_and, and_true, List.set_cons_zero, List.set_cons_succ, List.set, decide_eq_true_eq, Bool.not_eq_true', if_true, if_false, rIx, cx_K, nox_K, List.replicate_succ, List.replicate_zero, Nat.reduceSub, Bool.true_eq_false, Bool.false_eq_true, Nat.reduceAdd, List.cons.injEq, reduceCtorEq, false_and, false_or, or_false, tAug, rSetO, rJoin, tMakeL, rStrO, ClX.tCMeth, rPop, tLc2_k, iEnum, tPar3, iZipS, iZipS3, tListZip, rInDT, tBackS, tBackT, tSlSt, rUn]
  have hm : min r.toArray.size r'.toArray.size = r.length := by rw [List.size_toArray, List.size_toArray, ← hl, Nat.min_self]
  rw [hm]
  refine kLc.map walk_Z (sgnsV (jR gAnd r r')) (by rw [sgnsV_len, jR_len hl]) (fun _ _ => trivial) (fun D i x H1 H2 hi c hY => ?_) fun D H1 f1 => ?_
  · obtain ⟨Tt, rfl, hT, rfl⟩ := hY
    have hi' : i < r'.length := by omega
    have f2 := fresh_upd (o := .tup [sgn (S r) i, sgn (S r') i]) hT
    rw [sgn_S hi, sgn_S hi'] at f2 ⊢
    generalize upd H1 Tt (.tup [.str (S [r[i]]), .str (S [r'[i]])]) = H2 at *
    simp only [tSeq, tIfS, tTest, tB, tAnd, tOr, tNot, tAndV, tOrV, tNotV, tIf, tOp, tUn, tChain, rEq, rNe, rI0, rI, rU, tCallR, tCons, tNil, tC, tVar, tRet, tRetN, tTup_k, tLst_k, tCB, tNext, tAsg, gName, gTup, gCons, gNil, tDrop, tPar, tFld, ClX.tCVal, tPropR, rBin, rBinT, rNeOwn, rSetL_k, gSub, tMakeK_k, tMethR, rInO, tDNewK_k, tYes, wipe, tMakeR_k, tSMeth, tSMethK, rMulS, decide_true, tNever, sFld, rIsiT, and_false, rListOf, rTupOf, rLenSeq, rIxL, rIxT, rIxS, rCat_k, rRep_k, rSlL_k, rSlS, rNewStrs_k, rAppend_k, tBM, tBM0, tM0, tM1, tSl, tNoPart, tPart, tLc_k, tFor_k, iList, iTup, iEnumT, iRng1, iRng2, iRng2L, iStr, L2.start, List.map, List.length_cons, List.length_nil, List.cons_append, List.nil_append, List.getElem?_cons_succ, List.getElem?_cons_zero, Option.some.injEq, V.int.injEq, V.bl.injEq, V.str.injEq, V.ref.injEq, exists_eq_left', exists_eq_left, and_assoc, exists_and_left, exists_eq, exists_eq', true_and, and_true, List.set_cons_zero, List.set_cons_succ, List.set, decide_eq_true_eq, Bool.not_eq_true', if_true, if_false, rIx, cx_K, nox_K, List.replicate_succ, List.replicate_zero, Nat.reduceSub, Bool.true_eq_false, Bool.false_eq_true, Nat.reduceAdd, List.cons.injEq, reduceCtorEq, false_and, false_or, or_false, tAug, rSetO, rJoin, tMakeL, rStrO, ClX.tCMeth, rPop, tLc2_k, iEnum, tPar3, iZipS, iZipS3, tListZip, rInDT, tBackS, tBackT, tSlSt, rUn]
    refine ⟨_, .inl (.inl f2.at_), rfl, _, _, rfl, _, _, rfl, rfl, ?_⟩
    have fin : ∀ (v : V), v = .str (S [gAnd r[i] r'[i]]) → kApp D (fun H' => LcIn H H' D (List.take (i + 1) (sgnsV (jR gAnd r r')))) v H2 := fun v e => by
      subst e
      exact kApp.at c f2.same (by rw [sgnsV_len, jR_len hl]; exact size200 h200) (sgnsV_get hi hi')
    refine ⟨rfl, ?_⟩
    by_cases e : V.str (S [r[i]]) = V.str (S [r'[i]])
    · rw [if_pos e]
      exact fin _ (by unfold gAnd; rw [if_pos (cast strS_eq e)])
    · rw [if_neg e, zero_S]
      exact fin _ (by unfold gAnd; rw [if_neg fun z => e (cast strS_eq.symm z)])
  · exact ⟨D, rfl, _, .inl (SqL.of f1.at_), sum_sgn _ (by rw [jR_len hl]; exact h200), by rw [join_sgn]; exact k H1 f1.same⟩
theorem ok_differs (T : Txt K mg a) : FnR P w K mg base CX0 3 a.what_differs (spZip gXor) := by
  have G_laid_over : FnR P w K mg base CX0 1 a.laid_over (spZip gOr) := ok_laid T
  refine T.d_what_differs.ok sc_what_differs (fun _ _ _ _ _ _ us hl => match us, hl with | [_, _], _ => rfl) (fun vs H Q E h => by obtain ⟨r, r', rfl, _⟩ := h; rfl) (fun cdv A outer s H vs Q E hr h => ?_)
  obtain ⟨r, r', rfl, hl, h200, k⟩ := h
  refine ⟨_, (pss_cons (ps_set (i := 2) sc_what_differs.nd rfl (Or.inl rfl) (pe_callR G_laid_over (hr.mono (by decide)) T.m_laid_over T.k_laid_over pass0 (pa_cons (pv 0) (pa_cons (pv 1) pa_nil))))
      (pss_one (ps_ret (pe_join pe_str (pe_lc (own := [("sign", 3), ("below", 4), ("upper", 5)]) (g := gTup K 3 (gCons (gName 3) (gCons (gName 4) (gCons (gName 5) gNil)))) (by rfl) sc_what_differs.nd (pi_zipS3 rfl T.n_zip (pa_cons (pv 0) (pa_cons (pv 1) (pa_cons (pv 2) pa_nil)))) (blkOk_by (own := [("sign", 3), ("below", 4), ("upper", 5)]) (N := ["row", "under", "laid", "sign", "below", "upper"]) (sc := defScope s_what_differs) (by decide +kernel)) (fun _ _ _ _ _ => (pg_tup rfl (pgs_cons (pg_name (i := 3) sc_what_differs.nd rfl (Or.inl rfl)) (pgs_cons (pg_name (i := 4) sc_what_differs.nd rfl (Or.inl rfl)) (pgs_cons (pg_name (i := 5) sc_what_differs.nd rfl (Or.inl rfl)) pgs_nil))))) (fun _ _ _ _ _ => pts_nil) (fun _ _ _ _ _ => (pe_ifExp (pt_cmpR op_eq (pv 3) (pv 4) (nomark _)) pe_str (pv 5)))))))), ?_⟩
  simp only [tSeq, tIfS, tTest, tB, tAnd, tOr, tNot, tAndV, tOrV, tNotV, tIf, tOp, tUn, tChain, rEq, rNe, rI0, rI, rU, tCallR, tCons, tNil, tC, tVar, tRet, tRetN, tTup_k, tLst_k, tCB, tNext, tAsg, gName, gTup, gCons, gNil, tDrop, tPar, tFld, ClX.tCVal, tPropR, rBin, rBinT, rNeOwn, rSetL_k, gSub, tMakeK_k, tMethR, rInO, tDNewK_k, tYes, wipe, tMakeR_k, tSMeth, tSMethK, rMulS, decide_true, tNever, sFld, rIsiT, and_false, rListOf, rTupOf, rLenSeq, rIxL, rIxT, rIxS, rCat_k, rRep_k, rSlL_k, rSlS, rNewStrs_k, rAppend_k, tBM, tBM0, tM0, tM1, tSl, tNoPart, tPart, tLc_k, tFor_k, iList, iTup, iEnumT, iRng1, iRng2, iRng2L, iStr, L2.start, List.map, List.length_cons, List.length_nil, List.cons_append, List.nil_append, List.getElem?_cons_succ, List.getElem?_cons_zero, Option.some.injEq, V.int.injEq, V.bl.injEq, V.str.injEq, V.ref.injEq, exists_eq_left', exists_eq_left, and_assoc, exists_and_left, exists_eq, exists_eq', true_and, and_true, List.set_cons_zero, List.set_cons_succ, List.set, decide_eq_true_eq, Bool.not_eq_true', if_true, if_false, rIx, cx_K, nox_K, List.replicate_succ, List.replicate_zero, Nat.reduceSub, Bool.true_eq_false, Bool.false_eq_true, Nat.reduceAdd, List.cons.injEq, reduceCtorEq, false_and, false_or, or_false, tAug, rSetO, rJoin, tMakeL, rStrO, ClX.tCMeth, rPop, tLc2_k, iEnum, tPar3, iZipS, iZipS3, tListZip, rInDT, tBackS, tBackT, tSlSt, rUn]
  refine ⟨r, r', rfl, hl, h200, fun H0 s0 => ?_⟩
  simp only [tSeq, tIfS, tTest, tB, tAnd, tOr, tNot, tAndV, tOrV, tNotV, tIf, tOp, tUn, tChain, rEq, rNe, rI0, rI, rU, tCallR, tCons, tNil, tC, tVar, tRet, tRetN, tTup_k, tLst_k, tCB, tNext, tAsg, gName, gTup, gCons, gNil, tDrop, tPar, tFld, ClX.tCVal, tPropR, rBin, rBinT, rNeOwn, rSetL_k, gSub, tMakeK_k, tMethR, rInO, tDNewK_k, tYes, wipe, tMakeR_k, tSMeth, tSMethK, rMulS, decide_true, tNever, sFld, rIsiT, and_false, rListOf, rTupOf, rLenSeq, rIxL, rIxT, rIxS, rCat_k, rRep_k, rSlL_k, rSlS, rNewStrs_k, rAppend_k, tBM, tBM0, tM0, tM1, tSl, tNoPart, tPart, tLc_k, tFor_k, iList, iTup, iEnumT, iRng1, iRng2, iRng2L, iStr, L2.start, List.map, List.length_cons, List.length_nil, List.cons_append, List.nil_append, List.getElem?_cons_succ, List.getElem?_cons_zero, Option.some.injEq, V.int.injEq, V.bl.injEq, V.str.injEq, V.ref.injEq, exists_eq_left', exists_eq_left, and_assoc, exists_and_left, exists_eq, exists_eq', true_and, and_true, List.set_cons_zero, List.set_cons_succ, List.set, decide_eq_true_eq, Bool.not_eq_true', if_true, if_false, rIx, cx_K, nox_K, List.replicate_succ, List.replicate_zero, Nat.reduceSub, Bool.true_eq_false, Bool.false_eq_true, Nat.reduceAdd, List.cons.injEq, reduceCtorEq, false_and, false_or, or_false, tAug, rSetO, rJoin, tMakeL, rStrO, ClX.tCMeth, rPop, tLc2_k, iEnum, tPar3, iZipS, iZipS3, tListZip, rInDT, tBackS, tBackT, tSlSt, rUn]
  have hm : min (min r.toArray.size r'.toArray.size) (jR gOr r r').toArray.size = r.length := by rw [List.size_toArray, List.size_toArray, List.size_toArray, jR_len hl, ← hl, Nat.min_self, Nat.min_self]
  rw [hm]
  refine kLc.map walk_Z (sgnsV (jR gXor r r')) (by rw [sgnsV_len, jR_len hl]) (fun _ _ => trivial) (fun D i x H1 H2 hi c hY => ?_) fun D H1 f1 => ?_
  · obtain ⟨Tt, rfl, hT, rfl⟩ := hY
    have hi' : i < r'.length := by omega
    have hi2 : i < (jR gOr r r').length := by rw [jR_len hl]; exact hi
    have f2 := fresh_upd (o := .tup [sgn (S r) i, sgn (S r') i, sgn (S (jR gOr r r')) i]) hT
    have eg : (jR gOr r r')[i] = gOr r[i] r'[i] := List.getElem_zipWith ..
    rw [sgn_S hi, sgn_S hi', sgn_S hi2, eg] at f2 ⊢
    generalize upd H1 Tt (.tup [.str (S [r[i]]), .str (S [r'[i]]), .str (S [gOr r[i] r'[i]])]) = H2 at *
    simp only [tSeq, tIfS, tTest, tB, tAnd, tOr, tNot, tAndV, tOrV, tNotV, tIf, tOp, tUn, tChain, rEq, rNe, rI0, rI, rU, tCallR, tCons, tNil, tC, tVar, tRet, tRetN, tTup_k, tLst_k, tCB, tNext, tAsg, gName, gTup, gCons, gNil, tDrop, tPar, tFld, ClX.tCVal, tPropR, rBin, rBinT, rNeOwn, rSetL_k, gSub, tMakeK_k, tMethR, rInO, tDNewK_k, tYes, wipe, tMakeR_k, tSMeth, tSMethK, rMulS, decide_true, tNever, sFld, rIsiT, and_false, rListOf, rTupOf, rLenSeq, rIxL, rIxT, rIxS, rCat_k, rRep_k, rSlL_k, rSlS, rNewStrs_k, rAppend_k, tBM, tBM0, tM0, tM1, tSl, tNoPart, tPart, tLc_k, tFor_k, iList, iTup, iEnumT, iRng1, iRng2, iRng2L, iStr, L2.start, List.map, List.length_cons, List.length_nil, List.cons_append, List.nil_append, List.getElem?_cons_succ, List.getElem?_cons_zero, Option.some.injEq, V.int.injEq, V.bl.injEq, V.str.injEq, V.ref.injEq, exists_eq_left', exists_eq_left, and_assoc, exists_and_left, exists_eq, exists_eq', true_and, and_true, List.set_cons_zero, List.set_cons_succ, List.set, decide_eq_true_eq, Bool.not_eq_true', if_true, if_false, rIx, cx_K, nox_K, List.replicate_succ, List.replicate_zero, Nat.reduceSub, Bool.true_eq_false, Bool.false_eq_true, Nat.reduceAdd, List.cons.injEq, reduceCtorEq, false_and, false_or, or_false, tAug, rSetO, rJoin, tMakeL, rStrO, ClX.tCMeth, rPop, tLc2_k, iEnum, tPar3, iZipS, iZipS3, tListZip, rInDT, tBackS, tBackT, tSlSt, rUn]
    refine ⟨_, .inl (.inl f2.at_), rfl, _, _, rfl, _, _, rfl, _, _, rfl, rfl, rfl, ?_⟩
    have fin : ∀ (v : V), v = .str (S [gXor r[i] r'[i]]) → kApp D (fun H' => LcIn H0 H' D (List.take (i + 1) (sgnsV (jR gXor r r')))) v H2 := fun v e => by
      subst e
      exact kApp.at c f2.same (by rw [sgnsV_len, jR_len hl]; exact size200 h200) (sgnsV_get hi hi')
    by_cases e : V.str (S [r[i]]) = V.str (S [r'[i]])
    · rw [if_pos e, zero_S]
      exact fin _ (by unfold gXor; rw [if_pos (cast strS_eq e)])
    · rw [if_neg e]
      exact fin _ (by unfold gXor; rw [if_neg fun z => e (cast strS_eq.symm z)]; rfl)
  · exact ⟨D, rfl, _, .inl (SqL.of f1.at_), sum_sgn _ (by rw [jR_len hl]; exact h200), by rw [join_sgn]; exact k H1 (s0.trans f1.same)⟩
end
end Pf
end
section
namespace Pf
open PySem PySem.Spec PyProof.Rows L2 Ow StX
open SX (S)
theorem jRs_len {g : Nat → Nat → Nat} {rs rs' : List (List Nat)} (h : rs.length = rs'.length) : (jRs g rs rs').length = rs.length := by
  unfold jRs
  rw [List.length_zipWith, ← h, Nat.min_self]
theorem jRs_get {g : Nat → Nat → Nat} {rs rs' : List (List Nat)} {j : Nat} {r r' : List Nat} (h1 : rs[j]? = some r) (h2 : rs'[j]? = some r') : (jRs g rs rs')[j]? = some (jR g r r') := by
  unfold jRs
  rw [List.getElem?_zipWith, h1, h2]
theorem good_j {g : Nat → Nat → Nat} (hg : ∀ x y, 48 ≤ x ∧ x ≤ 57 → 48 ≤ y ∧ y ≤ 57 → 48 ≤ g x y ∧ g x y ≤ 57) {w : Nat} {rs rs' : List (List Nat)} (g1 : Good w rs) (g2 : Good w rs') (h : rs.length = rs'.length) : Good w (jRs g rs rs') := by
  refine ⟨by rw [jRs_len h]; exact g1.l0, by rw [jRs_len h]; exact g1.l1, g1.w0, g1.w1, fun q hq => ?_⟩
  obtain ⟨j, hj⟩ := List.getElem?_of_mem hq
  unfold jRs at hj
  rw [List.getElem?_zipWith] at hj
  cases h1 : rs[j]? with
  | none => rw [h1] at hj; cases hj
  | some r =>
    cases h2 : rs'[j]? with
    | none => rw [h1, h2] at hj; cases hj
    | some r' =>
      rw [h1, h2] at hj
      cases hj
      obtain ⟨l1, d1⟩ := g1.at_ h1
      obtain ⟨l2, d2⟩ := g2.at_ h2
      refine ⟨by rw [jR_len (l1.trans l2.symm)]; exact l1, fun d hd => ?_⟩
      obtain ⟨i, hi⟩ := List.getElem?_of_mem hd
      unfold jR at hi
      rw [List.getElem?_zipWith] at hi
      cases k1 : r[i]? with
      | none => rw [k1] at hi; cases hi
      | some x =>
        cases k2 : r'[i]? with
        | none => rw [k1, k2] at hi; cases hi
        | some y =>
          rw [k1, k2] at hi
          cases hi
          exact hg x y (d1 x (List.mem_of_getElem? k1)) (d2 y (List.mem_of_getElem? k2))
theorem dig_gOr (x y : Nat) (h1 : 48 ≤ x ∧ x ≤ 57) (h2 : 48 ≤ y ∧ y ≤ 57) : 48 ≤ gOr x y ∧ gOr x y ≤ 57 := by unfold gOr; split <;> omega
theorem dig_gAnd (x y : Nat) (h1 : 48 ≤ x ∧ x ≤ 57) (h2 : 48 ≤ y ∧ y ≤ 57) : 48 ≤ gAnd x y ∧ gAnd x y ≤ 57 := by unfold gAnd; split <;> omega
theorem dig_gXor (x y : Nat) (h1 : 48 ≤ x ∧ x ≤ 57) (h2 : 48 ≤ y ∧ y ≤ 57) : 48 ≤ gXor x y ∧ gXor x y ≤ 57 := by unfold gXor; split <;> (try split) <;> omega
def spPairs (C U : Addr) : Sp := fun vs H Q E => ∃ (p q : Addr) (w w' : Nat) (rs rs' : List (List Nat)), vs = [.ref p, .ref q] ∧ Pic H C p rs ∧ Pic H C q rs' ∧ Good w rs ∧ Good w' rs' ∧
  ((w = w' ∧ rs.length = rs'.length ∧ ∀ S H1 H', Same H H1 → Zipped H1 H' S (rowsV rs) (rowsV rs') → Q (.ref S) H') ∨ (¬ (w = w' ∧ rs.length = rs'.length) ∧ ∀ H', Same H H' → E (.ref U) none H'))
def spJoin (C U : Addr) (g : Nat → Nat → Nat) : Sp := fun vs H Q E => ∃ (p q : Addr) (w w' : Nat) (rs rs' : List (List Nat)), vs = [.ref p, .ref q] ∧ Pic H C p rs ∧ Pic H C q rs' ∧ Good w rs ∧ Good w' rs' ∧
  ((w = w' ∧ rs.length = rs'.length ∧ ∀ x H', Same H H' → Pic H' C x (jRs g rs rs') → Q (.ref x) H') ∨ (¬ (w = w' ∧ rs.length = rs'.length) ∧ ∀ H', Same H H' → E (.ref U) none H'))
section
variable {P : Program} {w : World} {K : PySem.W.Frag} {mg : Str → Option Value} {base : Heap} {a : Adr}
set_option maxHeartbeats 4000000
theorem ok_row_pairs (T : Txt K mg a) : FnR P w K mg base (CX P w) 3 a.row_pairs (spPairs a.Picture a.Unlike) := by
  have G_Picture_rows : FnR P w K mg base CX0 1 a.Picture_rows (spPRows a.Picture) := ok_prows T
  have G_Picture_width : FnR P w K mg base CX0 1 a.Picture_width (spPWidth a.Picture) := ok_pwidth T
  have G_Picture_height : FnR P w K mg base CX0 1 a.Picture_height (spPHeight a.Picture) := ok_pheight T
  refine T.d_row_pairs.okX sc_row_pairs (fun _ _ _ _ _ _ us hl => match us, hl with | [_, _], _ => rfl) (fun vs H Q E h => by obtain ⟨p, q, w, w', rs, rs', rfl, _⟩ := h; rfl) (fun cdv A outer s H vs Q E hr h => ?_)
  obtain ⟨p, q, wd, wd', rs, rs', rfl, hp, hq, g, g', h⟩ := h
  refine ⟨_, (pss_cons (ps_if (pt_cmpR (op_neD hr.units) (pe_tup (pa_cons (pe_propR (pv 0) T.c_Picture.cl T.p_Picture_width G_Picture_width (hr.mono (by decide))  pass0) (pa_cons (pe_propR (pv 0) T.c_Picture.cl T.p_Picture_height G_Picture_height (hr.mono (by decide))  pass0) pa_nil))) (pe_tup (pa_cons (pe_propR (pv 1) T.c_Picture.cl T.p_Picture_width G_Picture_width (hr.mono (by decide))  pass0) (pa_cons (pe_propR (pv 1) T.c_Picture.cl T.p_Picture_height G_Picture_height (hr.mono (by decide))  pass0) pa_nil))) (nomark _))
          (pss_one (ps_raise rfl (takes_of rfl rfl rfl rfl) (pmk_own0 PySem.F.excBase_ValueError T.ei_Unlike T.m_Unlike T.kp_Unlike (raises_own T.b_Unlike T.t_Unlike) rfl)))
          pss_nil)
      (pss_one (ps_ret (pe_listzip rfl rfl T.n_list rfl T.n_zip (pa_cons (pe_propR (pv 0) T.c_Picture.cl T.p_Picture_rows G_Picture_rows (hr.mono (by decide))  pass0) (pa_cons (pe_propR (pv 1) T.c_Picture.cl T.p_Picture_rows G_Picture_rows (hr.mono (by decide))  pass0) pa_nil)))))), ?_⟩
  simp only [tSeq, tIfS, tTest, tB, tAnd, tOr, tNot, tAndV, tOrV, tNotV, tIf, tOp, tUn, tChain, rEq, rNe, rI0, rI, rU, tCallR, tCons, tNil, tC, tVar, tRet, tRetN, tTup_k, tLst_k, tCB, tNext, tAsg, gName, gTup, gCons, gNil, tDrop, tPar, tFld, ClX.tCVal, tPropR, rBin, rBinT, rNeOwn, rSetL_k, gSub, tMakeK_k, tMethR, rInO, tDNewK_k, tYes, wipe, tMakeR_k, tSMeth, tSMethK, rMulS, decide_true, tNever, sFld, rIsiT, and_false, rListOf, rTupOf, rLenSeq, rIxL, rIxT, rIxS, rCat_k, rRep_k, rSlL_k, rSlS, rNewStrs_k, rAppend_k, tBM, tBM0, tM0, tM1, tSl, tNoPart, tPart, tLc_k, tFor_k, iList, iTup, iEnumT, iRng1, iRng2, iRng2L, iStr, L2.start, List.map, List.length_cons, List.length_nil, List.cons_append, List.nil_append, List.getElem?_cons_succ, List.getElem?_cons_zero, Option.some.injEq, V.int.injEq, V.bl.injEq, V.str.injEq, V.ref.injEq, exists_eq_left', exists_eq_left, and_assoc, exists_and_left, exists_eq, exists_eq', true_and, and_true, List.set_cons_zero, List.set_cons_succ, List.set, decide_eq_true_eq, Bool.not_eq_true', if_true, if_false, rIx, cx_K, nox_K, List.replicate_succ, List.replicate_zero, Nat.reduceSub, Bool.true_eq_false, Bool.false_eq_true, Nat.reduceAdd, List.cons.injEq, reduceCtorEq, false_and, false_or, or_false, tAug, rSetO, rJoin, tMakeL, rStrO, ClX.tCMeth, rPop, tLc2_k, iEnum, tPar3, iZipS, iZipS3, tListZip, rInDT, tBackS, tBackT, tSlSt, rUn]
  obtain ⟨dx, tp, hp1, hp2⟩ := id hp
  obtain ⟨dy, tq, hq1, hq2⟩ := id hq
  refine ⟨dx, _, hp1, p, wd, rs, rfl, hp, g, dx, _, hp1, p, rs, rfl, hp, kNew.mk (by show 2 ≤ sizeLine; decide) fun t1 H1 f1 => ⟨dy, _, f1.get hq1, q, wd', rs', rfl, hq.same f1.same, g', dy, _, f1.get hq1, q, rs', rfl, hq.same f1.same, kNew.mk (by show 2 ≤ sizeLine; decide) fun t2 H2 f2 => ?_⟩⟩
  have s2 := f1.same.trans f2.same
  refine ⟨.tuple [.int wd, .int rs.length], .tuple [.int wd', .int rs'.length], .tup (.inl (.inl (f2.get f1.at_))) (.cons (.int _) (.cons (.int _) .nil)), .tup (.inl (.inl f2.at_)) (.cons (.int _) (.cons (.int _) .nil)), rfl, rfl, _, rfl, ?_⟩
  have ee : PyData.eqv (.tuple [.int (wd : Nat), .int (rs.length : Nat)]) (.tuple [.int (wd' : Nat), .int (rs'.length : Nat)]) = decide (wd = wd' ∧ rs.length = rs'.length) := by
    by_cases c1 : wd = wd' <;> by_cases c2 : rs.length = rs'.length <;> simp [PyData.eqv, PyData.eqvAll, c1, c2] <;> omega
  rw [ee]
  rcases h with ⟨e1, e2, k⟩ | ⟨hne, k⟩
  · rw [decide_eq_true ⟨e1, e2⟩, if_neg (by decide)]
    refine ⟨dx, _, s2 _ _ hp1, p, dx, tp, rfl, s2 _ _ hp1, dy, _, s2 _ _ hq1, q, dy, tq, rfl, s2 _ _ hq1, ?_⟩
    try simp only [tSeq, tIfS, tTest, tB, tAnd, tOr, tNot, tAndV, tOrV, tNotV, tIf, tOp, tUn, tChain, rEq, rNe, rI0, rI, rU, tCallR, tCons, tNil, tC, tVar, tRet, tRetN, tTup_k, tLst_k, tCB, tNext, tAsg, gName, gTup, gCons, gNil, tDrop, tPar, tFld, ClX.tCVal, tPropR, rBin, rBinT, rNeOwn, rSetL_k, gSub, tMakeK_k, tMethR, rInO, tDNewK_k, tYes, wipe, tMakeR_k, tSMeth, tSMethK, rMulS, decide_true, tNever, sFld, rIsiT, and_false, rListOf, rTupOf, rLenSeq, rIxL, rIxT, rIxS, rCat_k, rRep_k, rSlL_k, rSlS, rNewStrs_k, rAppend_k, tBM, tBM0, tM0, tM1, tSl, tNoPart, tPart, tLc_k, tFor_k, iList, iTup, iEnumT, iRng1, iRng2, iRng2L, iStr, L2.start, List.map, List.length_cons, List.length_nil, List.cons_append, List.nil_append, List.getElem?_cons_succ, List.getElem?_cons_zero, Option.some.injEq, V.int.injEq, V.bl.injEq, V.str.injEq, V.ref.injEq, exists_eq_left', exists_eq_left, and_assoc, exists_and_left, exists_eq, exists_eq', true_and, and_true, List.set_cons_zero, List.set_cons_succ, List.set, decide_eq_true_eq, Bool.not_eq_true', if_true, if_false, rIx, cx_K, nox_K, List.replicate_succ, List.replicate_zero, Nat.reduceSub, Bool.true_eq_false, Bool.false_eq_true, Nat.reduceAdd, List.cons.injEq, reduceCtorEq, false_and, false_or, or_false, tAug, rSetO, rJoin, tMakeL, rStrO, ClX.tCMeth, rPop, tLc2_k, iEnum, tPar3, iZipS, iZipS3, tListZip, rInDT, tBackS, tBackT, tSlSt, rUn]
    refine ⟨_, .inl (.inl (s2 _ _ hp2)), _, .inl (.inl (s2 _ _ hq2)), by rw [rowsV_len, rowsV_len]; exact e2, by rw [rowsV_len]; exact g.l0, fun S H' z => k S H2 H' s2 z⟩
  · rw [decide_eq_false hne, if_pos (by decide)]
    exact k H2 s2
theorem ok_por (T : Txt K mg a) : FnR P w K mg base (CX P w) 5 a.Picture_or (spJoin a.Picture a.Unlike gOr) := by
  have G_row_pairs : FnR P w K mg base (CX P w) 3 a.row_pairs (spPairs a.Picture a.Unlike) := ok_row_pairs T
  have G_laid_over : FnR P w K mg base CX0 1 a.laid_over (spZip gOr) := ok_laid T
  have G_Picture_init : FnR P w K mg base CX0 3 a.Picture_init (spPicInit a.Picture) := ok_pic_init T
  refine T.d_Picture_or.okX sc_Picture_or (fun _ _ _ _ _ _ us hl => match us, hl with | [_, _], _ => rfl) (fun vs H Q E h => by obtain ⟨p, q, w, w', rs, rs', rfl, _⟩ := h; rfl) (fun cdv A outer s H vs Q E hr h => ?_)
  obtain ⟨p, q, wd, wd', rs, rs', rfl, hp, hq, g, g', h⟩ := h
  refine ⟨_, (pss_cons (ps_if (pt_not (pt_val (pe_callB call_isi (by rfl) T.n_isinstance (by decide +kernel) (pa_cons (pv 1) (pa_cons (pe_glob (v := .ref a.Picture) rfl T.m_Picture rfl) pa_nil)))))
          (pss_one ps_never)
          pss_nil)
      (pss_one (ps_ret (pe_makeRR T.M_Picture G_Picture_init (hr.mono (by decide)) T.m_Picture pass0 (pa_cons (pe_lc (own := [("row", 2), ("under", 3)]) (g := gTup K 2 (gCons (gName 2) (gCons (gName 3) gNil))) (by rfl) sc_Picture_or.nd (pi_list (pe_callR G_row_pairs (hr.mono (by decide)) T.m_row_pairs T.k_row_pairs (passUp (takes_of rfl rfl rfl rfl)) (pa_cons (pv 0) (pa_cons (pv 1) pa_nil)))) (blkOk_by (own := [("row", 2), ("under", 3)]) (N := ["self", "other", "row", "under"]) (sc := defScope s_Picture_or) (by decide +kernel)) (fun _ _ _ _ _ => (pg_tup rfl (pgs_cons (pg_name (i := 2) sc_Picture_or.nd rfl (Or.inl rfl)) (pgs_cons (pg_name (i := 3) sc_Picture_or.nd rfl (Or.inl rfl)) pgs_nil)))) (fun _ _ _ _ _ => pts_nil) (fun _ _ _ _ _ => (pe_callR G_laid_over (hr.mono (by decide)) T.m_laid_over T.k_laid_over pass0 (pa_cons (pv 2) (pa_cons (pv 3) pa_nil))))) pa_nil))))), ?_⟩
  simp only [tSeq, tIfS, tTest, tB, tAnd, tOr, tNot, tAndV, tOrV, tNotV, tIf, tOp, tUn, tChain, rEq, rNe, rI0, rI, rU, tCallR, tCons, tNil, tC, tVar, tRet, tRetN, tTup_k, tLst_k, tCB, tNext, tAsg, gName, gTup, gCons, gNil, tDrop, tPar, tFld, ClX.tCVal, tPropR, rBin, rBinT, rNeOwn, rSetL_k, gSub, tMakeK_k, tMethR, rInO, tDNewK_k, tYes, wipe, tMakeR_k, tSMeth, tSMethK, rMulS, decide_true, tNever, sFld, rIsiT, and_false, rListOf, rTupOf, rLenSeq, rIxL, rIxT, rIxS, rCat_k, rRep_k, rSlL_k, rSlS, rNewStrs_k, rAppend_k, tBM, tBM0, tM0, tM1, tSl, tNoPart, tPart, tLc_k, tFor_k, iList, iTup, iEnumT, iRng1, iRng2, iRng2L, iStr, L2.start, List.map, List.length_cons, List.length_nil, List.cons_append, List.nil_append, List.getElem?_cons_succ, List.getElem?_cons_zero, Option.some.injEq, V.int.injEq, V.bl.injEq, V.str.injEq, V.ref.injEq, exists_eq_left', exists_eq_left, and_assoc, exists_and_left, exists_eq, exists_eq', true_and, and_true, List.set_cons_zero, List.set_cons_succ, List.set, decide_eq_true_eq, Bool.not_eq_true', if_true, if_false, rIx, cx_K, nox_K, List.replicate_succ, List.replicate_zero, Nat.reduceSub, Bool.true_eq_false, Bool.false_eq_true, Nat.reduceAdd, List.cons.injEq, reduceCtorEq, false_and, false_or, or_false, tAug, rSetO, rJoin, tMakeL, rStrO, ClX.tCMeth, rPop, tLc2_k, iEnum, tPar3, iZipS, iZipS3, tListZip, rInDT, tBackS, tBackT, tSlSt, rUn]
  obtain ⟨dx, tp, hp1, hp2⟩ := id hp
  obtain ⟨dy, tq, hq1, hq2⟩ := id hq
  refine ⟨_, _, _, _, _, rfl, .own _, T.c_Picture.tyOf hq1, kit_self, true, rfl, ?_⟩
  rw [if_neg (by decide)]
  refine ⟨p, q, wd, wd', rs, rs', rfl, hp, hq, g, g', ?_⟩
  rcases h with ⟨e1, e2, k⟩ | ⟨hne, k⟩
  · refine .inl ⟨e1, e2, fun L1 H1 H2 s1 z => ?_⟩
    obtain ⟨Ts, hL, hTl, hT⟩ := z.at_
    rw [rowsV_len] at hTl
    refine ⟨L1, rfl, ⟨_, SqL.of hL⟩, ?_⟩
    subst e1
    have gj := good_j (g := gOr) dig_gOr g g' e2
    refine kLc.map walk_list (rowsV (jRs gOr rs rs')) (by rw [rowsV_len, jRs_len e2, List.length_map, hTl]) (fun H' s => SqL.of (s _ _ hL)) (fun D j x H3 H4 hj c hY => ?_) fun D H3 f3 => ?_
    · obtain ⟨rfl, hx⟩ := hY
      rw [List.length_map] at hj
      obtain ⟨Tj, hTj⟩ : ∃ Tj, Ts[j]? = some Tj := ⟨_, List.getElem?_eq_getElem hj⟩
      rw [List.getElem?_map, hTj] at hx
      cases hx
      obtain ⟨vx, vy, ex, ey, hpair⟩ := hT j Tj hTj
      obtain ⟨r, hr1, rfl⟩ := rowsV_get ex
      obtain ⟨r', hr2, rfl⟩ := rowsV_get ey
      obtain ⟨l1, d1⟩ := g.at_ hr1
      obtain ⟨l2, d2⟩ := g'.at_ hr2
      simp only [tSeq, tIfS, tTest, tB, tAnd, tOr, tNot, tAndV, tOrV, tNotV, tIf, tOp, tUn, tChain, rEq, rNe, rI0, rI, rU, tCallR, tCons, tNil, tC, tVar, tRet, tRetN, tTup_k, tLst_k, tCB, tNext, tAsg, gName, gTup, gCons, gNil, tDrop, tPar, tFld, ClX.tCVal, tPropR, rBin, rBinT, rNeOwn, rSetL_k, gSub, tMakeK_k, tMethR, rInO, tDNewK_k, tYes, wipe, tMakeR_k, tSMeth, tSMethK, rMulS, decide_true, tNever, sFld, rIsiT, and_false, rListOf, rTupOf, rLenSeq, rIxL, rIxT, rIxS, rCat_k, rRep_k, rSlL_k, rSlS, rNewStrs_k, rAppend_k, tBM, tBM0, tM0, tM1, tSl, tNoPart, tPart, tLc_k, tFor_k, iList, iTup, iEnumT, iRng1, iRng2, iRng2L, iStr, L2.start, List.map, List.length_cons, List.length_nil, List.cons_append, List.nil_append, List.getElem?_cons_succ, List.getElem?_cons_zero, Option.some.injEq, V.int.injEq, V.bl.injEq, V.str.injEq, V.ref.injEq, exists_eq_left', exists_eq_left, and_assoc, exists_and_left, exists_eq, exists_eq', true_and, and_true, List.set_cons_zero, List.set_cons_succ, List.set, decide_eq_true_eq, Bool.not_eq_true', if_true, if_false, rIx, cx_K, nox_K, List.replicate_succ, List.replicate_zero, Nat.reduceSub, Bool.true_eq_false, Bool.false_eq_true, Nat.reduceAdd, List.cons.injEq, reduceCtorEq, false_and, false_or, or_false, tAug, rSetO, rJoin, tMakeL, rStrO, ClX.tCMeth, rPop, tLc2_k, iEnum, tPar3, iZipS, iZipS3, tListZip, rInDT, tBackS, tBackT, tSlSt, rUn]
      refine ⟨_, .inl (.inl (c.same _ _ hpair)), rfl, _, _, rfl, _, _, rfl, rfl, r, r', rfl, by omega, by have := g.w1; omega, fun H5 s5 => ?_⟩
      refine kApp.at c s5 (by rw [rowsV_len, jRs_len e2]; exact size200 g.l1) ?_
      rw [List.getElem?_map, jRs_get hr1 hr2]
      rfl
    · exact newPic gj (.inl f3.at_) fun x H4 s4 _ px => k x H4 (((s1.trans z.same).trans f3.same).trans s4) px
  · exact .inr ⟨hne, k⟩
theorem ok_pand (T : Txt K mg a) : FnR P w K mg base (CX P w) 5 a.Picture_and (spJoin a.Picture a.Unlike gAnd) := by
  have G_row_pairs : FnR P w K mg base (CX P w) 3 a.row_pairs (spPairs a.Picture a.Unlike) := ok_row_pairs T
  have G_what_agrees : FnR P w K mg base CX0 1 a.what_agrees (spZip gAnd) := ok_agrees T
  have G_Picture_init : FnR P w K mg base CX0 3 a.Picture_init (spPicInit a.Picture) := ok_pic_init T
  refine T.d_Picture_and.okX sc_Picture_and (fun _ _ _ _ _ _ us hl => match us, hl with | [_, _], _ => rfl) (fun vs H Q E h => by obtain ⟨p, q, w, w', rs, rs', rfl, _⟩ := h; rfl) (fun cdv A outer s H vs Q E hr h => ?_)
  obtain ⟨p, q, wd, wd', rs, rs', rfl, hp, hq, g, g', h⟩ := h
  refine ⟨_, (pss_cons (ps_if (pt_not (pt_val (pe_callB call_isi (by rfl) T.n_isinstance (by decide +kernel) (pa_cons (pv 1) (pa_cons (pe_glob (v := .ref a.Picture) rfl T.m_Picture rfl) pa_nil)))))
          (pss_one ps_never)
          pss_nil)
      (pss_one (ps_ret (pe_makeRR T.M_Picture G_Picture_init (hr.mono (by decide)) T.m_Picture pass0 (pa_cons (pe_lc (own := [("row", 2), ("under", 3)]) (g := gTup K 2 (gCons (gName 2) (gCons (gName 3) gNil))) (by rfl) sc_Picture_and.nd (pi_list (pe_callR G_row_pairs (hr.mono (by decide)) T.m_row_pairs T.k_row_pairs (passUp (takes_of rfl rfl rfl rfl)) (pa_cons (pv 0) (pa_cons (pv 1) pa_nil)))) (blkOk_by (own := [("row", 2), ("under", 3)]) (N := ["self", "other", "row", "under"]) (sc := defScope s_Picture_and) (by decide +kernel)) (fun _ _ _ _ _ => (pg_tup rfl (pgs_cons (pg_name (i := 2) sc_Picture_and.nd rfl (Or.inl rfl)) (pgs_cons (pg_name (i := 3) sc_Picture_and.nd rfl (Or.inl rfl)) pgs_nil)))) (fun _ _ _ _ _ => pts_nil) (fun _ _ _ _ _ => (pe_callR G_what_agrees (hr.mono (by decide)) T.m_what_agrees T.k_what_agrees pass0 (pa_cons (pv 2) (pa_cons (pv 3) pa_nil))))) pa_nil))))), ?_⟩
  simp only [tSeq, tIfS, tTest, tB, tAnd, tOr, tNot, tAndV, tOrV, tNotV, tIf, tOp, tUn, tChain, rEq, rNe, rI0, rI, rU, tCallR, tCons, tNil, tC, tVar, tRet, tRetN, tTup_k, tLst_k, tCB, tNext, tAsg, gName, gTup, gCons, gNil, tDrop, tPar, tFld, ClX.tCVal, tPropR, rBin, rBinT, rNeOwn, rSetL_k, gSub, tMakeK_k, tMethR, rInO, tDNewK_k, tYes, wipe, tMakeR_k, tSMeth, tSMethK, rMulS, decide_true, tNever, sFld, rIsiT, and_false, rListOf, rTupOf, rLenSeq, rIxL, rIxT, rIxS, rCat_k, rRep_k, rSlL_k, rSlS, rNewStrs_k, rAppend_k, tBM, tBM0, tM0, tM1, tSl, tNoPart, tPart, tLc_k, tFor_k, iList, iTup, iEnumT, iRng1, iRng2, iRng2L, iStr, L2.start, List.map, List.length_cons, List.length_nil, List.cons_append, List.nil_append, List.getElem?_cons_succ, List.getElem?_cons_zero, Option.some.injEq, V.int.injEq, V.bl.injEq, V.str.injEq, V.ref.injEq, exists_eq_left', exists_eq_left, and_assoc, exists_and_left, exists_eq, exists_eq', true_and, and_true, List.set_cons_zero, List.set_cons_succ, List.set, decide_eq_true_eq, Bool.not_eq_true', if_true, if_false, rIx, cx_K, nox_K, List.replicate_succ, List.replicate_zero, Nat.reduceSub, Bool.true_eq_false, Bool.false_eq_true, Nat.reduceAdd, List.cons.injEq, reduceCtorEq, false_and, false_or, or_false, tAug, rSetO, rJoin, tMakeL, rStrO, ClX.tCMeth, rPop, tLc2_k, iEnum, tPar3, iZipS, iZipS3, tListZip, rInDT, tBackS, tBackT, tSlSt, rUn]
  obtain ⟨dx, tp, hp1, hp2⟩ := id hp
  obtain ⟨dy, tq, hq1, hq2⟩ := id hq
  refine ⟨_, _, _, _, _, rfl, .own _, T.c_Picture.tyOf hq1, kit_self, true, rfl, ?_⟩
  rw [if_neg (by decide)]
  refine ⟨p, q, wd, wd', rs, rs', rfl, hp, hq, g, g', ?_⟩
  rcases h with ⟨e1, e2, k⟩ | ⟨hne, k⟩
  · refine .inl ⟨e1, e2, fun L1 H1 H2 s1 z => ?_⟩
    obtain ⟨Ts, hL, hTl, hT⟩ := z.at_
    rw [rowsV_len] at hTl
    refine ⟨L1, rfl, ⟨_, SqL.of hL⟩, ?_⟩
    subst e1
    have gj := good_j (g := gAnd) dig_gAnd g g' e2
    refine kLc.map walk_list (rowsV (jRs gAnd rs rs')) (by rw [rowsV_len, jRs_len e2, List.length_map, hTl]) (fun H' s => SqL.of (s _ _ hL)) (fun D j x H3 H4 hj c hY => ?_) fun D H3 f3 => ?_
    · obtain ⟨rfl, hx⟩ := hY
      rw [List.length_map] at hj
      obtain ⟨Tj, hTj⟩ : ∃ Tj, Ts[j]? = some Tj := ⟨_, List.getElem?_eq_getElem hj⟩
      rw [List.getElem?_map, hTj] at hx
      cases hx
      obtain ⟨vx, vy, ex, ey, hpair⟩ := hT j Tj hTj
      obtain ⟨r, hr1, rfl⟩ := rowsV_get ex
      obtain ⟨r', hr2, rfl⟩ := rowsV_get ey
      obtain ⟨l1, d1⟩ := g.at_ hr1
      obtain ⟨l2, d2⟩ := g'.at_ hr2
      simp only [tSeq, tIfS, tTest, tB, tAnd, tOr, tNot, tAndV, tOrV, tNotV, tIf, tOp, tUn, tChain, rEq, rNe, rI0, rI, rU, tCallR, tCons, tNil, tC, tVar, tRet, tRetN, tTup_k, tLst_k, tCB, tNext, tAsg, gName, gTup, gCons, gNil, tDrop, tPar, tFld, ClX.tCVal, tPropR, rBin, rBinT, rNeOwn, rSetL_k, gSub, tMakeK_k, tMethR, rInO, tDNewK_k, tYes, wipe, tMakeR_k, tSMeth, tSMethK, rMulS, decide_true, tNever, sFld, rIsiT, and_false, rListOf, rTupOf, rLenSeq, rIxL, rIxT, rIxS, rCat_k, rRep_k, rSlL_k, rSlS, rNewStrs_k, rAppend_k, tBM, tBM0, tM0, tM1, tSl, tNoPart, tPart, tLc_k, tFor_k, iList, iTup, iEnumT, iRng1, iRng2, iRng2L, iStr, L2.start, List.map, List.length_cons, List.length_nil, List.cons_append, List.nil_append, List.getElem?_cons_succ, List.getElem?_cons_zero, Option.some.injEq, V.int.injEq, V.bl.injEq, V.str.injEq, V.ref.injEq, exists_eq_left', exists_eq_left, and_assoc, exists_and_left, exists_eq, exists_eq', true_and, and_true, List.set_cons_zero, List.set_cons_succ, List.set, decide_eq_true_eq, Bool.not_eq_true', if_true, if_false, rIx, cx_K, nox_K, List.replicate_succ, List.replicate_zero, Nat.reduceSub, Bool.true_eq_false, Bool.false_eq_true, Nat.reduceAdd, List.cons.injEq, reduceCtorEq, false_and, false_or, or_false, tAug, rSetO, rJoin, tMakeL, rStrO, ClX.tCMeth, rPop, tLc2_k, iEnum, tPar3, iZipS, iZipS3, tListZip, rInDT, tBackS, tBackT, tSlSt, rUn]
      refine ⟨_, .inl (.inl (c.same _ _ hpair)), rfl, _, _, rfl, _, _, rfl, rfl, r, r', rfl, by omega, by have := g.w1; omega, fun H5 s5 => ?_⟩
      refine kApp.at c s5 (by rw [rowsV_len, jRs_len e2]; exact size200 g.l1) ?_
      rw [List.getElem?_map, jRs_get hr1 hr2]
      rfl
    · exact newPic gj (.inl f3.at_) fun x H4 s4 _ px => k x H4 (((s1.trans z.same).trans f3.same).trans s4) px
  · exact .inr ⟨hne, k⟩
theorem ok_pxor (T : Txt K mg a) : FnR P w K mg base (CX P w) 5 a.Picture_xor (spJoin a.Picture a.Unlike gXor) := by
  have G_row_pairs : FnR P w K mg base (CX P w) 3 a.row_pairs (spPairs a.Picture a.Unlike) := ok_row_pairs T
  have G_what_differs : FnR P w K mg base CX0 3 a.what_differs (spZip gXor) := ok_differs T
  have G_Picture_init : FnR P w K mg base CX0 3 a.Picture_init (spPicInit a.Picture) := ok_pic_init T
  refine T.d_Picture_xor.okX sc_Picture_xor (fun _ _ _ _ _ _ us hl => match us, hl with | [_, _], _ => rfl) (fun vs H Q E h => by obtain ⟨p, q, w, w', rs, rs', rfl, _⟩ := h; rfl) (fun cdv A outer s H vs Q E hr h => ?_)
  obtain ⟨p, q, wd, wd', rs, rs', rfl, hp, hq, g, g', h⟩ := h
  refine ⟨_, (pss_cons (ps_if (pt_not (pt_val (pe_callB call_isi (by rfl) T.n_isinstance (by decide +kernel) (pa_cons (pv 1) (pa_cons (pe_glob (v := .ref a.Picture) rfl T.m_Picture rfl) pa_nil)))))
          (pss_one ps_never)
          pss_nil)
      (pss_one (ps_ret (pe_makeRR T.M_Picture G_Picture_init (hr.mono (by decide)) T.m_Picture pass0 (pa_cons (pe_lc (own := [("row", 2), ("under", 3)]) (g := gTup K 2 (gCons (gName 2) (gCons (gName 3) gNil))) (by rfl) sc_Picture_xor.nd (pi_list (pe_callR G_row_pairs (hr.mono (by decide)) T.m_row_pairs T.k_row_pairs (passUp (takes_of rfl rfl rfl rfl)) (pa_cons (pv 0) (pa_cons (pv 1) pa_nil)))) (blkOk_by (own := [("row", 2), ("under", 3)]) (N := ["self", "other", "row", "under"]) (sc := defScope s_Picture_xor) (by decide +kernel)) (fun _ _ _ _ _ => (pg_tup rfl (pgs_cons (pg_name (i := 2) sc_Picture_xor.nd rfl (Or.inl rfl)) (pgs_cons (pg_name (i := 3) sc_Picture_xor.nd rfl (Or.inl rfl)) pgs_nil)))) (fun _ _ _ _ _ => pts_nil) (fun _ _ _ _ _ => (pe_callR G_what_differs (hr.mono (by decide)) T.m_what_differs T.k_what_differs pass0 (pa_cons (pv 2) (pa_cons (pv 3) pa_nil))))) pa_nil))))), ?_⟩
  simp only [tSeq, tIfS, tTest, tB, tAnd, tOr, tNot, tAndV, tOrV, tNotV, tIf, tOp, tUn, tChain, rEq, rNe, rI0, rI, rU, tCallR, tCons, tNil, tC, tVar, tRet, tRetN, tTup_k, tLst_k, tCB, tNext, tAsg, gName, gTup, gCons, gNil, tDrop, tPar, tFld, ClX.tCVal, tPropR, rBin, rBinT, rNeOwn, rSetL_k, gSub, tMakeK_k, tMethR, rInO, tDNewK_k, tYes, wipe, tMakeR_k, tSMeth, tSMethK, rMulS, decide_true, tNever, sFld, rIsiT, and_false, rListOf, rTupOf, rLenSeq, rIxL, rIxT, rIxS, rCat_k, rRep_k, rSlL_k, rSlS, rNewStrs_k, rAppend_k, tBM, tBM0, tM0, tM1, tSl, tNoPart, tPart, tLc_k, tFor_k, iList, iTup, iEnumT, iRng1, iRng2, iRng2L, iStr, L2.start, List.map, List.length_cons, List.length_nil, List.cons_append, List.nil_append, List.getElem?_cons_succ, List.getElem?_cons_zero, Option.some.injEq, V.int.injEq, V.bl.injEq, V.str.injEq, V.ref.injEq, exists_eq_left', exists_eq_left, and_assoc, exists_and_left, exists_eq, exists_eq', true_and, and_true, List.set_cons_zero, List.set_cons_succ, List.set, decide_eq_true_eq, Bool.not_eq_true', if_true, if_false, rIx, cx_K, nox_K, List.replicate_succ, List.replicate_zero, Nat.reduceSub, Bool.true_eq_false, Bool.false_eq_true, Nat.reduceAdd, List.cons.injEq, reduceCtorEq, false_and, false_or, or_false, tAug, rSetO, rJoin, tMakeL, rStrO, ClX.tCMeth, rPop, tLc2_k, iEnum, tPar3, iZipS, iZipS3, tListZip, rInDT, tBackS, tBackT, tSlSt, rUn]
  obtain ⟨dx, tp, hp1, hp2⟩ := id hp
  obtain ⟨dy, tq, hq1, hq2⟩ := id hq
  refine ⟨_, _, _, _, _, rfl, .own _, T.c_Picture.tyOf hq1, kit_self, true, rfl, ?_⟩
  rw [if_neg (by decide)]
  refine ⟨p, q, wd, wd', rs, rs', rfl, hp, hq, g, g', ?_⟩
  rcases h with ⟨e1, e2, k⟩ | ⟨hne, k⟩
  · refine .inl ⟨e1, e2, fun L1 H1 H2 s1 z => ?_⟩
    obtain ⟨Ts, hL, hTl, hT⟩ := z.at_
    rw [rowsV_len] at hTl
    refine ⟨L1, rfl, ⟨_, SqL.of hL⟩, ?_⟩
    subst e1
    have gj := good_j (g := gXor) dig_gXor g g' e2
    refine kLc.map walk_list (rowsV (jRs gXor rs rs')) (by rw [rowsV_len, jRs_len e2, List.length_map, hTl]) (fun H' s => SqL.of (s _ _ hL)) (fun D j x H3 H4 hj c hY => ?_) fun D H3 f3 => ?_
    · obtain ⟨rfl, hx⟩ := hY
      rw [List.length_map] at hj
      obtain ⟨Tj, hTj⟩ : ∃ Tj, Ts[j]? = some Tj := ⟨_, List.getElem?_eq_getElem hj⟩
      rw [List.getElem?_map, hTj] at hx
      cases hx
      obtain ⟨vx, vy, ex, ey, hpair⟩ := hT j Tj hTj
      obtain ⟨r, hr1, rfl⟩ := rowsV_get ex
      obtain ⟨r', hr2, rfl⟩ := rowsV_get ey
      obtain ⟨l1, d1⟩ := g.at_ hr1
      obtain ⟨l2, d2⟩ := g'.at_ hr2
      simp only [tSeq, tIfS, tTest, tB, tAnd, tOr, tNot, tAndV, tOrV, tNotV, tIf, tOp, tUn, tChain, rEq, rNe, rI0, rI, rU, tCallR, tCons, tNil, tC, tVar, tRet, tRetN, tTup_k, tLst_k, tCB, tNext, tAsg, gName, gTup, gCons, gNil, tDrop, tPar, tFld, ClX.tCVal, tPropR, rBin, rBinT, rNeOwn, rSetL_k, gSub, tMakeK_k, tMethR, rInO, tDNewK_k, tYes, wipe, tMakeR_k, tSMeth, tSMethK, rMulS, decide_true, tNever, sFld, rIsiT, and_false, rListOf, rTupOf, rLenSeq, rIxL, rIxT, rIxS, rCat_k, rRep_k, rSlL_k, rSlS, rNewStrs_k, rAppend_k, tBM, tBM0, tM0, tM1, tSl, tNoPart, tPart, tLc_k, tFor_k, iList, iTup, iEnumT, iRng1, iRng2, iRng2L, iStr, L2.start, List.map, List.length_cons, List.length_nil, List.cons_append, List.nil_append, List.getElem?_cons_succ, List.getElem?_cons_zero, Option.some.injEq, V.int.injEq, V.bl.injEq, V.str.injEq, V.ref.injEq, exists_eq_left', exists_eq_left, and_assoc, exists_and_left, exists_eq, exists_eq', true_and, and_true, List.set_cons_zero, List.set_cons_succ, List.set, decide_eq_true_eq, Bool.not_eq_true', if_true, if_false, rIx, cx_K, nox_K, List.replicate_succ, List.replicate_zero, Nat.reduceSub, Bool.true_eq_false, Bool.false_eq_true, Nat.reduceAdd, List.cons.injEq, reduceCtorEq, false_and, false_or, or_false, tAug, rSetO, rJoin, tMakeL, rStrO, ClX.tCMeth, rPop, tLc2_k, iEnum, tPar3, iZipS, iZipS3, tListZip, rInDT, tBackS, tBackT, tSlSt, rUn]
      refine ⟨_, .inl (.inl (c.same _ _ hpair)), rfl, _, _, rfl, _, _, rfl, rfl, r, r', rfl, by omega, by have := g.w1; omega, fun H5 s5 => ?_⟩
      refine kApp.at c s5 (by rw [rowsV_len, jRs_len e2]; exact size200 g.l1) ?_
      rw [List.getElem?_map, jRs_get hr1 hr2]
      rfl
    · exact newPic gj (.inl f3.at_) fun x H4 s4 _ px => k x H4 (((s1.trans z.same).trans f3.same).trans s4) px
  · exact .inr ⟨hne, k⟩
end
end Pf
end
section
namespace Pf
open PySem PySem.Spec PyProof.Rows L2 Ow StX
open SX (S)
def liesB (r r' : List Nat) : Bool := (r.zip r').all fun p => p.1 == 48 || p.1 == p.2
def leB (rs rs' : List (List Nat)) : Bool := (rs.zip rs').all fun p => liesB p.1 p.2
theorem eqS (a b : Nat) : (S [a] == S [b]) = (b == a) := by
  rw [SX.S_beq_eq]
  by_cases e : b = a
  · subst e
    simp
  · rw [beq_false_of_ne e]
    exact decide_eq_false fun z => e (by injection z with z _; exact z.symm)
def spLies : Sp := fun vs H Q _ => ∃ r r' : List Nat, vs = [.str (S r), .str (S r')] ∧ r.length = r'.length ∧ r.length ≤ 200 ∧ ∀ H', Same H H' → Q (.bl (liesB r r')) H'
def spOrd (C U : Addr) (f : List (List Nat) → List (List Nat) → Bool) : Sp := fun vs H Q E => ∃ (p q : Addr) (w w' : Nat) (rs rs' : List (List Nat)), vs = [.ref p, .ref q] ∧ Pic H C p rs ∧ Pic H C q rs' ∧ Good w rs ∧ Good w' rs' ∧
  ((w = w' ∧ rs.length = rs'.length ∧ ∀ H', Same H H' → Q (.bl (f rs rs')) H') ∨ (¬ (w = w' ∧ rs.length = rs'.length) ∧ ∀ H', Same H H' → E (.ref U) none H'))
section
variable {P : Program} {w : World} {K : PySem.W.Frag} {mg : Str → Option Value} {base : Heap} {a : Adr}
set_option maxHeartbeats 4000000
theorem ok_lies (T : Txt K mg a) : FnR P w K mg base CX0 1 a.lies_within spLies := by
  refine T.d_lies_within.ok sc_lies_within (fun _ _ _ _ _ _ us hl => match us, hl with | [_, _], _ => rfl) (fun vs H Q E h => by obtain ⟨r, r', rfl, _⟩ := h; rfl) (fun cdv A outer s H vs Q E hr h => ?_)
  obtain ⟨r, r', rfl, hl, h200, k⟩ := h
  refine ⟨_, (pss_one (ps_ret (pe_callB (cr_all rfl) (by rfl) T.n_all (by decide +kernel) (pa_cons (pe_lc (own := [("sign", 2), ("beside", 3)]) (g := gTup K 2 (gCons (gName 2) (gCons (gName 3) gNil))) (by rfl) sc_lies_within.nd (pi_zipS rfl T.n_zip (pa_cons (pv 0) (pa_cons (pv 1) pa_nil))) (blkOk_by (own := [("sign", 2), ("beside", 3)]) (N := ["row", "whole", "sign", "beside"]) (sc := defScope s_lies_within) (by decide +kernel)) (fun _ _ _ _ _ => (pg_tup rfl (pgs_cons (pg_name (i := 2) sc_lies_within.nd rfl (Or.inl rfl)) (pgs_cons (pg_name (i := 3) sc_lies_within.nd rfl (Or.inl rfl)) pgs_nil)))) (fun _ _ _ _ _ => pts_nil) (fun _ _ _ _ _ => (pe_cmpR (show OpR _ _ (rIn K false) from op_in_seq) (pv 2) (pe_tup (pa_cons pe_str (pa_cons (pv 3) pa_nil))) (by rfl)))) pa_nil)))), ?_⟩
  simp only [tSeq, tIfS, tTest, tB, tAnd, tOr, tNot, tAndV, tOrV, tNotV, tIf, tOp, tUn, tChain, rEq, rNe, rI0, rI, rU, tCallR, tCons, tNil, tC, tVar, tRet, tRetN, tTup_k, tLst_k, tCB, tNext, tAsg, gName, gTup, gCons, gNil, tDrop, tPar, tFld, ClX.tCVal, tPropR, rBin, rBinT, rNeOwn, rSetL_k, gSub, tMakeK_k, tMethR, rInO, tDNewK_k, tYes, wipe, tMakeR_k, tSMeth, tSMethK, rMulS, decide_true, tNever, sFld, rIsiT, and_false, rListOf, rTupOf, rLenSeq, rIxL, rIxT, rIxS, rCat_k, rRep_k, rSlL_k, rSlS, rNewStrs_k, rAppend_k, tBM, tBM0, tM0, tM1, tSl, tNoPart, tPart, tLc_k, tFor_k, iList, iTup, iEnumT, iRng1, iRng2, iRng2L, iStr, L2.start, List.map, List.length_cons, List.length_nil, List.cons_append, List.nil_append, List.getElem?_cons_succ, List.getElem?_cons_zero, Option.some.injEq, V.int.injEq, V.bl.injEq, V.str.injEq, V.ref.injEq, exists_eq_left', exists_eq_left, and_assoc, exists_and_left, exists_eq, exists_eq', true_and, and_true, List.set_cons_zero, List.set_cons_succ, List.set, decide_eq_true_eq, Bool.not_eq_true', if_true, if_false, rIx, cx_K, nox_K, List.replicate_succ, List.replicate_zero, Nat.reduceSub, Bool.true_eq_false, Bool.false_eq_true, Nat.reduceAdd, List.cons.injEq, reduceCtorEq, false_and, false_or, or_false, tAug, rSetO, rJoin, tMakeL, rStrO, ClX.tCMeth, rPop, tLc2_k, iEnum, tPar3, iZipS, iZipS3, tListZip, rInDT, tBackS, tBackT, tSlSt, rUn]
  have hm : min r.toArray.size r'.toArray.size = r.length := by rw [List.size_toArray, List.size_toArray, ← hl, Nat.min_self]
  rw [hm]
  refine kLc.map walk_Z ((r.zip r').map fun p => V.bl (p.1 == 48 || p.1 == p.2)) (by rw [List.length_map, List.length_zip, ← hl, Nat.min_self]) (fun _ _ => trivial) (fun D i x H1 H2 hi c hY => ?_) fun D H1 f1 => ?_
  · obtain ⟨Tt, rfl, hT, rfl⟩ := hY
    have f2 := fresh_upd (o := .tup [sgn (S r) i, sgn (S r') i]) hT
    rw [sgn_S hi, sgn_S (show i < r'.length by omega)] at f2 ⊢
    generalize upd H1 Tt (.tup [.str (S [r[i]]), .str (S [r'[i]])]) = H2 at *
    simp only [tSeq, tIfS, tTest, tB, tAnd, tOr, tNot, tAndV, tOrV, tNotV, tIf, tOp, tUn, tChain, rEq, rNe, rI0, rI, rU, tCallR, tCons, tNil, tC, tVar, tRet, tRetN, tTup_k, tLst_k, tCB, tNext, tAsg, gName, gTup, gCons, gNil, tDrop, tPar, tFld, ClX.tCVal, tPropR, rBin, rBinT, rNeOwn, rSetL_k, gSub, tMakeK_k, tMethR, rInO, tDNewK_k, tYes, wipe, tMakeR_k, tSMeth, tSMethK, rMulS, decide_true, tNever, sFld, rIsiT, and_false, rListOf, rTupOf, rLenSeq, rIxL, rIxT, rIxS, rCat_k, rRep_k, rSlL_k, rSlS, rNewStrs_k, rAppend_k, tBM, tBM0, tM0, tM1, tSl, tNoPart, tPart, tLc_k, tFor_k, iList, iTup, iEnumT, iRng1, iRng2, iRng2L, iStr, L2.start, List.map, List.length_cons, List.length_nil, List.cons_append, List.nil_append, List.getElem?_cons_succ, List.getElem?_cons_zero, Option.some.injEq, V.int.injEq, V.bl.injEq, V.str.injEq, V.ref.injEq, exists_eq_left', exists_eq_left, and_assoc, exists_and_left, exists_eq, exists_eq', true_and, and_true, List.set_cons_zero, List.set_cons_succ, List.set, decide_eq_true_eq, Bool.not_eq_true', if_true, if_false, rIx, cx_K, nox_K, List.replicate_succ, List.replicate_zero, Nat.reduceSub, Bool.true_eq_false, Bool.false_eq_true, Nat.reduceAdd, List.cons.injEq, reduceCtorEq, false_and, false_or, or_false, tAug, rSetO, rJoin, tMakeL, rStrO, ClX.tCMeth, rPop, tLc2_k, iEnum, tPar3, iZipS, iZipS3, tListZip, rInDT, tBackS, tBackT, tSlSt, rUn]
    refine ⟨_, .inl (.inl f2.at_), rfl, _, _, rfl, _, _, rfl, rfl, kNew.mk (by show 2 ≤ sizeLine; decide) fun tt H3 f3 => ⟨tt, _, rfl, .inr (.inl (.inl f3.at_)), rfl, rfl, ?_⟩⟩
    have hz : i < (r.zip r').length := by rw [List.length_zip, ← hl, Nat.min_self]; exact hi
    refine kApp.at c (f2.same.trans f3.same) (by rw [List.length_map, List.length_zip, ← hl, Nat.min_self]; exact size200 h200) ?_
    rw [List.getElem?_map, List.getElem?_eq_getElem hz, List.getElem_zip]
    have q1 : eqV (.str (Str.ofString "0")) (.str (S [r[i]])) = (r[i] == 48) := by
      rw [zero_S]
      show (S [48] == S [r[i]]) = _
      exact eqS 48 r[i]
    have q2 : eqV (.str (S [r'[i]])) (.str (S [r[i]])) = (r[i] == r'[i]) := by
      show (S [r'[i]] == S [r[i]]) = _
      exact eqS r'[i] r[i]
    rw [if_neg (by decide)]
    show some (V.bl (r[i] == 48 || r[i] == r'[i])) = some (V.bl (eqV (.str (Str.ofString "0")) (.str (S [r[i]])) || (eqV (.str (S [r'[i]])) (.str (S [r[i]])) || false)))
    rw [q1, q2, Bool.or_false]
  · refine ⟨D, (r.zip r').map fun p => (p.1 == 48 || p.1 == p.2), rfl, SqL.of (by rw [f1.at_, List.map_map]; rfl), ?_⟩
    rw [List.all_map]
    exact k H1 f1.same
theorem ok_ple (T : Txt K mg a) : FnR P w K mg base (CX P w) 5 a.Picture_le (spOrd a.Picture a.Unlike leB) := by
  have G_row_pairs : FnR P w K mg base (CX P w) 3 a.row_pairs (spPairs a.Picture a.Unlike) := ok_row_pairs T
  have G_lies_within : FnR P w K mg base CX0 1 a.lies_within spLies := ok_lies T
  refine T.d_Picture_le.okX sc_Picture_le (fun _ _ _ _ _ _ us hl => match us, hl with | [_, _], _ => rfl) (fun vs H Q E h => by obtain ⟨p, q, w, w', rs, rs', rfl, _⟩ := h; rfl) (fun cdv A outer s H vs Q E hr h => ?_)
  obtain ⟨p, q, wd, wd', rs, rs', rfl, hp, hq, g, g', h⟩ := h
  refine ⟨_, (pss_cons (ps_if (pt_not (pt_val (pe_callB call_isi (by rfl) T.n_isinstance (by decide +kernel) (pa_cons (pv 1) (pa_cons (pe_glob (v := .ref a.Picture) rfl T.m_Picture rfl) pa_nil)))))
          (pss_one ps_never)
          pss_nil)
      (pss_one (ps_ret (pe_callB (cr_all rfl) (by rfl) T.n_all (by decide +kernel) (pa_cons (pe_lc (own := [("row", 2), ("whole", 3)]) (g := gTup K 2 (gCons (gName 2) (gCons (gName 3) gNil))) (by rfl) sc_Picture_le.nd (pi_list (pe_callR G_row_pairs (hr.mono (by decide)) T.m_row_pairs T.k_row_pairs (passUp (takes_of rfl rfl rfl rfl)) (pa_cons (pv 0) (pa_cons (pv 1) pa_nil)))) (blkOk_by (own := [("row", 2), ("whole", 3)]) (N := ["self", "other", "row", "whole"]) (sc := defScope s_Picture_le) (by decide +kernel)) (fun _ _ _ _ _ => (pg_tup rfl (pgs_cons (pg_name (i := 2) sc_Picture_le.nd rfl (Or.inl rfl)) (pgs_cons (pg_name (i := 3) sc_Picture_le.nd rfl (Or.inl rfl)) pgs_nil)))) (fun _ _ _ _ _ => pts_nil) (fun _ _ _ _ _ => (pe_callR G_lies_within (hr.mono (by decide)) T.m_lies_within T.k_lies_within pass0 (pa_cons (pv 2) (pa_cons (pv 3) pa_nil))))) pa_nil))))), ?_⟩
  simp only [tSeq, tIfS, tTest, tB, tAnd, tOr, tNot, tAndV, tOrV, tNotV, tIf, tOp, tUn, tChain, rEq, rNe, rI0, rI, rU, tCallR, tCons, tNil, tC, tVar, tRet, tRetN, tTup_k, tLst_k, tCB, tNext, tAsg, gName, gTup, gCons, gNil, tDrop, tPar, tFld, ClX.tCVal, tPropR, rBin, rBinT, rNeOwn, rSetL_k, gSub, tMakeK_k, tMethR, rInO, tDNewK_k, tYes, wipe, tMakeR_k, tSMeth, tSMethK, rMulS, decide_true, tNever, sFld, rIsiT, and_false, rListOf, rTupOf, rLenSeq, rIxL, rIxT, rIxS, rCat_k, rRep_k, rSlL_k, rSlS, rNewStrs_k, rAppend_k, tBM, tBM0, tM0, tM1, tSl, tNoPart, tPart, tLc_k, tFor_k, iList, iTup, iEnumT, iRng1, iRng2, iRng2L, iStr, L2.start, List.map, List.length_cons, List.length_nil, List.cons_append, List.nil_append, List.getElem?_cons_succ, List.getElem?_cons_zero, Option.some.injEq, V.int.injEq, V.bl.injEq, V.str.injEq, V.ref.injEq, exists_eq_left', exists_eq_left, and_assoc, exists_and_left, exists_eq, exists_eq', true_and, and_true, List.set_cons_zero, List.set_cons_succ, List.set, decide_eq_true_eq, Bool.not_eq_true', if_true, if_false, rIx, cx_K, nox_K, List.replicate_succ, List.replicate_zero, Nat.reduceSub, Bool.true_eq_false, Bool.false_eq_true, Nat.reduceAdd, List.cons.injEq, reduceCtorEq, false_and, false_or, or_false, tAug, rSetO, rJoin, tMakeL, rStrO, ClX.tCMeth, rPop, tLc2_k, iEnum, tPar3, iZipS, iZipS3, tListZip, rInDT, tBackS, tBackT, tSlSt, rUn]
  obtain ⟨dx, tp, hp1, hp2⟩ := id hp
  obtain ⟨dy, tq, hq1, hq2⟩ := id hq
  refine ⟨_, _, _, _, _, rfl, .own _, T.c_Picture.tyOf hq1, kit_self, true, rfl, ?_⟩
  rw [if_neg (by decide)]
  refine ⟨p, q, wd, wd', rs, rs', rfl, hp, hq, g, g', ?_⟩
  rcases h with ⟨e1, e2, k⟩ | ⟨hne, k⟩
  · refine .inl ⟨e1, e2, fun L1 H1 H2 s1 z => ?_⟩
    obtain ⟨Ts, hL, hTl, hT⟩ := z.at_
    rw [rowsV_len] at hTl
    refine ⟨L1, rfl, ⟨_, SqL.of hL⟩, ?_⟩
    refine kLc.map walk_list ((rs.zip rs').map fun p => V.bl (liesB p.1 p.2)) (by rw [List.length_map, List.length_zip, List.length_map, ← e2, Nat.min_self, hTl]) (fun H' s => SqL.of (s _ _ hL)) (fun D j x H3 H4 hj c hY => ?_) fun D H3 f3 => ?_
    · obtain ⟨rfl, hx⟩ := hY
      rw [List.length_map] at hj
      obtain ⟨Tj, hTj⟩ : ∃ Tj, Ts[j]? = some Tj := ⟨_, List.getElem?_eq_getElem hj⟩
      rw [List.getElem?_map, hTj] at hx
      cases hx
      obtain ⟨vx, vy, ex, ey, hpair⟩ := hT j Tj hTj
      obtain ⟨r, hr1, rfl⟩ := rowsV_get ex
      obtain ⟨r', hr2, rfl⟩ := rowsV_get ey
      obtain ⟨l1, d1⟩ := g.at_ hr1
      obtain ⟨l2, d2⟩ := g'.at_ hr2
      simp only [tSeq, tIfS, tTest, tB, tAnd, tOr, tNot, tAndV, tOrV, tNotV, tIf, tOp, tUn, tChain, rEq, rNe, rI0, rI, rU, tCallR, tCons, tNil, tC, tVar, tRet, tRetN, tTup_k, tLst_k, tCB, tNext, tAsg, gName, gTup, gCons, gNil, tDrop, tPar, tFld, ClX.tCVal, tPropR, rBin, rBinT, rNeOwn, rSetL_k, gSub, tMakeK_k, tMethR, rInO, tDNewK_k, tYes, wipe, tMakeR_k, tSMeth, tSMethK, rMulS, decide_true, tNever, sFld, rIsiT, and_false, rListOf, rTupOf, rLenSeq, rIxL, rIxT, rIxS, rCat_k, rRep_k, rSlL_k, rSlS, rNewStrs_k, rAppend_k, tBM, tBM0, tM0, tM1, tSl, tNoPart, tPart, tLc_k, tFor_k, iList, iTup, iEnumT, iRng1, iRng2, iRng2L, iStr, L2.start, List.map, List.length_cons, List.length_nil, List.cons_append, List.nil_append, List.getElem?_cons_succ, List.getElem?_cons_zero, Option.some.injEq, V.int.injEq, V.bl.injEq, V.str.injEq, V.ref.injEq, exists_eq_left', exists_eq_left, and_assoc, exists_and_left, exists_eq, exists_eq', true_and, and_true, List.set_cons_zero, List.set_cons_succ, List.set, decide_eq_true_eq, Bool.not_eq_true', if_true, if_false, rIx, cx_K, nox_K, List.replicate_succ, List.replicate_zero, Nat.reduceSub, Bool.true_eq_false, Bool.false_eq_true, Nat.reduceAdd, List.cons.injEq, reduceCtorEq, false_and, false_or, or_false, tAug, rSetO, rJoin, tMakeL, rStrO, ClX.tCMeth, rPop, tLc2_k, iEnum, tPar3, iZipS, iZipS3, tListZip, rInDT, tBackS, tBackT, tSlSt, rUn]
      refine ⟨_, .inl (.inl (c.same _ _ hpair)), rfl, _, _, rfl, _, _, rfl, rfl, r, r', rfl, by omega, by have := g.w1; omega, fun H5 s5 => ?_⟩
      refine kApp.at c s5 (by rw [List.length_map, List.length_zip, ← e2, Nat.min_self]; exact size200 g.l1) ?_
      rw [List.getElem?_map, (List.getElem?_zip_eq_some (z := (r, r'))).mpr ⟨hr1, hr2⟩]
      rfl
    · refine ⟨D, (rs.zip rs').map fun p => liesB p.1 p.2, rfl, SqL.of (by rw [f3.at_, List.map_map]; rfl), ?_⟩
      rw [List.all_map]
      exact k H3 ((s1.trans z.same).trans f3.same)
  · exact .inr ⟨hne, k⟩
theorem ok_plt (T : Txt K mg a) : FnR P w K mg base (CX P w) 7 a.Picture_lt (spOrd a.Picture a.Unlike fun rs rs' => leB rs rs' && !decide (rs = rs')) := by
  have G_le : FnR P w K mg base (CX P w) 5 a.Picture_le (spOrd a.Picture a.Unlike leB) := ok_ple T
  have G_eq : FnR P w K mg base CX0 3 a.Picture_eq (spPEq K a.Picture) := ok_peq T
  refine T.d_Picture_lt.okX sc_Picture_lt (fun _ _ _ _ _ _ us hl => match us, hl with | [_, _], _ => rfl) (fun vs H Q E h => by obtain ⟨p, q, w, w', rs, rs', rfl, _⟩ := h; rfl) (fun cdv A outer s H vs Q E hr h => ?_)
  obtain ⟨p, q, wd, wd', rs, rs', rfl, hp, hq, g, g', h⟩ := h
  refine ⟨_, (pss_cons (ps_if (pt_not (pt_val (pe_callB call_isi (by rfl) T.n_isinstance (by decide +kernel) (pa_cons (pv 1) (pa_cons (pe_glob (v := .ref a.Picture) rfl T.m_Picture rfl) pa_nil)))))
          (pss_one ps_never)
          pss_nil)
      (pss_one (ps_ret (pe_and (pe_cmpR (op_cmp (op := .LtE) (fun _ _ => rfl) T.o_Picture_le T.f_Picture_le T.s_Picture_not G_le (hr.mono (by decide)) (passUp (takes_of rfl rfl rfl rfl)) ) (pv 0) (pv 1) (nomark _)) (pe_one (pe_not (pe_cmpR (op_cmp (op := .Eq) (fun _ _ => rfl) T.o_Picture_eq T.f_Picture_eq T.s_Picture_not G_eq (hr.mono (by decide)) pass0) (pv 0) (pv 1) (nomark _)))))))), ?_⟩
  simp only [tSeq, tIfS, tTest, tB, tAnd, tOr, tNot, tAndV, tOrV, tNotV, tIf, tOp, tUn, tChain, rEq, rNe, rI0, rI, rU, tCallR, tCons, tNil, tC, tVar, tRet, tRetN, tTup_k, tLst_k, tCB, tNext, tAsg, gName, gTup, gCons, gNil, tDrop, tPar, tFld, ClX.tCVal, tPropR, rBin, rBinT, rNeOwn, rSetL_k, gSub, tMakeK_k, tMethR, rInO, tDNewK_k, tYes, wipe, tMakeR_k, tSMeth, tSMethK, rMulS, decide_true, tNever, sFld, rIsiT, and_false, rListOf, rTupOf, rLenSeq, rIxL, rIxT, rIxS, rCat_k, rRep_k, rSlL_k, rSlS, rNewStrs_k, rAppend_k, tBM, tBM0, tM0, tM1, tSl, tNoPart, tPart, tLc_k, tFor_k, iList, iTup, iEnumT, iRng1, iRng2, iRng2L, iStr, L2.start, List.map, List.length_cons, List.length_nil, List.cons_append, List.nil_append, List.getElem?_cons_succ, List.getElem?_cons_zero, Option.some.injEq, V.int.injEq, V.bl.injEq, V.str.injEq, V.ref.injEq, exists_eq_left', exists_eq_left, and_assoc, exists_and_left, exists_eq, exists_eq', true_and, and_true, List.set_cons_zero, List.set_cons_succ, List.set, decide_eq_true_eq, Bool.not_eq_true', if_true, if_false, rIx, cx_K, nox_K, List.replicate_succ, List.replicate_zero, Nat.reduceSub, Bool.true_eq_false, Bool.false_eq_true, Nat.reduceAdd, List.cons.injEq, reduceCtorEq, false_and, false_or, or_false, tAug, rSetO, rJoin, tMakeL, rStrO, ClX.tCMeth, rPop, tLc2_k, iEnum, tPar3, iZipS, iZipS3, tListZip, rInDT, tBackS, tBackT, tSlSt, rUn]
  obtain ⟨dx, tp, hp1, hp2⟩ := id hp
  obtain ⟨dy, tq, hq1, hq2⟩ := id hq
  refine ⟨_, _, _, _, _, rfl, .own _, T.c_Picture.tyOf hq1, kit_self, true, rfl, ?_⟩
  rw [if_neg (by decide)]
  refine ⟨hp.ins, hq.ins, p, q, wd, wd', rs, rs', rfl, hp, hq, g, g', ?_⟩
  rcases h with ⟨e1, e2, k⟩ | ⟨hne, k⟩
  · refine .inl ⟨e1, e2, fun H1 s1 => ⟨_, rfl, ?_⟩⟩
    have k1 := k H1 s1
    cases hb : leB rs rs' with
    | false =>
      rw [if_neg (by decide)]
      simp only [hb, Bool.false_and] at k1
      exact k1
    | true =>
      rw [if_pos rfl]
      simp only [hb, Bool.true_and] at k1
      exact ⟨(hp.same s1).ins, (hq.same s1).ins, p, rs, wd, _, rfl, hp.same s1, g, .inl ⟨q, rs', wd', rfl, hq.same s1, g', _, rfl, k1⟩⟩
  · exact .inr ⟨hne, k⟩
end
end Pf
end
section
namespace Pf
open PySem PySem.Spec PyProof.Rows L2 Ow StX
open SX (S)
/-! ### the region of a grid, marked -/
theorem cut_mid {a : List Nat} {i j : Nat} (h : i ≤ j) (hj : j ≤ a.length) : cutS (S a) (some (i : Int)) (some (j : Int)) = S ((a.drop i).take (j - i)) := by
  unfold cutS
  rw [HT.sIx_nat, HT.sIx_nat, SX.S_len, Nat.min_eq_left (show i ≤ a.length by omega), Nat.min_eq_left hj]
/-- the seeds in a list -/
structure Seeds (H : Hp) (sl : Addr) (ts : List (Addr × Rg.Cel)) : Prop where
  at_ : H sl = some (.lst (ts.map fun t => V.ref t.1))
  all : ∀ t ∈ ts, H t.1 = some (.tup [.int (t.2.1 : Nat), .int (t.2.2 : Nat)])
theorem Seeds.but {H H' : Hp} {sl : Addr} {ts : List (Addr × Rg.Cel)} (s : Seeds H sl ts) (k : SameBut sl H H') (e : H' sl = H sl) : Seeds H' sl ts :=
  ⟨e.trans s.at_, fun t ht => k _ _ (fun z => by have := s.all t ht; rw [z, s.at_] at this; cases this) (s.all t ht)⟩
def spSeeds : Sp := fun vs H Q _ => ∃ (sl : Addr) (row : List Nat) (y b e c : Nat) (ts : List (Addr × Rg.Cel)), vs = [.ref sl, .str (S row), .int (y : Nat), .int (b : Nat), .int (e : Nat), .str (S [c])] ∧ Seeds H sl ts ∧ b ≤ e ∧ e ≤ row.length ∧ row.length ≤ 200 ∧ ts.length ≤ 200000 ∧
  ∀ (us : List (Addr × Rg.Cel)) (H' : Hp), SameBut sl H H' → Seeds H' sl (ts ++ us) → us.length ≤ e - b → (∀ t ∈ us, t.2.2 = y ∧ b ≤ t.2.1 ∧ t.2.1 < e ∧ row[t.2.1]? = some c) →
    (∀ i, b ≤ i → i < e → row[i]? = some c → ∃ t ∈ us, t.2.1 ≤ i ∧ ∀ j, t.2.1 ≤ j → j ≤ i → row[j]? = some c) → Q .non H'
section
variable {P : Program} {w : World} {K : PySem.W.Frag} {mg : Str → Option Value} {base : Heap} {a : Adr}
set_option maxHeartbeats 4000000
theorem ok_add_seeds (T : Txt K mg a) : FnR P w K mg base CX0 1 a.add_seeds spSeeds := by
  refine T.d_add_seeds.ok sc_add_seeds (fun _ _ _ _ _ _ us hl => match us, hl with | [_, _, _, _, _, _], _ => rfl) (fun vs H Q E h => by obtain ⟨sl, row, y, b, e, c, ts, rfl, _⟩ := h; rfl) (fun cdv A outer s H vs Q E hr h => ?_)
  obtain ⟨sl, row, y, b, e, c, ts, rfl, hs, hbe, hel, hrl, htl, k⟩ := h
  refine ⟨_, (pss_cons (ps_set (i := 6) sc_add_seeds.nd rfl (Or.inl rfl) (pe_bm PySem.F.plainAttrs_str PySem.F.slot_str_find PySem.F.type_str_find mt_find4 (pv 1) (pa_cons (pv 5) (pa_cons (pv 3) (pa_cons (pv 4) pa_nil)))))
      (pss_one (ps_while PassesOwn.never (pt_cmpR op_ge (pv 6) pe_int (nomark _))
          (pss_cons (ps_expr (pe_bm PySem.F.plainAttrs_list PySem.F.slot_list_append PySem.F.type_list_append mt_append (pv 0) (pa_cons (pe_tup (pa_cons (pv 6) (pa_cons (pv 2) pa_nil))) pa_nil)))
          (pss_cons (ps_set (i := 7) sc_add_seeds.nd rfl (Or.inl rfl) (pe_bm PySem.F.plainAttrs_str PySem.F.slot_str_lstrip PySem.F.type_str_lstrip mt_lstripChars (pe_slice sl_str (pv 1) (po_some (pv 6)) (po_some (pv 4))) (pa_cons (pv 5) pa_nil)))
          (pss_one (ps_set (i := 6) sc_add_seeds.nd rfl (Or.inl rfl) (pe_bm PySem.F.plainAttrs_str PySem.F.slot_str_find PySem.F.type_str_find mt_find4 (pv 1) (pa_cons (pv 5) (pa_cons (pe_op op_sub (pv 4) (pe_callB call_len_str (by rfl) T.n_len (by decide +kernel) (pa_cons (pv 7) pa_nil))) (pa_cons (pv 4) pa_nil))))))))))), ?_⟩
  simp only [tSeq, tIfS, tTest, tB, tAnd, tOr, tNot, tAndV, tOrV, tNotV, tIf, tOp, tUn, tChain, rEq, rNe, rI0, rI, rU, tCallR, tCons, tNil, tC, tVar, tRet, tRetN, tTup_k, tLst_k, tCB, tNext, tAsg, gName, gTup, gCons, gNil, tDrop, tPar, tFld, ClX.tCVal, tPropR, rBin, rBinT, rNeOwn, rSetL_k, gSub, tMakeK_k, tMethR, rInO, tDNewK_k, tYes, wipe, tMakeR_k, tSMeth, tSMethK, rMulS, decide_true, tNever, sFld, rIsiT, and_false, rListOf, rTupOf, rLenSeq, rIxL, rIxT, rIxS, rCat_k, rRep_k, rSlL_k, rSlS, rNewStrs_k, rAppend_k, tBM, tBM0, tM0, tM1, tSl, tNoPart, tPart, tLc_k, tFor_k, iList, iTup, iEnumT, iRng1, iRng2, iRng2L, iStr, L2.start, List.map, List.length_cons, List.length_nil, List.cons_append, List.nil_append, List.getElem?_cons_succ, List.getElem?_cons_zero, Option.some.injEq, V.int.injEq, V.bl.injEq, V.str.injEq, V.ref.injEq, exists_eq_left', exists_eq_left, and_assoc, exists_and_left, exists_eq, exists_eq', true_and, and_true, List.set_cons_zero, List.set_cons_succ, List.set, decide_eq_true_eq, Bool.not_eq_true', if_true, if_false, rIx, cx_K, nox_K, List.replicate_succ, List.replicate_zero, Nat.reduceSub, Bool.true_eq_false, Bool.false_eq_true, Nat.reduceAdd, List.cons.injEq, reduceCtorEq, false_and, false_or, or_false, tAug, rSetO, rJoin, tMakeL, rStrO, ClX.tCMeth, rPop, tLc2_k, iEnum, tPar3, iZipS, iZipS3, tListZip, rInDT, tBackS, tBackT, tSlSt, rUn]
  refine ⟨rfl, fun m σ H' => ∃ (us : List (Addr × Rg.Cel)) (p : Nat) (v7 : Option V), m = e - p ∧ σ = [some (.ref sl), some (.str (S row)), some (.int (y : Nat)), some (.int (b : Nat)), some (.int (e : Nat)), some (.str (S [c])), some (.int (Txt.findIn (S row) (S [c]) (p : Nat) (e : Nat))), v7] ∧ b ≤ p ∧ p ≤ e ∧
    SameBut sl H H' ∧ Seeds H' sl (ts ++ us) ∧ us.length ≤ p - b ∧ (∀ t ∈ us, t.2.2 = y ∧ b ≤ t.2.1 ∧ t.2.1 < e ∧ row[t.2.1]? = some c) ∧ (∀ i, b ≤ i → i < p → row[i]? = some c → ∃ t ∈ us, t.2.1 ≤ i ∧ ∀ j, t.2.1 ≤ j → j ≤ i → row[j]? = some c),
    ⟨_, [], b, none, rfl, rfl, Nat.le_refl _, hbe, fun _ _ _ h => h, by rw [List.append_nil]; exact hs, Nat.zero_le _, (fun t ht => by cases ht), fun i h1 h2 => absurd h1 (by omega)⟩, fun m σ H' hw => ?_⟩
  obtain ⟨us, p, v7, rfl, rfl, hbp, hpe, sb, sd, ul, uall, ucov⟩ := hw
  simp only [tSeq, tIfS, tTest, tB, tAnd, tOr, tNot, tAndV, tOrV, tNotV, tIf, tOp, tUn, tChain, rEq, rNe, rI0, rI, rU, tCallR, tCons, tNil, tC, tVar, tRet, tRetN, tTup_k, tLst_k, tCB, tNext, tAsg, gName, gTup, gCons, gNil, tDrop, tPar, tFld, ClX.tCVal, tPropR, rBin, rBinT, rNeOwn, rSetL_k, gSub, tMakeK_k, tMethR, rInO, tDNewK_k, tYes, wipe, tMakeR_k, tSMeth, tSMethK, rMulS, decide_true, tNever, sFld, rIsiT, and_false, rListOf, rTupOf, rLenSeq, rIxL, rIxT, rIxS, rCat_k, rRep_k, rSlL_k, rSlS, rNewStrs_k, rAppend_k, tBM, tBM0, tM0, tM1, tSl, tNoPart, tPart, tLc_k, tFor_k, iList, iTup, iEnumT, iRng1, iRng2, iRng2L, iStr, L2.start, List.map, List.length_cons, List.length_nil, List.cons_append, List.nil_append, List.getElem?_cons_succ, List.getElem?_cons_zero, Option.some.injEq, V.int.injEq, V.bl.injEq, V.str.injEq, V.ref.injEq, exists_eq_left', exists_eq_left, and_assoc, exists_and_left, exists_eq, exists_eq', true_and, and_true, List.set_cons_zero, List.set_cons_succ, List.set, decide_eq_true_eq, Bool.not_eq_true', if_true, if_false, rIx, cx_K, nox_K, List.replicate_succ, List.replicate_zero, Nat.reduceSub, Bool.true_eq_false, Bool.false_eq_true, Nat.reduceAdd, List.cons.injEq, reduceCtorEq, false_and, false_or, or_false, tAug, rSetO, rJoin, tMakeL, rStrO, ClX.tCMeth, rPop, tLc2_k, iEnum, tPar3, iZipS, iZipS3, tListZip, rInDT, tBackS, tBackT, tSlSt, rUn]
  rcases Rg.find_in row c p e hel with ⟨ef, hno⟩ | ⟨i, ef, hpi, hie, hic, hfirst⟩
  · rw [ef, if_neg (by decide)]
    refine k us H' sb sd (by omega) uall fun i h1 h2 h3 => ?_
    by_cases hip : i < p
    · exact ucov i h1 hip h3
    · exact absurd h3 (hno i (by omega) h2)
  · rw [ef, if_pos (by omega)]
    refine ⟨_, fun _ _ h => h, ?_⟩
    simp only [tSeq, tIfS, tTest, tB, tAnd, tOr, tNot, tAndV, tOrV, tNotV, tIf, tOp, tUn, tChain, rEq, rNe, rI0, rI, rU, tCallR, tCons, tNil, tC, tVar, tRet, tRetN, tTup_k, tLst_k, tCB, tNext, tAsg, gName, gTup, gCons, gNil, tDrop, tPar, tFld, ClX.tCVal, tPropR, rBin, rBinT, rNeOwn, rSetL_k, gSub, tMakeK_k, tMethR, rInO, tDNewK_k, tYes, wipe, tMakeR_k, tSMeth, tSMethK, rMulS, decide_true, tNever, sFld, rIsiT, and_false, rListOf, rTupOf, rLenSeq, rIxL, rIxT, rIxS, rCat_k, rRep_k, rSlL_k, rSlS, rNewStrs_k, rAppend_k, tBM, tBM0, tM0, tM1, tSl, tNoPart, tPart, tLc_k, tFor_k, iList, iTup, iEnumT, iRng1, iRng2, iRng2L, iStr, L2.start, List.map, List.length_cons, List.length_nil, List.cons_append, List.nil_append, List.getElem?_cons_succ, List.getElem?_cons_zero, Option.some.injEq, V.int.injEq, V.bl.injEq, V.str.injEq, V.ref.injEq, exists_eq_left', exists_eq_left, and_assoc, exists_and_left, exists_eq, exists_eq', true_and, and_true, List.set_cons_zero, List.set_cons_succ, List.set, decide_eq_true_eq, Bool.not_eq_true', if_true, if_false, rIx, cx_K, nox_K, List.replicate_succ, List.replicate_zero, Nat.reduceSub, Bool.true_eq_false, Bool.false_eq_true, Nat.reduceAdd, List.cons.injEq, reduceCtorEq, false_and, false_or, or_false, tAug, rSetO, rJoin, tMakeL, rStrO, ClX.tCMeth, rPop, tLc2_k, iEnum, tPar3, iZipS, iZipS3, tListZip, rInDT, tBackS, tBackT, tSlSt, rUn]
    have usl : us.length ≤ 200 := by omega
    refine ⟨.inl ⟨rfl, _, SqL.of sd.at_⟩, kNew.mk (by show 2 ≤ sizeLine; decide) fun tt H1 f1 => ⟨_, f1.get sd.at_, ?_, kPut.mk fun H2 p2 => ?_⟩⟩
    · rw [List.length_map, List.length_append]
      exact Nat.lt_of_le_of_lt (show _ ≤ 200200 by omega) (by decide)
    have tn : tt ≠ sl := Ne.symm (f1.ne sd.at_)
    have sl' : (row.drop i).length = row.length - i := List.length_drop
    have ld := Rg.lead_le c ((row.drop i).take (e - i))
    have lt : ((row.drop i).take (e - i)).length = e - i := by rw [List.length_take, List.length_drop]; omega
    rw [lt] at ld
    have l0 : 0 < Rg.lead c ((row.drop i).take (e - i)) := by
      refine Nat.pos_of_ne_zero fun z => Rg.lead_end c ((row.drop i).take (e - i)) ?_
      rw [z, List.getElem?_take, if_pos (by omega), List.getElem?_drop]
      exact hic
    have run : ∀ j, i ≤ j → j < i + Rg.lead c ((row.drop i).take (e - i)) → row[j]? = some c := fun j h1 h2 => by
      have z := Rg.lead_at c ((row.drop i).take (e - i)) (j - i) (by omega)
      rw [List.getElem?_take, if_pos (by omega), List.getElem?_drop, show i + (j - i) = j from by omega] at z
      exact z
    have sz : ∀ m : Nat, m ≤ 20000 → m ≤ sizeLine := fun m h => Nat.le_trans h (by decide +kernel)
    rw [cut_mid (by omega) hel, Rg.lstrip_S, SX.S_len, SX.S_len, SX.S_len, List.length_drop, lt]
    refine ⟨sz _ (by omega), rfl, sz _ (by omega), rfl, sz _ (by omega), e - (i + Rg.lead c ((row.drop i).take (e - i))), by omega, us ++ [(tt, (i, y))], i + Rg.lead c ((row.drop i).take (e - i)), rfl, ?_, by omega, by omega, ?_, ?_, ?_, ?_, ?_⟩
    · rw [show (e : Int) - ((e - i - Rg.lead c ((row.drop i).take (e - i)) : Nat) : Int) = ((i + Rg.lead c ((row.drop i).take (e - i)) : Nat) : Int) from by omega]
    · exact fun d o n h => p2.get n (f1.get (sb d o n h))
    · refine ⟨?_, fun t ht => ?_⟩
      · rw [p2.at_, ← List.append_assoc, List.map_append (l₁ := ts ++ us)]
        rfl
      · rw [← List.append_assoc] at ht
        rcases List.mem_append.mp ht with ht | ht
        · have z := sd.all t ht
          exact p2.get (fun z2 => by rw [z2, sd.at_] at z; cases z) (f1.get z)
        · rw [List.mem_singleton.mp ht]
          exact p2.get tn f1.at_
    · rw [List.length_append, List.length_singleton]
      omega
    · intro t ht
      rcases List.mem_append.mp ht with ht | ht
      · exact uall t ht
      · rw [List.mem_singleton.mp ht]
        exact ⟨rfl, by show b ≤ i; omega, hie, hic⟩
    · intro j h1 h2 h3
      by_cases hj : j < p
      · obtain ⟨t, ht, t1, t2⟩ := ucov j h1 hj h3
        exact ⟨t, List.mem_append_left _ ht, t1, t2⟩
      · by_cases hji : j < i
        · exact absurd h3 (hfirst j (by omega) hji)
        · exact ⟨(tt, (i, y)), by simp, by show i ≤ j; omega, fun d g1 g2 => run d g1 (by omega)⟩
end
/-! ### marked_region -/
theorem seq_or {K : PySem.W.Frag} {H : Hp} {l : Addr} {xs : List V} {A : List V → Prop} {C : Prop} (h : SqL K H l xs ∨ SqT K H l xs) (k : A xs) : (∃ x, SqL K H l x ∧ A x) ∨ (∃ x, SqT K H l x ∧ A x) ∨ C := h.elim (fun z => .inl ⟨_, z, k⟩) fun z => .inr (.inl ⟨_, z, k⟩)
theorem left_le (c : Nat) : ∀ g : List (List Nat), (∀ r ∈ g, r.length ≤ 200) → Rg.left g c ≤ 200 * g.length
  | [], _ => Nat.zero_le _
  | r :: g, h => by
    have h1 := left_le c g fun q hq => h q (List.mem_cons_of_mem _ hq)
    have h2 := h r List.mem_cons_self
    have h3 := List.count_le_length (a := c) (l := r)
    show r.count c + Rg.left g c ≤ 200 * (g.length + 1)
    omega
theorem cell_row {g : List (List Nat)} {p : Rg.Cel} {c : Nat} (h : Rg.cell g p = some c) : ∃ r, g[p.2]? = some r ∧ r[p.1]? = some c := by
  unfold Rg.cell at h
  cases e : g[p.2]? with
  | none => rw [e] at h; cases h
  | some r => rw [e] at h; exact ⟨r, rfl, h⟩
theorem digL_mark {w : Nat} {g : List (List Nat)} (hg : Good w g) (p : Rg.Cel) : Rg.cell g p ≠ some 120 := fun h => by
  obtain ⟨r, h1, h2⟩ := cell_row h
  have := (hg.row r (List.mem_of_getElem? h1)).2 120 (List.mem_of_getElem? h2)
  omega
/-- the cells of a grid of rows as they stand in the heap -/
def Shape (g new : List (List Nat)) : Prop := new.length = g.length ∧ ∀ (j : Nat) (r r' : List Nat), g[j]? = some r → new[j]? = some r' → r'.length = r.length
/-- a turn's end: less is left -/
def MidEnd (g : List (List Nat)) (d : Nat) (s : Rg.Cel) (n sl : Addr) (L : Nat) (H H6 : Hp) : Prop := ∃ m', m' < L ∧ ∃ (nw : List (List Nat)) (s2 : List (Addr × Rg.Cel)), m' = 3 * Rg.left nw d + s2.length ∧ Same H H6 ∧ H6 n = some (.lst (rowsV nw)) ∧ Seeds H6 sl s2 ∧ Shape g nw ∧ Rg.Mid g nw d 120 s (s2.map Prod.snd) ∧ 3 * Rg.left nw d + s2.length ≤ 3 * Rg.left g d + 1
/-- new seeds in the rows beside: their places, and that each run within has its first -/
def SdOk (new : List (List Nat)) (d b e : Nat) (py : Nat) (us : List (Addr × Rg.Cel)) (up : Bool) : Prop := (∀ t ∈ us, (t.2.2 + 1 = py ∨ (up = false ∧ py + 1 = t.2.2)) ∧ b ≤ t.2.1 ∧ t.2.1 < e ∧ Rg.cell new t.2 = some d) ∧
  ∀ q : Rg.Cel, (q.2 + 1 = py ∨ (up = false ∧ py + 1 = q.2)) → b ≤ q.1 → q.1 < e → Rg.cell new q = some d → ∃ t ∈ us, t.2.2 = q.2 ∧ t.2.1 ≤ q.1 ∧ ∀ i, t.2.1 ≤ i → i ≤ q.1 → Rg.cell new (i, q.2) = some d
theorem mark_end {g new : List (List Nat)} {d b e : Nat} {s e0 : Rg.Cel} {n sl : Addr} {sd us : List (Addr × Rg.Cel)} {row : List Nat} {H H4 H5 H6 : Hp} (hcm : d ≠ 120) (mid : Rg.Mid g new d 120 s (sd.map Prod.snd ++ [e0])) (hrow : new[e0.2]? = some row) (R : Rg.Run row d e0.1 b e)
    (shp : Shape g new) (pot : 3 * Rg.left new d + (sd.length + 1) ≤ 3 * Rg.left g d + 1) (nsl : n ≠ sl) (nH : H n = none) (slH : H sl = none) (s4 : Same H H4) (p5 : Put H4 H5 n (.lst (rowsV (new.set e0.2 (Rg.mkr row 120 b e))))) (s6 : SameBut sl H5 H6)
    (hsd : Seeds H6 sl (sd ++ us)) (hu : us.length ≤ 2 * (e - b)) (ok : SdOk new d b e e0.2 us false) : MidEnd g d s n sl (3 * Rg.left new d + (sd.length + 1)) H H6 := by
  have l1 := Rg.left_set d new e0.2 row (Rg.mkr row 120 b e) hrow
  have l2 := Rg.mkr_count hcm R
  have bx := R.bx
  have xe := R.xe
  have el := R.el
  refine ⟨_, ?_, new.set e0.2 (Rg.mkr row 120 b e), sd ++ us, rfl, fun x o h => ?_, s6 _ _ nsl p5.at_, hsd, ⟨by rw [List.length_set]; exact shp.1, fun j r r' h1 h2 => ?_⟩, ?_, ?_⟩
  · rw [List.length_append]
    omega
  · exact s6 _ _ (fun z => by rw [z, slH] at h; cases h) (p5.get (fun z => by rw [z, nH] at h; cases h) (s4 _ _ h))
  · by_cases hj : j = e0.2
    · subst hj
      rw [List.getElem?_set_self (List.getElem?_eq_some_iff.mp hrow).1] at h2
      cases h2
      rw [Rg.mkr_len (by omega) el]
      exact shp.2 _ r row h1 hrow
    · rw [List.getElem?_set_ne (fun z => hj z.symm)] at h2
      exact shp.2 j r r' h1 h2
  · rw [List.map_append]
    refine Rg.Mid.mark hcm mid hrow R (fun q hq => List.mem_append_left _ hq) (fun q hq => ?_) fun q h1 h2 h3 h4 => ?_
    · rcases List.mem_append.mp hq with h | h
      · exact .inl h
      · obtain ⟨t, ht, rfl⟩ := List.mem_map.mp h
        obtain ⟨a1, a2⟩ := ok.1 t ht
        exact .inr ⟨a1.imp id And.right, a2⟩
    · obtain ⟨t, ht, t1, t2, t3⟩ := ok.2 q (h1.imp id fun z => ⟨rfl, z⟩) h2 h3 h4
      exact ⟨t.2, List.mem_append_right _ (List.mem_map_of_mem ht), t1, t2, t3⟩
  · rw [List.length_append]
    omega
def spMarked (K : PySem.W.Frag) : Sp := fun vs H Q _ => ∃ (l : Addr) (w : Nat) (g : List (List Nat)) (x y : Nat), vs = [.ref l, .int (x : Nat), .int (y : Nat)] ∧ (SqL K H l (rowsV g) ∨ SqT K H l (rowsV g)) ∧ Good w g ∧ x < w ∧ y < g.length ∧
  ∀ (n : Addr) (new : List (List Nat)) (c : Nat) (H' : Hp), Same H H' → H' n = some (.lst (rowsV new)) → H n = none → Rg.cell g (x, y) = some c → Shape g new →
    (∀ p, (Rg.Conn g c (x, y) p → Rg.cell new p = some 120) ∧ (¬ Rg.Conn g c (x, y) p → Rg.cell new p = Rg.cell g p)) → Q (.ref n) H'
section
variable {P : Program} {w : World} {K : PySem.W.Frag} {mg : Str → Option Value} {base : Heap} {a : Adr}
set_option maxHeartbeats 4000000
theorem ok_marked (T : Txt K mg a) : FnR P w K mg base CX0 2 a.marked_region (spMarked K) := by
  have G_add_seeds : FnR P w K mg base CX0 1 a.add_seeds spSeeds := ok_add_seeds T
  refine T.d_marked_region.ok sc_marked_region (fun _ _ _ _ _ _ us hl => match us, hl with | [_, _, _], _ => rfl) (fun vs H Q E h => by obtain ⟨l, wd, g, x, y, rfl, _⟩ := h; rfl) (fun cdv A outer s H vs Q E hr h => ?_)
  obtain ⟨l, wd, g, x, y, rfl, hl, hg, hx, hy, k⟩ := h
  refine ⟨_, (pss_cons (ps_set (i := 3) sc_marked_region.nd rfl (Or.inl rfl) (pe_item_str (pe_ix ix_seq (pv 0) (pv 2) (fun _ _ => rfl)) (pv 1) (fun _ _ => rfl)))
      (pss_cons (ps_set (i := 4) sc_marked_region.nd rfl (Or.inl rfl) (pe_callTy call_listK (by rfl) T.n_list (by decide +kernel) (pa_cons (pv 0) pa_nil)))
      (pss_cons (ps_set (i := 5) sc_marked_region.nd rfl (Or.inl rfl) (pe_lst (pa_cons (pe_tup (pa_cons (pv 1) (pa_cons (pv 2) pa_nil))) pa_nil)))
      (pss_cons (ps_while PassesOwn.never (pt_truth (pv 5) (by intro _; rfl))
          (pss_cons (ps_asg (pe_bm0 PySem.F.plainAttrs_list PySem.F.slot_list_pop PySem.F.type_list_pop mt_pop (pv 5)) (pg_tup rfl (pgs_cons (pg_name (i := 1) sc_marked_region.nd rfl (Or.inl rfl)) (pgs_cons (pg_name (i := 2) sc_marked_region.nd rfl (Or.inl rfl)) pgs_nil))))
          (pss_cons (ps_set (i := 6) sc_marked_region.nd rfl (Or.inl rfl) (pe_ix ix_list (pv 4) (pv 2) (fun _ _ => rfl)))
          (pss_one (ps_if (pt_cmpR op_eq (pe_item_str (pv 6) (pv 1) (fun _ _ => rfl)) (pv 3) (nomark _))
              (pss_cons (ps_set (i := 7) sc_marked_region.nd rfl (Or.inl rfl) (pe_callB call_len_str (by rfl) T.n_len (by decide +kernel) (pa_cons (pe_bm PySem.F.plainAttrs_str PySem.F.slot_str_rstrip PySem.F.type_str_rstrip mt_rstripChars (pe_slice sl_str (pv 6) po_none (po_some (pv 1))) (pa_cons (pv 3) pa_nil)) pa_nil)))
              (pss_cons (ps_set (i := 8) sc_marked_region.nd rfl (Or.inl rfl) (pe_bm PySem.F.plainAttrs_str PySem.F.slot_str_lstrip PySem.F.type_str_lstrip mt_lstripChars (pe_slice sl_str (pv 6) (po_some (pv 1)) po_none) (pa_cons (pv 3) pa_nil)))
              (pss_cons (ps_set (i := 9) sc_marked_region.nd rfl (Or.inl rfl) (pe_op op_sub (pe_callB call_len_str (by rfl) T.n_len (by decide +kernel) (pa_cons (pv 6) pa_nil)) (pe_callB call_len_str (by rfl) T.n_len (by decide +kernel) (pa_cons (pv 8) pa_nil))))
              (pss_cons (ps_asg (pe_op op_add_str (pe_op op_add_str (pe_slice sl_str (pv 6) po_none (po_some (pv 7))) (pe_op op_mulS (pe_glob (v := .str (Str.ofString "x")) rfl T.m_MARK ⟨_, rfl⟩) (pe_op op_sub (pv 9) (pv 7)))) (pv 8)) (pg_sub (pv 4) (pv 2) set_list))
              (pss_cons (ps_if (pt_cmpR op_gt (pv 2) pe_int (nomark _))
                  (pss_one (ps_expr (pe_callR G_add_seeds (hr.mono (by decide)) T.m_add_seeds T.k_add_seeds pass0 (pa_cons (pv 5) (pa_cons (pe_ix ix_list (pv 4) (pe_op op_sub (pv 2) pe_int) (fun _ _ => rfl)) (pa_cons (pe_op op_sub (pv 2) pe_int) (pa_cons (pv 7) (pa_cons (pv 9) (pa_cons (pv 3) pa_nil)))))))))
                  pss_nil)
              (pss_one (ps_if (pt_cmpR op_lt (pe_op op_add (pv 2) pe_int) (pe_callB call_len_seq (by rfl) T.n_len (by decide +kernel) (pa_cons (pv 4) pa_nil)) (nomark _))
                  (pss_one (ps_expr (pe_callR G_add_seeds (hr.mono (by decide)) T.m_add_seeds T.k_add_seeds pass0 (pa_cons (pv 5) (pa_cons (pe_ix ix_list (pv 4) (pe_op op_add (pv 2) pe_int) (fun _ _ => rfl)) (pa_cons (pe_op op_add (pv 2) pe_int) (pa_cons (pv 7) (pa_cons (pv 9) (pa_cons (pv 3) pa_nil)))))))))
                  pss_nil)))))))
              pss_nil)))))
      (pss_one (ps_ret (pv 4))))))), ?_⟩
  simp only [tSeq, tIfS, tTest, tB, tAnd, tOr, tNot, tAndV, tOrV, tNotV, tIf, tOp, tUn, tChain, rEq, rNe, rI0, rI, rU, tCallR, tCons, tNil, tC, tVar, tRet, tRetN, tTup_k, tLst_k, tCB, tNext, tAsg, gName, gTup, gCons, gNil, tDrop, tPar, tFld, ClX.tCVal, tPropR, rBin, rBinT, rNeOwn, rSetL_k, gSub, tMakeK_k, tMethR, rInO, tDNewK_k, tYes, wipe, tMakeR_k, tSMeth, tSMethK, rMulS, decide_true, tNever, sFld, rIsiT, and_false, rListOf, rTupOf, rLenSeq, rIxL, rIxT, rIxS, rCat_k, rRep_k, rSlL_k, rSlS, rNewStrs_k, rAppend_k, tBM, tBM0, tM0, tM1, tSl, tNoPart, tPart, tLc_k, tFor_k, iList, iTup, iEnumT, iRng1, iRng2, iRng2L, iStr, L2.start, List.map, List.length_cons, List.length_nil, List.cons_append, List.nil_append, List.getElem?_cons_succ, List.getElem?_cons_zero, Option.some.injEq, V.int.injEq, V.bl.injEq, V.str.injEq, V.ref.injEq, exists_eq_left', exists_eq_left, and_assoc, exists_and_left, exists_eq, exists_eq', true_and, and_true, List.set_cons_zero, List.set_cons_succ, List.set, decide_eq_true_eq, Bool.not_eq_true', if_true, if_false, rIx, cx_K, nox_K, List.replicate_succ, List.replicate_zero, Nat.reduceSub, Bool.true_eq_false, Bool.false_eq_true, Nat.reduceAdd, List.cons.injEq, reduceCtorEq, false_and, false_or, or_false, tAug, rSetO, rJoin, tMakeL, rStrO, ClX.tCMeth, rPop, tLc2_k, iEnum, tPar3, iZipS, iZipS3, tListZip, rInDT, tBackS, tBackT, tSlSt, rUn]
  obtain ⟨r0, hr0⟩ : ∃ r, g[y]? = some r := ⟨_, List.getElem?_eq_getElem hy⟩
  have w0 := (hg.row r0 (List.mem_of_getElem? hr0)).1
  obtain ⟨c, hc⟩ : ∃ c, r0[x]? = some c := ⟨_, List.getElem?_eq_getElem (by omega)⟩
  have cl0 : Rg.cell g (x, y) = some c := by
    show (g[y]?).bind _ = _
    rw [hr0]
    exact hc
  have hcm : c ≠ 120 := fun z => digL_mark hg (x, y) (by rw [cl0, z])
  have a0 : atI (rowsV g) (y : Nat) = some (.str (S r0)) := atI_nat (by rw [List.getElem?_map, hr0]; rfl)
  have ww := hg.w1
  have gl := hg.l1
  refine seq_or hl ?_
  refine ⟨_, a0, _, rfl, by omega, by omega, by rw [SX.S_len]; omega, c, by rw [Int.toNat_natCast, ← Array.getElem?_toList]; exact hc, _, hl, kN.mk fun n H1 f1 => kNew.mk (by show 2 ≤ sizeLine; decide) fun tt H2 f2 => kNew.mk (by show 1 ≤ sizeLine; decide) fun sl H3 f3 => ?_⟩
  have s3 := (f1.same.trans f2.same).trans f3.same
  have nsl : n ≠ sl := f3.ne (f2.get f1.at_)
  have nH : H n = none := f1.new
  have slH : H sl = none := none_back (f1.same.trans f2.same) f3.new
  have n3 : H3 n = some (.lst (rowsV g)) := f3.get (f2.get f1.at_)
  have sd3 : Seeds H3 sl [(tt, (x, y))] := ⟨f3.at_, fun t ht => by rw [List.mem_singleton.mp ht]; exact f3.get f2.at_⟩
  have ll := left_le c g fun r hr => by rw [(hg.row r hr).1]; exact ww
  clear f1 f2 f3 a0 hl
  refine ⟨fun m σ H' => ∃ (new : List (List Nat)) (sd : List (Addr × Rg.Cel)) (x1 x2 v6 v7 v8 v9 : Option V), m = 3 * Rg.left new c + sd.length ∧ σ = [some (.ref l), x1, x2, some (.str (S [c])), some (.ref n), some (.ref sl), v6, v7, v8, v9] ∧ Same H H' ∧ H' n = some (.lst (rowsV new)) ∧ Seeds H' sl sd ∧ Shape g new ∧
    Rg.Mid g new c 120 (x, y) (sd.map Prod.snd) ∧ 3 * Rg.left new c + sd.length ≤ 3 * Rg.left g c + 1,
    ⟨_, g, [(tt, (x, y))], _, _, none, none, none, none, rfl, rfl, s3, n3, sd3, ⟨rfl, fun j r r' e1 e2 => by rw [e1] at e2; cases e2; rfl⟩, Rg.Mid.init cl0 (digL_mark hg), Nat.le_refl _⟩, fun m σ H' hw => ?_⟩
  obtain ⟨new, sd, x1, x2, v6, v7, v8, v9, rfl, rfl, sH, hn, hsd, shp, mid, pot⟩ := hw
  simp only [tSeq, tIfS, tTest, tB, tAnd, tOr, tNot, tAndV, tOrV, tNotV, tIf, tOp, tUn, tChain, rEq, rNe, rI0, rI, rU, tCallR, tCons, tNil, tC, tVar, tRet, tRetN, tTup_k, tLst_k, tCB, tNext, tAsg, gName, gTup, gCons, gNil, tDrop, tPar, tFld, ClX.tCVal, tPropR, rBin, rBinT, rNeOwn, rSetL_k, gSub, tMakeK_k, tMethR, rInO, tDNewK_k, tYes, wipe, tMakeR_k, tSMeth, tSMethK, rMulS, decide_true, tNever, sFld, rIsiT, and_false, rListOf, rTupOf, rLenSeq, rIxL, rIxT, rIxS, rCat_k, rRep_k, rSlL_k, rSlS, rNewStrs_k, rAppend_k, tBM, tBM0, tM0, tM1, tSl, tNoPart, tPart, tLc_k, tFor_k, iList, iTup, iEnumT, iRng1, iRng2, iRng2L, iStr, L2.start, List.map, List.length_cons, List.length_nil, List.cons_append, List.nil_append, List.getElem?_cons_succ, List.getElem?_cons_zero, Option.some.injEq, V.int.injEq, V.bl.injEq, V.str.injEq, V.ref.injEq, exists_eq_left', exists_eq_left, and_assoc, exists_and_left, exists_eq, exists_eq', true_and, and_true, List.set_cons_zero, List.set_cons_succ, List.set, decide_eq_true_eq, Bool.not_eq_true', if_true, if_false, rIx, cx_K, nox_K, List.replicate_succ, List.replicate_zero, Nat.reduceSub, Bool.true_eq_false, Bool.false_eq_true, Nat.reduceAdd, List.cons.injEq, reduceCtorEq, false_and, false_or, or_false, tAug, rSetO, rJoin, tMakeL, rStrO, ClX.tCMeth, rPop, tLc2_k, iEnum, tPar3, iZipS, iZipS3, tListZip, rInDT, tBackS, tBackT, tSlSt, rUn]
  rcases List.eq_nil_or_concat sd with rfl | ⟨sd, ⟨t, px, py⟩, rfl⟩
  · refine ⟨false, .inl ⟨_, SqL.of hsd.at_, rfl⟩, ?_⟩
    rw [if_neg (by decide)]
    exact k n new c H' sH hn nH cl0 shp (mid.done (digL_mark hg))
  · rw [List.concat_eq_append] at *
    refine ⟨true, .inl ⟨_, SqL.of hsd.at_, by simp⟩, ?_⟩
    rw [if_pos rfl]
    refine ⟨_, fun _ _ h => h, ?_⟩
    simp only [tSeq, tIfS, tTest, tB, tAnd, tOr, tNot, tAndV, tOrV, tNotV, tIf, tOp, tUn, tChain, rEq, rNe, rI0, rI, rU, tCallR, tCons, tNil, tC, tVar, tRet, tRetN, tTup_k, tLst_k, tCB, tNext, tAsg, gName, gTup, gCons, gNil, tDrop, tPar, tFld, ClX.tCVal, tPropR, rBin, rBinT, rNeOwn, rSetL_k, gSub, tMakeK_k, tMethR, rInO, tDNewK_k, tYes, wipe, tMakeR_k, tSMeth, tSMethK, rMulS, decide_true, tNever, sFld, rIsiT, and_false, rListOf, rTupOf, rLenSeq, rIxL, rIxT, rIxS, rCat_k, rRep_k, rSlL_k, rSlS, rNewStrs_k, rAppend_k, tBM, tBM0, tM0, tM1, tSl, tNoPart, tPart, tLc_k, tFor_k, iList, iTup, iEnumT, iRng1, iRng2, iRng2L, iStr, L2.start, List.map, List.length_cons, List.length_nil, List.cons_append, List.nil_append, List.getElem?_cons_succ, List.getElem?_cons_zero, Option.some.injEq, V.int.injEq, V.bl.injEq, V.str.injEq, V.ref.injEq, exists_eq_left', exists_eq_left, and_assoc, exists_and_left, exists_eq, exists_eq', true_and, and_true, List.set_cons_zero, List.set_cons_succ, List.set, decide_eq_true_eq, Bool.not_eq_true', if_true, if_false, rIx, cx_K, nox_K, List.replicate_succ, List.replicate_zero, Nat.reduceSub, Bool.true_eq_false, Bool.false_eq_true, Nat.reduceAdd, List.cons.injEq, reduceCtorEq, false_and, false_or, or_false, tAug, rSetO, rJoin, tMakeL, rStrO, ClX.tCMeth, rPop, tLc2_k, iEnum, tPar3, iZipS, iZipS3, tListZip, rInDT, tBackS, tBackT, tSlSt, rUn]
    have e1 : Rg.cell g (px, py) = some c := (mid.seeds (px, py) (by simp)).at_
    obtain ⟨rg, hrg, hrx⟩ := cell_row e1
    have hrg : g[py]? = some rg := hrg
    have hrx : rg[px]? = some c := hrx
    have pyl := (List.getElem?_eq_some_iff.mp hrg).1
    have pxl := (List.getElem?_eq_some_iff.mp hrx).1
    have rgl := (hg.row rg (List.mem_of_getElem? hrg)).1
    obtain ⟨row, hrow⟩ : ∃ r, new[py]? = some r := ⟨_, List.getElem?_eq_getElem (by rw [shp.1]; exact pyl)⟩
    have rl := shp.2 py rg row hrg hrow
    obtain ⟨d, hd⟩ : ∃ d, row[px]? = some d := ⟨_, List.getElem?_eq_getElem (by omega)⟩
    have cn : Rg.cell new (px, py) = some d := by
      show (new[py]?).bind _ = _
      rw [hrow]
      exact hd
    have atn : atI (rowsV new) (py : Nat) = some (.str (S row)) := atI_nat (by rw [List.getElem?_map, hrow]; rfl)
    have ed : ((sd ++ [(t, (px, py))]).map fun t => V.ref t.1).dropLast = sd.map fun t => V.ref t.1 := by rw [List.map_append]; simp
    have el : ((sd ++ [(t, (px, py))]).map fun t => V.ref t.1)[((sd ++ [(t, (px, py))]).map fun t => V.ref t.1).length - 1]? = some (.ref t) := by rw [List.map_append]; simp
    refine ⟨.inl ⟨rfl, _, SqL.of hsd.at_⟩, _, hsd.at_, _, el, ?_⟩
    rw [ed]
    have tH : H' t = some (.tup [.int (px : Nat), .int (py : Nat)]) := hsd.all (t, (px, py)) (by simp)
    have tsl : t ≠ sl := fun z => by rw [← z] at hsd; rw [hsd.at_] at tH; cases tH
    have sb4 : SameBut sl H' (upd H' sl (.lst (sd.map fun t => V.ref t.1))) := SameBut.upd
    have s4 : Same H (upd H' sl (.lst (sd.map fun t => V.ref t.1))) := fun b o e => by rw [upd_ne (fun z => by rw [z, slH] at e; cases e)]; exact sH b o e
    have hsd4 : Seeds (upd H' sl (.lst (sd.map fun t => V.ref t.1))) sl sd := ⟨upd_same, fun u hu => sb4 _ _ (fun z => by have q := hsd.all u (List.mem_append_left _ hu); rw [z, hsd.at_] at q; cases q) (hsd.all u (List.mem_append_left _ hu))⟩
    have n4 := sb4 _ _ nsl hn
    have t4 := sb4 _ _ tsl tH
    rw [List.length_append, List.length_singleton] at pot
    rw [List.length_append, List.length_singleton]
    rw [List.map_append] at mid
    clear sb4 sH hsd hn tH el ed tsl
    generalize upd H' sl (.lst (sd.map fun t => V.ref t.1)) = H4 at *
    refine ⟨t, rfl, _, .inl (.inl t4), rfl, _, _, rfl, _, _, rfl, rfl, _, _, rfl, SqL.of n4, _, atn, _, rfl, _, rfl, by omega, by omega, by rw [SX.S_len]; omega, d, by rw [Int.toNat_natCast, ← Array.getElem?_toList]; exact hd, rfl, ?_⟩
    by_cases hdc : d = c
    · subst hdc
      rw [if_pos rfl]
      simp only [tSeq, tIfS, tTest, tB, tAnd, tOr, tNot, tAndV, tOrV, tNotV, tIf, tOp, tUn, tChain, rEq, rNe, rI0, rI, rU, tCallR, tCons, tNil, tC, tVar, tRet, tRetN, tTup_k, tLst_k, tCB, tNext, tAsg, gName, gTup, gCons, gNil, tDrop, tPar, tFld, ClX.tCVal, tPropR, rBin, rBinT, rNeOwn, rSetL_k, gSub, tMakeK_k, tMethR, rInO, tDNewK_k, tYes, wipe, tMakeR_k, tSMeth, tSMethK, rMulS, decide_true, tNever, sFld, rIsiT, and_false, rListOf, rTupOf, rLenSeq, rIxL, rIxT, rIxS, rCat_k, rRep_k, rSlL_k, rSlS, rNewStrs_k, rAppend_k, tBM, tBM0, tM0, tM1, tSl, tNoPart, tPart, tLc_k, tFor_k, iList, iTup, iEnumT, iRng1, iRng2, iRng2L, iStr, L2.start, List.map, List.length_cons, List.length_nil, List.cons_append, List.nil_append, List.getElem?_cons_succ, List.getElem?_cons_zero, Option.some.injEq, V.int.injEq, V.bl.injEq, V.str.injEq, V.ref.injEq, exists_eq_left', exists_eq_left, and_assoc, exists_and_left, exists_eq, exists_eq', true_and, and_true, List.set_cons_zero, List.set_cons_succ, List.set, decide_eq_true_eq, Bool.not_eq_true', if_true, if_false, rIx, cx_K, nox_K, List.replicate_succ, List.replicate_zero, Nat.reduceSub, Bool.true_eq_false, Bool.false_eq_true, Nat.reduceAdd, List.cons.injEq, reduceCtorEq, false_and, false_or, or_false, tAug, rSetO, rJoin, tMakeL, rStrO, ClX.tCMeth, rPop, tLc2_k, iEnum, tPar3, iZipS, iZipS3, tListZip, rInDT, tBackS, tBackT, tSlSt, rUn]
      obtain ⟨b, e, R, eb, ee⟩ : ∃ b e, Rg.Run row d px b e ∧ (Txt.rstripChars (cutS (S row) none (some (px : Int))) (S [d])).length = b ∧ Txt.lstripChars (cutS (S row) (some (px : Int)) none) (S [d]) = S (row.drop e) :=
        ⟨_, _, Rg.run_of hd, by rw [cut_to (by omega), Rg.rstrip_len], by rw [cut_from (by omega), Rg.lstrip_S, List.drop_drop]⟩
      obtain ⟨Rb, Re, Rl, Ra, Rlo, Rhi⟩ := id R
      have sz : ∀ m : Nat, m ≤ 20000 → m ≤ sizeLine := fun m h => Nat.le_trans h (by decide +kernel)
      have ec : (cutS (S row) none (some (px : Int))).length ≤ 200 := by rw [cut_to (by omega), SX.S_len, List.length_take]; omega
      have ec2 : (cutS (S row) (some (px : Int)) none).length ≤ 200 := by rw [cut_from (by omega), SX.S_len, List.length_drop]; omega
      have lr : ((row.length : Nat) : Int) - ((row.drop e).length : Nat) - (b : Nat) = ((e - b : Nat) : Int) := by rw [List.length_drop]; omega
      have lr2 : ((row.length : Nat) : Int) - ((row.drop e).length : Nat) = (e : Nat) := by rw [List.length_drop]; omega
      have ex : Str.ofString "x" = S [120] := by decide +kernel
      have ixn : ixN (rowsV new).length (py : Nat) = some py := by unfold ixN; rw [if_pos (by omega), if_pos (by rw [rowsV_len, shp.1]; omega), Int.toNat_natCast]
      rw [eb, ee, SX.S_len row, SX.S_len (row.drop e), lr, lr2, ex, mul_any 120 (by omega), Int.toNat_natCast, cut_to (a := row) (i := b) (by omega)]
      refine ⟨sz _ (by omega), rfl, sz _ (by omega), sz _ (by omega), sz _ (by omega), rfl, sz _ (by omega), sz _ (by omega), sz _ (by rw [List.length_drop]; omega), sz _ (by omega), mulOk_any 120 (by omega) (by omega), sz _ (by rw [SX.S_len, SX.S_len, List.length_take, List.length_replicate]; omega), ?_⟩
      rw [SX.S_cat, SX.S_cat]
      refine ⟨sz _ (by rw [SX.S_len, List.length_append, List.length_take, List.length_replicate, List.length_drop]; omega), _, n4, py, ixn, ?_⟩
      rw [rowsV_set]
      refine kPutS.mk fun H5 p5 => ?_
      have hmk : row.take b ++ List.replicate (e - b) 120 ++ row.drop e = Rg.mkr row 120 b e := rfl
      rw [hmk] at p5
      have ne5 : ∀ {o : Addr} {u : HO}, o ≠ n → H4 o = some u → H5 o = some u := fun h1 h2 => p5.get h1 h2
      have sd5 : Seeds H5 sl sd := ⟨p5.get (Ne.symm nsl) hsd4.at_, fun u hu => p5.get (fun z => by have q := hsd4.all u hu; rw [z, n4] at q; cases q) (hsd4.all u hu)⟩
      have rowU : ∀ yy, yy ≠ py → yy < new.length → ∃ ru, new[yy]? = some ru ∧ atI (rowsV (new.set py (Rg.mkr row 120 b e))) (yy : Nat) = some (.str (S ru)) ∧ e ≤ ru.length ∧ ru.length ≤ 200 ∧ ∀ i, Rg.cell new (i, yy) = ru[i]? := fun yy hne hlt => by
        obtain ⟨ru, hru⟩ : ∃ r, new[yy]? = some r := ⟨_, List.getElem?_eq_getElem hlt⟩
        obtain ⟨rg', hrg'⟩ : ∃ r, g[yy]? = some r := ⟨_, List.getElem?_eq_getElem (by rw [← shp.1]; exact hlt)⟩
        have q1 := shp.2 yy rg' ru hrg' hru
        have q2 := (hg.row rg' (List.mem_of_getElem? hrg')).1
        refine ⟨ru, hru, atI_nat (by rw [List.getElem?_map, List.getElem?_set_ne (Ne.symm hne), hru]; rfl), by omega, by omega, fun i => ?_⟩
        show (new[yy]?).bind _ = _
        rw [hru]
        rfl
      have sdl : sd.length ≤ 150000 := by omega
      have second : ∀ (us : List (Addr × Rg.Cel)) (H6 : Hp), SameBut sl H5 H6 → Seeds H6 sl (sd ++ us) → us.length ≤ e - b → SdOk new d b e py us true → ∃ x_3, (SqL K H6 n x_3 ∨ SqT K H6 n x_3) ∧ if (py : Int) + 1 < (x_3.length : Nat) then ∃ x_4, SqL K H6 n x_4 ∧ ∃ x_5, atI x_4 ((py : Int) + 1) = some x_5 ∧
          spSeeds [V.ref sl, x_5, V.int ((py : Int) + 1), V.int (b : Nat), V.int (e : Nat), V.str (S [d])] H6 (fun _ H7 => MidEnd g d (x, y) n sl (3 * Rg.left new d + (sd.length + 1)) H H7) E0 else MidEnd g d (x, y) n sl (3 * Rg.left new d + (sd.length + 1)) H H6 := fun us H6 s6 hs6 hu6 ok6 => by
        have n6 := s6 _ _ nsl p5.at_
        refine ⟨_, .inl (SqL.of n6), ?_⟩
        rw [rowsV_len, List.length_set]
        by_cases hd : py + 1 < new.length
        · rw [if_pos (by omega)]
          obtain ⟨ru, q1, q2, q3, q4, q5⟩ := rowU (py + 1) (by omega) hd
          refine ⟨_, SqL.of n6, _, by rw [show ((py : Int) + 1) = ((py + 1 : Nat) : Int) from by omega]; exact q2, ?_⟩
          rw [show ((py : Int) + 1) = ((py + 1 : Nat) : Int) from by omega]
          refine ⟨sl, ru, py + 1, b, e, d, sd ++ us, rfl, hs6, by omega, q3, q4, by rw [List.length_append]; omega, fun vs H7 s7 hs7 hv7 va vc => ?_⟩
          refine mark_end (e0 := (px, py)) (us := us ++ vs) hcm mid hrow R shp pot nsl nH slH s4 p5 (s6.trans s7) (by rw [← List.append_assoc]; exact hs7) (by rw [List.length_append]; omega) ⟨fun t ht => ?_, fun q h1 h2 h3 h4 => ?_⟩
          · rcases List.mem_append.mp ht with ht | ht
            · obtain ⟨a1, a2⟩ := ok6.1 t ht
              exact ⟨.inl (a1.resolve_right fun z => by cases z.1), a2⟩
            · obtain ⟨a1, a2, a3, a4⟩ := va t ht
              refine ⟨.inr ⟨rfl, a1.symm⟩, a2, a3, ?_⟩
              have := q5 t.2.1
              rw [a4, ← a1] at this
              exact this
          · rcases h1 with h1 | ⟨_, h1⟩
            · obtain ⟨t, ht, tq⟩ := ok6.2 q (.inl h1) h2 h3 h4
              exact ⟨t, List.mem_append_left _ ht, tq⟩
            · have h1 : py + 1 = q.2 := h1
              have eq : ∀ i, Rg.cell new (i, q.2) = ru[i]? := fun i => by rw [← h1]; exact q5 i
              obtain ⟨t, ht, t1, t2⟩ := vc q.1 h2 h3 (by rw [← eq]; exact h4)
              exact ⟨t, List.mem_append_right _ ht, by rw [(va t ht).1]; exact h1, t1, fun i g1 g2 => by rw [eq]; exact t2 i g1 g2⟩
        · rw [if_neg (by omega)]
          refine mark_end (e0 := (px, py)) (us := us) hcm mid hrow R shp pot nsl nH slH s4 p5 s6 hs6 (by omega) ⟨fun t ht => ?_, fun q h1 h2 h3 h4 => ?_⟩
          · obtain ⟨a1, a2⟩ := ok6.1 t ht
            exact ⟨.inl (a1.resolve_right fun z => by cases z.1), a2⟩
          · rcases h1 with h1 | ⟨_, h1⟩
            · exact ok6.2 q (.inl h1) h2 h3 h4
            · obtain ⟨r, q1, _⟩ := cell_row h4
              have := (List.getElem?_eq_some_iff.mp q1).1
              have h1 : py + 1 = q.2 := h1
              omega
      by_cases hu : 0 < py
      · rw [if_pos (by omega)]
        obtain ⟨ru, q1, q2, q3, q4, q5⟩ := rowU (py - 1) (by omega) (by rw [shp.1]; omega)
        refine ⟨_, SqL.of p5.at_, _, by rw [show ((py : Int) - 1) = ((py - 1 : Nat) : Int) from by omega]; exact q2, ?_⟩
        rw [show ((py : Int) - 1) = ((py - 1 : Nat) : Int) from by omega]
        refine ⟨sl, ru, py - 1, b, e, d, sd, rfl, sd5, by omega, q3, q4, by omega, fun vs H7 s7 hs7 hv7 va vc => ?_⟩
        refine second vs H7 s7 hs7 hv7 ⟨fun t ht => ?_, fun q h1 h2 h3 h4 => ?_⟩
        · obtain ⟨a1, a2, a3, a4⟩ := va t ht
          refine ⟨.inl (by omega), a2, a3, ?_⟩
          have := q5 t.2.1
          rw [a4, ← a1] at this
          exact this
        · have h1 : q.2 + 1 = py := h1.resolve_right fun z => by cases z.1
          have eq : ∀ i, Rg.cell new (i, q.2) = ru[i]? := fun i => by rw [show q.2 = py - 1 from by omega]; exact q5 i
          obtain ⟨t, ht, t1, t2⟩ := vc q.1 h2 h3 (by rw [← eq]; exact h4)
          exact ⟨t, ht, by rw [(va t ht).1]; omega, t1, fun i g1 g2 => by rw [eq]; exact t2 i g1 g2⟩
      · rw [if_neg (by omega)]
        refine second [] H5 (fun _ _ _ h => h) (by rw [List.append_nil]; exact sd5) (Nat.zero_le _) ⟨fun t ht => (by cases ht), fun q h1 h2 h3 h4 => ?_⟩
        have h1 : q.2 + 1 = py := h1.resolve_right fun z => by cases z.1
        omega
    · rw [if_neg (fun z => hdc (by cases z; rfl))]
      exact ⟨_, by omega, new, sd, rfl, s4, n4, hsd4, shp, mid.skip (by rw [cn]; exact fun z => hdc (by cases z; rfl)), by omega⟩
end
end Pf
end
section
namespace Pf
open PySem PySem.Spec PyProof.Rows L2 Ow StX
open SX (S)
/-! ### runs of a sign, the cells of a region in their order -/
theorem find3_in (row : List Nat) (c p : Nat) : Txt.find3 (S row) (S [c]) (p : Int) = Txt.findIn (S row) (S [c]) (p : Int) (row.length : Int) := by
  have hE : PySem.toIndexW (S row).length (row.length : Int) = (S row).length := by rw [SX.S_len]; unfold PySem.toIndexW; rw [if_neg (by omega)]; omega
  unfold Txt.find3 Txt.findIn
  rw [hE]
  cases PySem.Builtin.Str.occurrences (S row) (S [c]) (PySem.fromIndex (S row).length (p : Int)) (S row).length 1 <;> rfl
theorem find_in0 (row : List Nat) (c : Nat) : Txt.find (S row) (S [c]) = Txt.findIn (S row) (S [c]) ((0 : Nat) : Int) (row.length : Int) := by
  have hE : PySem.toIndexW (S row).length (row.length : Int) = (S row).length := by rw [SX.S_len]; unfold PySem.toIndexW; rw [if_neg (by omega)]; omega
  unfold Txt.find Txt.findIn
  rw [hE]
  rfl
/-- the cells of the sign c in a row, from lo to hi -/
def rowCells (c : Nat) (row : List Nat) (y lo hi : Nat) : List Rg.Cel := ((List.range' lo (hi - lo)).filter fun i => decide (row[i]? = some c)).map fun i => (i, y)
theorem rowCells_split {c : Nat} {row : List Nat} {y lo mid hi : Nat} (h1 : lo ≤ mid) (h2 : mid ≤ hi) : rowCells c row y lo hi = rowCells c row y lo mid ++ rowCells c row y mid hi := by
  unfold rowCells
  rw [← List.map_append, ← List.filter_append]
  congr 2
  rw [show hi - lo = (mid - lo) + (hi - mid) from by omega, ← List.range'_append_1, show lo + (mid - lo) = mid from by omega]
theorem rowCells_none {c : Nat} {row : List Nat} {y lo hi : Nat} (h : ∀ i, lo ≤ i → i < hi → row[i]? ≠ some c) : rowCells c row y lo hi = [] := by
  unfold rowCells
  rw [List.map_eq_nil_iff, List.filter_eq_nil_iff]
  intro i hi'
  have z := List.mem_range'_1.mp hi'
  simp [h i z.1 (by omega)]
theorem rowCells_all {c : Nat} {row : List Nat} {y lo hi : Nat} (h : ∀ i, lo ≤ i → i < hi → row[i]? = some c) : rowCells c row y lo hi = (List.range' lo (hi - lo)).map fun i => (i, y) := by
  unfold rowCells
  congr 1
  rw [List.filter_eq_self]
  intro i hi'
  have z := List.mem_range'_1.mp hi'
  simp [h i z.1 (by omega)]
/-- the cells of the sign c in the first n rows, row by row -/
def cellsTo (g : List (List Nat)) (c : Nat) : Nat → List Rg.Cel
  | 0 => []
  | n + 1 => cellsTo g c n ++ rowCells c (g[n]?.getD []) n 0 (g[n]?.getD []).length
def runCells (t : Nat × Nat × Nat) : List Rg.Cel := (List.range' t.2.1 (t.2.2 - t.2.1)).map fun i => (i, t.1)
/-- the runs in a list -/
structure Trips (H : Hp) (fl : Addr) (ts : List (Addr × Nat × Nat × Nat)) : Prop where
  at_ : H fl = some (.lst (ts.map fun t => V.ref t.1))
  all : ∀ t ∈ ts, H t.1 = some (.tup [.int (t.2.1 : Nat), .int (t.2.2.1 : Nat), .int (t.2.2.2 : Nat)])
def spRunEnd : Sp := fun vs H Q _ => ∃ (row : List Nat) (x c : Nat), vs = [.str (S row), .int (x : Nat)] ∧ row[x]? = some c ∧ row.length ≤ 200 ∧ Q (.int ((x + Rg.lead c (row.drop x) : Nat))) H
def spRuns (K : PySem.W.Frag) : Sp := fun vs H Q _ => ∃ (l : Addr) (g : List (List Nat)) (c : Nat), vs = [.ref l, .str (S [c])] ∧ SqL K H l (rowsV g) ∧ g.length ≤ 200 ∧ (∀ r ∈ g, r.length ≤ 200) ∧
  ∀ (fl : Addr) (ts : List (Addr × Nat × Nat × Nat)) (H' : Hp), Same H H' → Trips H' fl ts → ts.length ≤ 40000 → (∀ t ∈ ts, t.2.2.1 ≤ t.2.2.2 ∧ t.2.2.2 ≤ 200) → (ts.map fun t => runCells t.2).flatten = cellsTo g c g.length → Q (.ref fl) H'
section
variable {P : Program} {w : World} {K : PySem.W.Frag} {mg : Str → Option Value} {base : Heap} {a : Adr}
set_option maxHeartbeats 4000000
theorem ok_run_end (T : Txt K mg a) : FnR P w K mg base CX0 1 a.run_end spRunEnd := by
  refine T.d_run_end.ok sc_run_end (fun _ _ _ _ _ _ us hl => match us, hl with | [_, _], _ => rfl) (fun vs H Q E h => by obtain ⟨row, x, c, rfl, _⟩ := h; rfl) (fun cdv A outer s H vs Q E hr h => ?_)
  obtain ⟨row, x, c, rfl, hx, hl, k⟩ := h
  refine ⟨_, (pss_one (ps_ret (pe_op op_sub (pe_callB call_len_str (by rfl) T.n_len (by decide +kernel) (pa_cons (pv 0) pa_nil)) (pe_callB call_len_str (by rfl) T.n_len (by decide +kernel) (pa_cons (pe_bm PySem.F.plainAttrs_str PySem.F.slot_str_lstrip PySem.F.type_str_lstrip mt_lstripChars (pe_slice sl_str (pv 0) (po_some (pv 1)) po_none) (pa_cons (pe_item_str (pv 0) (pv 1) (fun _ _ => rfl)) pa_nil)) pa_nil))))), ?_⟩
  simp only [tSeq, tIfS, tTest, tB, tAnd, tOr, tNot, tAndV, tOrV, tNotV, tIf, tOp, tUn, tChain, rEq, rNe, rI0, rI, rU, tCallR, tCons, tNil, tC, tVar, tRet, tRetN, tTup_k, tLst_k, tCB, tNext, tAsg, gName, gTup, gCons, gNil, tDrop, tPar, tFld, ClX.tCVal, tPropR, rBin, rBinT, rNeOwn, rSetL_k, gSub, tMakeK_k, tMethR, rInO, tDNewK_k, tYes, wipe, tMakeR_k, tSMeth, tSMethK, rMulS, decide_true, tNever, sFld, rIsiT, and_false, rListOf, rTupOf, rLenSeq, rIxL, rIxT, rIxS, rCat_k, rRep_k, rSlL_k, rSlS, rNewStrs_k, rAppend_k, tBM, tBM0, tM0, tM1, tSl, tNoPart, tPart, tLc_k, tFor_k, iList, iTup, iEnumT, iRng1, iRng2, iRng2L, iStr, L2.start, List.map, List.length_cons, List.length_nil, List.cons_append, List.nil_append, List.getElem?_cons_succ, List.getElem?_cons_zero, Option.some.injEq, V.int.injEq, V.bl.injEq, V.str.injEq, V.ref.injEq, exists_eq_left', exists_eq_left, and_assoc, exists_and_left, exists_eq, exists_eq', true_and, and_true, List.set_cons_zero, List.set_cons_succ, List.set, decide_eq_true_eq, Bool.not_eq_true', if_true, if_false, rIx, cx_K, nox_K, List.replicate_succ, List.replicate_zero, Nat.reduceSub, Bool.true_eq_false, Bool.false_eq_true, Nat.reduceAdd, List.cons.injEq, reduceCtorEq, false_and, false_or, or_false, tAug, rSetO, rJoin, tMakeL, rStrO, ClX.tCMeth, rPop, tLc2_k, iEnum, tPar3, iZipS, iZipS3, tListZip, rInDT, tBackS, tBackT, tSlSt, rUn]
  have xl := (List.getElem?_eq_some_iff.mp hx).1
  have ld := Rg.lead_le c (row.drop x)
  rw [List.length_drop] at ld
  have sz : ∀ m : Nat, m ≤ 20000 → m ≤ sizeLine := fun m h => Nat.le_trans h (by decide +kernel)
  have hd := Rg.lead_end c (row.drop x)
  rw [cut_from (by omega)]
  refine ⟨by rw [SX.S_len]; exact sz _ (by omega), by rw [SX.S_len]; exact sz _ (by omega), rfl, by omega, by omega, by rw [SX.S_len]; omega, c, by rw [Int.toNat_natCast, ← Array.getElem?_toList]; exact hx, by rw [SX.S_len, List.length_drop]; exact sz _ (by omega), ?_⟩
  rw [Rg.lstrip_S (row.drop x) c, SX.S_len, SX.S_len, List.length_drop, List.length_drop]
  refine ⟨sz _ (by omega), ?_⟩
  rw [show ((row.length : Nat) : Int) - ((row.length - x - Rg.lead c (row.drop x) : Nat) : Int) = ((x + Rg.lead c (row.drop x) : Nat) : Int) from by omega]
  exact k
theorem ok_runs (T : Txt K mg a) : FnR P w K mg base CX0 2 a.runs (spRuns K) := by
  have G_run_end : FnR P w K mg base CX0 1 a.run_end spRunEnd := ok_run_end T
  refine T.d_runs.ok sc_runs (fun _ _ _ _ _ _ us hl => match us, hl with | [_, _], _ => rfl) (fun vs H Q E h => by obtain ⟨l, g, c, rfl, _⟩ := h; rfl) (fun cdv A outer s H vs Q E hr h => ?_)
  obtain ⟨l, g, c, rfl, hl, gl, rl, k⟩ := h
  refine ⟨_, (pss_cons (ps_set (i := 2) sc_runs.nd rfl (Or.inl rfl) (pe_lst pa_nil))
      (pss_cons (ps_for PassesOwn.never rfl (pi_enum (by rfl) T.n_enumerate (pa_cons (pv 0) pa_nil)) (pg_tup rfl (pgs_cons (pg_name (i := 3) sc_runs.nd rfl (Or.inl rfl)) (pgs_cons (pg_name (i := 4) sc_runs.nd rfl (Or.inl rfl)) pgs_nil)))
          (pss_cons (ps_set (i := 5) sc_runs.nd rfl (Or.inl rfl) (pe_bm PySem.F.plainAttrs_str PySem.F.slot_str_find PySem.F.type_str_find mt_find (pv 4) (pa_cons (pv 1) pa_nil)))
          (pss_one (ps_while PassesOwn.never (pt_cmpR op_ge (pv 5) pe_int (nomark _))
              (pss_cons (ps_set (i := 6) sc_runs.nd rfl (Or.inl rfl) (pe_callR G_run_end (hr.mono (by decide)) T.m_run_end T.k_run_end pass0 (pa_cons (pv 4) (pa_cons (pv 5) pa_nil))))
              (pss_cons (ps_expr (pe_bm PySem.F.plainAttrs_list PySem.F.slot_list_append PySem.F.type_list_append mt_append (pv 2) (pa_cons (pe_tup (pa_cons (pv 3) (pa_cons (pv 5) (pa_cons (pv 6) pa_nil)))) pa_nil)))
              (pss_one (ps_set (i := 5) sc_runs.nd rfl (Or.inl rfl) (pe_bm PySem.F.plainAttrs_str PySem.F.slot_str_find PySem.F.type_str_find mt_find3 (pv 4) (pa_cons (pv 1) (pa_cons (pv 6) pa_nil)))))))))))
      (pss_one (ps_ret (pv 2))))), ?_⟩
  simp only [tSeq, tIfS, tTest, tB, tAnd, tOr, tNot, tAndV, tOrV, tNotV, tIf, tOp, tUn, tChain, rEq, rNe, rI0, rI, rU, tCallR, tCons, tNil, tC, tVar, tRet, tRetN, tTup_k, tLst_k, tCB, tNext, tAsg, gName, gTup, gCons, gNil, tDrop, tPar, tFld, ClX.tCVal, tPropR, rBin, rBinT, rNeOwn, rSetL_k, gSub, tMakeK_k, tMethR, rInO, tDNewK_k, tYes, wipe, tMakeR_k, tSMeth, tSMethK, rMulS, decide_true, tNever, sFld, rIsiT, and_false, rListOf, rTupOf, rLenSeq, rIxL, rIxT, rIxS, rCat_k, rRep_k, rSlL_k, rSlS, rNewStrs_k, rAppend_k, tBM, tBM0, tM0, tM1, tSl, tNoPart, tPart, tLc_k, tFor_k, iList, iTup, iEnumT, iRng1, iRng2, iRng2L, iStr, L2.start, List.map, List.length_cons, List.length_nil, List.cons_append, List.nil_append, List.getElem?_cons_succ, List.getElem?_cons_zero, Option.some.injEq, V.int.injEq, V.bl.injEq, V.str.injEq, V.ref.injEq, exists_eq_left', exists_eq_left, and_assoc, exists_and_left, exists_eq, exists_eq', true_and, and_true, List.set_cons_zero, List.set_cons_succ, List.set, decide_eq_true_eq, Bool.not_eq_true', if_true, if_false, rIx, cx_K, nox_K, List.replicate_succ, List.replicate_zero, Nat.reduceSub, Bool.true_eq_false, Bool.false_eq_true, Nat.reduceAdd, List.cons.injEq, reduceCtorEq, false_and, false_or, or_false, tAug, rSetO, rJoin, tMakeL, rStrO, ClX.tCMeth, rPop, tLc2_k, iEnum, tPar3, iZipS, iZipS3, tListZip, rInDT, tBackS, tBackT, tSlSt, rUn]
  refine kNew.mk (by show 0 ≤ sizeLine; decide) fun fl H1 f1 => ?_
  have hl1 : SqL K H1 l (rowsV g) := Same.seq f1.same hl
  refine ⟨_, hl1, ?_⟩
  refine kFor.it walk_enum (fun i σ H' => ∃ (ts : List (Addr × Nat × Nat × Nat)) (v3 v4 v5 v6 : Option V), σ = [some (.ref l), some (.str (S [c])), some (.ref fl), v3, v4, v5, v6] ∧ Same H H' ∧ SqL K H' l (rowsV g) ∧ Trips H' fl ts ∧ ts.length ≤ 200 * i ∧ (∀ t ∈ ts, t.2.2.1 ≤ t.2.2.2 ∧ t.2.2.2 ≤ 200) ∧ (ts.map fun t => runCells t.2).flatten = cellsTo g c i)
    ⟨[], _, _, _, _, rfl, f1.same, hl1, ⟨f1.at_, fun t ht => by cases ht⟩, Nat.zero_le _, (fun t ht => by cases ht), rfl⟩ (fun i σ H' _ h => by obtain ⟨_, _, _, _, _, _, _, h, _⟩ := h; exact h) (fun i v σ H2 H3 hi hP hY => ?_) fun σ H2 hP => ?_
  · obtain ⟨ts, v3, v4, v5, v6, rfl, s2, hl2, tr, tl, tb, tf⟩ := hP
    obtain ⟨T0, x0, y0, rfl, nT, rfl, e1, e2⟩ := hY
    cases e1
    obtain ⟨row, hrow, rfl⟩ := rowsV_get e2
    have rwl := rl row (List.mem_of_getElem? hrow)
    have sT := same_new (o := .tup [V.int (i : Nat), .str (S row)]) nT
    have tT : upd H2 T0 (.tup [V.int (i : Nat), .str (S row)]) T0 = some (.tup [V.int (i : Nat), .str (S row)]) := upd_same
    have tr3 : Trips (upd H2 T0 (.tup [V.int (i : Nat), .str (S row)])) fl ts := ⟨sT _ _ tr.at_, fun t ht => sT _ _ (tr.all t ht)⟩
    have s3 := s2.trans sT
    clear tr hl2 s2 sT
    generalize upd H2 T0 (.tup [V.int (i : Nat), .str (S row)]) = H3 at *
    simp only [tSeq, tIfS, tTest, tB, tAnd, tOr, tNot, tAndV, tOrV, tNotV, tIf, tOp, tUn, tChain, rEq, rNe, rI0, rI, rU, tCallR, tCons, tNil, tC, tVar, tRet, tRetN, tTup_k, tLst_k, tCB, tNext, tAsg, gName, gTup, gCons, gNil, tDrop, tPar, tFld, ClX.tCVal, tPropR, rBin, rBinT, rNeOwn, rSetL_k, gSub, tMakeK_k, tMethR, rInO, tDNewK_k, tYes, wipe, tMakeR_k, tSMeth, tSMethK, rMulS, decide_true, tNever, sFld, rIsiT, and_false, rListOf, rTupOf, rLenSeq, rIxL, rIxT, rIxS, rCat_k, rRep_k, rSlL_k, rSlS, rNewStrs_k, rAppend_k, tBM, tBM0, tM0, tM1, tSl, tNoPart, tPart, tLc_k, tFor_k, iList, iTup, iEnumT, iRng1, iRng2, iRng2L, iStr, L2.start, List.map, List.length_cons, List.length_nil, List.cons_append, List.nil_append, List.getElem?_cons_succ, List.getElem?_cons_zero, Option.some.injEq, V.int.injEq, V.bl.injEq, V.str.injEq, V.ref.injEq, exists_eq_left', exists_eq_left, and_assoc, exists_and_left, exists_eq, exists_eq', true_and, and_true, List.set_cons_zero, List.set_cons_succ, List.set, decide_eq_true_eq, Bool.not_eq_true', if_true, if_false, rIx, cx_K, nox_K, List.replicate_succ, List.replicate_zero, Nat.reduceSub, Bool.true_eq_false, Bool.false_eq_true, Nat.reduceAdd, List.cons.injEq, reduceCtorEq, false_and, false_or, or_false, tAug, rSetO, rJoin, tMakeL, rStrO, ClX.tCMeth, rPop, tLc2_k, iEnum, tPar3, iZipS, iZipS3, tListZip, rInDT, tBackS, tBackT, tSlSt, rUn]
    refine ⟨_, .inl (.inl tT), rfl, _, _, rfl, _, _, rfl, rfl, rfl, _, rfl, ?_⟩
    rw [find_in0]
    have slH : H fl = none := f1.new
    rw [rowsV_len] at hi
    have gi : g[i]?.getD [] = row := by rw [hrow]; rfl
    refine ⟨fun m σ H' => ∃ (us : List (Addr × Nat × Nat × Nat)) (p : Nat) (v6 : Option V), m = row.length - p ∧ σ = [some (.ref l), some (.str (S [c])), some (.ref fl), some (.int (i : Nat)), some (.str (S row)), some (.int (Txt.findIn (S row) (S [c]) (p : Nat) (row.length : Nat))), v6] ∧ p ≤ row.length ∧ Same H H' ∧ Trips H' fl (ts ++ us) ∧ us.length ≤ p ∧
      (∀ t ∈ us, t.2.2.1 ≤ t.2.2.2 ∧ t.2.2.2 ≤ 200) ∧ (us.map fun t => runCells t.2).flatten = rowCells c row i 0 p,
      ⟨_, [], 0, _, rfl, rfl, Nat.zero_le _, s3, by rw [List.append_nil]; exact tr3, Nat.zero_le _, (fun t ht => by cases ht), rfl⟩, fun m σ H' hw => ?_⟩
    obtain ⟨us, p, v6, rfl, rfl, hp, sH, sd, ul, ub, uf⟩ := hw
    simp only [tSeq, tIfS, tTest, tB, tAnd, tOr, tNot, tAndV, tOrV, tNotV, tIf, tOp, tUn, tChain, rEq, rNe, rI0, rI, rU, tCallR, tCons, tNil, tC, tVar, tRet, tRetN, tTup_k, tLst_k, tCB, tNext, tAsg, gName, gTup, gCons, gNil, tDrop, tPar, tFld, ClX.tCVal, tPropR, rBin, rBinT, rNeOwn, rSetL_k, gSub, tMakeK_k, tMethR, rInO, tDNewK_k, tYes, wipe, tMakeR_k, tSMeth, tSMethK, rMulS, decide_true, tNever, sFld, rIsiT, and_false, rListOf, rTupOf, rLenSeq, rIxL, rIxT, rIxS, rCat_k, rRep_k, rSlL_k, rSlS, rNewStrs_k, rAppend_k, tBM, tBM0, tM0, tM1, tSl, tNoPart, tPart, tLc_k, tFor_k, iList, iTup, iEnumT, iRng1, iRng2, iRng2L, iStr, L2.start, List.map, List.length_cons, List.length_nil, List.cons_append, List.nil_append, List.getElem?_cons_succ, List.getElem?_cons_zero, Option.some.injEq, V.int.injEq, V.bl.injEq, V.str.injEq, V.ref.injEq, exists_eq_left', exists_eq_left, and_assoc, exists_and_left, exists_eq, exists_eq', true_and, and_true, List.set_cons_zero, List.set_cons_succ, List.set, decide_eq_true_eq, Bool.not_eq_true', if_true, if_false, rIx, cx_K, nox_K, List.replicate_succ, List.replicate_zero, Nat.reduceSub, Bool.true_eq_false, Bool.false_eq_true, Nat.reduceAdd, List.cons.injEq, reduceCtorEq, false_and, false_or, or_false, tAug, rSetO, rJoin, tMakeL, rStrO, ClX.tCMeth, rPop, tLc2_k, iEnum, tPar3, iZipS, iZipS3, tListZip, rInDT, tBackS, tBackT, tSlSt, rUn]
    rcases Rg.find_in row c p row.length (Nat.le_refl _) with ⟨ef, hno⟩ | ⟨x, ef, hpx, hxe, hxc, hfirst⟩
    · rw [ef, if_neg (by decide)]
      refine ⟨sH, Same.seq sH hl, ts ++ us, sd, by rw [List.length_append]; omega, fun t ht => (List.mem_append.mp ht).elim (tb t) (ub t), ?_⟩
      rw [List.map_append, List.flatten_append, tf, uf]
      show _ = cellsTo g c i ++ rowCells c (g[i]?.getD []) i 0 (g[i]?.getD []).length
      rw [gi, rowCells_split (lo := 0) (mid := p) (hi := row.length) (Nat.zero_le _) hp, rowCells_none (lo := p) hno, List.append_nil]
    · rw [ef, if_pos (by omega)]
      refine ⟨_, fun _ _ h => h, ?_⟩
      simp only [tSeq, tIfS, tTest, tB, tAnd, tOr, tNot, tAndV, tOrV, tNotV, tIf, tOp, tUn, tChain, rEq, rNe, rI0, rI, rU, tCallR, tCons, tNil, tC, tVar, tRet, tRetN, tTup_k, tLst_k, tCB, tNext, tAsg, gName, gTup, gCons, gNil, tDrop, tPar, tFld, ClX.tCVal, tPropR, rBin, rBinT, rNeOwn, rSetL_k, gSub, tMakeK_k, tMethR, rInO, tDNewK_k, tYes, wipe, tMakeR_k, tSMeth, tSMethK, rMulS, decide_true, tNever, sFld, rIsiT, and_false, rListOf, rTupOf, rLenSeq, rIxL, rIxT, rIxS, rCat_k, rRep_k, rSlL_k, rSlS, rNewStrs_k, rAppend_k, tBM, tBM0, tM0, tM1, tSl, tNoPart, tPart, tLc_k, tFor_k, iList, iTup, iEnumT, iRng1, iRng2, iRng2L, iStr, L2.start, List.map, List.length_cons, List.length_nil, List.cons_append, List.nil_append, List.getElem?_cons_succ, List.getElem?_cons_zero, Option.some.injEq, V.int.injEq, V.bl.injEq, V.str.injEq, V.ref.injEq, exists_eq_left', exists_eq_left, and_assoc, exists_and_left, exists_eq, exists_eq', true_and, and_true, List.set_cons_zero, List.set_cons_succ, List.set, decide_eq_true_eq, Bool.not_eq_true', if_true, if_false, rIx, cx_K, nox_K, List.replicate_succ, List.replicate_zero, Nat.reduceSub, Bool.true_eq_false, Bool.false_eq_true, Nat.reduceAdd, List.cons.injEq, reduceCtorEq, false_and, false_or, or_false, tAug, rSetO, rJoin, tMakeL, rStrO, ClX.tCMeth, rPop, tLc2_k, iEnum, tPar3, iZipS, iZipS3, tListZip, rInDT, tBackS, tBackT, tSlSt, rUn]
      have ld := Rg.lead_le c (row.drop x)
      rw [List.length_drop] at ld
      have l0 : 0 < Rg.lead c (row.drop x) := by
        refine Nat.pos_of_ne_zero fun z => Rg.lead_end c (row.drop x) ?_
        rw [z, List.getElem?_drop]
        exact hxc
      have run : ∀ j, x ≤ j → j < x + Rg.lead c (row.drop x) → row[j]? = some c := fun j h1 h2 => by
        have z := Rg.lead_at c (row.drop x) (j - x) (by omega)
        rw [List.getElem?_drop, show x + (j - x) = j from by omega] at z
        exact z
      refine ⟨row, x, c, rfl, hxc, rwl, ?_⟩
      simp only [tSeq, tIfS, tTest, tB, tAnd, tOr, tNot, tAndV, tOrV, tNotV, tIf, tOp, tUn, tChain, rEq, rNe, rI0, rI, rU, tCallR, tCons, tNil, tC, tVar, tRet, tRetN, tTup_k, tLst_k, tCB, tNext, tAsg, gName, gTup, gCons, gNil, tDrop, tPar, tFld, ClX.tCVal, tPropR, rBin, rBinT, rNeOwn, rSetL_k, gSub, tMakeK_k, tMethR, rInO, tDNewK_k, tYes, wipe, tMakeR_k, tSMeth, tSMethK, rMulS, decide_true, tNever, sFld, rIsiT, and_false, rListOf, rTupOf, rLenSeq, rIxL, rIxT, rIxS, rCat_k, rRep_k, rSlL_k, rSlS, rNewStrs_k, rAppend_k, tBM, tBM0, tM0, tM1, tSl, tNoPart, tPart, tLc_k, tFor_k, iList, iTup, iEnumT, iRng1, iRng2, iRng2L, iStr, L2.start, List.map, List.length_cons, List.length_nil, List.cons_append, List.nil_append, List.getElem?_cons_succ, List.getElem?_cons_zero, Option.some.injEq, V.int.injEq, V.bl.injEq, V.str.injEq, V.ref.injEq, exists_eq_left', exists_eq_left, and_assoc, exists_and_left, exists_eq, exists_eq', true_and, and_true, List.set_cons_zero, List.set_cons_succ, List.set, decide_eq_true_eq, Bool.not_eq_true', if_true, if_false, rIx, cx_K, nox_K, List.replicate_succ, List.replicate_zero, Nat.reduceSub, Bool.true_eq_false, Bool.false_eq_true, Nat.reduceAdd, List.cons.injEq, reduceCtorEq, false_and, false_or, or_false, tAug, rSetO, rJoin, tMakeL, rStrO, ClX.tCMeth, rPop, tLc2_k, iEnum, tPar3, iZipS, iZipS3, tListZip, rInDT, tBackS, tBackT, tSlSt, rUn]
      refine ⟨.inl ⟨rfl, _, SqL.of sd.at_⟩, kNew.mk (by show 3 ≤ sizeLine; decide) fun tt H4 f4 => ⟨_, f4.get sd.at_, ?_, kPut.mk fun H5 p5 => ?_⟩⟩
      · rw [List.length_map, List.length_append]
        exact Nat.lt_of_le_of_lt (show _ ≤ 200200 by omega) (by decide)
      have tn : tt ≠ fl := Ne.symm (f4.ne sd.at_)
      rw [find3_in]
      refine ⟨rfl, row.length - (x + Rg.lead c (row.drop x)), by omega, us ++ [(tt, i, x, x + Rg.lead c (row.drop x))], x + Rg.lead c (row.drop x), rfl, rfl, by omega, fun b o h => p5.get (fun z => by rw [z, slH] at h; cases h) (f4.get (sH b o h)), ⟨?_, fun t ht => ?_⟩, by rw [List.length_append, List.length_singleton]; omega, fun t ht => ?_, ?_⟩
      · rw [p5.at_, ← List.append_assoc, List.map_append (l₁ := ts ++ us)]
        rfl
      · rw [← List.append_assoc] at ht
        rcases List.mem_append.mp ht with ht | ht
        · have z := sd.all t ht
          exact p5.get (fun z2 => by rw [z2, sd.at_] at z; cases z) (f4.get z)
        · rw [List.mem_singleton.mp ht]
          exact p5.get tn f4.at_
      · rcases List.mem_append.mp ht with ht | ht
        · exact ub t ht
        · rw [List.mem_singleton.mp ht]
          exact ⟨by show x ≤ x + Rg.lead c (row.drop x); omega, by show x + Rg.lead c (row.drop x) ≤ 200; omega⟩
      · rw [List.map_append, List.flatten_append, uf, rowCells_split (lo := 0) (mid := p) (hi := x + Rg.lead c (row.drop x)) (Nat.zero_le _) (by omega), rowCells_split (lo := p) (mid := x) (hi := x + Rg.lead c (row.drop x)) hpx (by omega), rowCells_none (lo := p) (hi := x) hfirst, rowCells_all (lo := x) run]
        simp [runCells]
  · obtain ⟨ts, v3, v4, v5, v6, rfl, s2, hl2, tr, tl, tb, tf⟩ := hP
    simp only [tSeq, tIfS, tTest, tB, tAnd, tOr, tNot, tAndV, tOrV, tNotV, tIf, tOp, tUn, tChain, rEq, rNe, rI0, rI, rU, tCallR, tCons, tNil, tC, tVar, tRet, tRetN, tTup_k, tLst_k, tCB, tNext, tAsg, gName, gTup, gCons, gNil, tDrop, tPar, tFld, ClX.tCVal, tPropR, rBin, rBinT, rNeOwn, rSetL_k, gSub, tMakeK_k, tMethR, rInO, tDNewK_k, tYes, wipe, tMakeR_k, tSMeth, tSMethK, rMulS, decide_true, tNever, sFld, rIsiT, and_false, rListOf, rTupOf, rLenSeq, rIxL, rIxT, rIxS, rCat_k, rRep_k, rSlL_k, rSlS, rNewStrs_k, rAppend_k, tBM, tBM0, tM0, tM1, tSl, tNoPart, tPart, tLc_k, tFor_k, iList, iTup, iEnumT, iRng1, iRng2, iRng2L, iStr, L2.start, List.map, List.length_cons, List.length_nil, List.cons_append, List.nil_append, List.getElem?_cons_succ, List.getElem?_cons_zero, Option.some.injEq, V.int.injEq, V.bl.injEq, V.str.injEq, V.ref.injEq, exists_eq_left', exists_eq_left, and_assoc, exists_and_left, exists_eq, exists_eq', true_and, and_true, List.set_cons_zero, List.set_cons_succ, List.set, decide_eq_true_eq, Bool.not_eq_true', if_true, if_false, rIx, cx_K, nox_K, List.replicate_succ, List.replicate_zero, Nat.reduceSub, Bool.true_eq_false, Bool.false_eq_true, Nat.reduceAdd, List.cons.injEq, reduceCtorEq, false_and, false_or, or_false, tAug, rSetO, rJoin, tMakeL, rStrO, ClX.tCMeth, rPop, tLc2_k, iEnum, tPar3, iZipS, iZipS3, tListZip, rInDT, tBackS, tBackT, tSlSt, rUn]
    rw [rowsV_len] at tl tf
    exact k fl ts H2 s2 tr (by omega) tb tf
end
end Pf
end
section
namespace Pf
open PySem PySem.Spec PyProof.Rows L2 Ow StX
open SX (S)
/-- cells in a heap: a list of pairs -/
def CellsAt (H : Hp) (as : List Addr) (cs : List Rg.Cel) : Prop := as.length = cs.length ∧ ∀ (k : Nat) (b : Addr) (p : Rg.Cel), as[k]? = some b → cs[k]? = some p → H b = some (.tup [.int (p.1 : Nat), .int (p.2 : Nat)])
theorem CellsAt.nil {H : Hp} : CellsAt H [] [] := ⟨rfl, fun k b p h => by cases h⟩
theorem CellsAt.same {H H' : Hp} {as : List Addr} {cs : List Rg.Cel} (h : CellsAt H as cs) (s : Same H H') : CellsAt H' as cs := ⟨h.1, fun k b p e1 e2 => s _ _ (h.2 k b p e1 e2)⟩
theorem CellsAt.snoc {H : Hp} {as : List Addr} {cs : List Rg.Cel} {b : Addr} {p : Rg.Cel} (h : CellsAt H as cs) (hb : H b = some (.tup [.int (p.1 : Nat), .int (p.2 : Nat)])) : CellsAt H (as ++ [b]) (cs ++ [p]) :=
  ⟨by rw [List.length_append, List.length_append, h.1]; rfl, fun k d q e1 e2 => by
    by_cases hk : k < as.length
    · rw [List.getElem?_append_left hk] at e1
      rw [List.getElem?_append_left (by rw [← h.1]; exact hk)] at e2
      exact h.2 k d q e1 e2
    · rw [List.getElem?_append_right (by omega)] at e1
      rw [List.getElem?_append_right (by rw [← h.1]; omega), ← h.1] at e2
      have hz : k - as.length = 0 := by
        have := (List.getElem?_eq_some_iff.mp e1).1
        rw [List.length_singleton] at this
        omega
      rw [hz] at e1 e2
      cases e1
      cases e2
      exact hb⟩
theorem CellsAt.put {H H' : Hp} {D : Addr} {xs : List V} {as : List Addr} {cs : List Rg.Cel} (h : CellsAt H as cs) (hD : H D = some (.lst xs)) (f : ∀ b u, b ≠ D → H b = some u → H' b = some u) : CellsAt H' as cs :=
  ⟨h.1, fun k b p e1 e2 => f _ _ (fun z => by have q := h.2 k b p e1 e2; rw [z, hD] at q; cases q) (h.2 k b p e1 e2)⟩
theorem rowCells_le (c : Nat) (row : List Nat) (y : Nat) : (rowCells c row y 0 row.length).length ≤ row.length := by
  unfold rowCells
  rw [List.length_map]
  refine Nat.le_trans (List.length_filter_le ..) ?_
  rw [List.length_range']
  omega
theorem cellsTo_le {g : List (List Nat)} {c : Nat} (h : ∀ r ∈ g, r.length ≤ 200) : ∀ n, (cellsTo g c n).length ≤ 200 * n
  | 0 => Nat.le_refl _
  | n + 1 => by
    have h1 := cellsTo_le (c := c) h n
    have h2 := rowCells_le c (g[n]?.getD []) n
    have h3 : (g[n]?.getD []).length ≤ 200 := by
      cases e : g[n]? with
      | none => exact Nat.zero_le _
      | some r => exact h r (List.mem_of_getElem? e)
    show (cellsTo g c n ++ rowCells c (g[n]?.getD []) n 0 (g[n]?.getD []).length).length ≤ _
    rw [List.length_append]
    omega
def spRegPix (K : PySem.W.Frag) : Sp := fun vs H Q _ => ∃ (l : Addr) (w : Nat) (g : List (List Nat)) (x y : Nat), vs = [.ref l, .int (x : Nat), .int (y : Nat)] ∧ (SqL K H l (rowsV g) ∨ SqT K H l (rowsV g)) ∧ Good w g ∧ x < w ∧ y < g.length ∧
  ∀ (tt : Addr) (as : List Addr) (new : List (List Nat)) (c : Nat) (H' : Hp), Same H H' → H' tt = some (.tup (as.map V.ref)) → CellsAt H' as (cellsTo new 120 new.length) → Rg.cell g (x, y) = some c → Shape g new →
    (∀ p, (Rg.Conn g c (x, y) p → Rg.cell new p = some 120) ∧ (¬ Rg.Conn g c (x, y) p → Rg.cell new p = Rg.cell g p)) → Q (.ref tt) H'
section
variable {P : Program} {w : World} {K : PySem.W.Frag} {mg : Str → Option Value} {base : Heap} {a : Adr}
set_option maxHeartbeats 4000000
theorem ok_region_pixels (T : Txt K mg a) : FnR P w K mg base CX0 3 a.region_pixels (spRegPix K) := by
  have G_marked_region : FnR P w K mg base CX0 2 a.marked_region (spMarked K) := ok_marked T
  have G_runs : FnR P w K mg base CX0 2 a.runs (spRuns K) := ok_runs T
  refine T.d_region_pixels.ok sc_region_pixels (fun _ _ _ _ _ _ us hl => match us, hl with | [_, _, _], _ => rfl) (fun vs H Q E h => by obtain ⟨l, wd, g, x, y, rfl, _⟩ := h; rfl) (fun cdv A outer s H vs Q E hr h => ?_)
  obtain ⟨l, wd, g, x, y, rfl, hl, hg, hx, hy, k⟩ := h
  refine ⟨_, (pss_cons (ps_set (i := 3) sc_region_pixels.nd rfl (Or.inl rfl) (pe_callR G_marked_region (hr.mono (by decide)) T.m_marked_region T.k_marked_region pass0 (pa_cons (pv 0) (pa_cons (pv 1) (pa_cons (pv 2) pa_nil)))))
      (pss_one (ps_ret (pe_callTy call_tupleK (by rfl) T.n_tuple (by decide +kernel) (pa_cons (pe_lc2 (own := [("line", 4), ("begin", 5), ("end", 6), ("at", 7)]) (vs1 := [7]) (g := gTup K 3 (gCons (gName 4) (gCons (gName 5) (gCons (gName 6) gNil)))) (g1 := gName 7) (by rfl) sc_region_pixels.nd (pi_list (pe_callR G_runs (hr.mono (by decide)) T.m_runs T.k_runs pass0 (pa_cons (pv 3) (pa_cons (pe_glob (v := .str (Str.ofString "x")) rfl T.m_MARK ⟨_, rfl⟩) pa_nil)))) (blkOk_by (own := [("line", 4), ("begin", 5), ("end", 6), ("at", 7)]) (N := ["rows", "x", "y", "marked", "line", "begin", "end", "at"]) (sc := defScope s_region_pixels) (by decide +kernel)) (by simp) (fun _ _ _ _ _ => (pg_tup rfl (pgs_cons (pg_name (i := 4) sc_region_pixels.nd rfl (Or.inl rfl)) (pgs_cons (pg_name (i := 5) sc_region_pixels.nd rfl (Or.inl rfl)) (pgs_cons (pg_name (i := 6) sc_region_pixels.nd rfl (Or.inl rfl)) pgs_nil))))) (fun _ _ _ _ _ => pts_nil) (fun _ _ _ _ _ => (pi_range2 rfl T.n_range (pa_cons (pv 5) (pa_cons (pv 6) pa_nil)))) (fun _ _ _ _ _ => (pg_name (i := 7) sc_region_pixels.nd rfl (Or.inl rfl))) (fun _ _ _ _ _ => pts_nil) (fun _ _ _ _ _ => (pe_tup (pa_cons (pv 7) (pa_cons (pv 4) pa_nil))))) pa_nil))))), ?_⟩
  simp only [tSeq, tIfS, tTest, tB, tAnd, tOr, tNot, tAndV, tOrV, tNotV, tIf, tOp, tUn, tChain, rEq, rNe, rI0, rI, rU, tCallR, tCons, tNil, tC, tVar, tRet, tRetN, tTup_k, tLst_k, tCB, tNext, tAsg, gName, gTup, gCons, gNil, tDrop, tPar, tFld, ClX.tCVal, tPropR, rBin, rBinT, rNeOwn, rSetL_k, gSub, tMakeK_k, tMethR, rInO, tDNewK_k, tYes, wipe, tMakeR_k, tSMeth, tSMethK, rMulS, decide_true, tNever, sFld, rIsiT, and_false, rListOf, rTupOf, rLenSeq, rIxL, rIxT, rIxS, rCat_k, rRep_k, rSlL_k, rSlS, rNewStrs_k, rAppend_k, tBM, tBM0, tM0, tM1, tSl, tNoPart, tPart, tLc_k, tFor_k, iList, iTup, iEnumT, iRng1, iRng2, iRng2L, iStr, L2.start, List.map, List.length_cons, List.length_nil, List.cons_append, List.nil_append, List.getElem?_cons_succ, List.getElem?_cons_zero, Option.some.injEq, V.int.injEq, V.bl.injEq, V.str.injEq, V.ref.injEq, exists_eq_left', exists_eq_left, and_assoc, exists_and_left, exists_eq, exists_eq', true_and, and_true, List.set_cons_zero, List.set_cons_succ, List.set, decide_eq_true_eq, Bool.not_eq_true', if_true, if_false, rIx, cx_K, nox_K, List.replicate_succ, List.replicate_zero, Nat.reduceSub, Bool.true_eq_false, Bool.false_eq_true, Nat.reduceAdd, List.cons.injEq, reduceCtorEq, false_and, false_or, or_false, tAug, rSetO, rJoin, tMakeL, rStrO, ClX.tCMeth, rPop, tLc2_k, iEnum, tPar3, iZipS, iZipS3, tListZip, rInDT, tBackS, tBackT, tSlSt, rUn]
  refine ⟨l, wd, g, x, y, rfl, hl, hg, hx, hy, fun n new c H1 s1 hn nn cl0 shp mk => ?_⟩
  have w1 := hg.w1
  have gl := hg.l1
  have nrl : ∀ r ∈ new, r.length ≤ 200 := fun r hr => by
    obtain ⟨j, hj⟩ := List.getElem?_of_mem hr
    have jl := (List.getElem?_eq_some_iff.mp hj).1
    obtain ⟨rg, hrg⟩ : ∃ r, g[j]? = some r := ⟨_, List.getElem?_eq_getElem (by rw [← shp.1]; exact jl)⟩
    have := shp.2 j rg r hrg hj
    have := (hg.row rg (List.mem_of_getElem? hrg)).1
    omega
  have ex : Str.ofString "x" = S [120] := by decide +kernel
  rw [ex]
  refine ⟨n, new, 120, rfl, SqL.of hn, by rw [shp.1]; exact gl, nrl, fun fl ts H2 s2 tr tl tb tf => ?_⟩
  simp only [tSeq, tIfS, tTest, tB, tAnd, tOr, tNot, tAndV, tOrV, tNotV, tIf, tOp, tUn, tChain, rEq, rNe, rI0, rI, rU, tCallR, tCons, tNil, tC, tVar, tRet, tRetN, tTup_k, tLst_k, tCB, tNext, tAsg, gName, gTup, gCons, gNil, tDrop, tPar, tFld, ClX.tCVal, tPropR, rBin, rBinT, rNeOwn, rSetL_k, gSub, tMakeK_k, tMethR, rInO, tDNewK_k, tYes, wipe, tMakeR_k, tSMeth, tSMethK, rMulS, decide_true, tNever, sFld, rIsiT, and_false, rListOf, rTupOf, rLenSeq, rIxL, rIxT, rIxS, rCat_k, rRep_k, rSlL_k, rSlS, rNewStrs_k, rAppend_k, tBM, tBM0, tM0, tM1, tSl, tNoPart, tPart, tLc_k, tFor_k, iList, iTup, iEnumT, iRng1, iRng2, iRng2L, iStr, L2.start, List.map, List.length_cons, List.length_nil, List.cons_append, List.nil_append, List.getElem?_cons_succ, List.getElem?_cons_zero, Option.some.injEq, V.int.injEq, V.bl.injEq, V.str.injEq, V.ref.injEq, exists_eq_left', exists_eq_left, and_assoc, exists_and_left, exists_eq, exists_eq', true_and, and_true, List.set_cons_zero, List.set_cons_succ, List.set, decide_eq_true_eq, Bool.not_eq_true', if_true, if_false, rIx, cx_K, nox_K, List.replicate_succ, List.replicate_zero, Nat.reduceSub, Bool.true_eq_false, Bool.false_eq_true, Nat.reduceAdd, List.cons.injEq, reduceCtorEq, false_and, false_or, or_false, tAug, rSetO, rJoin, tMakeL, rStrO, ClX.tCMeth, rPop, tLc2_k, iEnum, tPar3, iZipS, iZipS3, tListZip, rInDT, tBackS, tBackT, tSlSt, rUn]
  have flen : ∀ i, ((ts.take i).map fun t => runCells t.2).flatten.length ≤ 40000 := fun i => by
    have h1 := cellsTo_le (c := 120) nrl new.length
    have h2 := congrArg (fun l => (List.map (fun t => runCells t.2) l).flatten.length) (List.take_append_drop i ts)
    simp only [List.map_append, List.flatten_append, List.length_append] at h2
    rw [tf] at h2
    have h3 := shp.1
    omega
  refine ⟨⟨_, SqL.of tr.at_⟩, ?_⟩
  refine kLc2.it walk_list (fun D i H' => Same H2 H' ∧ H2 D = none ∧ ∃ as : List Addr, H' D = some (.lst (as.map V.ref)) ∧ CellsAt H' as ((ts.take i).map fun t => runCells t.2).flatten) (fun D H' f => ⟨f.same, f.new, [], f.at_, CellsAt.nil⟩) (fun D i H' h => SqL.of (h.1 _ _ tr.at_)) (fun D i v H3 H4 hi hI hY => ?_) fun D H3 hI => ?_
  · obtain ⟨s3, nD, as, hD, ca⟩ := hI
    obtain ⟨rfl, hv⟩ := hY
    rw [List.length_map] at hi
    obtain ⟨t, ht⟩ : ∃ t, ts[i]? = some t := ⟨_, List.getElem?_eq_getElem hi⟩
    rw [List.getElem?_map, ht] at hv
    cases hv
    have hm := List.mem_of_getElem? ht
    have t3 := s3 _ _ (tr.all t hm)
    obtain ⟨b1, b2⟩ := tb t hm
    simp only [tSeq, tIfS, tTest, tB, tAnd, tOr, tNot, tAndV, tOrV, tNotV, tIf, tOp, tUn, tChain, rEq, rNe, rI0, rI, rU, tCallR, tCons, tNil, tC, tVar, tRet, tRetN, tTup_k, tLst_k, tCB, tNext, tAsg, gName, gTup, gCons, gNil, tDrop, tPar, tFld, ClX.tCVal, tPropR, rBin, rBinT, rNeOwn, rSetL_k, gSub, tMakeK_k, tMethR, rInO, tDNewK_k, tYes, wipe, tMakeR_k, tSMeth, tSMethK, rMulS, decide_true, tNever, sFld, rIsiT, and_false, rListOf, rTupOf, rLenSeq, rIxL, rIxT, rIxS, rCat_k, rRep_k, rSlL_k, rSlS, rNewStrs_k, rAppend_k, tBM, tBM0, tM0, tM1, tSl, tNoPart, tPart, tLc_k, tFor_k, iList, iTup, iEnumT, iRng1, iRng2, iRng2L, iStr, L2.start, List.map, List.length_cons, List.length_nil, List.cons_append, List.nil_append, List.getElem?_cons_succ, List.getElem?_cons_zero, Option.some.injEq, V.int.injEq, V.bl.injEq, V.str.injEq, V.ref.injEq, exists_eq_left', exists_eq_left, and_assoc, exists_and_left, exists_eq, exists_eq', true_and, and_true, List.set_cons_zero, List.set_cons_succ, List.set, decide_eq_true_eq, Bool.not_eq_true', if_true, if_false, rIx, cx_K, nox_K, List.replicate_succ, List.replicate_zero, Nat.reduceSub, Bool.true_eq_false, Bool.false_eq_true, Nat.reduceAdd, List.cons.injEq, reduceCtorEq, false_and, false_or, or_false, tAug, rSetO, rJoin, tMakeL, rStrO, ClX.tCMeth, rPop, tLc2_k, iEnum, tPar3, iZipS, iZipS3, tListZip, rInDT, tBackS, tBackT, tSlSt, rUn]
    refine ⟨_, .inl (.inl t3), rfl, _, _, rfl, _, _, rfl, _, _, rfl, rfl, ?_⟩
    refine ⟨_, rfl, _, rfl, by omega, by omega, by omega, by omega, ?_⟩
    have fl1 := flen (i + 1)
    have tk : ts.take (i + 1) = ts.take i ++ [t] := by rw [List.take_add_one, ht]; rfl
    have fe : ((ts.take (i + 1)).map fun t => runCells t.2).flatten = ((ts.take i).map fun t => runCells t.2).flatten ++ runCells t.2 := by rw [tk, List.map_append, List.flatten_append]; simp
    rw [fe] at fl1
    have rn : (runCells t.2).length = t.2.2.2 - t.2.2.1 := by unfold runCells; rw [List.length_map, List.length_range']
    have nn2 : (((t.2.2.2 : Nat) : Int) - ((t.2.2.1 : Nat) : Int)).toNat = t.2.2.2 - t.2.2.1 := by omega
    rw [nn2]
    rw [List.length_append, rn] at fl1
    refine kIn.it walk_range (fun j H' => Same H2 H' ∧ ∃ as : List Addr, H' D = some (.lst (as.map V.ref)) ∧ CellsAt H' as (((ts.take i).map fun t => runCells t.2).flatten ++ (runCells t.2).take j)) ⟨s3, as, hD, by rw [List.take_zero, List.append_nil]; exact ca⟩ (fun _ _ _ => trivial) (fun j v HA HB hj hI hY => ?_) fun HA hI => ?_
    · obtain ⟨sA, as2, hA, ca2⟩ := hI
      obtain ⟨rfl, rfl⟩ := hY
      simp only [tSeq, tIfS, tTest, tB, tAnd, tOr, tNot, tAndV, tOrV, tNotV, tIf, tOp, tUn, tChain, rEq, rNe, rI0, rI, rU, tCallR, tCons, tNil, tC, tVar, tRet, tRetN, tTup_k, tLst_k, tCB, tNext, tAsg, gName, gTup, gCons, gNil, tDrop, tPar, tFld, ClX.tCVal, tPropR, rBin, rBinT, rNeOwn, rSetL_k, gSub, tMakeK_k, tMethR, rInO, tDNewK_k, tYes, wipe, tMakeR_k, tSMeth, tSMethK, rMulS, decide_true, tNever, sFld, rIsiT, and_false, rListOf, rTupOf, rLenSeq, rIxL, rIxT, rIxS, rCat_k, rRep_k, rSlL_k, rSlS, rNewStrs_k, rAppend_k, tBM, tBM0, tM0, tM1, tSl, tNoPart, tPart, tLc_k, tFor_k, iList, iTup, iEnumT, iRng1, iRng2, iRng2L, iStr, L2.start, List.map, List.length_cons, List.length_nil, List.cons_append, List.nil_append, List.getElem?_cons_succ, List.getElem?_cons_zero, Option.some.injEq, V.int.injEq, V.bl.injEq, V.str.injEq, V.ref.injEq, exists_eq_left', exists_eq_left, and_assoc, exists_and_left, exists_eq, exists_eq', true_and, and_true, List.set_cons_zero, List.set_cons_succ, List.set, decide_eq_true_eq, Bool.not_eq_true', if_true, if_false, rIx, cx_K, nox_K, List.replicate_succ, List.replicate_zero, Nat.reduceSub, Bool.true_eq_false, Bool.false_eq_true, Nat.reduceAdd, List.cons.injEq, reduceCtorEq, false_and, false_or, or_false, tAug, rSetO, rJoin, tMakeL, rStrO, ClX.tCMeth, rPop, tLc2_k, iEnum, tPar3, iZipS, iZipS3, tListZip, rInDT, tBackS, tBackT, tSlSt, rUn]
      refine kNew.mk (by show 2 ≤ sizeLine; decide) fun tt HC fC => ⟨_, fC.get hA, ?_, ?_⟩
      · rw [List.length_map, ca2.1, List.length_append, List.length_take]
        exact Nat.lt_of_le_of_lt (show _ ≤ 40000 by omega) (by decide)
      · have tD : tt ≠ D := Ne.symm (fC.ne hA)
        have e1 : (runCells t.2)[j]? = some (t.2.2.1 + j, t.2.1) := by
          unfold runCells
          rw [List.getElem?_map, List.getElem?_range' (by omega)]
          simp
        have e2 : (runCells t.2).take (j + 1) = (runCells t.2).take j ++ [(t.2.2.1 + j, t.2.1)] := by rw [List.take_add_one, e1]; rfl
        refine ⟨fun b o e => ?_, as2 ++ [tt], by rw [upd_same, List.map_append]; rfl, ?_⟩
        · rw [upd_ne (ne_of_none e nD)]
          exact fC.get (sA _ _ e)
        · rw [e2, ← List.append_assoc]
          refine CellsAt.snoc ((ca2.same fC.same).put (fC.get hA) fun b u hb e => by rw [upd_ne hb]; exact e) ?_
          rw [upd_ne tD, fC.at_]
          simp
    · obtain ⟨sA, as2, hA, ca2⟩ := hI
      rw [← rn, List.take_length, ← fe] at ca2
      exact ⟨sA, nD, as2, hA, ca2⟩
  · obtain ⟨s3, nD, as, hD, ca⟩ := hI
    rw [List.length_map, List.take_length, tf] at ca
    refine ⟨D, rfl, _, .inl ⟨SqL.of hD, kN.mk fun tt H4 f4 => ?_⟩⟩
    exact k tt as new c H4 (((s1.trans s2).trans s3).trans f4.same) f4.at_ (ca.same f4.same) cl0 shp mk
end
end Pf
end
section
namespace Pf
open PySem PySem.Spec PyProof.Rows L2 Ow StX
open SX (S)
open Classical in
/-- what hangs together with s, in the row n as far as w -/
noncomputable def regRow (g : List (List Nat)) (c : Nat) (s : Rg.Cel) (n w : Nat) : List Rg.Cel := ((List.range' 0 w).filter fun i => decide (Rg.Conn g c s (i, n))).map fun i => (i, n)
theorem regRow_pos {g : List (List Nat)} {c : Nat} {s : Rg.Cel} {n j : Nat} (h : Rg.Conn g c s (j, n)) : regRow g c s n (j + 1) = regRow g c s n j ++ [(j, n)] := by
  unfold regRow
  rw [List.range'_concat, List.filter_append, List.map_append]
  simp [h]
theorem regRow_neg {g : List (List Nat)} {c : Nat} {s : Rg.Cel} {n j : Nat} (h : ¬ Rg.Conn g c s (j, n)) : regRow g c s n (j + 1) = regRow g c s n j := by
  unfold regRow
  rw [List.range'_concat, List.filter_append, List.map_append]
  simp [h]
/-- what hangs together with s, row by row -/
noncomputable def regL (g : List (List Nat)) (w c : Nat) (s : Rg.Cel) : Nat → List Rg.Cel
  | 0 => []
  | n + 1 => regL g w c s n ++ regRow g c s n w
theorem cells_reg {g new : List (List Nat)} {w c : Nat} {s : Rg.Cel} (hg : Good w g) (shp : Shape g new) (mk : ∀ p, (Rg.Conn g c s p → Rg.cell new p = some 120) ∧ (¬ Rg.Conn g c s p → Rg.cell new p = Rg.cell g p)) : ∀ n, n ≤ g.length → cellsTo new 120 n = regL g w c s n
  | 0, _ => rfl
  | n + 1, h => by
    have ih := cells_reg hg shp mk n (by omega)
    obtain ⟨rg, hrg⟩ : ∃ r, g[n]? = some r := ⟨_, List.getElem?_eq_getElem (by omega)⟩
    obtain ⟨rn, hrn⟩ : ∃ r, new[n]? = some r := ⟨_, List.getElem?_eq_getElem (by rw [shp.1]; omega)⟩
    have l1 := shp.2 n rg rn hrg hrn
    have l2 := (hg.row rg (List.mem_of_getElem? hrg)).1
    show cellsTo new 120 n ++ rowCells 120 (new[n]?.getD []) n 0 (new[n]?.getD []).length = regL g w c s n ++ _
    rw [ih, hrn]
    congr 1
    unfold rowCells regRow
    rw [show (some rn).getD [] = rn from rfl, l1, l2, Nat.sub_zero]
    congr 1
    refine List.filter_congr fun i hi => ?_
    have e : Rg.cell new (i, n) = rn[i]? := by
      show (new[n]?).bind _ = _
      rw [hrn]
      rfl
    rw [← e]
    refine decide_eq_decide.mpr ⟨fun z => ?_, fun z => (mk (i, n)).1 z⟩
    by_cases hc : Rg.Conn g c s (i, n)
    · exact hc
    · rw [(mk (i, n)).2 hc] at z
      exact absurd z (digL_mark hg (i, n))
def spRegion (K : PySem.W.Frag) (C : Addr) : Sp := fun vs H Q _ => ∃ (p : Addr) (w : Nat) (g : List (List Nat)) (x y : Nat), vs = [.ref p, .int (x : Nat), .int (y : Nat)] ∧ Pic H C p g ∧ Good w g ∧ x < w ∧ y < g.length ∧
  ∀ (tt : Addr) (as : List Addr) (c : Nat) (H' : Hp), Same H H' → H' tt = some (.tup (as.map V.ref)) → Rg.cell g (x, y) = some c → CellsAt H' as (regL g w c (x, y) g.length) → Q (.ref tt) H'
section
variable {P : Program} {w : World} {K : PySem.W.Frag} {mg : Str → Option Value} {base : Heap} {a : Adr}
set_option maxHeartbeats 4000000
theorem region_body (T : Txt K mg a) {fd : FuncData} (F : FunD K "region" "Picture.region" (defArgs s_Picture_region) (defBody s_Picture_region) (defScope s_Picture_region) [] [] a.Picture_region fd) : FnOk P w K mg base CX0 5 a.Picture_region fd ["self", "x", "y"] (spRegion K a.Picture) := by
  have G_check_pixel : FnR P w K mg base CX0 4 a.check_pixel (spChPix K) := ok_check_pixel T
  have G_region_pixels : FnR P w K mg base CX0 3 a.region_pixels (spRegPix K) := ok_region_pixels T
  refine F.ok sc_Picture_region (fun vs H Q E h => by obtain ⟨p, wd, g, x, y, rfl, _⟩ := h; rfl) (fun cdv A outer s H vs Q E hr h => ?_)
  obtain ⟨p, wd, g, x, y, rfl, ⟨dx, t, hp, ht⟩, hg, hx, hy, k⟩ := h
  refine ⟨_, (pss_cons (ps_expr (pe_callR G_check_pixel (hr.mono (by decide)) T.m_check_pixel T.k_check_pixel pass0 (pa_cons (pe_fld (pv 0) rfl) (pa_cons (pv 1) (pa_cons (pv 2) pa_nil)))))
      (pss_one (ps_ret (pe_callR G_region_pixels (hr.mono (by decide)) T.m_region_pixels T.k_region_pixels pass0 (pa_cons (pe_fld (pv 0) rfl) (pa_cons (pv 1) (pa_cons (pv 2) pa_nil))))))), ?_⟩
  simp only [tSeq, tIfS, tTest, tB, tAnd, tOr, tNot, tAndV, tOrV, tNotV, tIf, tOp, tUn, tChain, rEq, rNe, rI0, rI, rU, tCallR, tCons, tNil, tC, tVar, tRet, tRetN, tTup_k, tLst_k, tCB, tNext, tAsg, gName, gTup, gCons, gNil, tDrop, tPar, tFld, ClX.tCVal, tPropR, rBin, rBinT, rNeOwn, rSetL_k, gSub, tMakeK_k, tMethR, rInO, tDNewK_k, tYes, wipe, tMakeR_k, tSMeth, tSMethK, rMulS, decide_true, tNever, sFld, rIsiT, and_false, rListOf, rTupOf, rLenSeq, rIxL, rIxT, rIxS, rCat_k, rRep_k, rSlL_k, rSlS, rNewStrs_k, rAppend_k, tBM, tBM0, tM0, tM1, tSl, tNoPart, tPart, tLc_k, tFor_k, iList, iTup, iEnumT, iRng1, iRng2, iRng2L, iStr, L2.start, List.map, List.length_cons, List.length_nil, List.cons_append, List.nil_append, List.getElem?_cons_succ, List.getElem?_cons_zero, Option.some.injEq, V.int.injEq, V.bl.injEq, V.str.injEq, V.ref.injEq, exists_eq_left', exists_eq_left, and_assoc, exists_and_left, exists_eq, exists_eq', true_and, and_true, List.set_cons_zero, List.set_cons_succ, List.set, decide_eq_true_eq, Bool.not_eq_true', if_true, if_false, rIx, cx_K, nox_K, List.replicate_succ, List.replicate_zero, Nat.reduceSub, Bool.true_eq_false, Bool.false_eq_true, Nat.reduceAdd, List.cons.injEq, reduceCtorEq, false_and, false_or, or_false, tAug, rSetO, rJoin, tMakeL, rStrO, ClX.tCMeth, rPop, tLc2_k, iEnum, tPar3, iZipS, iZipS3, tListZip, rInDT, tBackS, tBackT, tSlSt, rUn]
  refine ⟨_, dx, _, hp, T.c_Picture.cl, T.a_Picture__rows, _, rfl, t, wd, g, x, y, rfl, .inl (.inl ht), hg, by omega, by omega, by omega, by omega, _, dx, _, hp, T.c_Picture.cl, T.a_Picture__rows, _, rfl, ?_⟩
  refine ⟨t, wd, g, x, y, rfl, .inr (.inl (.inl ht)), hg, hx, hy, fun tt as new c H1 s1 h1 ca cl0 shp mk => ?_⟩
  rw [cells_reg hg shp mk new.length (by rw [shp.1]; exact Nat.le_refl _), shp.1] at ca
  exact k tt as c H1 s1 h1 cl0 ca
theorem ok_region (T : Txt K mg a) : FnR P w K mg base CX0 5 a.Picture_region (spRegion K a.Picture) := by
  obtain ⟨fd, F⟩ := id T.d_Picture_region
  exact ((region_body T F).raw (F.bindsN (fun _ _ _ _ _ _ us hl => match us, hl with | [_, _, _], _ => rfl)) .nil).imp fun vs H Q E h => by rw [List.append_nil]; exact h
theorem ok_regionF (T : Txt K mg a) : ∃ fd, FnOk P w K mg base CX0 5 a.Picture_region fd ["self", "x", "y"] (spRegion K a.Picture) ∧ KBn K fd ["self", "x", "y"] 1 ["y", "x"] (fun us ws => us ++ ws.reverse) (fun vs zs => vs ++ zs.reverse) := by
  obtain ⟨fd, F⟩ := id T.d_Picture_region
  exact ⟨fd, region_body T F, kbn0 F (fun r1 r2 => r1.append (vals_rev r2)) (fun kV doc pm an cdv ct us ws hu hw => match us, ws, hu, hw with | [_], [_, _], _, _ => rfl)⟩
end
end Pf
end
section
namespace Pf
open PySem PySem.Spec PyProof.Rows L2 Ow StX
open SX (S)
theorem count_skip (l : List Nat) (c : Nat) : ∀ (m a d : Nat), d = a + m → (∀ k, a ≤ k → k < d → l[k]? ≠ some c) → (l.drop a).count c = (l.drop d).count c
  | 0, a, d, e, _ => by rw [e]; rfl
  | m + 1, a, d, e, h => by
    rw [← count_skip l c m (a + 1) d (by omega) fun k h1 h2 => h k (by omega) h2]
    by_cases hl : a < l.length
    · rw [List.drop_eq_getElem_cons hl, List.count_cons_of_ne]
      intro z
      exact h a (Nat.le_refl _) (by omega) (by rw [List.getElem?_eq_getElem hl, z])
    · rw [List.drop_eq_nil_of_le (by omega), List.drop_eq_nil_of_le (by omega)]
theorem count_chain (x : Str) (c : Nat) : ∀ (cuts : List Nat) (a f : Nat), StrLaws.ChainG x ⟨#[c]⟩ x.length a cuts f → (∀ k, f ≤ k → ¬ StrLaws.At x ⟨#[c]⟩ x.length k) → cuts.length = (x.cps.toList.drop a).count c
  | [], a, f, h, hn => by
    have e : f = a := h
    subst e
    by_cases q : f ≤ x.cps.toList.length
    · rw [count_skip x.cps.toList c (x.cps.toList.length - f) f x.cps.toList.length (by omega) (fun k h1 _ z => hn k h1 ((StrLaws.subAt_one x c k).mpr z)), List.drop_length]
      rfl
    · rw [List.drop_eq_nil_of_le (by omega)]
      rfl
  | d :: r, a, f, ⟨h1, h2, h3, h4⟩, hn => by
    have hd := (StrLaws.subAt_one x c d).mp h2
    obtain ⟨hl, hc⟩ := List.getElem?_eq_some_iff.mp hd
    rw [count_skip x.cps.toList c (d - a) a d (by omega) (fun k q1 q2 z => h3 k q1 q2 ((StrLaws.subAt_one x c k).mpr z)), List.drop_eq_getElem_cons hl, hc, List.count_cons_self, List.length_cons]
    have := count_chain x c r (d + 1) f h4 hn
    rw [this]
theorem count_one (r : List Nat) (c : Nat) : Txt.count (S r) (S [c]) = (r.count c : Nat) := by
  obtain ⟨f, h1, h2⟩ := StrLaws.occ_tight (S r) (S [c]) (by rw [SX.S_len]; exact Nat.le_refl 1)
  show (((Builtin.Str.occurrences (S r) (S [c]) 0 (S r).length ((S r).length + 1)).length : Nat) : Int) = _
  rw [count_chain (S r) c _ 0 f h1 h2, List.drop_zero]
section
variable {P : Program} {w : World} {K : PySem.W.Frag} {mg : Str → Option Value} {base : Heap} {a : Adr}
set_option maxHeartbeats 4000000
theorem ok_parea (T : Txt K mg a) : FnR P w K mg base CX0 5 a.Picture_area (spPArea a.Picture) := by
  have G_check_colour : FnR P w K mg base CX0 4 a.check_colour spChCol := ok_check_colour T
  refine T.d_Picture_area.ok sc_Picture_area (fun _ _ _ _ _ _ us hl => match us, hl with | [_, _], _ => rfl) (fun vs H Q E h => by obtain ⟨p, rs, w, i, rfl, _⟩ := h; rfl) (fun cdv A outer s H vs Q E hr h => ?_)
  obtain ⟨p, rs, wd, i, rfl, ⟨dx, tr, hp, htr⟩, g, i0, i1, k⟩ := h
  obtain ⟨e1, e2⟩ := dig_S i0 i1
  refine ⟨_, (pss_cons (ps_expr (pe_callR G_check_colour (hr.mono (by decide)) T.m_check_colour T.k_check_colour pass0 (pa_cons (pv 1) pa_nil)))
      (pss_one (ps_ret (pe_callB (cr_sum rfl) (by rfl) T.n_sum (by decide +kernel) (pa_cons (pe_lc (own := [("row", 2)]) (g := gName 2) (by rfl) sc_Picture_area.nd (pi_tup (pe_fld (pv 0) rfl)) (blkOk_by (own := [("row", 2)]) (N := ["self", "colour", "row"]) (sc := defScope s_Picture_area) (by decide +kernel)) (fun _ _ _ _ _ => (pg_name (i := 2) sc_Picture_area.nd rfl (Or.inl rfl))) (fun _ _ _ _ _ => pts_nil) (fun _ _ _ _ _ => (pe_m1 PySem.F.slot_str_count PySem.F.type_str_count mt_count (pv 2) (pe_callTy call_str_int (by rfl) T.n_str (by decide +kernel) (pa_cons (pv 1) pa_nil))))) pa_nil))))), ?_⟩
  simp only [tSeq, tIfS, tTest, tB, tAnd, tOr, tNot, tAndV, tOrV, tNotV, tIf, tOp, tUn, tChain, rEq, rNe, rI0, rI, rU, tCallR, tCons, tNil, tC, tVar, tRet, tRetN, tTup_k, tLst_k, tCB, tNext, tAsg, gName, gTup, gCons, gNil, tDrop, tPar, tFld, ClX.tCVal, tPropR, rBin, rBinT, rNeOwn, rSetL_k, gSub, tMakeK_k, tMethR, rInO, tDNewK_k, tYes, wipe, tMakeR_k, tSMeth, tSMethK, rMulS, decide_true, tNever, sFld, rIsiT, and_false, rListOf, rTupOf, rLenSeq, rIxL, rIxT, rIxS, rCat_k, rRep_k, rSlL_k, rSlS, rNewStrs_k, rAppend_k, tBM, tBM0, tM0, tM1, tSl, tNoPart, tPart, tLc_k, tFor_k, iList, iTup, iEnumT, iRng1, iRng2, iRng2L, iStr, L2.start, List.map, List.length_cons, List.length_nil, List.cons_append, List.nil_append, List.getElem?_cons_succ, List.getElem?_cons_zero, Option.some.injEq, V.int.injEq, V.bl.injEq, V.str.injEq, V.ref.injEq, exists_eq_left', exists_eq_left, and_assoc, exists_and_left, exists_eq, exists_eq', true_and, and_true, List.set_cons_zero, List.set_cons_succ, List.set, decide_eq_true_eq, Bool.not_eq_true', if_true, if_false, rIx, cx_K, nox_K, List.replicate_succ, List.replicate_zero, Nat.reduceSub, Bool.true_eq_false, Bool.false_eq_true, Nat.reduceAdd, List.cons.injEq, reduceCtorEq, false_and, false_or, or_false, tAug, rSetO, rJoin, tMakeL, rStrO, ClX.tCMeth, rPop, tLc2_k, iEnum, tPar3, iZipS, iZipS3, tListZip, rInDT, tBackS, tBackT, tSlSt, rUn]
  refine ⟨_, rfl, i0, i1, _, dx, _, hp, T.c_Picture.cl, T.a_Picture__rows, _, rfl, tr, rfl, ⟨_, .inl (.inl htr)⟩, ?_⟩
  refine kLc.map walk_tup (rs.map fun r => V.int ((r.count (48 + i.toNat) : Nat) : Int)) (by rw [List.length_map, rowsV_len]) (fun H' s1 => Same.tup s1 (.inl (.inl htr))) (fun D j x H1 H2 hj c hY => ?_) fun D H1 f1 => ?_
  · obtain ⟨rfl, hx⟩ := hY
    obtain ⟨r, hr', rfl⟩ := rowsV_get hx
    simp only [tSeq, tIfS, tTest, tB, tAnd, tOr, tNot, tAndV, tOrV, tNotV, tIf, tOp, tUn, tChain, rEq, rNe, rI0, rI, rU, tCallR, tCons, tNil, tC, tVar, tRet, tRetN, tTup_k, tLst_k, tCB, tNext, tAsg, gName, gTup, gCons, gNil, tDrop, tPar, tFld, ClX.tCVal, tPropR, rBin, rBinT, rNeOwn, rSetL_k, gSub, tMakeK_k, tMethR, rInO, tDNewK_k, tYes, wipe, tMakeR_k, tSMeth, tSMethK, rMulS, decide_true, tNever, sFld, rIsiT, and_false, rListOf, rTupOf, rLenSeq, rIxL, rIxT, rIxS, rCat_k, rRep_k, rSlL_k, rSlS, rNewStrs_k, rAppend_k, tBM, tBM0, tM0, tM1, tSl, tNoPart, tPart, tLc_k, tFor_k, iList, iTup, iEnumT, iRng1, iRng2, iRng2L, iStr, L2.start, List.map, List.length_cons, List.length_nil, List.cons_append, List.nil_append, List.getElem?_cons_succ, List.getElem?_cons_zero, Option.some.injEq, V.int.injEq, V.bl.injEq, V.str.injEq, V.ref.injEq, exists_eq_left', exists_eq_left, and_assoc, exists_and_left, exists_eq, exists_eq', true_and, and_true, List.set_cons_zero, List.set_cons_succ, List.set, decide_eq_true_eq, Bool.not_eq_true', if_true, if_false, rIx, cx_K, nox_K, List.replicate_succ, List.replicate_zero, Nat.reduceSub, Bool.true_eq_false, Bool.false_eq_true, Nat.reduceAdd, List.cons.injEq, reduceCtorEq, false_and, false_or, or_false, tAug, rSetO, rJoin, tMakeL, rStrO, ClX.tCMeth, rPop, tLc2_k, iEnum, tPar3, iZipS, iZipS3, tListZip, rInDT, tBackS, tBackT, tSlSt, rUn]
    rw [e1, count_one]
    exact ⟨e2, kApp.at c (Same.refl _) (by rw [List.length_map]; exact size200 g.l1) (by simp [hr'])⟩
  · refine ⟨D, rs.map fun r => ((r.count (48 + i.toNat) : Nat) : Int), rfl, SqL.of (by rw [f1.at_, List.map_map]; rfl), ?_⟩
    exact k H1 f1.same
end
/-! ### flipped pictures -/
def flA (g : List (List Nat)) : List (List Nat) := g.map List.reverse
def flD (g : List (List Nat)) : List (List Nat) := g.reverse
theorem revS_S (r : List Nat) : revS (S r) = S r.reverse := rfl
theorem good_flA {w : Nat} {g : List (List Nat)} (h : Good w g) : Good w (flA g) := ⟨by rw [flA, List.length_map]; exact h.l0, by rw [flA, List.length_map]; exact h.l1, h.w0, h.w1, fun r hr => by
  obtain ⟨q, hq, rfl⟩ := List.mem_map.mp hr
  exact ⟨by rw [List.length_reverse]; exact (h.row q hq).1, fun c hc => (h.row q hq).2 c (List.mem_reverse.mp hc)⟩⟩
theorem good_flD {w : Nat} {g : List (List Nat)} (h : Good w g) : Good w (flD g) := ⟨by rw [flD, List.length_reverse]; exact h.l0, by rw [flD, List.length_reverse]; exact h.l1, h.w0, h.w1, fun r hr => h.row r (List.mem_reverse.mp hr)⟩
def axS (b : Bool) : Str := if b then Str.ofString "across" else Str.ofString "down"
def fl (b : Bool) (g : List (List Nat)) : List (List Nat) := if b then flA g else flD g
theorem good_fl {w : Nat} {g : List (List Nat)} (b : Bool) (h : Good w g) : Good w (fl b g) := by
  cases b
  · exact good_flD h
  · exact good_flA h
theorem ny_of {H H' : Hp} {y : Addr} (s : Same H H') (h : H' y = none) : H y = none := by
  cases e : H y with
  | none => rfl
  | some o => rw [s _ _ e] at h; cases h
def spAx : Sp := fun vs H Q _ => ∃ b : Bool, vs = [.str (axS b)] ∧ Q .non H
def spFlR (K : PySem.W.Frag) : Sp := fun vs H Q _ => ∃ (t : Addr) (w : Nat) (g : List (List Nat)) (b : Bool), vs = [.ref t, .str (axS b)] ∧ SqT K H t (rowsV g) ∧ Good w g ∧ ∀ l H', Same H H' → H' l = some (.lst (rowsV (fl b g))) → Q (.ref l) H'
def spFlip (C : Addr) : Sp := fun vs H Q _ => ∃ (x : Addr) (w : Nat) (g : List (List Nat)) (b : Bool), vs = [.ref x, .str (axS b)] ∧ Pic H C x g ∧ Good w g ∧ ∀ y H', Same H H' → H y = none → Pic H' C y (fl b g) → Q (.ref y) H'
def spInv (C : Addr) : Sp := fun vs H Q _ => ∃ (x : Addr) (w : Nat) (g : List (List Nat)), vs = [.ref x] ∧ Pic H C x g ∧ Good w g ∧ ∀ y H', Same H H' → H y = none → Pic H' C y (flA g) → Q (.ref y) H'
section
variable {P : Program} {w : World} {K : PySem.W.Frag} {mg : Str → Option Value} {base : Heap} {a : Adr}
set_option maxHeartbeats 4000000
theorem ok_axis (T : Txt K mg a) : FnR P w K mg base CX0 3 a.check_axis spAx := by
  refine T.d_check_axis.ok sc_check_axis (fun _ _ _ _ _ _ us hl => match us, hl with | [_], _ => rfl) (fun vs H Q E h => by obtain ⟨b, rfl, _⟩ := h; rfl) (fun cdv A outer s H vs Q E hr h => ?_)
  obtain ⟨b, rfl, k⟩ := h
  refine ⟨_, (pss_one (ps_if (pt_cmpR (op_notInDT hr.in1.units) (pv 0) (pe_glob (v := .ref a.AXES) rfl T.m_AXES rfl) (by rfl))
          (pss_one ps_never)
          pss_nil)), ?_⟩
  simp only [tSeq, tIfS, tTest, tB, tAnd, tOr, tNot, tAndV, tOrV, tNotV, tIf, tOp, tUn, tChain, rEq, rNe, rI0, rI, rU, tCallR, tCons, tNil, tC, tVar, tRet, tRetN, tTup_k, tLst_k, tCB, tNext, tAsg, gName, gTup, gCons, gNil, tDrop, tPar, tFld, ClX.tCVal, tPropR, rBin, rBinT, rNeOwn, rSetL_k, gSub, tMakeK_k, tMethR, rInO, tDNewK_k, tYes, wipe, tMakeR_k, tSMeth, tSMethK, rMulS, decide_true, tNever, sFld, rIsiT, and_false, rListOf, rTupOf, rLenSeq, rIxL, rIxT, rIxS, rCat_k, rRep_k, rSlL_k, rSlS, rNewStrs_k, rAppend_k, tBM, tBM0, tM0, tM1, tSl, tNoPart, tPart, tLc_k, tFor_k, iList, iTup, iEnumT, iRng1, iRng2, iRng2L, iStr, L2.start, List.map, List.length_cons, List.length_nil, List.cons_append, List.nil_append, List.getElem?_cons_succ, List.getElem?_cons_zero, Option.some.injEq, V.int.injEq, V.bl.injEq, V.str.injEq, V.ref.injEq, exists_eq_left', exists_eq_left, and_assoc, exists_and_left, exists_eq, exists_eq', true_and, and_true, List.set_cons_zero, List.set_cons_succ, List.set, decide_eq_true_eq, Bool.not_eq_true', if_true, if_false, rIx, cx_K, nox_K, List.replicate_succ, List.replicate_zero, Nat.reduceSub, Bool.true_eq_false, Bool.false_eq_true, Nat.reduceAdd, List.cons.injEq, reduceCtorEq, false_and, false_or, or_false, tAug, rSetO, rJoin, tMakeL, rStrO, ClX.tCMeth, rPop, tLc2_k, iEnum, tPar3, iZipS, iZipS3, tListZip, rInDT, tBackS, tBackT, tSlSt, rUn]
  have e : ([.str "across", .str "down"] : List PyData).any (fun z => PyData.eqv z (.str (axS b))) = true := by cases b <;> decide +kernel
  refine ⟨.str (axS b), .str (axS b), [PyData.str "across", PyData.str "down"], .tup (.inr T.t_AXES) (.cons (.str _) (.cons (.str _) .nil)), by cases b <;> decide +kernel, by decide +kernel, ?_⟩
  rw [e]
  exact k
theorem ok_flrows (T : Txt K mg a) : FnR P w K mg base CX0 1 a.flipped_rows (spFlR K) := by
  refine T.d_flipped_rows.ok sc_flipped_rows (fun _ _ _ _ _ _ us hl => match us, hl with | [_, _], _ => rfl) (fun vs H Q E h => by obtain ⟨t, w, g, b, rfl, _⟩ := h; rfl) (fun cdv A outer s H vs Q E hr h => ?_)
  obtain ⟨t, wd, g, b, rfl, ht, gg, k⟩ := h
  refine ⟨_, (pss_cons (ps_if (pt_cmpR op_eq (pv 1) pe_str (nomark _))
          (pss_one (ps_ret (pe_lc (own := [("row", 2)]) (g := gName 2) (by rfl) sc_flipped_rows.nd (pi_tup (pv 0)) (blkOk_by (own := [("row", 2)]) (N := ["rows", "axis", "row"]) (sc := defScope s_flipped_rows) (by decide +kernel)) (fun _ _ _ _ _ => (pg_name (i := 2) sc_flipped_rows.nd rfl (Or.inl rfl))) (fun _ _ _ _ _ => pts_nil) (fun _ _ _ _ _ => (pe_backS (pv 2) (pe_un un_neg pe_int))))))
          pss_nil)
      (pss_one (ps_ret (pe_callTy call_listK (by rfl) T.n_list (by decide +kernel) (pa_cons (pe_backT (pv 0) (pe_un un_neg pe_int)) pa_nil))))), ?_⟩
  simp only [tSeq, tIfS, tTest, tB, tAnd, tOr, tNot, tAndV, tOrV, tNotV, tIf, tOp, tUn, tChain, rEq, rNe, rI0, rI, rU, tCallR, tCons, tNil, tC, tVar, tRet, tRetN, tTup_k, tLst_k, tCB, tNext, tAsg, gName, gTup, gCons, gNil, tDrop, tPar, tFld, ClX.tCVal, tPropR, rBin, rBinT, rNeOwn, rSetL_k, gSub, tMakeK_k, tMethR, rInO, tDNewK_k, tYes, wipe, tMakeR_k, tSMeth, tSMethK, rMulS, decide_true, tNever, sFld, rIsiT, and_false, rListOf, rTupOf, rLenSeq, rIxL, rIxT, rIxS, rCat_k, rRep_k, rSlL_k, rSlS, rNewStrs_k, rAppend_k, tBM, tBM0, tM0, tM1, tSl, tNoPart, tPart, tLc_k, tFor_k, iList, iTup, iEnumT, iRng1, iRng2, iRng2L, iStr, L2.start, List.map, List.length_cons, List.length_nil, List.cons_append, List.nil_append, List.getElem?_cons_succ, List.getElem?_cons_zero, Option.some.injEq, V.int.injEq, V.bl.injEq, V.str.injEq, V.ref.injEq, exists_eq_left', exists_eq_left, and_assoc, exists_and_left, exists_eq, exists_eq', true_and, and_true, List.set_cons_zero, List.set_cons_succ, List.set, decide_eq_true_eq, Bool.not_eq_true', if_true, if_false, rIx, cx_K, nox_K, List.replicate_succ, List.replicate_zero, Nat.reduceSub, Bool.true_eq_false, Bool.false_eq_true, Nat.reduceAdd, List.cons.injEq, reduceCtorEq, false_and, false_or, or_false, tAug, rSetO, rJoin, tMakeL, rStrO, ClX.tCMeth, rPop, tLc2_k, iEnum, tPar3, iZipS, iZipS3, tListZip, rInDT, tBackS, tBackT, tSlSt, rUn]
  refine ⟨rfl, ?_⟩
  cases b with
  | true =>
    rw [if_pos (show axS true = Str.ofString "across" from rfl)]
    refine ⟨⟨_, ht⟩, kLc.map walk_tup (rowsV (flA g)) (by rw [rowsV_len, rowsV_len, flA, List.length_map]) (fun H' s1 => Same.tup s1 ht) (fun D j x H1 H2 hj c hY => ?_) fun D H1 f1 => k D H1 f1.same f1.at_⟩
    obtain ⟨rfl, hx⟩ := hY
    obtain ⟨r, hr', rfl⟩ := rowsV_get hx
    simp only [tUn, rU, tSeq, tIfS, tTest, tB, tAnd, tOr, tNot, tAndV, tOrV, tNotV, tIf, tOp, tUn, tChain, rEq, rNe, rI0, rI, rU, tCallR, tCons, tNil, tC, tVar, tRet, tRetN, tTup_k, tLst_k, tCB, tNext, tAsg, gName, gTup, gCons, gNil, tDrop, tPar, tFld, ClX.tCVal, tPropR, rBin, rBinT, rNeOwn, rSetL_k, gSub, tMakeK_k, tMethR, rInO, tDNewK_k, tYes, wipe, tMakeR_k, tSMeth, tSMethK, rMulS, decide_true, tNever, sFld, rIsiT, and_false, rListOf, rTupOf, rLenSeq, rIxL, rIxT, rIxS, rCat_k, rRep_k, rSlL_k, rSlS, rNewStrs_k, rAppend_k, tBM, tBM0, tM0, tM1, tSl, tNoPart, tPart, tLc_k, tFor_k, iList, iTup, iEnumT, iRng1, iRng2, iRng2L, iStr, L2.start, List.map, List.length_cons, List.length_nil, List.cons_append, List.nil_append, List.getElem?_cons_succ, List.getElem?_cons_zero, Option.some.injEq, V.int.injEq, V.bl.injEq, V.str.injEq, V.ref.injEq, exists_eq_left', exists_eq_left, and_assoc, exists_and_left, exists_eq, exists_eq', true_and, and_true, List.set_cons_zero, List.set_cons_succ, List.set, decide_eq_true_eq, Bool.not_eq_true', if_true, if_false, rIx, cx_K, nox_K, List.replicate_succ, List.replicate_zero, Nat.reduceSub, Bool.true_eq_false, Bool.false_eq_true, Nat.reduceAdd, List.cons.injEq, reduceCtorEq, false_and, false_or, or_false, tAug, rSetO, rJoin, tMakeL, rStrO, ClX.tCMeth, rPop, tLc2_k, iEnum, tPar3, iZipS, iZipS3, tListZip, rInDT, tBackS, tBackT, tSlSt, rUn]
    refine ⟨by rw [SX.S_len, (gg.at_ hr').1]; exact size200 gg.w1, ?_⟩
    rw [revS_S]
    exact kApp.at c (Same.refl _) (by rw [rowsV_len, flA, List.length_map]; exact size200 gg.l1) (by simp [rowsV, flA, hr'])
  | false =>
    rw [if_neg (show ¬ axS false = Str.ofString "across" by decide +kernel)]
    refine ⟨_, ht, kN.mk fun p H1 f1 => ⟨p, rfl, _, .inr (.inl (.inl f1.at_)), kN.mk fun l H2 f2 => k l H2 (f1.same.trans f2.same) ?_⟩⟩
    rw [f2.at_]
    show _ = some (HO.lst (rowsV g.reverse))
    rw [rowsV, rowsV, List.map_reverse]
theorem flipped_body (T : Txt K mg a) {fd : FuncData} (F : FunD K "flipped" "Picture.flipped" (defArgs s_Picture_flipped) (defBody s_Picture_flipped) (defScope s_Picture_flipped) [] [] a.Picture_flipped fd) : FnOk P w K mg base CX0 5 a.Picture_flipped fd ["self", "axis"] (spFlip a.Picture) := by
  have G_check_axis : FnR P w K mg base CX0 3 a.check_axis spAx := ok_axis T
  have G_flipped_rows : FnR P w K mg base CX0 1 a.flipped_rows (spFlR K) := ok_flrows T
  have G_Picture_init : FnR P w K mg base CX0 3 a.Picture_init (spPicInit a.Picture) := ok_pic_init T
  refine F.ok sc_Picture_flipped (fun vs H Q E h => by obtain ⟨x, w, g, b, rfl, _⟩ := h; rfl) (fun cdv A outer s H vs Q E hr h => ?_)
  obtain ⟨x, wd, g, b, rfl, px, gg, k⟩ := h
  refine ⟨_, (pss_cons (ps_expr (pe_callR G_check_axis (hr.mono (by decide)) T.m_check_axis T.k_check_axis pass0 (pa_cons (pv 1) pa_nil)))
      (pss_one (ps_ret (pe_makeRR T.M_Picture G_Picture_init (hr.mono (by decide)) T.m_Picture pass0 (pa_cons (pe_callR G_flipped_rows (hr.mono (by decide)) T.m_flipped_rows T.k_flipped_rows pass0 (pa_cons (pe_fld (pv 0) rfl) (pa_cons (pv 1) pa_nil))) pa_nil))))), ?_⟩
  simp only [tSeq, tIfS, tTest, tB, tAnd, tOr, tNot, tAndV, tOrV, tNotV, tIf, tOp, tUn, tChain, rEq, rNe, rI0, rI, rU, tCallR, tCons, tNil, tC, tVar, tRet, tRetN, tTup_k, tLst_k, tCB, tNext, tAsg, gName, gTup, gCons, gNil, tDrop, tPar, tFld, ClX.tCVal, tPropR, rBin, rBinT, rNeOwn, rSetL_k, gSub, tMakeK_k, tMethR, rInO, tDNewK_k, tYes, wipe, tMakeR_k, tSMeth, tSMethK, rMulS, decide_true, tNever, sFld, rIsiT, and_false, rListOf, rTupOf, rLenSeq, rIxL, rIxT, rIxS, rCat_k, rRep_k, rSlL_k, rSlS, rNewStrs_k, rAppend_k, tBM, tBM0, tM0, tM1, tSl, tNoPart, tPart, tLc_k, tFor_k, iList, iTup, iEnumT, iRng1, iRng2, iRng2L, iStr, L2.start, List.map, List.length_cons, List.length_nil, List.cons_append, List.nil_append, List.getElem?_cons_succ, List.getElem?_cons_zero, Option.some.injEq, V.int.injEq, V.bl.injEq, V.str.injEq, V.ref.injEq, exists_eq_left', exists_eq_left, and_assoc, exists_and_left, exists_eq, exists_eq', true_and, and_true, List.set_cons_zero, List.set_cons_succ, List.set, decide_eq_true_eq, Bool.not_eq_true', if_true, if_false, rIx, cx_K, nox_K, List.replicate_succ, List.replicate_zero, Nat.reduceSub, Bool.true_eq_false, Bool.false_eq_true, Nat.reduceAdd, List.cons.injEq, reduceCtorEq, false_and, false_or, or_false, tAug, rSetO, rJoin, tMakeL, rStrO, ClX.tCMeth, rPop, tLc2_k, iEnum, tPar3, iZipS, iZipS3, tListZip, rInDT, tBackS, tBackT, tSlSt, rUn]
  refine ⟨b, rfl, ?_⟩
  obtain ⟨dx, t, hx, ht⟩ := px
  refine ⟨_, dx, _, hx, T.c_Picture.cl, T.a_Picture__rows, _, rfl, t, wd, g, b, rfl, .inl (.inl ht), gg, fun l H1 s1 hl => newPic (good_fl b gg) (.inl hl) fun y H2 s2 ny py => k y H2 (s1.trans s2) (ny_of s1 ny) py⟩
theorem ok_flipped (T : Txt K mg a) : FnR P w K mg base CX0 5 a.Picture_flipped (spFlip a.Picture) := by
  obtain ⟨fd, F⟩ := id T.d_Picture_flipped
  exact ((flipped_body T F).raw (F.bindsN (fun _ _ _ _ _ _ us hl => match us, hl with | [_, _], _ => rfl)) .nil).imp fun vs H Q E h => by rw [List.append_nil]; exact h
theorem ok_flippedF (T : Txt K mg a) : ∃ fd, FnOk P w K mg base CX0 5 a.Picture_flipped fd ["self", "axis"] (spFlip a.Picture) ∧ KBn K fd ["self", "axis"] 1 ["axis"] (fun us ws => us ++ ws.reverse) (fun vs zs => vs ++ zs.reverse) := by
  obtain ⟨fd, F⟩ := id T.d_Picture_flipped
  exact ⟨fd, flipped_body T F, kbn0 F (fun r1 r2 => r1.append (vals_rev r2)) (fun kV doc pm an cdv ct us ws hu hw => match us, ws, hu, hw with | [_], [_], _, _ => rfl)⟩
theorem ok_invert (T : Txt K mg a) : FnR P w K mg base CX0 7 a.Picture_invert (spInv a.Picture) := by
  have G_flipped : FnR P w K mg base CX0 5 a.Picture_flipped (spFlip a.Picture) := ok_flipped T
  refine T.d_Picture_invert.ok sc_Picture_invert (fun _ _ _ _ _ _ us hl => match us, hl with | [_], _ => rfl) (fun vs H Q E h => by obtain ⟨x, w, g, rfl, _⟩ := h; rfl) (fun cdv A outer s H vs Q E hr h => ?_)
  obtain ⟨x, wd, g, rfl, px, gg, k⟩ := h
  refine ⟨_, (pss_one (ps_ret (pe_methR (pv 0) T.c_Picture.cl T.mt_flipped G_flipped (hr.mono (by decide)) pass0 (pa_cons pe_str pa_nil)))), ?_⟩
  simp only [tSeq, tIfS, tTest, tB, tAnd, tOr, tNot, tAndV, tOrV, tNotV, tIf, tOp, tUn, tChain, rEq, rNe, rI0, rI, rU, tCallR, tCons, tNil, tC, tVar, tRet, tRetN, tTup_k, tLst_k, tCB, tNext, tAsg, gName, gTup, gCons, gNil, tDrop, tPar, tFld, ClX.tCVal, tPropR, rBin, rBinT, rNeOwn, rSetL_k, gSub, tMakeK_k, tMethR, rInO, tDNewK_k, tYes, wipe, tMakeR_k, tSMeth, tSMethK, rMulS, decide_true, tNever, sFld, rIsiT, and_false, rListOf, rTupOf, rLenSeq, rIxL, rIxT, rIxS, rCat_k, rRep_k, rSlL_k, rSlS, rNewStrs_k, rAppend_k, tBM, tBM0, tM0, tM1, tSl, tNoPart, tPart, tLc_k, tFor_k, iList, iTup, iEnumT, iRng1, iRng2, iRng2L, iStr, L2.start, List.map, List.length_cons, List.length_nil, List.cons_append, List.nil_append, List.getElem?_cons_succ, List.getElem?_cons_zero, Option.some.injEq, V.int.injEq, V.bl.injEq, V.str.injEq, V.ref.injEq, exists_eq_left', exists_eq_left, and_assoc, exists_and_left, exists_eq, exists_eq', true_and, and_true, List.set_cons_zero, List.set_cons_succ, List.set, decide_eq_true_eq, Bool.not_eq_true', if_true, if_false, rIx, cx_K, nox_K, List.replicate_succ, List.replicate_zero, Nat.reduceSub, Bool.true_eq_false, Bool.false_eq_true, Nat.reduceAdd, List.cons.injEq, reduceCtorEq, false_and, false_or, or_false, tAug, rSetO, rJoin, tMakeL, rStrO, ClX.tCMeth, rPop, tLc2_k, iEnum, tPar3, iZipS, iZipS3, tListZip, rInDT, tBackS, tBackT, tSlSt, rUn]
  obtain ⟨dx, t, hx, ht⟩ := id px
  exact ⟨dx, _, hx, rfl, x, wd, g, true, rfl, px, gg, k⟩
end
end Pf
end
section
namespace Pf
open PySem PySem.Spec PyProof.Rows L2 Ow StX
open SX (S)
theorem rows_eq {K : PySem.W.Frag} {H : Hp} {t u : Addr} {w : Nat} {rs : List (List Nat)} {Q : VK} (g : Good w rs) (h1 : H t = some (.tup (rowsV rs))) (h2 : H u = some (.tup (rowsV rs))) (k : Q (.bl false) H) : rNeD K (.ref t) (.ref u) H Q := by
  refine ⟨.tuple (rowsD rs), .tuple (rowsD rs), .tup (.inl (.inl h1)) (dp_rows rs), .tup (.inl (.inl h2)) (dp_rows rs), rows_shaped g, rows_shaped g, ?_⟩
  rw [eqv_rows, decide_eq_true rfl]
  exact k
theorem ord2 {C U x y : Addr} {f : List (List Nat) → List (List Nat) → Bool} {wd : Nat} {rs rs' : List (List Nat)} {H : Hp} {Q : VK} {E : XK} (px : Pic H C x rs) (py : Pic H C y rs') (g : Good wd rs) (g' : Good wd rs') (hlen : rs.length = rs'.length) (k : ∀ H', Same H H' → Q (.bl (f rs rs')) H') :
    ∃ a1 : Addr, V.ref x = V.ref a1 ∧ ∃ a2 : Addr, V.ref y = V.ref a2 ∧ InsAt H a1 C ∧ InsAt H a2 C ∧ spOrd C U f [.ref x, .ref y] H Q E :=
  ⟨x, rfl, y, rfl, px.ins, py.ins, x, y, wd, wd, rs, rs', rfl, px, py, g, g', .inl ⟨rfl, hlen, k⟩⟩
theorem rows_same {K : PySem.W.Frag} {H : Hp} {t u : Addr} {w : Nat} {rs : List (List Nat)} {Q : VK} (g : Good w rs) (h1 : H t = some (.tup (rowsV rs))) (h2 : H u = some (.tup (rowsV rs))) (k : Q (.bl true) H) : rEqD K (.ref t) (.ref u) H Q := by
  refine ⟨.tuple (rowsD rs), .tuple (rowsD rs), .tup (.inl (.inl h1)) (dp_rows rs), .tup (.inl (.inl h2)) (dp_rows rs), rows_shaped g, rows_shaped g, ?_⟩
  rw [eqv_rows, decide_eq_true rfl]
  exact k
theorem join2 {C U x y : Addr} {g : Nat → Nat → Nat} {wd : Nat} {rs rs' : List (List Nat)} {H : Hp} {Q : VK} {E : XK} (px : Pic H C x rs) (py : Pic H C y rs') (g1 : Good wd rs) (g2 : Good wd rs') (hlen : rs.length = rs'.length) (k : ∀ z H', Same H H' → Pic H' C z (jRs g rs rs') → Q (.ref z) H') :
    ∃ a1 : Addr, V.ref x = V.ref a1 ∧ ∃ a2 : Addr, V.ref y = V.ref a2 ∧ InsAt H a1 C ∧ InsAt H a2 C ∧ spJoin C U g [.ref x, .ref y] H Q E :=
  ⟨x, rfl, y, rfl, px.ins, py.ins, x, y, wd, wd, rs, rs', rfl, px, py, g1, g2, .inl ⟨rfl, hlen, k⟩⟩
theorem eq2 {K : PySem.W.Frag} {C p q : Addr} {wa wb : Nat} {ra rb : List (List Nat)} {H : Hp} {Q : VK} {E : XK} (pp : Pic H C p ra) (pq : Pic H C q rb) (ga : Good wa ra) (gb : Good wb rb) (k : Q (.bl (decide (ra = rb))) H) :
    ∃ a1 : Addr, V.ref p = V.ref a1 ∧ ∃ a2 : Addr, V.ref q = V.ref a2 ∧ InsAt H a1 C ∧ InsAt H a2 C ∧ spPEq K C [.ref p, .ref q] H Q E :=
  ⟨p, rfl, q, rfl, pp.ins, pq.ins, p, ra, wa, _, rfl, pp, ga, .inl ⟨q, rb, wb, rfl, pq, gb, k⟩⟩
theorem ne2 {K : PySem.W.Frag} {C p q : Addr} {wa wb : Nat} {ra rb : List (List Nat)} {H : Hp} {F G : Hp → Prop} {E : XK} (pp : Pic H C p ra) (pq : Pic H C q rb) (ga : Good wa ra) (gb : Good wb rb) (e : ra = rb) (k : G H) :
    ∃ a1 : Addr, V.ref p = V.ref a1 ∧ ∃ a2 : Addr, V.ref q = V.ref a2 ∧ InsAt H a1 C ∧ InsAt H a2 C ∧ spPEq K C [.ref p, .ref q] H (fun v H' => ∃ k, v = V.bl k ∧ if k = false then F H' else G H') E := by
  refine eq2 pp pq ga gb ?_
  show ∃ k, V.bl (decide (ra = rb)) = V.bl k ∧ if k = false then F H else G H
  exact ⟨_, rfl, by rw [decide_eq_true e, if_neg (by decide)]; exact k⟩
theorem mk_fl {C x : Addr} {w : Nat} {g : List (List Nat)} {H : Hp} {Q : VK} {E : XK} {z : Str} (b : Bool) (hz : z = axS b) (px : Pic H C x g) (gg : Good w g) (k : ∀ y H', Same H H' → H y = none → Pic H' C y (fl b g) → Q (.ref y) H') :
    ∃ dx fs, H x = some (.ins C dx fs) ∧ List.lookup (Str.ofString "flipped") fs = none ∧ spFlip C [.ref x, .str z] H Q E := by
  obtain ⟨dx, t, hx, ht⟩ := id px
  exact ⟨dx, _, hx, rfl, x, w, g, b, by rw [hz], px, gg, k⟩
theorem mk_rows {C x : Addr} {g : List (List Nat)} {H : Hp} {Q : VK} {E : XK} (px : Pic H C x g) (k : ∀ t, H t = some (.tup (rowsV g)) → Q (.ref t) H) :
    ∃ dx fs, H x = some (.ins C dx fs) ∧ spPRows C [.ref x] H Q E := by
  obtain ⟨dx, t, hx, ht⟩ := id px
  exact ⟨dx, _, hx, x, dx, t, rfl, hx, k t ht⟩
theorem mk_inv {C x : Addr} {w : Nat} {g : List (List Nat)} {H : Hp} {Q : VK} {E : XK} (px : Pic H C x g) (gg : Good w g) (k : ∀ y H', Same H H' → H y = none → Pic H' C y (flA g) → Q (.ref y) H') :
    ∃ a, V.ref x = V.ref a ∧ InsAt H a C ∧ spInv C [.ref x] H Q E := ⟨x, rfl, px.ins, x, w, g, rfl, px, gg, k⟩
structure FlH (C x ya yd l : Addr) (g : List (List Nat)) (H : Hp) : Prop where
  px : Pic H C x g
  pa : Pic H C ya (flA g)
  pd : Pic H C yd (flD g)
  hl : H l = some (.lst (rowsV g))
theorem FlH.same {C x ya yd l : Addr} {g : List (List Nat)} {H H' : Hp} (h : FlH C x ya yd l g H) (s : Same H H') : FlH C x ya yd l g H' := ⟨h.px.same s, h.pa.same s, h.pd.same s, s _ _ h.hl⟩
theorem flA_flA (g : List (List Nat)) : flA (flA g) = g := by
  unfold flA
  rw [List.map_map, show List.reverse ∘ List.reverse = (id : List Nat → List Nat) from funext fun r => List.reverse_reverse r, List.map_id]
theorem flD_flD (g : List (List Nat)) : flD (flD g) = g := by simp [flD]
theorem flA_flD (g : List (List Nat)) : flD (flA g) = flA (flD g) := by simp [flA, flD, List.map_reverse]
theorem mk_area {C x : Addr} {w : Nat} {g : List (List Nat)} {i : Int} {H : Hp} {Q : VK} {E : XK} (px : Pic H C x g) (gg : Good w g) (i0 : 0 ≤ i) (i1 : i < 10) (k : ∀ H', Same H H' → Q (.int (areaOf g i)) H') :
    ∃ dx fs, H x = some (.ins C dx fs) ∧ List.lookup (Str.ofString "area") fs = none ∧ spPArea C [.ref x, .int i] H Q E := by
  obtain ⟨dx, t, hx, ht⟩ := id px
  exact ⟨dx, _, hx, rfl, x, g, w, i, rfl, px, gg, i0, i1, k⟩
theorem area_flA (g : List (List Nat)) (i : Int) : areaOf (flA g) i = areaOf g i := by
  unfold areaOf flA
  rw [List.map_map]
  congr 1
  refine List.map_congr_left fun r _ => ?_
  show ((r.reverse.count _ : Nat) : Int) = _
  rw [List.count_reverse]
theorem sum_rev (xs : List Int) : xs.reverse.sum = xs.sum := by
  induction xs with
  | nil => rfl
  | cons a t ih => rw [List.reverse_cons, List.sum_append, ih, List.sum_cons, List.sum_cons, List.sum_nil]; omega
theorem area_flD (g : List (List Nat)) (i : Int) : areaOf (flD g) i = areaOf g i := by
  unfold areaOf flD
  rw [List.map_reverse, sum_rev]
theorem shaped_two (a b : Int) : SeqAt.shaped (.list [.int a, .int b]) = true := by
  refine Bool.and_eq_true_iff.mpr ⟨by simp [PyData.canLayAll0, PyData.canLay0], ?_⟩
  simp [PyData.depth, PyData.depthAll]
def spPlainRight (C : Addr) : Sp := fun vs H Q _ => ∃ (x l : Addr) (w : Nat) (g : List (List Nat)), vs = [.ref x, .ref l] ∧ Pic H C x g ∧ Good w g ∧ H l = some (.lst (rowsV g)) ∧ ∀ H', Same H H' → Q (.bl true) H'
section
variable {P : Program} {w : World} {K : PySem.W.Frag} {mg : Str → Option Value} {base : Heap} {a : Adr}
set_option maxHeartbeats 4000000
theorem ok_plainR (T : Txt K mg a) : FnG P w K mg base CX0 9 a._law_plain_right (spPlainRight a.Picture) := by
  have G_flipped : FnR P w K mg base CX0 5 a.Picture_flipped (spFlip a.Picture) := ok_flipped T
  obtain ⟨_, O_flipped, KBf⟩ := ok_flippedF (P := P) (w := w) (base := base) T
  have G_invert : FnR P w K mg base CX0 7 a.Picture_invert (spInv a.Picture) := ok_invert T
  have G_Picture_rows : FnR P w K mg base CX0 1 a.Picture_rows (spPRows a.Picture) := ok_prows T
  have G_area : FnR P w K mg base CX0 5 a.Picture_area (spPArea a.Picture) := ok_parea T
  have G_eq : FnR P w K mg base CX0 3 a.Picture_eq (spPEq K a.Picture) := ok_peq T
  refine T.d__law_plain_right.okG sc__law_plain_right (fun _ _ _ _ _ _ us hl => match us, hl with | [_, _], _ => rfl) (fun vs H Q E h => by obtain ⟨x, l, w, g, rfl, _⟩ := h; rfl) (fun cdv A outer s H vs Q E hr hg h => ?_)
  obtain ⟨x, l, wd, g, rfl, px, gg, hl, k⟩ := h
  refine ⟨_, (pss_cons (ps_par (i := 2) (j := 3) (by rfl) sc__law_plain_right.nd rfl rfl (by decide) rfl rfl (pa_cons (pe_methR (pv 0) T.c_Picture.cl T.mt_flipped G_flipped (hr.mono (by decide)) pass0 (pa_cons pe_str pa_nil)) (pa_cons (pe_methR (pv 0) T.c_Picture.cl T.mt_flipped G_flipped (hr.mono (by decide)) pass0 (pa_cons pe_str pa_nil)) pa_nil)) (by rfl))
      (pss_cons (ps_if (PW.pt (pw_or (pt_cmpR (op_neD hr.units) (pe_propR (pv 2) T.c_Picture.cl T.p_Picture_rows G_Picture_rows (hr.mono (by decide))  pass0) (pe_callTy call_tupleK (by rfl) T.n_tuple (by decide +kernel) (pa_cons (pe_lc (own := [("_law_line", 5)]) (g := gName 5) (by rfl) sc__law_plain_right.nd (pi_list (pv 1)) (blkOk_by (own := [("_law_line", 5)]) (N := ["_law_made", "_law_lines_here", "_law_across", "_law_down", "_law_paint", "_law_line"]) (sc := defScope s__law_plain_right) (by decide +kernel)) (fun _ _ _ _ _ => (pg_name (i := 5) sc__law_plain_right.nd rfl (Or.inl rfl))) (fun _ _ _ _ _ => pts_nil) (fun _ _ _ _ _ => (pe_backS (pv 5) (pe_un un_neg pe_int)))) pa_nil)) (nomark _)) (pw_or1 (pt_cmpR (op_neD hr.units) (pe_propR (pv 3) T.c_Picture.cl T.p_Picture_rows G_Picture_rows (hr.mono (by decide))  pass0) (pe_callTy call_tupleK (by rfl) T.n_tuple (by decide +kernel) (pa_cons (pe_sliceSt (pv 1) (pe_un un_neg pe_int)) pa_nil)) (nomark _)))))
          (pss_one (ps_ret pe_bl))
          pss_nil)
      (pss_cons (ps_if (PW.pt (pw_or (pt_cmpR (op_ne_own T.o_Picture_ne T.o_Picture_eq T.f_Picture_eq T.s_Picture_obj G_eq (hr.mono (by decide)) pass0) (pe_un (un_inv_own T.o_Picture_invert T.f_Picture_invert G_invert (hr.mono (by decide)) pass0) (pv 0)) (pv 2) (nomark _)) (pw_or (pt_cmpR (op_ne_own T.o_Picture_ne T.o_Picture_eq T.f_Picture_eq T.s_Picture_obj G_eq (hr.mono (by decide)) pass0) (pe_un (un_inv_own T.o_Picture_invert T.f_Picture_invert G_invert (hr.mono (by decide)) pass0) (pe_un (un_inv_own T.o_Picture_invert T.f_Picture_invert G_invert (hr.mono (by decide)) pass0) (pv 0))) (pv 0) (nomark _)) (pw_or (pt_cmpR (op_ne_own T.o_Picture_ne T.o_Picture_eq T.f_Picture_eq T.s_Picture_obj G_eq (hr.mono (by decide)) pass0) (pe_methR (pv 3) T.c_Picture.cl T.mt_flipped G_flipped (hr.mono (by decide)) pass0 (pa_cons pe_str pa_nil)) (pv 0) (nomark _)) (pw_or1 (pt_cmpR (op_ne_own T.o_Picture_ne T.o_Picture_eq T.f_Picture_eq T.s_Picture_obj G_eq (hr.mono (by decide)) pass0) (pe_methR (pv 2) T.c_Picture.cl T.mt_flipped G_flipped (hr.mono (by decide)) pass0 (pa_cons pe_str pa_nil)) (pv 0) (nomark _)))))))
          (pss_one (ps_ret pe_bl))
          pss_nil)
      (pss_cons (ps_if (PW.pt (pw_or (pt_cmpR (op_ne_own T.o_Picture_ne T.o_Picture_eq T.f_Picture_eq T.s_Picture_obj G_eq (hr.mono (by decide)) pass0) (pe_methR (pv 2) T.c_Picture.cl T.mt_flipped G_flipped (hr.mono (by decide)) pass0 (pa_cons pe_str pa_nil)) (pe_methK (pv 3) T.c_Picture.cl T.mt_flipped O_flipped (hr.mono (by decide)) KBf pass0 (pk_cons pe_str pk_nil)) (nomark _)) (pw_or1 (pt_cmpR (op_neD hr.units) (pe_propR (pv 0) T.c_Picture.cl T.p_Picture_rows G_Picture_rows (hr.mono (by decide))  pass0) (pe_callTy call_tupleK (by rfl) T.n_tuple (by decide +kernel) (pa_cons (pv 1) pa_nil)) (nomark _)))))
          (pss_one (ps_ret pe_bl))
          pss_nil)
      (pss_cons (ps_for PassesOwn.never rfl (pi_range1 rfl T.n_range (pa_cons pe_int pa_nil)) (pg_name (i := 4) sc__law_plain_right.nd rfl (Or.inl rfl))
          (pss_one (ps_if (pt_cmpR (op_neD hr.units) (pe_lst (pa_cons (pe_methR (pv 2) T.c_Picture.cl T.mt_area G_area (hr.mono (by decide)) pass0 (pa_cons (pv 4) pa_nil)) (pa_cons (pe_methR (pv 3) T.c_Picture.cl T.mt_area G_area (hr.mono (by decide)) pass0 (pa_cons (pv 4) pa_nil)) pa_nil))) (pe_op op_rep (pe_lst (pa_cons (pe_methR (pv 0) T.c_Picture.cl T.mt_area G_area (hr.mono (by decide)) pass0 (pa_cons (pv 4) pa_nil)) pa_nil)) pe_int) (nomark _))
              (pss_one (ps_ret pe_bl))
              pss_nil)))
      (pss_one (ps_ret pe_bl))))))), ?_⟩
  simp only [tMethK, tSeq, tIfS, tTest, tB, tAnd, tOr, tNot, tAndV, tOrV, tNotV, tIf, tOp, tUn, tChain, rEq, rNe, rI0, rI, rU, tCallR, tCons, tNil, tC, tVar, tRet, tRetN, tTup_k, tLst_k, tCB, tNext, tAsg, gName, gTup, gCons, gNil, tDrop, tPar, tFld, ClX.tCVal, tPropR, rBin, rBinT, rNeOwn, rSetL_k, gSub, tMakeK_k, tMethR, rInO, tDNewK_k, tYes, wipe, tMakeR_k, tSMeth, tSMethK, rMulS, decide_true, tNever, sFld, rIsiT, and_false, rListOf, rTupOf, rLenSeq, rIxL, rIxT, rIxS, rCat_k, rRep_k, rSlL_k, rSlS, rNewStrs_k, rAppend_k, tBM, tBM0, tM0, tM1, tSl, tNoPart, tPart, tLc_k, tFor_k, iList, iTup, iEnumT, iRng1, iRng2, iRng2L, iStr, L2.start, List.map, List.length_cons, List.length_nil, List.cons_append, List.nil_append, List.getElem?_cons_succ, List.getElem?_cons_zero, Option.some.injEq, V.int.injEq, V.bl.injEq, V.str.injEq, V.ref.injEq, exists_eq_left', exists_eq_left, and_assoc, exists_and_left, exists_eq, exists_eq', true_and, and_true, List.set_cons_zero, List.set_cons_succ, List.set, decide_eq_true_eq, Bool.not_eq_true', if_true, if_false, rIx, cx_K, nox_K, List.replicate_succ, List.replicate_zero, Nat.reduceSub, Bool.true_eq_false, Bool.false_eq_true, Nat.reduceAdd, List.cons.injEq, reduceCtorEq, false_and, false_or, or_false, tAug, rSetO, rJoin, tMakeL, rStrO, ClX.tCMeth, rPop, tLc2_k, iEnum, tPar3, iZipS, iZipS3, tListZip, rInDT, tBackS, tBackT, tSlSt, rUn]
  refine mk_fl true rfl px gg fun ya H1 s1 _ pa => mk_fl false rfl (px.same s1) gg fun yd H2 s2 _ pd => ⟨ya, rfl, ?_⟩
  have px2 := (px.same s1).same s2
  have pa2 := pa.same s2
  have l2 := s2 _ _ (s1 _ _ hl)
  refine mk_rows pa2 fun ta hta => ⟨⟨_, SqL.of l2⟩, ?_⟩
  refine kLc.map walk_list (rowsV (flA g)) (by rw [rowsV_len, rowsV_len, flA, List.length_map]) (fun H' s1 => Same.seq s1 (SqL.of l2)) (fun D j z H3 H4 hj c hY => ?_) fun D H3 f3 => ?_
  · obtain ⟨rfl, hz⟩ := hY
    obtain ⟨r, hr', rfl⟩ := rowsV_get hz
    simp only [tUn, rU, tSeq, tIfS, tTest, tB, tAnd, tOr, tNot, tAndV, tOrV, tNotV, tIf, tOp, tUn, tChain, rEq, rNe, rI0, rI, rU, tCallR, tCons, tNil, tC, tVar, tRet, tRetN, tTup_k, tLst_k, tCB, tNext, tAsg, gName, gTup, gCons, gNil, tDrop, tPar, tFld, ClX.tCVal, tPropR, rBin, rBinT, rNeOwn, rSetL_k, gSub, tMakeK_k, tMethR, rInO, tDNewK_k, tYes, wipe, tMakeR_k, tSMeth, tSMethK, rMulS, decide_true, tNever, sFld, rIsiT, and_false, rListOf, rTupOf, rLenSeq, rIxL, rIxT, rIxS, rCat_k, rRep_k, rSlL_k, rSlS, rNewStrs_k, rAppend_k, tBM, tBM0, tM0, tM1, tSl, tNoPart, tPart, tLc_k, tFor_k, iList, iTup, iEnumT, iRng1, iRng2, iRng2L, iStr, L2.start, List.map, List.length_cons, List.length_nil, List.cons_append, List.nil_append, List.getElem?_cons_succ, List.getElem?_cons_zero, Option.some.injEq, V.int.injEq, V.bl.injEq, V.str.injEq, V.ref.injEq, exists_eq_left', exists_eq_left, and_assoc, exists_and_left, exists_eq, exists_eq', true_and, and_true, List.set_cons_zero, List.set_cons_succ, List.set, decide_eq_true_eq, Bool.not_eq_true', if_true, if_false, rIx, cx_K, nox_K, List.replicate_succ, List.replicate_zero, Nat.reduceSub, Bool.true_eq_false, Bool.false_eq_true, Nat.reduceAdd, List.cons.injEq, reduceCtorEq, false_and, false_or, or_false, tAug, rSetO, rJoin, tMakeL, rStrO, ClX.tCMeth, rPop, tLc2_k, iEnum, tPar3, iZipS, iZipS3, tListZip, rInDT, tBackS, tBackT, tSlSt, rUn]
    refine ⟨by rw [SX.S_len, (gg.at_ hr').1]; exact size200 gg.w1, ?_⟩
    rw [revS_S]
    exact kApp.at c (Same.refl _) (by rw [rowsV_len, flA, List.length_map]; exact size200 gg.l1) (by simp [rowsV, flA, hr'])
  refine ⟨D, rfl, _, .inl ⟨SqL.of f3.at_, kN.mk fun t3 H4 f4 => rows_eq (good_flA gg) (f4.get (f3.get hta)) f4.at_ ⟨_, rfl, ?_⟩⟩⟩
  rw [if_neg (by decide)]
  have s4 := f3.same.trans f4.same
  have F4 : FlH a.Picture x ya yd l g H4 := ⟨px2.same s4, pa2.same s4, pd.same s4, s4 _ _ l2⟩
  have S4 := (s1.trans s2).trans s4
  clear px pa2 px2 l2 pd pa hl f3 f4 s4 s1 s2 hta
  have ga := good_flA gg
  have gd := good_flD gg
  refine ⟨yd, rfl, mk_rows F4.pd fun td htd => ⟨_, SqL.of F4.hl, kN.mk fun l5 H5 f5 => ⟨l5, rfl, _, .inl ⟨SqL.of f5.at_, kN.mk fun t6 H6 f6 => ?_⟩⟩⟩⟩
  have er : (rowsV g).reverse = rowsV (flD g) := by rw [flD, rowsV, rowsV, List.map_reverse]
  rw [er] at f6
  refine rows_eq gd (f6.get (f5.get htd)) f6.at_ ⟨_, rfl, ?_⟩
  rw [if_neg (by decide)]
  have S6 := (S4.trans f5.same).trans f6.same
  have F6 := (F4.same f5.same).same f6.same
  clear F4 S4 f5 f6 htd
  refine ⟨F6.px.ins, x, wd, g, rfl, F6.px, gg, fun y7 H7 s7 _ p7 => ⟨y7, rfl, ya, rfl, p7.ins, (F6.same s7).pa.ins, y7, flA g, wd, _, rfl, p7, ga, .inl ⟨ya, flA g, wd, rfl, (F6.same s7).pa, ga, _, rfl, ?_⟩⟩⟩
  rw [decide_eq_true rfl, if_neg (by decide)]
  have F7 := F6.same s7
  refine ⟨F7.px.ins, x, wd, g, rfl, F7.px, gg, fun y8 H8 s8 _ p8 => ⟨y8, rfl, p8.ins, y8, wd, _, rfl, p8, ga, fun y9 H9 s9 _ p9 => ?_⟩⟩
  have F9 := (F7.same s8).same s9
  rw [flA_flA] at p9
  refine ⟨y9, rfl, p9.ins, F9.px.ins, y9, g, wd, _, rfl, p9, gg, .inl ⟨x, g, wd, rfl, F9.px, gg, _, rfl, ?_⟩⟩
  rw [decide_eq_true rfl, if_neg (by decide)]
  have S9 := ((S6.trans s7).trans s8).trans s9
  clear F7 F6 p7 p8 s7 s8 s9 S6 p9
  refine ⟨yd, rfl, mk_fl false rfl F9.pd gd fun yb HB sB _ pB => ?_⟩
  have FB := F9.same sB
  rw [show fl false (flD g) = g from flD_flD g] at pB
  refine ⟨yb, rfl, pB.ins, FB.px.ins, yb, g, wd, _, rfl, pB, gg, .inl ⟨x, g, wd, rfl, FB.px, gg, _, rfl, ?_⟩⟩
  rw [decide_eq_true rfl, if_neg (by decide)]
  refine ⟨ya, rfl, mk_fl true rfl FB.pa ga fun yc HC sC _ pC => ?_⟩
  have FC := FB.same sC
  rw [show fl true (flA g) = g from flA_flA g] at pC
  refine ⟨yc, rfl, pC.ins, FC.px.ins, yc, g, wd, _, rfl, pC, gg, .inl ⟨x, g, wd, rfl, FC.px, gg, _, rfl, ?_⟩⟩
  rw [decide_eq_true rfl, if_neg (by decide)]
  have SC := (S9.trans sB).trans sC
  clear F9 FB pB pC sB sC S9
  refine ⟨ya, rfl, mk_fl false rfl FC.pa ga fun ye HE sE _ pE => ⟨yd, rfl, mk_fl true rfl (FC.same sE).pd gd fun yf HF sF _ pF => ?_⟩⟩
  have FF := (FC.same sE).same sF
  have pE2 := pE.same sF
  rw [show fl false (flA g) = flA (flD g) from flA_flD g] at pE2
  rw [show fl true (flD g) = flA (flD g) from rfl] at pF
  refine ⟨ye, rfl, yf, rfl, pE2.ins, pF.ins, ye, _, wd, _, rfl, pE2, good_flA gd, .inl ⟨yf, _, wd, rfl, pF, good_flA gd, _, rfl, ?_⟩⟩
  rw [decide_eq_true rfl, if_neg (by decide)]
  have SF := (SC.trans sE).trans sF
  clear FC SC pE pE2 pF sE sF
  refine mk_rows FF.px fun tx htx => ⟨_, .inl ⟨SqL.of FF.hl, kN.mk fun t8 HG fG => rows_eq gg (fG.get htx) fG.at_ ⟨_, rfl, ?_⟩⟩⟩
  rw [if_neg (by decide)]
  have FG := FF.same fG.same
  have SG := SF.trans fG.same
  clear FF SF fG htx
  refine ⟨by decide, by decide, ?_⟩
  refine kFor.it walk_range (fun i σ H' => ∃ v4 v5, σ = [some (.ref x), some (.ref l), some (.ref ya), some (.ref yd), v4, v5] ∧ Same HG H') ⟨_, _, rfl, Same.refl _⟩ (fun _ _ _ _ _ => trivial) (fun i z σ HA HB hi hP hY => ?_) fun σ HA hP => ?_
  · obtain ⟨v4, v5, rfl, sA⟩ := hP
    obtain ⟨rfl, rfl⟩ := hY
    have hi : i < 10 := hi
    simp only [Int.zero_add, tSeq, tIfS, tTest, tB, tAnd, tOr, tNot, tAndV, tOrV, tNotV, tIf, tOp, tUn, tChain, rEq, rNe, rI0, rI, rU, tCallR, tCons, tNil, tC, tVar, tRet, tRetN, tTup_k, tLst_k, tCB, tNext, tAsg, gName, gTup, gCons, gNil, tDrop, tPar, tFld, ClX.tCVal, tPropR, rBin, rBinT, rNeOwn, rSetL_k, gSub, tMakeK_k, tMethR, rInO, tDNewK_k, tYes, wipe, tMakeR_k, tSMeth, tSMethK, rMulS, decide_true, tNever, sFld, rIsiT, and_false, rListOf, rTupOf, rLenSeq, rIxL, rIxT, rIxS, rCat_k, rRep_k, rSlL_k, rSlS, rNewStrs_k, rAppend_k, tBM, tBM0, tM0, tM1, tSl, tNoPart, tPart, tLc_k, tFor_k, iList, iTup, iEnumT, iRng1, iRng2, iRng2L, iStr, L2.start, List.map, List.length_cons, List.length_nil, List.cons_append, List.nil_append, List.getElem?_cons_succ, List.getElem?_cons_zero, Option.some.injEq, V.int.injEq, V.bl.injEq, V.str.injEq, V.ref.injEq, exists_eq_left', exists_eq_left, and_assoc, exists_and_left, exists_eq, exists_eq', true_and, and_true, List.set_cons_zero, List.set_cons_succ, List.set, decide_eq_true_eq, Bool.not_eq_true', if_true, if_false, rIx, cx_K, nox_K, List.replicate_succ, List.replicate_zero, Nat.reduceSub, Bool.true_eq_false, Bool.false_eq_true, Nat.reduceAdd, List.cons.injEq, reduceCtorEq, false_and, false_or, or_false, tAug, rSetO, rJoin, tMakeL, rStrO, ClX.tCMeth, rPop, tLc2_k, iEnum, tPar3, iZipS, iZipS3, tListZip, rInDT, tBackS, tBackT, tSlSt, rUn]
    have FA := FG.same sA
    refine mk_area FA.pa ga (by omega) (by omega) fun H1 t1 => mk_area (FA.same t1).pd gd (by omega) (by omega) fun H2 t2 => kNew.mk (by show 2 ≤ sizeLine; decide) fun l3 H3 f3 => ?_
    refine mk_area (((FA.same t1).same t2).same f3.same).px gg (by omega) (by omega) fun H4 t4 => kNew.mk (by show 1 ≤ sizeLine; decide) fun l5 H5 f5 => ⟨l5, rfl, _, f5.at_, by decide, by decide, by show 1 * 2 ≤ sizeLine; decide, kN.mk fun l6 H6 f6 => ?_⟩
    rw [area_flA, area_flD] at f3
    refine ⟨.list [.int (areaOf g i), .int (areaOf g i)], .list [.int (areaOf g i), .int (areaOf g i)], .lst (SqL.of (f6.get (f5.get (t4 _ _ f3.at_)))) (.cons (.int _) (.cons (.int _) .nil)), .lst (SqL.of f6.at_) (.cons (.int _) (.cons (.int _) .nil)), shaped_two _ _, shaped_two _ _, ?_⟩
    rw [show PyData.eqv (.list [.int (areaOf g i), .int (areaOf g i)]) (.list [.int (areaOf g i), .int (areaOf g i)]) = true from by simp [PyData.eqv, PyData.eqvAll]]
    refine ⟨_, rfl, ?_⟩
    rw [if_neg (by decide)]
    exact ((((sA.trans t1).trans t2).trans f3.same).trans t4).trans (f5.same.trans f6.same)
  · obtain ⟨v4, v5, rfl, sA⟩ := hP
    exact k _ (SG.trans sA)
end
end Pf
end
section
namespace Pf
open PySem PySem.Spec PyProof.Rows L2 Ow StX
open SX (S)
theorem leB_false {rs rs' : List (List Nat)} {j i : Nat} {r r' : List Nat} {c c' : Nat} (h1 : rs[j]? = some r) (h2 : rs'[j]? = some r') (h3 : r[i]? = some c) (h4 : r'[i]? = some c') (n1 : c ≠ 48) (n2 : c ≠ c') : leB rs rs' = false := by
  cases hb : leB rs rs' with
  | false => rfl
  | true =>
    have q1 := List.all_eq_true.mp hb (r, r') (List.mem_of_getElem? ((List.getElem?_zip_eq_some (z := (r, r'))).mpr ⟨h1, h2⟩ : (rs.zip rs')[j]? = some (r, r')))
    have q2 := List.all_eq_true.mp q1 (c, c') (List.mem_of_getElem? ((List.getElem?_zip_eq_some (z := (c, c'))).mpr ⟨h3, h4⟩ : (r.zip r')[i]? = some (c, c')))
    simp [n1, n2] at q2
theorem leB_true {rs rs' : List (List Nat)} (h : ∀ (j : Nat) (r r' : List Nat), rs[j]? = some r → rs'[j]? = some r' → ∀ (i c c' : Nat), r[i]? = some c → r'[i]? = some c' → c = 48 ∨ c = c') : leB rs rs' = true := by
  refine List.all_eq_true.mpr fun p hp => ?_
  obtain ⟨j, hj⟩ := List.getElem?_of_mem hp
  obtain ⟨h1, h2⟩ := List.getElem?_zip_eq_some.mp hj
  refine List.all_eq_true.mpr fun q hq => ?_
  obtain ⟨i, hi⟩ := List.getElem?_of_mem hq
  obtain ⟨h3, h4⟩ := List.getElem?_zip_eq_some.mp hi
  rcases h j p.1 p.2 h1 h2 i q.1 q.2 h3 h4 with e | e <;> simp [e]
def at2 (rs : List (List Nat)) (j i : Nat) : Option Nat := rs[j]?.bind fun r => r[i]?
theorem at2_j {g : Nat → Nat → Nat} {rs rs' : List (List Nat)} (j i : Nat) : at2 (jRs g rs rs') j i = (at2 rs j i).bind fun x => (at2 rs' j i).map (g x) := by
  unfold at2 jRs
  rw [List.getElem?_zipWith]
  cases rs[j]? with
  | none => rfl
  | some r =>
    cases rs'[j]? with
    | none => cases h : r[i]? <;> simp [h]
    | some r' =>
      show (jR g r r')[i]? = r[i]?.bind fun x => r'[i]?.map (g x)
      unfold jR
      rw [List.getElem?_zipWith]
      cases r[i]? <;> cases r'[i]? <;> rfl
theorem grid_ext {w : Nat} {rs rs' : List (List Nat)} (g : Good w rs) (g' : Good w rs') (hl : rs.length = rs'.length) (h : ∀ j i, at2 rs j i = at2 rs' j i) : rs = rs' := by
  refine List.ext_getElem? fun j => ?_
  cases h1 : rs[j]? with
  | none => rw [List.getElem?_eq_none_iff] at h1; rw [List.getElem?_eq_none (by omega)]
  | some r =>
    cases h2 : rs'[j]? with
    | none =>
      rw [List.getElem?_eq_none_iff] at h2
      rw [List.getElem?_eq_none (by omega)] at h1
      cases h1
    | some r' =>
      refine congrArg some (List.ext_getElem? fun i => ?_)
      have e := h j i
      unfold at2 at e
      rw [h1, h2] at e
      exact e
theorem at2_both {w : Nat} {rs rs' : List (List Nat)} (g : Good w rs) (g' : Good w rs') (hl : rs.length = rs'.length) (j i : Nat) : (at2 rs j i = none ∧ at2 rs' j i = none) ∨ ∃ x y, at2 rs j i = some x ∧ at2 rs' j i = some y := by
  unfold at2
  cases h1 : rs[j]? with
  | none =>
    rw [List.getElem?_eq_none_iff] at h1
    rw [List.getElem?_eq_none (by omega : rs'.length ≤ j)]
    exact .inl ⟨rfl, rfl⟩
  | some r =>
    cases h2 : rs'[j]? with
    | none =>
      rw [List.getElem?_eq_none_iff] at h2
      rw [List.getElem?_eq_none (by omega)] at h1
      cases h1
    | some r' =>
      have l1 := (g.at_ h1).1
      have l2 := (g'.at_ h2).1
      show (r[i]? = none ∧ r'[i]? = none) ∨ ∃ x y, r[i]? = some x ∧ r'[i]? = some y
      by_cases hi : i < r.length
      · exact .inr ⟨_, _, List.getElem?_eq_getElem hi, List.getElem?_eq_getElem (by omega)⟩
      · exact .inl ⟨List.getElem?_eq_none (by omega), List.getElem?_eq_none (by omega)⟩
theorem lies_rev {r r' : List Nat} (h : r.length = r'.length) : liesB r.reverse r'.reverse = liesB r r' := by
  unfold liesB
  rw [List.zip_eq_zipWith, List.zip_eq_zipWith, ← List.reverse_zipWith h, List.all_reverse]
theorem all_mem {α : Type} {f f' : α → Bool} : ∀ {l : List α}, (∀ p ∈ l, f p = f' p) → l.all f = l.all f'
  | [], _ => rfl
  | a :: t, h => by rw [List.all_cons, List.all_cons, h a List.mem_cons_self, all_mem fun p hp => h p (List.mem_cons_of_mem _ hp)]
theorem le_fl {w : Nat} {g g' : List (List Nat)} (b : Bool) (gg : Good w g) (gh : Good w g') (hl : g.length = g'.length) : leB (fl b g) (fl b g') = leB g g' := by
  cases b with
  | false =>
    show leB (flD g) (flD g') = _
    unfold leB flD
    rw [List.zip_eq_zipWith, List.zip_eq_zipWith, ← List.reverse_zipWith hl, List.all_reverse]
  | true =>
    show leB (flA g) (flA g') = _
    unfold leB flA
    rw [List.zip_map, List.all_map]
    refine all_mem fun p hp => ?_
    obtain ⟨h1, h2⟩ := List.of_mem_zip (a := p.1) (b := p.2) hp
    exact lies_rev (by rw [(gg.row _ h1).1, (gh.row _ h2).1])
theorem j_flA {w : Nat} {f : Nat → Nat → Nat} : ∀ {g g' : List (List Nat)}, (∀ r ∈ g, r.length = w) → (∀ r ∈ g', r.length = w) → jRs f (flA g) (flA g') = flA (jRs f g g')
  | [], _, _, _ => by simp [jRs, flA]
  | _ :: _, [], _, _ => by simp [jRs, flA]
  | r :: t, r' :: t', h, h' => by
    have ih := j_flA (f := f) (fun q hq => h q (List.mem_cons_of_mem _ hq)) (fun q hq => h' q (List.mem_cons_of_mem _ hq)) (g := t) (g' := t')
    have e : jR f r.reverse r'.reverse = (jR f r r').reverse := by
      unfold jR
      rw [List.reverse_zipWith (by rw [h r List.mem_cons_self, h' r' List.mem_cons_self])]
    show jR f r.reverse r'.reverse :: jRs f (flA t) (flA t') = (jR f r r').reverse :: flA (jRs f t t')
    rw [e, ih]
theorem j_fl {w : Nat} {f : Nat → Nat → Nat} {g g' : List (List Nat)} (b : Bool) (gg : Good w g) (gh : Good w g') (hl : g.length = g'.length) : jRs f (fl b g) (fl b g') = fl b (jRs f g g') := by
  cases b with
  | false =>
    show jRs f (flD g) (flD g') = flD (jRs f g g')
    unfold jRs flD
    rw [List.reverse_zipWith hl]
  | true => exact j_flA (fun r hr => (gg.row r hr).1) (fun r hr => (gh.row r hr).1)
theorem fl_fl (b : Bool) (g : List (List Nat)) : fl b (fl b g) = g := by
  cases b
  · exact flD_flD g
  · exact flA_flA g
theorem eq_fl (b : Bool) (g g' : List (List Nat)) : decide (fl b g = fl b g') = decide (g = g') := by
  by_cases h : g = g'
  · rw [h, decide_eq_true rfl, decide_eq_true rfl]
  · rw [decide_eq_false h, decide_eq_false fun e => h (by rw [← fl_fl b g, e, fl_fl])]
theorem len_fl (b : Bool) (g : List (List Nat)) : (fl b g).length = g.length := by
  cases b
  · exact List.length_reverse
  · exact List.length_map ..
theorem told_four (a b c d : Bool) : SeqAt.shaped (.list [.bool a, .bool b, .bool c, .bool d]) = true ∧ PyData.eqv (.list [.bool a, .bool b, .bool c, .bool d]) (.list [.bool a, .bool b, .bool c, .bool d]) = true := by cases a <;> cases b <;> cases c <;> cases d <;> decide +kernel
theorem ord3 {C U x y : Addr} {f : List (List Nat) → List (List Nat) → Bool} {wd : Nat} {rs rs' : List (List Nat)} {H : Hp} {Q : VK} {E : XK} (px : Pic H C x rs) (py : Pic H C y rs') (g : Good wd rs) (g' : Good wd rs') (hlen : rs.length = rs'.length) (k : ∀ H', Same H H' → Q (.bl (f rs rs')) H') :
    InsAt H x C ∧ InsAt H y C ∧ spOrd C U f [.ref x, .ref y] H Q E := ⟨px.ins, py.ins, x, y, wd, wd, rs, rs', rfl, px, py, g, g', .inl ⟨rfl, hlen, k⟩⟩
theorem join3 {C U x y : Addr} {g : Nat → Nat → Nat} {wd : Nat} {rs rs' : List (List Nat)} {H : Hp} {Q : VK} {E : XK} (px : Pic H C x rs) (py : Pic H C y rs') (g1 : Good wd rs) (g2 : Good wd rs') (hlen : rs.length = rs'.length) (k : ∀ z H', Same H H' → Pic H' C z (jRs g rs rs') → Q (.ref z) H') :
    InsAt H x C ∧ InsAt H y C ∧ spJoin C U g [.ref x, .ref y] H Q E := ⟨px.ins, py.ins, x, y, wd, wd, rs, rs', rfl, px, py, g1, g2, .inl ⟨rfl, hlen, k⟩⟩
theorem eq3 {K : PySem.W.Frag} {C p q : Addr} {wa wb : Nat} {ra rb : List (List Nat)} {H : Hp} {Q : VK} {E : XK} (pp : Pic H C p ra) (pq : Pic H C q rb) (ga : Good wa ra) (gb : Good wb rb) (k : Q (.bl (decide (ra = rb))) H) :
    InsAt H p C ∧ InsAt H q C ∧ spPEq K C [.ref p, .ref q] H Q E := ⟨pp.ins, pq.ins, p, ra, wa, _, rfl, pp, ga, .inl ⟨q, rb, wb, rfl, pq, gb, k⟩⟩
structure TwoH (C x y u v : Addr) (b : Bool) (g g' : List (List Nat)) (H : Hp) : Prop where
  px : Pic H C x g
  py : Pic H C y g'
  pu : Pic H C u (fl b g)
  pv : Pic H C v (fl b g')
theorem TwoH.same {C x y u v : Addr} {b : Bool} {g g' : List (List Nat)} {H H' : Hp} (h : TwoH C x y u v b g g' H) (s : Same H H') : TwoH C x y u v b g g' H' := ⟨h.px.same s, h.py.same s, h.pu.same s, h.pv.same s⟩
def spTwoRight (C : Addr) : Sp := fun vs H Q _ => ∃ (x y : Addr) (w : Nat) (g g' : List (List Nat)), vs = [.ref x, .ref y] ∧ Pic H C x g ∧ Pic H C y g' ∧ Good w g ∧ Good w g' ∧ g.length = g'.length ∧ ∀ H', Same H H' → Q (.bl true) H'
section
variable {P : Program} {w : World} {K : PySem.W.Frag} {mg : Str → Option Value} {base : Heap} {a : Adr}
set_option maxHeartbeats 4000000
theorem ok_twoR (T : Txt K mg a) : FnG P w K mg base CX0 9 a._law_two_right (spTwoRight a.Picture) := by
  have G_flipped : FnR P w K mg base CX0 5 a.Picture_flipped (spFlip a.Picture) := ok_flipped T
  have G_eq : FnR P w K mg base CX0 3 a.Picture_eq (spPEq K a.Picture) := ok_peq T
  have G_le : FnR P w K mg base (CX P w) 5 a.Picture_le (spOrd a.Picture a.Unlike leB) := ok_ple T
  have G_lt : FnR P w K mg base (CX P w) 7 a.Picture_lt (spOrd a.Picture a.Unlike fun rs rs' => leB rs rs' && !decide (rs = rs')) := ok_plt T
  have G_or : FnR P w K mg base (CX P w) 5 a.Picture_or (spJoin a.Picture a.Unlike gOr) := ok_por T
  have G_and : FnR P w K mg base (CX P w) 5 a.Picture_and (spJoin a.Picture a.Unlike gAnd) := ok_pand T
  have G_xor : FnR P w K mg base (CX P w) 5 a.Picture_xor (spJoin a.Picture a.Unlike gXor) := ok_pxor T
  refine T.d__law_two_right.okG sc__law_two_right (fun _ _ _ _ _ _ us hl => match us, hl with | [_, _], _ => rfl) (fun vs H Q E h => by obtain ⟨x, y, w, g, g', rfl, _⟩ := h; rfl) (fun cdv A outer s H vs Q E hr hg h => ?_)
  obtain ⟨x, y, wd, g, g', rfl, px, py, gg, gh, hlen, k⟩ := h
  refine ⟨_, (pss_cons (ps_for PassesOwn.never rfl (pi_list (pe_lst (pa_cons pe_str (pa_cons pe_str pa_nil)))) (pg_name (i := 2) sc__law_two_right.nd rfl (Or.inl rfl))
          (pss_cons (ps_par (i := 3) (j := 4) (by rfl) sc__law_two_right.nd rfl rfl (by decide) rfl rfl (pa_cons (pe_methR (pv 0) T.c_Picture.cl T.mt_flipped G_flipped (hr.mono (by decide)) pass0 (pa_cons (pv 2) pa_nil)) (pa_cons (pe_methR (pv 1) T.c_Picture.cl T.mt_flipped G_flipped (hr.mono (by decide)) pass0 (pa_cons (pv 2) pa_nil)) pa_nil)) (by rfl))
          (pss_cons (ps_if (pt_cmpR (op_neD hr.units) (pe_lst (pa_cons (pe_cmpR (op_cmp (op := .LtE) (fun _ _ => rfl) T.o_Picture_le T.f_Picture_le T.s_Picture_not G_le (hr.mono (by decide)) (passUp LamX.takes0) ) (pv 3) (pv 4) (nomark _)) (pa_cons (pe_cmpR (op_cmp (op := .Lt) (fun _ _ => rfl) T.o_Picture_lt T.f_Picture_lt T.s_Picture_not G_lt (hr.mono (by decide)) (passUp LamX.takes0) ) (pv 3) (pv 4) (nomark _)) (pa_cons (pe_cmpR (op_cmp (op := .LtE) (fun _ _ => rfl) T.o_Picture_le T.f_Picture_le T.s_Picture_not G_le (hr.mono (by decide)) (passUp LamX.takes0) ) (pv 4) (pv 3) (nomark _)) (pa_cons (pe_cmpR (op_cmp (op := .Eq) (fun _ _ => rfl) T.o_Picture_eq T.f_Picture_eq T.s_Picture_not G_eq (hr.mono (by decide)) pass0) (pv 3) (pv 4) (nomark _)) pa_nil))))) (pe_lst (pa_cons (pe_cmpR (op_cmp (op := .LtE) (fun _ _ => rfl) T.o_Picture_le T.f_Picture_le T.s_Picture_not G_le (hr.mono (by decide)) (passUp LamX.takes0) ) (pv 0) (pv 1) (nomark _)) (pa_cons (pe_cmpR (op_cmp (op := .Lt) (fun _ _ => rfl) T.o_Picture_lt T.f_Picture_lt T.s_Picture_not G_lt (hr.mono (by decide)) (passUp LamX.takes0) ) (pv 0) (pv 1) (nomark _)) (pa_cons (pe_cmpR (op_cmp (op := .LtE) (fun _ _ => rfl) T.o_Picture_le T.f_Picture_le T.s_Picture_not G_le (hr.mono (by decide)) (passUp LamX.takes0) ) (pv 1) (pv 0) (nomark _)) (pa_cons (pe_cmpR (op_cmp (op := .Eq) (fun _ _ => rfl) T.o_Picture_eq T.f_Picture_eq T.s_Picture_not G_eq (hr.mono (by decide)) pass0) (pv 0) (pv 1) (nomark _)) pa_nil))))) (nomark _))
              (pss_one (ps_ret pe_bl))
              pss_nil)
          (pss_cons (ps_if (PW.pt (pw_or (pt_cmpR (op_ne_own T.o_Picture_ne T.o_Picture_eq T.f_Picture_eq T.s_Picture_obj G_eq (hr.mono (by decide)) pass0) (pe_op (op_bin (op := .BitOr) T.s_Picture_first T.o_Picture_or T.f_Picture_or G_or (hr.mono (by decide)) (passUp LamX.takes0) ) (pv 3) (pv 4)) (pe_methR (pe_op (op_bin (op := .BitOr) T.s_Picture_first T.o_Picture_or T.f_Picture_or G_or (hr.mono (by decide)) (passUp LamX.takes0) ) (pv 0) (pv 1)) T.c_Picture.cl T.mt_flipped G_flipped (hr.mono (by decide)) pass0 (pa_cons (pv 2) pa_nil)) (nomark _)) (pw_or1 (pt_cmpR (op_ne_own T.o_Picture_ne T.o_Picture_eq T.f_Picture_eq T.s_Picture_obj G_eq (hr.mono (by decide)) pass0) (pe_op (op_bin (op := .BitAnd) T.s_Picture_first T.o_Picture_and T.f_Picture_and G_and (hr.mono (by decide)) (passUp LamX.takes0) ) (pv 3) (pv 4)) (pe_methR (pe_op (op_bin (op := .BitAnd) T.s_Picture_first T.o_Picture_and T.f_Picture_and G_and (hr.mono (by decide)) (passUp LamX.takes0) ) (pv 0) (pv 1)) T.c_Picture.cl T.mt_flipped G_flipped (hr.mono (by decide)) pass0 (pa_cons (pv 2) pa_nil)) (nomark _)))))
              (pss_one (ps_ret pe_bl))
              pss_nil)
          (pss_one (ps_if (pt_cmpR (op_ne_own T.o_Picture_ne T.o_Picture_eq T.f_Picture_eq T.s_Picture_obj G_eq (hr.mono (by decide)) pass0) (pe_op (op_bin (op := .BitXor) T.s_Picture_first T.o_Picture_xor T.f_Picture_xor G_xor (hr.mono (by decide)) (passUp LamX.takes0) ) (pv 3) (pv 4)) (pe_methR (pe_op (op_bin (op := .BitXor) T.s_Picture_first T.o_Picture_xor T.f_Picture_xor G_xor (hr.mono (by decide)) (passUp LamX.takes0) ) (pv 0) (pv 1)) T.c_Picture.cl T.mt_flipped G_flipped (hr.mono (by decide)) pass0 (pa_cons (pv 2) pa_nil)) (nomark _))
              (pss_one (ps_ret pe_bl))
              pss_nil))))))
      (pss_one (ps_ret pe_bl))), ?_⟩
  simp only [tSeq, tIfS, tTest, tB, tAnd, tOr, tNot, tAndV, tOrV, tNotV, tIf, tOp, tUn, tChain, rEq, rNe, rI0, rI, rU, tCallR, tCons, tNil, tC, tVar, tRet, tRetN, tTup_k, tLst_k, tCB, tNext, tAsg, gName, gTup, gCons, gNil, tDrop, tPar, tFld, ClX.tCVal, tPropR, rBin, rBinT, rNeOwn, rSetL_k, gSub, tMakeK_k, tMethR, rInO, tDNewK_k, tYes, wipe, tMakeR_k, tSMeth, tSMethK, rMulS, decide_true, tNever, sFld, rIsiT, and_false, rListOf, rTupOf, rLenSeq, rIxL, rIxT, rIxS, rCat_k, rRep_k, rSlL_k, rSlS, rNewStrs_k, rAppend_k, tBM, tBM0, tM0, tM1, tSl, tNoPart, tPart, tLc_k, tFor_k, iList, iTup, iEnumT, iRng1, iRng2, iRng2L, iStr, L2.start, List.map, List.length_cons, List.length_nil, List.cons_append, List.nil_append, List.getElem?_cons_succ, List.getElem?_cons_zero, Option.some.injEq, V.int.injEq, V.bl.injEq, V.str.injEq, V.ref.injEq, exists_eq_left', exists_eq_left, and_assoc, exists_and_left, exists_eq, exists_eq', true_and, and_true, List.set_cons_zero, List.set_cons_succ, List.set, decide_eq_true_eq, Bool.not_eq_true', if_true, if_false, rIx, cx_K, nox_K, List.replicate_succ, List.replicate_zero, Nat.reduceSub, Bool.true_eq_false, Bool.false_eq_true, Nat.reduceAdd, List.cons.injEq, reduceCtorEq, false_and, false_or, or_false, tAug, rSetO, rJoin, tMakeL, rStrO, ClX.tCMeth, rPop, tLc2_k, iEnum, tPar3, iZipS, iZipS3, tListZip, rInDT, tBackS, tBackT, tSlSt, rUn]
  refine kNew.mk (by show 2 ≤ sizeLine; decide) fun lt H1 f1 => ⟨lt, rfl, ⟨_, SqL.of f1.at_⟩, ?_⟩
  refine kFor.it walk_list (fun i σ H' => ∃ v2 v3 v4, σ = [some (.ref x), some (.ref y), v2, v3, v4] ∧ Same H1 H') ⟨_, _, _, rfl, Same.refl _⟩ (fun i σ H' _ h => by obtain ⟨_, _, _, _, s⟩ := h; exact Same.seq s (SqL.of f1.at_)) (fun i z σ HA HB hi hP hY => ?_) fun σ HA hP => ?_
  · obtain ⟨v2, v3, v4, rfl, sA⟩ := hP
    obtain ⟨rfl, hz⟩ := hY
    obtain ⟨b, rfl⟩ : ∃ b : Bool, z = .str (axS b) := by
      match i, hi with
      | 0, _ => cases hz; exact ⟨true, rfl⟩
      | 1, _ => cases hz; exact ⟨false, rfl⟩
    simp only [tSeq, tIfS, tTest, tB, tAnd, tOr, tNot, tAndV, tOrV, tNotV, tIf, tOp, tUn, tChain, rEq, rNe, rI0, rI, rU, tCallR, tCons, tNil, tC, tVar, tRet, tRetN, tTup_k, tLst_k, tCB, tNext, tAsg, gName, gTup, gCons, gNil, tDrop, tPar, tFld, ClX.tCVal, tPropR, rBin, rBinT, rNeOwn, rSetL_k, gSub, tMakeK_k, tMethR, rInO, tDNewK_k, tYes, wipe, tMakeR_k, tSMeth, tSMethK, rMulS, decide_true, tNever, sFld, rIsiT, and_false, rListOf, rTupOf, rLenSeq, rIxL, rIxT, rIxS, rCat_k, rRep_k, rSlL_k, rSlS, rNewStrs_k, rAppend_k, tBM, tBM0, tM0, tM1, tSl, tNoPart, tPart, tLc_k, tFor_k, iList, iTup, iEnumT, iRng1, iRng2, iRng2L, iStr, L2.start, List.map, List.length_cons, List.length_nil, List.cons_append, List.nil_append, List.getElem?_cons_succ, List.getElem?_cons_zero, Option.some.injEq, V.int.injEq, V.bl.injEq, V.str.injEq, V.ref.injEq, exists_eq_left', exists_eq_left, and_assoc, exists_and_left, exists_eq, exists_eq', true_and, and_true, List.set_cons_zero, List.set_cons_succ, List.set, decide_eq_true_eq, Bool.not_eq_true', if_true, if_false, rIx, cx_K, nox_K, List.replicate_succ, List.replicate_zero, Nat.reduceSub, Bool.true_eq_false, Bool.false_eq_true, Nat.reduceAdd, List.cons.injEq, reduceCtorEq, false_and, false_or, or_false, tAug, rSetO, rJoin, tMakeL, rStrO, ClX.tCMeth, rPop, tLc2_k, iEnum, tPar3, iZipS, iZipS3, tListZip, rInDT, tBackS, tBackT, tSlSt, rUn]
    have gu := good_fl b gg
    have gv := good_fl b gh
    have hl2 : (fl b g).length = (fl b g').length := by rw [len_fl, len_fl, hlen]
    have S0 := f1.same.trans sA
    refine mk_fl b rfl (px.same S0) gg fun u H2 s2 _ pu => mk_fl b rfl ((py.same S0).same s2) gh fun v H3 s3 _ pv => ?_
    have F3 : TwoH a.Picture x y u v b g g' H3 := ⟨((px.same S0).same s2).same s3, ((py.same S0).same s2).same s3, pu.same s3, pv⟩
    have S3 := (sA.trans s2).trans s3
    clear S0 pu pv s2 s3
    refine ord2 F3.pu F3.pv gu gv hl2 fun H4 s4 => ?_
    have F4 := F3.same s4
    refine ord2 F4.pu F4.pv gu gv hl2 fun H5 s5 => ?_
    have F5 := F4.same s5
    refine ord2 F5.pv F5.pu gv gu hl2.symm fun H6 s6 => ?_
    have F6 := F5.same s6
    refine eq2 F6.pu F6.pv gu gv ?_
    refine kNew.mk (by show 4 ≤ sizeLine; decide) fun l7 H7 f7 => ?_
    have F7 := F6.same f7.same
    have S7 := (((S3.trans s4).trans s5).trans s6).trans f7.same
    have l7' := f7.at_
    rw [le_fl b gg gh hlen, le_fl b gh gg hlen.symm, eq_fl] at l7'
    clear F3 F4 F5 F6 s4 s5 s6 f7 S3
    refine ord3 F7.px F7.py gg gh hlen fun H8 s8 => ?_
    have F8 := F7.same s8
    refine ord3 F8.px F8.py gg gh hlen fun H9 s9 => ?_
    have F9 := F8.same s9
    refine ord3 F9.py F9.px gh gg hlen.symm fun HC sC => ?_
    have FC := F9.same sC
    refine eq3 FC.px FC.py gg gh ?_
    refine kNew.mk (by show 4 ≤ sizeLine; decide) fun lD HD fD => ?_
    have FD := FC.same fD.same
    have SD := (((S7.trans s8).trans s9).trans sC).trans fD.same
    have l7D := fD.get (sC _ _ (s9 _ _ (s8 _ _ l7')))
    obtain ⟨t1, t2⟩ := told_four (leB g g') (leB g g' && !decide (g = g')) (leB g' g) (decide (g = g'))
    refine ⟨_, _, .lst (SqL.of l7D) (.cons (.bl _) (.cons (.bl _) (.cons (.bl _) (.cons (.bl _) .nil)))), .lst (SqL.of fD.at_) (.cons (.bl _) (.cons (.bl _) (.cons (.bl _) (.cons (.bl _) .nil)))), t1, t1, ?_⟩
    rw [t2]
    refine ⟨_, rfl, ?_⟩
    rw [if_neg (by decide)]
    clear l7D fD FC F9 F8 F7 s8 s9 sC l7' S7 t1 t2
    refine join2 FD.pu FD.pv gu gv hl2 fun z1 H1' s1 pz1 => join3 (FD.same s1).px (FD.same s1).py gg gh hlen fun z2 H2 s2 pz2 => ⟨z2, rfl, mk_fl b rfl pz2 (good_j dig_gOr gg gh hlen) fun z3 H3 s3 _ pz3 => ?_⟩
    refine ne2 ((pz1.same s2).same s3) pz3 (good_j dig_gOr gu gv hl2) (good_fl b (good_j dig_gOr gg gh hlen)) (j_fl b gg gh hlen) ?_
    have FE := ((FD.same s1).same s2).same s3
    have SE := ((SD.trans s1).trans s2).trans s3
    clear FD SD s1 s2 s3 pz1 pz2 pz3
    refine join2 FE.pu FE.pv gu gv hl2 fun z1 H1' s1 pz1 => join3 (FE.same s1).px (FE.same s1).py gg gh hlen fun z2 H2 s2 pz2 => ⟨z2, rfl, mk_fl b rfl pz2 (good_j dig_gAnd gg gh hlen) fun z3 H3 s3 _ pz3 => ?_⟩
    refine ne2 ((pz1.same s2).same s3) pz3 (good_j dig_gAnd gu gv hl2) (good_fl b (good_j dig_gAnd gg gh hlen)) (j_fl b gg gh hlen) ?_
    have FF := ((FE.same s1).same s2).same s3
    have SF := ((SE.trans s1).trans s2).trans s3
    clear FE SE s1 s2 s3 pz1 pz2 pz3
    refine join2 FF.pu FF.pv gu gv hl2 fun z1 H1' s1 pz1 => join3 (FF.same s1).px (FF.same s1).py gg gh hlen fun z2 H2 s2 pz2 => ⟨z2, rfl, mk_fl b rfl pz2 (good_j dig_gXor gg gh hlen) fun z3 H3 s3 _ pz3 => ?_⟩
    refine ne2 ((pz1.same s2).same s3) pz3 (good_j dig_gXor gu gv hl2) (good_fl b (good_j dig_gXor gg gh hlen)) (j_fl b gg gh hlen) ?_
    exact ((SF.trans s1).trans s2).trans s3
  · obtain ⟨v2, v3, v4, rfl, sA⟩ := hP
    exact k _ (f1.same.trans sA)
end
end Pf
end
section
namespace Pf
open PySem PySem.Spec PyProof.Rows L2 Ow StX
open SX (S)
theorem Pen.le {H : Hp} {p c : Addr} {n m : Int} (x : Pen H p c n) (h : n ≤ m) : Pen H p c m := by
  obtain ⟨ns, b, r, h1, h2, h3, h4, h5, h6, h7⟩ := x
  exact ⟨ns, b, r, h1, h2, h3, h4, h5, by omega, h7⟩
theorem Pen.at_p {H : Hp} {p c x : Addr} {n : Int} (P : Pen H p c n) (h : H x = none) : x ≠ p ∧ c ≠ x := by
  obtain ⟨ns, b, r, h1, h2, _⟩ := P
  exact ⟨fun e => (by rw [← e, h] at h1; cases h1), fun e => (by rw [e, h] at h2; cases h2)⟩
theorem Pen.put {H : Hp} {p c x : Addr} {n : Int} {o : HO} (P : Pen H p c n) (hp : x ≠ p) (hc : c ≠ x) : Pen (upd H x o) p c n := by
  obtain ⟨ns, b, r, h1, h2, h⟩ := P
  exact ⟨ns, b, r, by rw [upd_ne (Ne.symm hp)]; exact h1, by rw [upd_ne hc]; exact h2, h⟩
theorem Pen.ne {H : Hp} {p c t : Addr} {n : Int} {o : HO} (x : Pen H p c n) (h : H t = some o) (q : ∀ xs, o ≠ .lst xs) : t ≠ p := by
  obtain ⟨ns, b, r, h1, _⟩ := x
  exact ne_of h h1 (q _)
def Dig (s : Str) : Prop := ∃ k : Nat, k < 10 ∧ s = Str.ofString (toString (k : Int))
def Row (wide : Nat) (s : Str) : Prop := ∃ ds : List Str, ds.length = wide ∧ (∀ d ∈ ds, Dig d) ∧ s = Txt.join "" ds ∧ PyData.strOk s = true
theorem dp_strs {K : PySem.W.Frag} {H : Hp} : ∀ ls : List Str, DpAll K H (ls.map V.str) (ls.map PyData.str)
  | [] => .nil
  | i :: r => .cons (.str i) (dp_strs r)
theorem lay_strs : ∀ ls : List Str, (∀ s ∈ ls, PyData.strOk s = true) → PyData.canLayAll0 (ls.map PyData.str) = true ∧ PyData.depthAll (ls.map PyData.str) ≤ 1
  | [], _ => ⟨rfl, by simp [PyData.depthAll]⟩
  | i :: r, h => by
    obtain ⟨h1, h2⟩ := lay_strs r fun s q => h s (List.mem_cons_of_mem _ q)
    refine ⟨by simp only [List.map_cons, PyData.canLayAll0, PyData.canLay0, h1, h i List.mem_cons_self]; rfl, ?_⟩
    simp only [List.map_cons, PyData.depthAll, PyData.depth]
    omega
theorem shaped_strs {ls : List Str} (h : ∀ s ∈ ls, PyData.strOk s = true) : SeqAt.shaped (.list (ls.map PyData.str)) = true := by
  obtain ⟨h1, h2⟩ := lay_strs ls h
  refine Bool.and_eq_true_iff.mpr ⟨h1, decide_eq_true ?_⟩
  simp only [PyData.depth]
  omega
theorem eqv_strs (ls : List Str) : PyData.eqv (.list (ls.map PyData.str)) (.list []) = decide (ls = []) := by
  cases ls with
  | nil => simp [PyData.eqv, PyData.eqvAll]
  | cons i r => simp [PyData.eqv, PyData.eqvAll]
theorem dig_ok {d : Str} (h : Dig d) : PyData.strOk d = true ∧ d.length = 1 := by
  obtain ⟨k, hk, rfl⟩ := h
  match k, hk with
  | 0, _ | 1, _ | 2, _ | 3, _ | 4, _ | 5, _ | 6, _ | 7, _ | 8, _ | 9, _ => exact ⟨by decide +kernel, by decide +kernel⟩
theorem fold_ok : ∀ (rest : List Str) (acc : Array Nat), acc.all (· < 0x110000) = true → (∀ d ∈ rest, PyData.strOk d = true) → (rest.foldl (fun acc p => acc ++ (Str.ofString "").cps ++ p.cps) acc).all (· < 0x110000) = true
  | [], acc, h, _ => h
  | d :: r, acc, h, g => by
    refine fold_ok r _ ?_ fun x q => g x (List.mem_cons_of_mem _ q)
    have hd : d.cps.all (· < 0x110000) = true := g d List.mem_cons_self
    have he : (Str.ofString "").cps.all (· < 0x110000) = true := by decide +kernel
    rw [Array.all_append, Array.all_append, h, he, hd]
    rfl
theorem join_ok {ds : List Str} (h : ∀ d ∈ ds, PyData.strOk d = true) : PyData.strOk (Txt.join "" ds) = true := by
  cases ds with
  | nil => decide +kernel
  | cons d r => exact fold_ok r d.cps (h d List.mem_cons_self) fun x q => h x (List.mem_cons_of_mem _ q)
theorem digs_sum : ∀ {ds : List Str}, (∀ d ∈ ds, Dig d) → (ds.map (·.length)).sum = ds.length
  | [], _ => rfl
  | d :: r, h => by
    rw [List.map_cons, List.sum_cons, digs_sum fun x q => h x (List.mem_cons_of_mem _ q), (dig_ok (h d List.mem_cons_self)).2, List.length_cons]
    omega
theorem atI_last {xs : List V} (h : xs ≠ []) : ∃ v, v ∈ xs ∧ atI xs (-1) = some v := by
  have hl : 0 < xs.length := List.length_pos_iff.mpr h
  have e : ixN xs.length (-1) = some (xs.length - 1) := by
    unfold ixN
    rw [if_neg (by decide)]
    rw [if_pos (by omega)]
    congr 1
    omega
  refine ⟨xs[xs.length - 1], List.getElem_mem (by omega), ?_⟩
  unfold atI
  rw [e]
  show xs[xs.length - 1]? = _
  rw [List.getElem?_eq_getElem (by omega)]
theorem bound_row {n : Int} {wide tall j : Nat} (hj : j < tall) (hn : n + 3 + tall * ((wide : Int) + 1) ≤ 1048576) : n + 3 + (j : Int) * ((wide : Int) + 1) + 1 + wide ≤ 1048576 := by
  have h : ((j : Int) + 1) * ((wide : Int) + 1) ≤ tall * ((wide : Int) + 1) := Int.mul_le_mul_of_nonneg_right (by omega) (by omega)
  have e : ((j : Int) + 1) * ((wide : Int) + 1) = j * ((wide : Int) + 1) + (wide + 1) := by rw [Int.add_mul, Int.one_mul]
  omega
theorem full_row {n : Int} (j wide : Nat) : n + 3 + (j : Int) * ((wide : Int) + 1) + 1 + wide ≤ n + 3 + ((j + 1 : Nat) : Int) * ((wide : Int) + 1) := by
  have e : ((j + 1 : Nat) : Int) * ((wide : Int) + 1) = j * ((wide : Int) + 1) + (wide + 1) := by push_cast; rw [Int.add_mul, Int.one_mul]
  omega
theorem step_row {n : Int} (j wide : Nat) : n + 3 + (j : Int) * ((wide : Int) + 1) + 1 ≤ n + 3 + ((j + 1 : Nat) : Int) * ((wide : Int) + 1) := by
  have := full_row (n := n) j wide
  omega
theorem dlog {z : Int} (h0 : 0 ≤ z) (h1 : z < 10) : z.natAbs.log2 < 1920 := by
  rcases (by omega : z = 0 ∨ z = 1 ∨ z = 2 ∨ z = 3 ∨ z = 4 ∨ z = 5 ∨ z = 6 ∨ z = 7 ∨ z = 8 ∨ z = 9) with rfl | rfl | rfl | rfl | rfl | rfl | rfl | rfl | rfl | rfl <;> decide
def spLines : Sp := fun vs H Q _ => ∃ (p c : Addr) (n : Int) (wide tall : Nat), vs = [.ref p, .int (wide : Int), .int (tall : Int)] ∧ Pen H p c n ∧ 1 ≤ wide ∧ wide ≤ 200 ∧ tall ≤ 200 ∧ n + 3 + tall * (wide + 1) ≤ 1048576 ∧
  ∀ (l : Addr) (ls : List Str) (H' : Hp), H l = none → SameBut p H H' → Pen H' p c (n + 3 + tall * (wide + 1)) → H' l = some (.lst (ls.map V.str)) → ls.length = tall → (∀ s ∈ ls, Row wide s) → Q (.ref l) H'
section
variable {P : Program} {w : World} {K : PySem.W.Frag} {mg : Str → Option Value} {base : Heap} {a : Adr}
set_option maxHeartbeats 4000000
theorem ok_lines (T : Txt K mg a) : FnR P w K mg base CX0 4 a._law_lines spLines := by
  have G__law_draw : FnR P w K mg base CX0 1 a._law_draw spPDraw := ok_pdraw T
  have G__law_pick : FnR P w K mg base CX0 2 a._law_pick spPick := ok_pick T
  refine T.d__law_lines.ok sc__law_lines (fun _ _ _ _ _ _ us hl => match us, hl with | [_, _, _], _ => rfl) (fun vs H Q E h => by obtain ⟨p, c, n, wide, tall, rfl, _⟩ := h; rfl) (fun cdv A outer s H vs Q E hr h => ?_)
  obtain ⟨p, c, n, wide, tall, rfl, hP, hw1, hw2, ht, hn, k⟩ := h
  refine ⟨_, (pss_cons (ps_set (i := 3) sc__law_lines.nd rfl (Or.inr rfl) (pe_slice sl_list (pe_lst (pa_cons pe_str (pa_cons (pe_callTy call_str_int (by rfl) T.n_str (by decide +kernel) (pa_cons (pe_callR G__law_draw (hr.mono (by decide)) T.m__law_draw T.k__law_draw pass0 (pa_cons (pv 0) (pa_cons pe_int pa_nil))) pa_nil)) (pa_cons (pe_callTy call_str_int (by rfl) T.n_str (by decide +kernel) (pa_cons (pe_callR G__law_draw (hr.mono (by decide)) T.m__law_draw T.k__law_draw pass0 (pa_cons (pv 0) (pa_cons pe_int pa_nil))) pa_nil)) pa_nil)))) po_none (po_some (pe_op op_add pe_int (pe_callR G__law_draw (hr.mono (by decide)) T.m__law_draw T.k__law_draw pass0 (pa_cons (pv 0) (pa_cons pe_int pa_nil)))))))
      (pss_cons (ps_set (i := 4) sc__law_lines.nd rfl (Or.inl rfl) (pe_lst pa_nil))
      (pss_cons (ps_for PassesOwn.never rfl (pi_range1 rfl T.n_range (pa_cons (pv 2) pa_nil)) (pg_name (i := 5) sc__law_lines.nd rfl (Or.inl rfl))
          (pss_one (ps_if (PW.pt (pw_and (pt_cmpR (op_neD hr.units) (pv 4) (pe_lst pa_nil) (nomark _)) (pw_and1 (pt_cmpR op_eq (pe_callR G__law_draw (hr.mono (by decide)) T.m__law_draw T.k__law_draw pass0 (pa_cons (pv 0) (pa_cons pe_int pa_nil))) pe_int (nomark _)))))
              (pss_one (ps_expr (pe_bm PySem.F.plainAttrs_list PySem.F.slot_list_append PySem.F.type_list_append mt_append (pv 4) (pa_cons (pe_ix ix_list (pv 4) (pe_un un_neg pe_int) (fun _ _ => rfl)) pa_nil))))
              (pss_one (ps_expr (pe_bm PySem.F.plainAttrs_list PySem.F.slot_list_append PySem.F.type_list_append mt_append (pv 4) (pa_cons (pe_join pe_str (pe_lc (own := [("_law_i", 6)]) (g := gName 6) (by rfl) sc__law_lines.nd (pi_range1 rfl T.n_range (pa_cons (pv 1) pa_nil)) (blkOk_by (own := [("_law_i", 6)]) (N := ["_law_pen_here", "_law_wide", "_law_tall", "_law_some", "_law_found", "_law_j", "_law_i"]) (sc := defScope s__law_lines) (by decide +kernel)) (fun _ _ _ _ _ => (pg_name (i := 6) sc__law_lines.nd rfl (Or.inl rfl))) (fun _ _ _ _ _ => pts_nil) (fun _ _ _ _ _ => (pe_callR G__law_pick (hr.mono (by decide)) T.m__law_pick T.k__law_pick pass0 (pa_cons (pv 0) (pa_cons (pv 3) pa_nil)))))) pa_nil)))))))
      (pss_one (ps_ret (pv 4)))))), ?_⟩
  have tw : 0 ≤ (tall : Int) * ((wide : Int) + 1) := Int.mul_nonneg (by omega) (by omega)
  refine ⟨_, rfl, p, c, 10, n, rfl, hP, by omega, by decide, by decide, fun z1 H1 a0 a1 s1 P1 => ⟨z1, rfl, dlog a0 a1, ?_⟩⟩
  refine ⟨_, rfl, p, c, 10, n + 1, rfl, P1, by omega, by decide, by decide, fun z2 H2 b0 b1 s2 P2 => ⟨z2, rfl, dlog b0 b1, (by show 3 ≤ sizeLine; decide), fun L hL => ?_⟩⟩
  have mL := same_new (o := .lst [.str "0", .str (Str.ofString (toString z1)), .str (Str.ofString (toString z2))]) hL
  have eL : upd H2 L (.lst [.str "0", .str (Str.ofString (toString z1)), .str (Str.ofString (toString z2))]) L = some (.lst [.str "0", .str (Str.ofString (toString z1)), .str (Str.ofString (toString z2))]) := upd_same
  have P3 := P2.same mL
  have nL : L ≠ p := fun e => by
    obtain ⟨ns, b, r, q, _⟩ := P2
    rw [← e, hL] at q
    cases q
  refine ⟨_, rfl, p, c, 3, n + 1 + 1, rfl, P3, by omega, by decide, by decide, fun z3 H3 c0 c1 s3 P4 => ⟨_, _, rfl, rfl, _, rfl, L, _, rfl, SqL.of (s3 _ _ nL eL), fun q hq => ?_⟩⟩
  obtain ⟨ds, hds, hd0, hdig⟩ : ∃ ds : List Str, cutV [V.str "0", .str (Str.ofString (toString z1)), .str (Str.ofString (toString z2))] none (some (1 + z3)) = ds.map V.str ∧ 0 < ds.length ∧ (ds.length ≤ 3 ∧ ∀ d ∈ ds, Dig d) := by
    have d0 : Dig "0" := ⟨0, by decide, by decide +kernel⟩
    have d1 : Dig (Str.ofString (toString z1)) := ⟨z1.toNat, by omega, by rw [Int.toNat_of_nonneg a0]⟩
    have d2 : Dig (Str.ofString (toString z2)) := ⟨z2.toNat, by omega, by rw [Int.toNat_of_nonneg b0]⟩
    rcases (by omega : z3 = 0 ∨ z3 = 1 ∨ z3 = 2) with rfl | rfl | rfl
    · exact ⟨["0"], rfl, by decide, by decide, fun d h => by cases List.mem_singleton.mp h; exact d0⟩
    · exact ⟨["0", Str.ofString (toString z1)], rfl, by show 0 < 2; decide, by show 2 ≤ 3; decide, fun d h => by
        simp only [List.mem_cons, List.not_mem_nil, or_false] at h
        rcases h with rfl | rfl
        · exact d0
        · exact d1⟩
    · exact ⟨["0", Str.ofString (toString z1), Str.ofString (toString z2)], rfl, by show 0 < 3; decide, by show 3 ≤ 3; decide, fun d h => by
        simp only [List.mem_cons, List.not_mem_nil, or_false] at h
        rcases h with rfl | rfl | rfl
        · exact d0
        · exact d1
        · exact d2⟩
  rw [hds]
  have s4 : SameBut p H H3 := s1.trans (s2.trans ((SameBut.of mL).trans s3))
  have mq := same_new (o := .lst (ds.map V.str)) hq
  have eq : upd H3 q (.lst (ds.map V.str)) q = some (.lst (ds.map V.str)) := upd_same
  have s5 := s4.trans (SameBut.of mq)
  have P5 := P4.same mq
  have nq : q ≠ p := fun e => by
    obtain ⟨ns, b, r, y, _⟩ := P4
    rw [← e, hq] at y
    cases y
  clear mL eL P3 s1 s2 s3 s4 P4 P1 P2 mq hq hL hds
  generalize upd H3 q (.lst (ds.map V.str)) = H5 at *
  refine ⟨(by show 0 ≤ sizeLine; decide), fun F hF => ?_⟩
  have mF := same_new (o := .lst []) hF
  have eF : upd H5 F (.lst []) F = some (.lst []) := upd_same
  have nF : F ≠ p := fun e => by
    obtain ⟨ns, b, r, y, _⟩ := P5
    rw [← e, hF] at y
    cases y
  have nFq : F ≠ q := fun e => by
    rw [← e, hF] at eq
    cases eq
  have cF := (Pen.at_p P5 hF).2
  have fF : H F = none := by
    cases e : H F with
    | none => rfl
    | some o =>
      have z := s5 _ _ nF e
      rw [hF] at z
      cases z
  refine ⟨_, rfl, tall, rfl, by omega, by omega, for_range (n := tall) (fun j σ H' => ∃ (ls : List Str) (w5 w6 : Option V), σ = [some (.ref p), some (.int wide), some (.int tall), some (.ref q), some (.ref F), w5, w6] ∧ H' F = some (.lst (ls.map V.str)) ∧ ls.length = j ∧ (∀ s ∈ ls, Row wide s) ∧
    Pen H' p c (n + 3 + (j : Int) * ((wide : Int) + 1)) ∧ (∀ b o, b ≠ p → b ≠ F → H5 b = some o → H' b = some o)) ?_ ?_ ?_⟩
  · exact ⟨[], _, _, rfl, eF, rfl, (fun s h => by cases h), (P5.same mF).le (by simp; omega), fun b o _ nb e => by rw [upd_ne nb]; exact e⟩
  · rintro j σ H6 hj ⟨ls, w5, w6, rfl, eF6, hl, hrow, P6, k6⟩
    refine ⟨_, rfl, (by show 0 ≤ sizeLine; decide), fun r hr => ?_⟩
    have mr := same_new (o := .lst []) hr
    refine ⟨.list (ls.map .str), .list [], .lst (SqL.of (mr _ _ eF6)) (dp_strs ls), .lst (SqL.of upd_same) .nil, shaped_strs (fun s q => by obtain ⟨_, _, _, _, z⟩ := hrow s q; exact z), rfl, _, rfl, ?_⟩
    rw [eqv_strs]
    have P7 := P6.same mr
    have eF7 := mr _ _ eF6
    have k7 : ∀ b o, b ≠ p → b ≠ F → H5 b = some o → upd H6 r (.lst []) b = some o := fun b o x y e => mr _ _ (k6 b o x y e)
    clear k6 P6 eF6 mr hr
    generalize upd H6 r (.lst []) = H7 at *
    refine ite2 (fun hc => ?_) fun hc => ?_
    · refine ⟨_, rfl, p, c, 4, _, rfl, P7, by have := bound_row hj hn; omega, by decide, by decide, fun z HA a0 a1 sA PA => ⟨rfl, _, rfl, ite2 (fun hz => ?_) fun hz => ?_⟩⟩
      · have eFA := sA F _ nF eF7
        have hne : ls.map V.str ≠ [] := fun e => by
          rw [List.map_eq_nil_iff.mp e, decide_eq_true rfl] at hc
          cases hc
        obtain ⟨v, hv, hat⟩ := atI_last hne
        obtain ⟨t, ht', rfl⟩ := List.mem_map.mp hv
        refine ⟨_, rfl, .inl ⟨rfl, _, SqL.of eFA⟩, _, rfl, 1, rfl, F, _, _, _, rfl, rfl, SqL.of eFA, hat, F, _, _, rfl, rfl, eFA, by rw [List.length_map, hl]; exact Nat.lt_of_lt_of_le (show j < 200 by omega) (by decide +kernel), ?_⟩
        refine ⟨ls ++ [t], _, _, rfl, by rw [upd_same, List.map_append]; rfl, by rw [List.length_append, hl]; rfl, fun x q => ?_, (Pen.put PA nF cF).le (step_row j wide), fun b o nb nd e => by rw [upd_ne nd]; exact sA b o nb (k7 b o nb nd e)⟩
        rcases List.mem_append.mp q with q | q
        · exact hrow x q
        · cases List.mem_singleton.mp q; exact hrow _ ht'
      · have eFA := sA F _ nF eF7
        have kA : ∀ b o, b ≠ p → b ≠ F → H5 b = some o → HA b = some o := fun b o x y e => sA b o x (k7 b o x y e)
        have hB : n + 3 + (j : Int) * ((wide : Int) + 1) + 1 + wide ≤ 1048576 := bound_row hj hn
        refine ⟨_, rfl, .inl ⟨rfl, _, SqL.of eFA⟩, ⟨_, rfl⟩, _, rfl, wide, rfl, by omega, by omega, fun D hD => lc_range (n := wide) (fun i H' => ∃ es : List Str, es.length = i ∧ (∀ d ∈ es, Dig d) ∧ H' D = some (.lst (es.map V.str)) ∧ Pen H' p c (n + 3 + (j : Int) * ((wide : Int) + 1) + 1 + i) ∧ ∀ b o, b ≠ p → b ≠ D → HA b = some o → H' b = some o) ?_ ?_ ?_⟩
        · exact ⟨[], rfl, (fun d h => by cases h), upd_same, (Pen.same PA (same_new hD)).le (by simp), fun b o _ nb e => by rw [upd_ne nb]; exact e⟩
        · rintro i HI hi ⟨es, hes, hdg, eD, PI, kI⟩
          have nD : D ≠ p := fun e => by
            obtain ⟨_, _, _, y, _⟩ := PA
            rw [← e, hD] at y
            cases y
          have eqI : HI q = some (.lst (ds.map V.str)) := kI q _ nq (ne_of_none (kA q _ nq (Ne.symm nFq) eq) hD) (kA q _ nq (Ne.symm nFq) eq)
          refine ⟨rfl, _, rfl, _, rfl, p, c, q, _, ds.map V.str, rfl, PI, by omega, eqI, nq, by rw [List.length_map]; exact hd0, by rw [List.length_map]; omega, fun v H2 hv s2 P2 => ?_⟩
          obtain ⟨t, ht', rfl⟩ := List.mem_map.mp hv
          refine ⟨es.map V.str, s2 D _ nD eD, by rw [List.length_map, hes]; exact Nat.lt_of_lt_of_le (show i < 200 by omega) (by decide +kernel), es ++ [t], by rw [List.length_append, hes]; rfl, fun d h => ?_, by rw [upd_same, List.map_append]; rfl, ?_, fun b o nb nd e => ?_⟩
          · rcases List.mem_append.mp h with h | h
            · exact hdg d h
            · cases List.mem_singleton.mp h; exact hdig.2 _ ht'
          · exact (Pen.put P2 nD (Pen.at_p PA hD).2).le (by push_cast; omega)
          · rw [upd_ne nd]
            exact s2 b o nb (kI b o nb nd e)
        · rintro HI ⟨es, hes, hdg, eD, PI, kI⟩
          have nFD : F ≠ D := ne_of_none eFA hD
          have eFI := kI F _ nF nFD eFA
          refine ⟨"", D, es, rfl, rfl, .inl (SqL.of eD), by rw [digs_sum hdg, hes]; exact (show wide + wide * 0 ≤ 16777216 by omega), F, _, _, rfl, rfl, eFI, by rw [List.length_map, hl]; exact Nat.lt_of_lt_of_le (show j < 200 by omega) (by decide +kernel), ?_⟩
          refine ⟨ls ++ [Txt.join "" es], _, _, rfl, by rw [upd_same, List.map_append]; rfl, by rw [List.length_append, hl]; rfl, fun x q => ?_, (Pen.put PI nF cF).le (full_row j wide), fun b o nb nd e => by
            rw [upd_ne nd]
            have z := kA b o nb nd e
            exact kI b o nb (ne_of_none z hD) z⟩
          rcases List.mem_append.mp q with q | q
          · exact hrow x q
          · cases List.mem_singleton.mp q
            exact ⟨es, hes, hdg, rfl, join_ok fun d y => (dig_ok (hdg d y)).1⟩
    · refine iteF ?_
      have P8 := P7.le (show n + 3 + (j : Int) * ((wide : Int) + 1) ≤ n + 3 + (j : Int) * ((wide : Int) + 1) + 1 by omega)
      have hB : n + 3 + (j : Int) * ((wide : Int) + 1) + 1 + wide ≤ 1048576 := bound_row hj hn
      refine ⟨_, rfl, .inl ⟨rfl, _, SqL.of eF7⟩, ⟨_, rfl⟩, _, rfl, wide, rfl, by omega, by omega, fun D hD => lc_range (n := wide) (fun i H' => ∃ es : List Str, es.length = i ∧ (∀ d ∈ es, Dig d) ∧ H' D = some (.lst (es.map V.str)) ∧ Pen H' p c (n + 3 + (j : Int) * ((wide : Int) + 1) + 1 + i) ∧ ∀ b o, b ≠ p → b ≠ D → H7 b = some o → H' b = some o) ?_ ?_ ?_⟩
      · exact ⟨[], rfl, (fun d h => by cases h), upd_same, (Pen.same P8 (same_new hD)).le (by simp), fun b o _ nb e => by rw [upd_ne nb]; exact e⟩
      · rintro i HI hi ⟨es, hes, hdg, eD, PI, kI⟩
        have nD : D ≠ p := fun e => by
          obtain ⟨_, _, _, y, _⟩ := P8
          rw [← e, hD] at y
          cases y
        have eqI : HI q = some (.lst (ds.map V.str)) := kI q _ nq (ne_of_none (k7 q _ nq (Ne.symm nFq) eq) hD) (k7 q _ nq (Ne.symm nFq) eq)
        refine ⟨rfl, _, rfl, _, rfl, p, c, q, _, ds.map V.str, rfl, PI, by omega, eqI, nq, by rw [List.length_map]; exact hd0, by rw [List.length_map]; omega, fun v H2 hv s2 P2 => ?_⟩
        obtain ⟨t, ht', rfl⟩ := List.mem_map.mp hv
        refine ⟨es.map V.str, s2 D _ nD eD, by rw [List.length_map, hes]; exact Nat.lt_of_lt_of_le (show i < 200 by omega) (by decide +kernel), es ++ [t], by rw [List.length_append, hes]; rfl, fun d h => ?_, by rw [upd_same, List.map_append]; rfl, ?_, fun b o nb nd e => ?_⟩
        · rcases List.mem_append.mp h with h | h
          · exact hdg d h
          · cases List.mem_singleton.mp h; exact hdig.2 _ ht'
        · exact (Pen.put P2 nD (Pen.at_p P8 hD).2).le (by push_cast; omega)
        · rw [upd_ne nd]
          exact s2 b o nb (kI b o nb nd e)
      · rintro HI ⟨es, hes, hdg, eD, PI, kI⟩
        have nFD : F ≠ D := ne_of_none eF7 hD
        have eFI := kI F _ nF nFD eF7
        refine ⟨"", D, es, rfl, rfl, .inl (SqL.of eD), by rw [digs_sum hdg, hes]; exact (show wide + wide * 0 ≤ 16777216 by omega), F, _, _, rfl, rfl, eFI, by rw [List.length_map, hl]; exact Nat.lt_of_lt_of_le (show j < 200 by omega) (by decide +kernel), ?_⟩
        refine ⟨ls ++ [Txt.join "" es], _, _, rfl, by rw [upd_same, List.map_append]; rfl, by rw [List.length_append, hl]; rfl, fun x q => ?_, (Pen.put PI nF cF).le (full_row j wide), fun b o nb nd e => by
          rw [upd_ne nd]
          have z := k7 b o nb nd e
          exact kI b o nb (ne_of_none z hD) z⟩
        rcases List.mem_append.mp q with q | q
        · exact hrow x q
        · cases List.mem_singleton.mp q
          exact ⟨es, hes, hdg, rfl, join_ok fun d y => (dig_ok (hdg d y)).1⟩
  · rintro σ H6 ⟨ls, w5, w6, rfl, eF6, hl, hrow, P6, k6⟩
    refine ⟨_, rfl, ?_⟩
    refine k F ls H6 fF (fun b o nb e => ?_) P6 eF6 hl hrow
    have e5 := s5 b o nb e
    exact k6 b o nb (ne_of_none e5 hF) e5
end
end Pf
end
section
namespace Pf
open PySem PySem.Spec PyProof.Rows L2 Ow StX
open SX (S)
abbrev cD (p : Rg.Cel) : PyData := .tuple [.int (p.1 : Nat), .int (p.2 : Nat)]
theorem dp_cells {K : PySem.W.Frag} {H : Hp} : ∀ {as : List Addr} {cs : List Rg.Cel}, CellsAt H as cs → DpAll K H (as.map V.ref) (cs.map cD)
  | [], [], _ => .nil
  | [], _ :: _, h => by cases h.1
  | _ :: _, [], h => by cases h.1
  | b :: as, p :: cs, h => .cons (.tup (.inl (.inl (h.2 0 b p rfl rfl))) (.cons (.int _) (.cons (.int _) .nil))) (dp_cells ⟨by have := h.1; simp only [List.length_cons] at this; omega, fun k d q e1 e2 => h.2 (k + 1) d q e1 e2⟩)
theorem lay_cells : ∀ cs : List Rg.Cel, PyData.canLayAll0 (cs.map cD) = true ∧ PyData.depthAll (cs.map cD) ≤ 3
  | [] => ⟨rfl, by simp [PyData.depthAll]⟩
  | p :: cs => by
    obtain ⟨h1, h2⟩ := lay_cells cs
    refine ⟨by simp only [List.map_cons, PyData.canLayAll0, PyData.canLay0, h1]; rfl, ?_⟩
    simp only [List.map_cons, PyData.depthAll, PyData.depth]
    omega
theorem shaped_cells (cs : List Rg.Cel) : SeqAt.shaped (.list (cs.map cD)) = true := by
  obtain ⟨h1, h2⟩ := lay_cells cs
  refine Bool.and_eq_true_iff.mpr ⟨h1, decide_eq_true ?_⟩
  simp only [PyData.depth]
  omega
theorem eqv_cells (cs : List Rg.Cel) : PyData.eqv (.list (cs.map cD)) (.list []) = decide (cs = []) := by
  cases cs <;> simp [PyData.eqv, PyData.eqvAll]
theorem CellsAt.append {H : Hp} {as bs : List Addr} {cs ds : List Rg.Cel} (h1 : CellsAt H as cs) (h2 : CellsAt H bs ds) : CellsAt H (as ++ bs) (cs ++ ds) :=
  ⟨by rw [List.length_append, List.length_append, h1.1, h2.1], fun k b p e1 e2 => by
    by_cases hk : k < as.length
    · rw [List.getElem?_append_left hk] at e1
      rw [List.getElem?_append_left (by rw [← h1.1]; exact hk)] at e2
      exact h1.2 k b p e1 e2
    · rw [List.getElem?_append_right (by omega)] at e1
      rw [List.getElem?_append_right (by rw [← h1.1]; omega), ← h1.1] at e2
      exact h2.2 _ b p e1 e2⟩
open Classical in
theorem mem_regRow {g : List (List Nat)} {c n w : Nat} {s p : Rg.Cel} : p ∈ regRow g c s n w ↔ p.1 < w ∧ p.2 = n ∧ Rg.Conn g c s p := by
  unfold regRow
  rw [List.mem_map]
  constructor
  · rintro ⟨i, hi, rfl⟩
    obtain ⟨h1, h2⟩ := List.mem_filter.mp hi
    have := List.mem_range'_1.mp h1
    exact ⟨by show i < w; omega, rfl, of_decide_eq_true h2⟩
  · rintro ⟨h1, h2, h3⟩
    refine ⟨p.1, List.mem_filter.mpr ⟨List.mem_range'_1.mpr ⟨Nat.zero_le _, by omega⟩, decide_eq_true ?_⟩, ?_⟩
    · rw [← h2]
      exact h3
    · rw [← h2]
theorem mem_regL {g : List (List Nat)} {w c : Nat} {s p : Rg.Cel} (n : Nat) : p ∈ regL g w c s n ↔ p.1 < w ∧ p.2 < n ∧ Rg.Conn g c s p := by
  induction n with
  | zero => exact ⟨fun h => (by cases h), fun h => absurd h.2.1 (Nat.not_lt_zero _)⟩
  | succ n ih =>
    show p ∈ regL g w c s n ++ regRow g c s n w ↔ _
    rw [List.mem_append, ih, mem_regRow]
    constructor
    · rintro (⟨a, b, d⟩ | ⟨a, b, d⟩)
      · exact ⟨a, by omega, d⟩
      · exact ⟨a, by omega, d⟩
    · rintro ⟨a, b, d⟩
      by_cases h : p.2 = n
      · exact .inr ⟨a, h, d⟩
      · exact .inl ⟨a, by omega, d⟩
theorem regL_len {g : List (List Nat)} {w c : Nat} {s : Rg.Cel} (n : Nat) : (regL g w c s n).length ≤ n * w := by
  induction n with
  | zero => exact Nat.zero_le _
  | succ n ih =>
    show (regL g w c s n ++ regRow g c s n w).length ≤ _
    have h : (regRow g c s n w).length ≤ w := by
      unfold regRow
      rw [List.length_map]
      refine Nat.le_trans (List.length_filter_le ..) ?_
      rw [List.length_range']
      exact Nat.le_refl _
    rw [List.length_append, Nat.add_mul]
    omega
/-! ### the regions of a flipped grid -/
theorem conn_map {g g' : List (List Nat)} {c : Nat} {s p : Rg.Cel} {f : Rg.Cel → Rg.Cel} (h1 : ∀ p, Rg.cell g p = some c → Rg.cell g' (f p) = some c) (h2 : ∀ p q, Rg.cell g p = some c → Rg.cell g q = some c → Rg.Adj p q → Rg.Adj (f p) (f q)) (h : Rg.Conn g c s p) : Rg.Conn g' c (f s) (f p) := by
  induction h with
  | base e => exact .base (h1 _ e)
  | step hp ha e ih => exact .step ih (h2 _ _ hp.at_ e ha) (h1 _ e)
def mir (b : Bool) (w h : Nat) (p : Rg.Cel) : Rg.Cel := if b then (w - 1 - p.1, p.2) else (p.1, h - 1 - p.2)
theorem mir_t (w h : Nat) (p : Rg.Cel) : mir true w h p = (w - 1 - p.1, p.2) := rfl
theorem mir_f (w h : Nat) (p : Rg.Cel) : mir false w h p = (p.1, h - 1 - p.2) := rfl
theorem cell_in {w : Nat} {g : List (List Nat)} {p : Rg.Cel} {c : Nat} (gg : Good w g) (h : Rg.cell g p = some c) : p.1 < w ∧ p.2 < g.length := by
  unfold Rg.cell at h
  cases hr : g[p.2]? with
  | none => rw [hr] at h; cases h
  | some r =>
    rw [hr] at h
    have h : r[p.1]? = some c := h
    have l := (gg.at_ hr).1
    have a1 := (List.getElem?_eq_some_iff.mp h).1
    exact ⟨by omega, (List.getElem?_eq_some_iff.mp hr).1⟩
theorem cell_mir {w : Nat} {g : List (List Nat)} (b : Bool) (gg : Good w g) {p : Rg.Cel} (h1 : p.1 < w) (h2 : p.2 < g.length) : Rg.cell (fl b g) (mir b w g.length p) = Rg.cell g p := by
  obtain ⟨r, hr⟩ : ∃ r, g[p.2]? = some r := ⟨_, List.getElem?_eq_getElem h2⟩
  have l := (gg.at_ hr).1
  cases b with
  | true =>
    show ((flA g)[p.2]?).bind (fun q => q[w - 1 - p.1]?) = (g[p.2]?).bind fun q => q[p.1]?
    unfold flA
    rw [List.getElem?_map, hr]
    show r.reverse[w - 1 - p.1]? = r[p.1]?
    rw [List.getElem?_reverse (by omega)]
    congr 1
    omega
  | false =>
    show ((flD g)[g.length - 1 - p.2]?).bind (fun q => q[p.1]?) = (g[p.2]?).bind fun q => q[p.1]?
    unfold flD
    rw [List.getElem?_reverse (by omega), show g.length - 1 - (g.length - 1 - p.2) = p.2 from by omega]
theorem mir_mir {w h : Nat} (b : Bool) {p : Rg.Cel} (h1 : p.1 < w) (h2 : p.2 < h) : mir b w h (mir b w h p) = p := by
  cases b
  · rw [mir_f, mir_f]
    exact Prod.ext rfl (by show h - 1 - (h - 1 - p.2) = p.2; omega)
  · rw [mir_t, mir_t]
    exact Prod.ext (by show w - 1 - (w - 1 - p.1) = p.1; omega) rfl
theorem mir_in {w h : Nat} (b : Bool) {p : Rg.Cel} (h1 : p.1 < w) (h2 : p.2 < h) : (mir b w h p).1 < w ∧ (mir b w h p).2 < h := by
  cases b
  · exact ⟨h1, by show h - 1 - p.2 < h; omega⟩
  · exact ⟨by show w - 1 - p.1 < w; omega, h2⟩
theorem adj_mir {w h : Nat} (b : Bool) {p q : Rg.Cel} (p1 : p.1 < w) (p2 : p.2 < h) (q1 : q.1 < w) (q2 : q.2 < h) (a : Rg.Adj p q) : Rg.Adj (mir b w h p) (mir b w h q) := by
  unfold Rg.Adj at a ⊢
  cases b
  · rw [mir_f, mir_f]
    simp only
    omega
  · rw [mir_t, mir_t]
    simp only
    omega
theorem conn_mir {w : Nat} {g : List (List Nat)} {c : Nat} {s p : Rg.Cel} (b : Bool) (gg : Good w g) (h : Rg.Conn g c s p) : Rg.Conn (fl b g) c (mir b w g.length s) (mir b w g.length p) :=
  conn_map (fun p e => by
    obtain ⟨h1, h2⟩ := cell_in gg e
    rw [cell_mir b gg h1 h2]
    exact e) (fun p q e1 e2 a => by
    obtain ⟨h1, h2⟩ := cell_in gg e1
    obtain ⟨h3, h4⟩ := cell_in gg e2
    exact adj_mir b h1 h2 h3 h4 a) h
theorem fl_len (b : Bool) (g : List (List Nat)) : (fl b g).length = g.length := by
  cases b
  · exact List.length_reverse
  · exact List.length_map ..
theorem flfl (b : Bool) (g : List (List Nat)) : fl b (fl b g) = g := by
  cases b
  · exact flD_flD g
  · exact flA_flA g
theorem len_sub {α : Type} [DecidableEq α] : ∀ (l1 l2 : List α), l1.Nodup → (∀ x ∈ l1, x ∈ l2) → l1.length ≤ l2.length
  | [], _, _, _ => Nat.zero_le _
  | x :: t, l2, nd, h => by
    obtain ⟨n1, n2⟩ := List.nodup_cons.mp nd
    have hx := h x List.mem_cons_self
    have := len_sub t (l2.erase x) n2 fun y hy => by
      refine (List.mem_erase_of_ne (fun e => n1 (by rw [← e]; exact hy))).mpr (h y (List.mem_cons_of_mem _ hy))
    rw [List.length_erase_of_mem hx] at this
    have l0 := List.length_pos_of_mem hx
    rw [List.length_cons]
    omega
theorem regL_nodup {g : List (List Nat)} {w c : Nat} {s : Rg.Cel} : ∀ n, (regL g w c s n).Nodup := fun n => by
  induction n with
  | zero => exact List.nodup_nil
  | succ n ih =>
    show (regL g w c s n ++ regRow g c s n w).Nodup
    refine List.nodup_append.mpr ⟨ih, ?_, fun a ha b hb e => ?_⟩
    · unfold regRow
      refine List.Pairwise.map _ (R := fun a b => a ≠ b) (fun a b h e => h (by cases e; rfl)) ?_
      exact List.Pairwise.filter _ List.nodup_range'
    · have h1 := ((mem_regL n).mp ha).2.1
      have h2 := (mem_regRow.mp hb).2.1
      rw [e, h2] at h1
      exact absurd h1 (Nat.lt_irrefl _)
theorem map_nodup {α β : Type} {f : α → β} : ∀ {l : List α}, l.Nodup → (∀ a ∈ l, ∀ b ∈ l, f a = f b → a = b) → (l.map f).Nodup
  | [], _, _ => List.nodup_nil
  | x :: t, nd, h => by
    obtain ⟨n1, n2⟩ := List.nodup_cons.mp nd
    rw [List.map_cons]
    refine List.nodup_cons.mpr ⟨fun z => ?_, map_nodup n2 fun a ha b hb => h a (List.mem_cons_of_mem _ ha) b (List.mem_cons_of_mem _ hb)⟩
    obtain ⟨y, hy, e⟩ := List.mem_map.mp z
    have := h y (List.mem_cons_of_mem _ hy) x List.mem_cons_self e
    rw [this] at hy
    exact n1 hy
theorem mem_mir {w : Nat} {g : List (List Nat)} {c : Nat} {s p : Rg.Cel} (b : Bool) (gg : Good w g) (h : p ∈ regL g w c s g.length) : mir b w g.length p ∈ regL (fl b g) w c (mir b w g.length s) (fl b g).length := by
  obtain ⟨h1, h2, h3⟩ := (mem_regL g.length).mp h
  obtain ⟨m1, m2⟩ := mir_in b h1 h2
  exact (mem_regL _).mpr ⟨m1, by rw [fl_len]; exact m2, conn_mir b gg h3⟩
theorem len_mir1 {w : Nat} {g : List (List Nat)} {c : Nat} {s : Rg.Cel} (b : Bool) (gg : Good w g) : (regL g w c s g.length).length ≤ (regL (fl b g) w c (mir b w g.length s) (fl b g).length).length := by
  have := len_sub ((regL g w c s g.length).map (mir b w g.length)) (regL (fl b g) w c (mir b w g.length s) (fl b g).length) (map_nodup (regL_nodup _) fun x hx y hy e => by
    obtain ⟨a1, a2, _⟩ := (mem_regL g.length).mp hx
    obtain ⟨b1, b2, _⟩ := (mem_regL g.length).mp hy
    rw [← mir_mir b a1 a2, e, mir_mir b b1 b2]) fun z hz => by
    obtain ⟨p, hp, rfl⟩ := List.mem_map.mp hz
    exact mem_mir b gg hp
  rw [List.length_map] at this
  exact this
theorem len_mir {w : Nat} {g : List (List Nat)} {c : Nat} {s : Rg.Cel} (b : Bool) (gg : Good w g) (s1 : s.1 < w) (s2 : s.2 < g.length) : (regL (fl b g) w c (mir b w g.length s) (fl b g).length).length = (regL g w c s g.length).length := by
  have h1 := len_mir1 (c := c) (s := s) b gg
  have h2 := len_mir1 (c := c) (s := mir b w g.length s) b (good_fl b gg)
  rw [flfl, fl_len, mir_mir b s1 s2] at h2
  rw [fl_len] at h1 ⊢
  omega
theorem eqv_cD (p q : Rg.Cel) : PyData.eqv (cD p) (cD q) = decide (p = q) := by
  unfold cD
  simp only [PyData.eqv, PyData.eqvAll]
  by_cases h : p = q
  · subst h
    simp
  · rw [decide_eq_false h]
    have : p.1 ≠ q.1 ∨ p.2 ≠ q.2 := by
      by_cases e : p.1 = q.1
      · exact .inr fun e2 => h (Prod.ext e e2)
      · exact .inl e
    rcases this with e | e <;> simp [e] <;> omega
theorem any_cD {cs : List Rg.Cel} {p : Rg.Cel} (h : p ∈ cs) : (cs.map cD).any (fun z => PyData.eqv z (cD p)) = true := by
  rw [List.any_map, List.any_eq_true]
  exact ⟨p, h, by show PyData.eqv (cD p) (cD p) = true; rw [eqv_cD, decide_eq_true rfl]⟩
end Pf
end
section
namespace Pf
open PySem PySem.Spec PyProof.Rows L2 Ow StX
open SX (S)
theorem Pic.but {H H' : Hp} {C x p c : Addr} {n : Int} {rs : List (List Nat)} (h : Pic H C x rs) (P : Pen H p c n) (s : SameBut p H H') : Pic H' C x rs := by
  obtain ⟨dx, t, h1, h2⟩ := h
  exact ⟨dx, t, s _ _ (P.ne h1 fun _ z => by cases z) h1, s _ _ (P.ne h2 fun _ z => by cases z) h2⟩
theorem mk_reg {K : PySem.W.Frag} {C x : Addr} {w : Nat} {g : List (List Nat)} {i j : Nat} {a b : Int} {H : Hp} {Q : VK} {E : XK} (ea : a = (i : Nat)) (eb : b = (j : Nat)) (px : Pic H C x g) (gg : Good w g) (hi : i < w) (hj : j < g.length)
    (k : ∀ (t : Addr) (as : List Addr) (c : Nat) (H' : Hp), Same H H' → H' t = some (.tup (as.map V.ref)) → Rg.cell g (i, j) = some c → CellsAt H' as (regL g w c (i, j) g.length) → Q (.ref t) H') :
    ∃ dx fs, H x = some (.ins C dx fs) ∧ List.lookup (Str.ofString "region") fs = none ∧ spRegion K C [.ref x, .int a, .int b] H Q E := by
  obtain ⟨dx, t, hx, ht⟩ := id px
  subst ea
  subst eb
  exact ⟨dx, _, hx, rfl, x, w, g, i, j, rfl, px, gg, hi, hj, fun t as c H' s h1 h2 h3 => k t as c H' s h1 h2 h3⟩
theorem mk_reg0 {K : PySem.W.Frag} {C x : Addr} {w : Nat} {g : List (List Nat)} {q : Rg.Cel} {a b : Int} {H : Hp} {Q : VK} {E : XK} (ea : a = (q.1 : Nat)) (eb : b = (q.2 : Nat)) (px : Pic H C x g) (gg : Good w g) (hi : q.1 < w) (hj : q.2 < g.length)
    (k : ∀ (t : Addr) (as : List Addr) (c : Nat) (H' : Hp), Same H H' → H' t = some (.tup (as.map V.ref)) → Rg.cell g q = some c → CellsAt H' as (regL g w c q g.length) → Q (.ref t) H') : spRegion K C [.ref x, .int a, .int b] H Q E := by
  subst ea
  subst eb
  exact ⟨x, w, g, q.1, q.2, rfl, px, gg, hi, hj, fun t as c H' s h1 h2 h3 => k t as c H' s h1 h2 h3⟩
theorem ne_ints {K : PySem.W.Frag} {n m : Nat} {H : Hp} {Q : VK} (e : n = m) (k : Q (.bl false) H) : rNeD K (.int (n : Nat)) (.int (m : Nat)) H Q := by
  subst e
  refine ⟨.int (n : Nat), .int (n : Nat), .int _, .int _, rfl, rfl, ?_⟩
  rw [show PyData.eqv (.int (n : Nat)) (.int (n : Nat)) = true from by simp [PyData.eqv]]
  exact k
theorem lcMore {H1 H H' : Hp} {D : Addr} {acc : List V} (c : LcIn H1 H D acc) (s : Same H H') : LcIn H1 H' D acc := ⟨c.same.trans s, s _ _ c.at_, c.new⟩
theorem shaped_tcells (cs : List Rg.Cel) : SeqAt.shaped (.tuple (cs.map cD)) = true := shaped_cells cs
theorem shaped_cD (p : Rg.Cel) : SeqAt.shaped (cD p) = true := by
  refine Bool.and_eq_true_iff.mpr ⟨by simp [PyData.canLayAll0, PyData.canLay0], ?_⟩
  simp [PyData.depth, PyData.depthAll]
def spRegRight (C : Addr) : Sp := fun vs H Q _ => ∃ (p c x l : Addr) (n : Int) (w : Nat) (g : List (List Nat)), vs = [.ref p, .ref x, .ref l] ∧ Pen H p c n ∧ n + 2 ≤ 1048576 ∧ Pic H C x g ∧ Good w g ∧ w ≤ 8 ∧ g.length ≤ 6 ∧ H l = some (.lst (rowsV g)) ∧ l ≠ p ∧ ∀ H', SameBut p H H' → Pen H' p c (n + 2) → Q (.bl true) H'
section
variable {P : Program} {w : World} {K : PySem.W.Frag} {mg : Str → Option Value} {base : Heap} {a : Adr}
set_option maxHeartbeats 4000000
theorem ok_regR (T : Txt K mg a) : FnG P w K mg base CX0 9 a._law_region_right (spRegRight a.Picture) := by
  have G__law_draw : FnR P w K mg base CX0 1 a._law_draw spPDraw := ok_pdraw T
  have G_flipped : FnR P w K mg base CX0 5 a.Picture_flipped (spFlip a.Picture) := ok_flipped T
  have G_invert : FnR P w K mg base CX0 7 a.Picture_invert (spInv a.Picture) := ok_invert T
  have G_region : FnR P w K mg base CX0 5 a.Picture_region (spRegion K a.Picture) := ok_region T
  refine T.d__law_region_right.okG sc__law_region_right (fun _ _ _ _ _ _ us hl => match us, hl with | [_, _, _], _ => rfl) (fun vs H Q E h => by obtain ⟨p, c, x, l, n, w, g, rfl, _⟩ := h; rfl) (fun cdv A outer s H vs Q E hr hg h => ?_)
  obtain ⟨p, c, x, l, n, wd, g, rfl, hP, hn, px, gg, w8, t6, hl, nlp, k⟩ := h
  refine ⟨_, (pss_cons (ps_asg (pe_tup (pa_cons (pe_callB call_len_str (by rfl) T.n_len (by decide +kernel) (pa_cons (pe_ix ix_list (pv 2) pe_int (fun _ _ => rfl)) pa_nil)) (pa_cons (pe_callB call_len_seq (by rfl) T.n_len (by decide +kernel) (pa_cons (pv 2) pa_nil)) pa_nil))) (pg_tup rfl (pgs_cons (pg_name (i := 3) sc__law_region_right.nd rfl (Or.inr rfl)) (pgs_cons (pg_name (i := 4) sc__law_region_right.nd rfl (Or.inr rfl)) pgs_nil))))
      (pss_cons (ps_par (i := 5) (j := 6) (by rfl) sc__law_region_right.nd rfl rfl (by decide) rfl rfl (pa_cons (pe_callR G__law_draw (hr.mono (by decide)) T.m__law_draw T.k__law_draw pass0 (pa_cons (pv 0) (pa_cons (pv 3) pa_nil))) (pa_cons (pe_callR G__law_draw (hr.mono (by decide)) T.m__law_draw T.k__law_draw pass0 (pa_cons (pv 0) (pa_cons (pv 4) pa_nil))) pa_nil)) (by rfl))
      (pss_cons (ps_set (i := 7) sc__law_region_right.nd rfl (Or.inl rfl) (pe_methR (pv 1) T.c_Picture.cl T.mt_region G_region (hr.mono (by decide)) pass0 (pa_cons (pv 5) (pa_cons (pv 6) pa_nil))))
      (pss_cons (ps_set (i := 8) sc__law_region_right.nd rfl (Or.inr rfl) (pe_methR (pe_un (un_inv_own T.o_Picture_invert T.f_Picture_invert G_invert (hr.mono (by decide)) pass0) (pv 1)) T.c_Picture.cl T.mt_region G_region (hr.mono (by decide)) pass0 (pa_cons (pe_op op_sub (pe_op op_sub (pv 3) pe_int) (pv 5)) (pa_cons (pv 6) pa_nil))))
      (pss_cons (ps_set (i := 9) sc__law_region_right.nd rfl (Or.inr rfl) (pe_methR (pe_methR (pv 1) T.c_Picture.cl T.mt_flipped G_flipped (hr.mono (by decide)) pass0 (pa_cons pe_str pa_nil)) T.c_Picture.cl T.mt_region G_region (hr.mono (by decide)) pass0 (pa_cons (pv 5) (pa_cons (pe_op op_sub (pe_op op_sub (pv 4) pe_int) (pv 6)) pa_nil))))
      (pss_cons (ps_if (PW.pt (pw_or (pt_cmpR (op_neD hr.units) (pe_callB call_len_seq (by rfl) T.n_len (by decide +kernel) (pa_cons (pv 8) pa_nil)) (pe_callB call_len_seq (by rfl) T.n_len (by decide +kernel) (pa_cons (pv 7) pa_nil)) (nomark _)) (pw_or1 (pt_cmpR (op_neD hr.units) (pe_callB call_len_seq (by rfl) T.n_len (by decide +kernel) (pa_cons (pv 9) pa_nil)) (pe_callB call_len_seq (by rfl) T.n_len (by decide +kernel) (pa_cons (pv 7) pa_nil)) (nomark _)))))
          (pss_one (ps_ret pe_bl))
          pss_nil)
      (pss_cons (ps_if (pt_cmpR (op_neD hr.units) (pe_lc (own := [("_law_pixel", 10)]) (g := gName 10) (by rfl) sc__law_region_right.nd (pi_tup (pv 7)) (blkOk_by (own := [("_law_pixel", 10)]) (N := ["_law_pen_here", "_law_made", "_law_lines_here", "_law_wide", "_law_tall", "_law_i", "_law_j", "_law_found", "_law_across", "_law_down", "_law_pixel"]) (sc := defScope s__law_region_right) (by decide +kernel)) (fun _ _ _ _ _ => (pg_name (i := 10) sc__law_region_right.nd rfl (Or.inl rfl))) (fun _ _ _ _ _ => (pts_one (pt_cmpR (op_notInDTK (K := K) rfl hr.in1.units) (pe_tup (pa_cons (pe_op op_sub (pe_op op_sub (pv 3) pe_int) (pe_ix (ix_tupK (K := K) rfl) (pv 10) pe_int (fun _ _ => rfl))) (pa_cons (pe_ix (ix_tupK (K := K) rfl) (pv 10) pe_int (fun _ _ => rfl)) pa_nil))) (pv 8) (by rfl)))) (fun _ _ _ _ _ => (pv 10))) (pe_lst pa_nil) (nomark _))
          (pss_one (ps_ret pe_bl))
          pss_nil)
      (pss_one (ps_ret (pe_cmpR (op_eqD hr.units) (pe_lc (own := [("_law_pixel", 10)]) (g := gName 10) (by rfl) sc__law_region_right.nd (pi_tup (pv 7)) (blkOk_by (own := [("_law_pixel", 10)]) (N := ["_law_pen_here", "_law_made", "_law_lines_here", "_law_wide", "_law_tall", "_law_i", "_law_j", "_law_found", "_law_across", "_law_down", "_law_pixel"]) (sc := defScope s__law_region_right) (by decide +kernel)) (fun _ _ _ _ _ => (pg_name (i := 10) sc__law_region_right.nd rfl (Or.inl rfl))) (fun _ _ _ _ _ => (pts_one (pt_cmpR (op_notInDTK (K := K) rfl hr.in1.units) (pe_tup (pa_cons (pe_ix (ix_tupK (K := K) rfl) (pv 10) pe_int (fun _ _ => rfl)) (pa_cons (pe_op op_sub (pe_op op_sub (pv 4) pe_int) (pe_ix (ix_tupK (K := K) rfl) (pv 10) pe_int (fun _ _ => rfl))) pa_nil))) (pv 9) (by rfl)))) (fun _ _ _ _ _ => (pv 10))) (pe_lst pa_nil) (nomark _))))))))))), ?_⟩
  simp only [tSeq, tIfS, tTest, tB, tAnd, tOr, tNot, tAndV, tOrV, tNotV, tIf, tOp, tUn, tChain, rEq, rNe, rI0, rI, rU, tCallR, tCons, tNil, tC, tVar, tRet, tRetN, tTup_k, tLst_k, tCB, tNext, tAsg, gName, gTup, gCons, gNil, tDrop, tPar, tFld, ClX.tCVal, tPropR, rBin, rBinT, rNeOwn, rSetL_k, gSub, tMakeK_k, tMethR, rInO, tDNewK_k, tYes, wipe, tMakeR_k, tSMeth, tSMethK, rMulS, decide_true, tNever, sFld, rIsiT, and_false, rListOf, rTupOf, rLenSeq, rIxL, rIxT, rIxS, rCat_k, rRep_k, rSlL_k, rSlS, rNewStrs_k, rAppend_k, tBM, tBM0, tM0, tM1, tSl, tNoPart, tPart, tLc_k, tFor_k, iList, iTup, iEnumT, iRng1, iRng2, iRng2L, iStr, L2.start, List.map, List.length_cons, List.length_nil, List.cons_append, List.nil_append, List.getElem?_cons_succ, List.getElem?_cons_zero, Option.some.injEq, V.int.injEq, V.bl.injEq, V.str.injEq, V.ref.injEq, exists_eq_left', exists_eq_left, and_assoc, exists_and_left, exists_eq, exists_eq', true_and, and_true, List.set_cons_zero, List.set_cons_succ, List.set, decide_eq_true_eq, Bool.not_eq_true', if_true, if_false, rIx, cx_K, nox_K, List.replicate_succ, List.replicate_zero, Nat.reduceSub, Bool.true_eq_false, Bool.false_eq_true, Nat.reduceAdd, List.cons.injEq, reduceCtorEq, false_and, false_or, or_false, tAug, rSetO, rJoin, tMakeL, rStrO, ClX.tCMeth, rPop, tLc2_k, iEnum, tPar3, iZipS, iZipS3, tListZip, rInDT, tBackS, tBackT, tSlSt, rUn]
  obtain ⟨rA, hrA, haA⟩ := at0 gg
  have rAl := (gg.at_ hrA).1
  have q1 := gg.w1
  have q0 := gg.w0
  have l0 := gg.l0
  refine ⟨_, SqL.of hl, _, haA, _, rfl, by rw [SX.S_len]; exact Nat.le_trans (show _ ≤ 200 by omega) (by decide), _, .inl (SqL.of hl), ?_⟩
  rw [SX.S_len, rAl, rowsV_len]
  refine kNew.mk (by show 2 ≤ sizeLine; decide) fun t1 H1 f1 => ⟨t1, rfl, _, .inl (.inl f1.at_), rfl, _, _, rfl, _, _, rfl, rfl, ?_⟩
  have P1 := hP.same f1.same
  refine ⟨p, c, (wd : Int), n, rfl, P1, by omega, by omega, by omega, fun z1 H2 z10 z11 s2 P2 => ?_⟩
  refine ⟨p, c, (g.length : Int), n + 1, rfl, P2, by omega, by omega, by omega, fun z2 H3 z20 z21 s3 P3 => ?_⟩
  obtain ⟨i, rfl⟩ : ∃ i : Nat, z1 = (i : Int) := ⟨z1.toNat, by omega⟩
  obtain ⟨j, rfl⟩ : ∃ j : Nat, z2 = (j : Int) := ⟨z2.toNat, by omega⟩
  have hi : i < wd := by omega
  have hj : j < g.length := by omega
  have S3 := (SameBut.of f1.same).trans (s2.trans s3)
  have px3 := px.but hP S3
  refine mk_reg rfl rfl px3 gg hi hj fun tf af cc H4 s4 hf cl cf => ?_
  have px4 := px3.same s4
  refine ⟨px4.ins, x, wd, g, rfl, px4, gg, fun ya H5 s5 _ p5 => ⟨ya, rfl, ?_⟩⟩
  obtain ⟨dy, ty, hy1, hy2⟩ := id p5
  refine ⟨dy, _, hy1, rfl, _, rfl, _, rfl, ?_⟩
  have m5 := mir_in (h := g.length) true (p := (i, j)) hi hj
  refine mk_reg0 (q := mir true wd g.length (i, j)) (by show _ = ((wd - 1 - i : Nat) : Int); omega) rfl p5 (good_flA gg) m5.1 (by rw [show (flA g).length = g.length from fl_len true g]; exact m5.2) fun ta aa ca H6 s6 ha hca cca => ?_
  rw [show flA g = fl true g from rfl, cell_mir true gg hi hj, cl] at hca
  cases hca
  rw [show flA g = fl true g from rfl] at cca
  have px6 := (px4.same s5).same s6
  refine mk_fl false rfl px6 gg fun yd H7 s7 _ p7 => ⟨yd, rfl, ?_⟩
  obtain ⟨dy2, ty2, hz1, hz2⟩ := id p7
  refine ⟨dy2, _, hz1, rfl, _, rfl, _, rfl, ?_⟩
  have m7 := mir_in (h := g.length) false (p := (i, j)) hi hj
  refine mk_reg0 (q := mir false wd g.length (i, j)) rfl (by show _ = ((g.length - 1 - j : Nat) : Int); omega) p7 (good_fl false gg) m7.1 (by rw [fl_len]; exact m7.2) fun td ad cd H8 s8 hd hcd ccd => ?_
  rw [cell_mir false gg hi hj, cl] at hcd
  cases hcd
  have la := len_mir (c := cc) (s := (i, j)) true gg hi hj
  have ld := len_mir (c := cc) (s := (i, j)) false gg hi hj
  have hf8 := s8 _ _ (s7 _ _ (s6 _ _ (s5 _ _ hf)))
  have ha8 := s8 _ _ (s7 _ _ ha)
  have cf8 := (((cf.same s5).same s6).same s7).same s8
  have ca8 := (cca.same s7).same s8
  have S8 := S3.trans (SameBut.of ((((s4.trans s5).trans s6).trans s7).trans s8))
  have P8 := ((((P3.same s4).same s5).same s6).same s7).same s8
  clear s4 s5 s6 s7 s8 px3 px4 px6 p5 p7 hy1 hy2 hz1 hz2 cf cca hf ha S3 P1 P2 P3 s2 s3
  refine ⟨ta, rfl, _, .inr (.inl (.inl ha8)), tf, rfl, _, .inr (.inl (.inl hf8)), ne_ints (by rw [List.length_map, List.length_map, ca8.1, cf8.1]; exact la) ⟨_, rfl, ?_⟩⟩
  rw [if_neg (by decide)]
  refine ⟨td, rfl, _, .inr (.inl (.inl hd)), tf, rfl, _, .inr (.inl (.inl hf8)), ne_ints (by rw [List.length_map, List.length_map, ccd.1, cf8.1]; exact ld) ⟨_, rfl, ?_⟩⟩
  rw [if_neg (by decide)]
  refine ⟨tf, rfl, ⟨_, .inl (.inl hf8)⟩, ?_⟩
  have hafs : ∀ (u : Nat), u < (af.map V.ref).length → ∃ (b : Addr) (q : Rg.Cel), (af.map V.ref)[u]? = some (.ref b) ∧ H8 b = some (.tup [.int (q.1 : Nat), .int (q.2 : Nat)]) ∧ q ∈ regL g wd cc (i, j) g.length := fun u hu => by
    rw [List.length_map] at hu
    obtain ⟨b, hb⟩ : ∃ b, af[u]? = some b := ⟨_, List.getElem?_eq_getElem hu⟩
    obtain ⟨q, hq⟩ : ∃ q, (regL g wd cc (i, j) g.length)[u]? = some q := ⟨_, List.getElem?_eq_getElem (by rw [← cf8.1]; exact hu)⟩
    exact ⟨b, q, by rw [List.getElem?_map, hb]; rfl, cf8.2 u b q hb hq, List.mem_of_getElem? hq⟩
  refine kLc.all walk_tup (fun _ => []) rfl (fun H' s => Same.tup s (.inl (.inl hf8))) (fun D u v HA HB hu cl' hY => ?_) fun D HA fA => ?_
  · obtain ⟨rfl, hv⟩ := hY
    obtain ⟨b, q, hb, hqb, hqm⟩ := hafs u hu
    rw [hb] at hv
    cases hv
    obtain ⟨q1', q2', _⟩ := (mem_regL g.length).mp hqm
    simp only [tSeq, tIfS, tTest, tB, tAnd, tOr, tNot, tAndV, tOrV, tNotV, tIf, tOp, tUn, tChain, rEq, rNe, rI0, rI, rU, tCallR, tCons, tNil, tC, tVar, tRet, tRetN, tTup_k, tLst_k, tCB, tNext, tAsg, gName, gTup, gCons, gNil, tDrop, tPar, tFld, ClX.tCVal, tPropR, rBin, rBinT, rNeOwn, rSetL_k, gSub, tMakeK_k, tMethR, rInO, tDNewK_k, tYes, wipe, tMakeR_k, tSMeth, tSMethK, rMulS, decide_true, tNever, sFld, rIsiT, and_false, rListOf, rTupOf, rLenSeq, rIxL, rIxT, rIxS, rCat_k, rRep_k, rSlL_k, rSlS, rNewStrs_k, rAppend_k, tBM, tBM0, tM0, tM1, tSl, tNoPart, tPart, tLc_k, tFor_k, iList, iTup, iEnumT, iRng1, iRng2, iRng2L, iStr, L2.start, List.map, List.length_cons, List.length_nil, List.cons_append, List.nil_append, List.getElem?_cons_succ, List.getElem?_cons_zero, Option.some.injEq, V.int.injEq, V.bl.injEq, V.str.injEq, V.ref.injEq, exists_eq_left', exists_eq_left, and_assoc, exists_and_left, exists_eq, exists_eq', true_and, and_true, List.set_cons_zero, List.set_cons_succ, List.set, decide_eq_true_eq, Bool.not_eq_true', if_true, if_false, rIx, cx_K, nox_K, List.replicate_succ, List.replicate_zero, Nat.reduceSub, Bool.true_eq_false, Bool.false_eq_true, Nat.reduceAdd, List.cons.injEq, reduceCtorEq, false_and, false_or, or_false, tAug, rSetO, rJoin, tMakeL, rStrO, ClX.tCMeth, rPop, tLc2_k, iEnum, tPar3, iZipS, iZipS3, tListZip, rInDT, tBackS, tBackT, tSlSt, rUn]
    have hbA := cl'.same _ _ hqb
    refine ⟨_, .inl (.inl hbA), _, rfl, _, rfl, _, .inl (.inl hbA), _, rfl, kNew.mk (by show 2 ≤ sizeLine; decide) fun tt HC fC => ?_⟩
    have e1 : ((wd : Int) - 1 - (q.1 : Nat)) = ((mir true wd g.length q).1 : Nat) := by
      show _ = ((wd - 1 - q.1 : Nat) : Int)
      omega
    have hC := fC.at_
    rw [e1] at hC
    refine ⟨cD (mir true wd g.length q), .tup (.inl (.inl hC)) (.cons (.int _) (.cons (.int _) .nil)), (regL (fl true g) wd cc (mir true wd g.length (i, j)) (fl true g).length).map cD, .tup (.inl (.inl (fC.get (cl'.same _ _ ha8)))) (dp_cells ((ca8.same cl'.same).same fC.same)), shaped_cD _, shaped_tcells _, ?_⟩
    rw [any_cD (mem_mir true gg hqm)]
    rw [if_neg (by decide)]
    exact lcMore cl' fC.same
  refine kNew.mk (by show 0 ≤ sizeLine; decide) fun e1 HB fB => ⟨.list [], .list [], .lst (SqL.of (fB.get fA.at_)) .nil, .lst (SqL.of fB.at_) .nil, by decide +kernel, by decide +kernel, ?_⟩
  rw [show PyData.eqv (.list []) (.list []) = true from by decide +kernel]
  refine ⟨_, rfl, ?_⟩
  rw [if_neg (by decide)]
  have sB := fA.same.trans fB.same
  have hf9 := sB _ _ hf8
  have hd9 := sB _ _ hd
  have cd9 := ccd.same sB
  refine ⟨tf, rfl, ⟨_, .inl (.inl hf9)⟩, ?_⟩
  refine kLc.all walk_tup (fun _ => []) rfl (fun H' s => Same.tup s (.inl (.inl hf9))) (fun D u v HA HC hu cl' hY => ?_) fun D HC fC => ?_
  · obtain ⟨rfl, hv⟩ := hY
    obtain ⟨b, q, hb, hqb, hqm⟩ := hafs u hu
    rw [hb] at hv
    cases hv
    obtain ⟨q1', q2', _⟩ := (mem_regL g.length).mp hqm
    simp only [tSeq, tIfS, tTest, tB, tAnd, tOr, tNot, tAndV, tOrV, tNotV, tIf, tOp, tUn, tChain, rEq, rNe, rI0, rI, rU, tCallR, tCons, tNil, tC, tVar, tRet, tRetN, tTup_k, tLst_k, tCB, tNext, tAsg, gName, gTup, gCons, gNil, tDrop, tPar, tFld, ClX.tCVal, tPropR, rBin, rBinT, rNeOwn, rSetL_k, gSub, tMakeK_k, tMethR, rInO, tDNewK_k, tYes, wipe, tMakeR_k, tSMeth, tSMethK, rMulS, decide_true, tNever, sFld, rIsiT, and_false, rListOf, rTupOf, rLenSeq, rIxL, rIxT, rIxS, rCat_k, rRep_k, rSlL_k, rSlS, rNewStrs_k, rAppend_k, tBM, tBM0, tM0, tM1, tSl, tNoPart, tPart, tLc_k, tFor_k, iList, iTup, iEnumT, iRng1, iRng2, iRng2L, iStr, L2.start, List.map, List.length_cons, List.length_nil, List.cons_append, List.nil_append, List.getElem?_cons_succ, List.getElem?_cons_zero, Option.some.injEq, V.int.injEq, V.bl.injEq, V.str.injEq, V.ref.injEq, exists_eq_left', exists_eq_left, and_assoc, exists_and_left, exists_eq, exists_eq', true_and, and_true, List.set_cons_zero, List.set_cons_succ, List.set, decide_eq_true_eq, Bool.not_eq_true', if_true, if_false, rIx, cx_K, nox_K, List.replicate_succ, List.replicate_zero, Nat.reduceSub, Bool.true_eq_false, Bool.false_eq_true, Nat.reduceAdd, List.cons.injEq, reduceCtorEq, false_and, false_or, or_false, tAug, rSetO, rJoin, tMakeL, rStrO, ClX.tCMeth, rPop, tLc2_k, iEnum, tPar3, iZipS, iZipS3, tListZip, rInDT, tBackS, tBackT, tSlSt, rUn]
    have hbA := cl'.same _ _ (sB _ _ hqb)
    refine ⟨_, .inl (.inl hbA), _, rfl, _, .inl (.inl hbA), _, rfl, _, rfl, kNew.mk (by show 2 ≤ sizeLine; decide) fun tt HD fD => ?_⟩
    have e1 : ((g.length : Int) - 1 - (q.2 : Nat)) = ((mir false wd g.length q).2 : Nat) := by
      show _ = ((g.length - 1 - q.2 : Nat) : Int)
      omega
    have hD := fD.at_
    rw [e1] at hD
    refine ⟨cD (mir false wd g.length q), .tup (.inl (.inl hD)) (.cons (.int _) (.cons (.int _) .nil)), (regL (fl false g) wd cc (mir false wd g.length (i, j)) (fl false g).length).map cD, .tup (.inl (.inl (fD.get (cl'.same _ _ hd9)))) (dp_cells ((cd9.same cl'.same).same fD.same)), shaped_cD _, shaped_tcells _, ?_⟩
    rw [any_cD (mem_mir false gg hqm)]
    rw [if_neg (by decide)]
    exact lcMore cl' fD.same
  refine kNew.mk (by show 0 ≤ sizeLine; decide) fun e1 HD fD => ⟨.list [], .list [], .lst (SqL.of (fD.get fC.at_)) .nil, .lst (SqL.of fD.at_) .nil, by decide +kernel, by decide +kernel, ?_⟩
  rw [show PyData.eqv (.list []) (.list []) = true from by decide +kernel]
  have sD := (sB.trans fC.same).trans fD.same
  exact k _ (S8.trans (SameBut.of sD)) ((P8.same sD).le (by omega))
end
end Pf
end
section
namespace Pf
open PySem PySem.Spec PyProof.Rows L2 Ow StX
open SX (S)
theorem dig_codes {d : Str} (h : Dig d) : ∃ k, 48 ≤ k ∧ k ≤ 57 ∧ d = S [k] := by
  obtain ⟨k, hk, rfl⟩ := h
  obtain ⟨e, _⟩ := dig_S (c := (k : Int)) (by omega) (by omega)
  exact ⟨48 + k, by omega, by omega, by rw [e, Int.toNat_natCast]⟩
theorem digs_codes : ∀ {ds : List Str}, (∀ d ∈ ds, Dig d) → ∃ r : List Nat, ds = (r.map fun c => [c]).map S ∧ DigL r ∧ r.length = ds.length
  | [], _ => ⟨[], rfl, (fun c h => by cases h), rfl⟩
  | d :: t, h => by
    obtain ⟨r, h1, h2, h3⟩ := digs_codes fun x q => h x (List.mem_cons_of_mem _ q)
    obtain ⟨k, k1, k2, e⟩ := dig_codes (h d List.mem_cons_self)
    refine ⟨k :: r, by rw [List.map_cons, List.map_cons, ← h1, e], fun c hc => ?_, by rw [List.length_cons, List.length_cons, h3]⟩
    rcases List.mem_cons.mp hc with rfl | hc
    · exact ⟨k1, k2⟩
    · exact h2 c hc
theorem row_codes {w : Nat} {s : Str} (h : Row w s) : ∃ r : List Nat, s = S r ∧ r.length = w ∧ DigL r := by
  obtain ⟨ds, hl, hd, hs, _⟩ := h
  obtain ⟨r, h1, h2, h3⟩ := digs_codes hd
  refine ⟨r, ?_, by rw [h3, hl], h2⟩
  have e : (r.map fun c => [c]).flatten = r := by
    clear h1 h2 h3
    induction r with
    | nil => rfl
    | cons c t ih => rw [List.map_cons, List.flatten_cons, ih]; rfl
  rw [hs, h1]
  exact (join_rows _).trans (congrArg S e)
theorem rows_codes {w : Nat} : ∀ {ls : List Str}, (∀ s ∈ ls, Row w s) → ∃ rs : List (List Nat), ls = rs.map S ∧ ∀ r ∈ rs, r.length = w ∧ DigL r
  | [], _ => ⟨[], rfl, fun r h => by cases h⟩
  | s :: t, h => by
    obtain ⟨rs, h1, h2⟩ := rows_codes fun x q => h x (List.mem_cons_of_mem _ q)
    obtain ⟨r, e, e1, e2⟩ := row_codes (h s List.mem_cons_self)
    refine ⟨r :: rs, by rw [List.map_cons, ← h1, e], fun q hq => ?_⟩
    rcases List.mem_cons.mp hq with rfl | hq
    · exact ⟨e1, e2⟩
    · exact h2 q hq
theorem rows_ne {H : Hp} {p c t : Addr} {n : Int} {w : Nat} {rs : List (List Nat)} (P : Pen H p c n) (g : Good w rs) (h : H t = some (.lst (rowsV rs))) : t ≠ p := fun e => by
  obtain ⟨ns, b, r, hp, _⟩ := P
  rw [e, hp] at h
  cases rs with
  | nil => exact absurd g.l0 (by decide)
  | cons q s =>
    have h := (HO.lst.inj (Option.some.inj h))
    cases h
theorem rows_but {H H' : Hp} {p c t : Addr} {n : Int} {w : Nat} {rs : List (List Nat)} (h : H t = some (.lst (rowsV rs))) (g : Good w rs) (P : Pen H p c n) (s : SameBut p H H') : H' t = some (.lst (rowsV rs)) := s _ _ (rows_ne P g h) h
def spLaw (K : PySem.W.Frag) : Sp := fun vs H Q _ => ∃ (sa : Addr) (ns : List Int), vs = [.ref sa] ∧ SqL K H sa (ns.map V.int) ∧ ns.length ≤ 63 ∧ ∀ H', Q (.bl true) H'
section
variable {P : Program} {w : World} {K : PySem.W.Frag} {mg : Str → Option Value} {base : Heap} {a : Adr}
set_option maxHeartbeats 4000000
theorem ok_law (T : Txt K mg a) : FnG P w K mg base CX0 10 a.law (spLaw K) := by
  have G__law_draw : FnR P w K mg base CX0 1 a._law_draw spPDraw := ok_pdraw T
  have G__law_pen : FnR P w K mg base CX0 1 a._law_pen (spPen K) := ok_pen T
  have G__law_lines : FnR P w K mg base CX0 4 a._law_lines spLines := ok_lines T
  have G__law_plain_right : FnG P w K mg base CX0 9 a._law_plain_right (spPlainRight a.Picture) := ok_plainR T
  have G__law_two_right : FnG P w K mg base CX0 9 a._law_two_right (spTwoRight a.Picture) := ok_twoR T
  have G__law_region_right : FnG P w K mg base CX0 9 a._law_region_right (spRegRight a.Picture) := ok_regR T
  have G_Picture_init : FnR P w K mg base CX0 3 a.Picture_init (spPicInit a.Picture) := ok_pic_init T
  have G_and : FnR P w K mg base (CX P w) 5 a.Picture_and (spJoin a.Picture a.Unlike gAnd) := ok_pand T
  refine T.d_law.okG sc_law (fun _ _ _ _ _ _ us hl => match us, hl with | [_], _ => rfl) (fun vs H Q E h => by obtain ⟨sa, ns, rfl, _⟩ := h; rfl) (fun cdv A outer s H vs Q E hr hg h => ?_)
  obtain ⟨sa, ns, rfl, hS, hns, k⟩ := h
  refine ⟨_, (pss_cons (ps_set (i := 1) sc_law.nd rfl (Or.inl rfl) (pe_callR G__law_pen (hr.mono (by decide)) T.m__law_pen T.k__law_pen pass0 (pa_cons (pv 0) pa_nil)))
      (pss_cons (ps_for PassesOwn.never rfl (pi_range1 rfl T.n_range (pa_cons pe_int pa_nil)) (pg_name (i := 2) sc_law.nd rfl (Or.inl rfl))
          (pss_cons (ps_par (i := 3) (j := 4) (by rfl) sc_law.nd rfl rfl (by decide) rfl rfl (pa_cons (pe_op op_add pe_int (pe_callR G__law_draw (hr.mono (by decide)) T.m__law_draw T.k__law_draw pass0 (pa_cons (pv 1) (pa_cons pe_int pa_nil)))) (pa_cons (pe_op op_add pe_int (pe_callR G__law_draw (hr.mono (by decide)) T.m__law_draw T.k__law_draw pass0 (pa_cons (pv 1) (pa_cons pe_int pa_nil)))) pa_nil)) (by rfl))
          (pss_cons (ps_set (i := 5) sc_law.nd rfl (Or.inl rfl) (pe_callR G__law_lines (hr.mono (by decide)) T.m__law_lines T.k__law_lines pass0 (pa_cons (pv 1) (pa_cons (pv 3) (pa_cons (pv 4) pa_nil)))))
          (pss_cons (ps_par (i := 6) (j := 7) (by rfl) sc_law.nd rfl rfl (by decide) rfl rfl (pa_cons (pe_makeRR T.M_Picture G_Picture_init (hr.mono (by decide)) T.m_Picture pass0 (pa_cons (pv 5) pa_nil)) (pa_cons (pe_makeRR T.M_Picture G_Picture_init (hr.mono (by decide)) T.m_Picture pass0 (pa_cons (pe_callR G__law_lines (hr.mono (by decide)) T.m__law_lines T.k__law_lines pass0 (pa_cons (pv 1) (pa_cons (pv 3) (pa_cons (pv 4) pa_nil)))) pa_nil)) pa_nil)) (by rfl))
          (pss_cons (ps_if (PW.pt (pw_or (pt_not (pt_val (pe_callG G__law_plain_right (hr.mono (by decide)) (by exact hg) T.m__law_plain_right T.k__law_plain_right pass0 (pa_cons (pv 6) (pa_cons (pv 5) pa_nil))))) (pw_or1 (pt_not (pt_val (pe_callG G__law_two_right (hr.mono (by decide)) (by exact hg) T.m__law_two_right T.k__law_two_right pass0 (pa_cons (pv 6) (pa_cons (pv 7) pa_nil))))))))
              (pss_one (ps_ret pe_bl))
              pss_nil)
          (pss_cons (ps_if (pt_not (pt_val (pe_callG G__law_two_right (hr.mono (by decide)) (by exact hg) T.m__law_two_right T.k__law_two_right pass0 (pa_cons (pe_op (op_bin (op := .BitAnd) T.s_Picture_first T.o_Picture_and T.f_Picture_and G_and (hr.mono (by decide)) (passUp LamX.takes0) ) (pv 6) (pv 7)) (pa_cons (pv 7) pa_nil)))))
              (pss_one (ps_ret pe_bl))
              pss_nil)
          (pss_one (ps_for PassesOwn.never rfl (pi_range1 rfl T.n_range (pa_cons pe_int pa_nil)) (pg_name (i := 8) sc_law.nd rfl (Or.inl rfl))
              (pss_one (ps_if (pt_not (pt_val (pe_callG G__law_region_right (hr.mono (by decide)) (by exact hg) T.m__law_region_right T.k__law_region_right pass0 (pa_cons (pv 1) (pa_cons (pv 6) (pa_cons (pv 5) pa_nil))))))
                  (pss_one (ps_ret pe_bl))
                  pss_nil))))))))))
      (pss_one (ps_ret pe_bl)))), ?_⟩
  simp only [tSeq, tIfS, tTest, tB, tAnd, tOr, tNot, tAndV, tOrV, tNotV, tIf, tOp, tUn, tChain, rEq, rNe, rI0, rI, rU, tCallR, tCons, tNil, tC, tVar, tRet, tRetN, tTup_k, tLst_k, tCB, tNext, tAsg, gName, gTup, gCons, gNil, tDrop, tPar, tFld, ClX.tCVal, tPropR, rBin, rBinT, rNeOwn, rSetL_k, gSub, tMakeK_k, tMethR, rInO, tDNewK_k, tYes, wipe, tMakeR_k, tSMeth, tSMethK, rMulS, decide_true, tNever, sFld, rIsiT, and_false, rListOf, rTupOf, rLenSeq, rIxL, rIxT, rIxS, rCat_k, rRep_k, rSlL_k, rSlS, rNewStrs_k, rAppend_k, tBM, tBM0, tM0, tM1, tSl, tNoPart, tPart, tLc_k, tFor_k, iList, iTup, iEnumT, iRng1, iRng2, iRng2L, iStr, L2.start, List.map, List.length_cons, List.length_nil, List.cons_append, List.nil_append, List.getElem?_cons_succ, List.getElem?_cons_zero, Option.some.injEq, V.int.injEq, V.bl.injEq, V.str.injEq, V.ref.injEq, exists_eq_left', exists_eq_left, and_assoc, exists_and_left, exists_eq, exists_eq', true_and, and_true, List.set_cons_zero, List.set_cons_succ, List.set, decide_eq_true_eq, Bool.not_eq_true', if_true, if_false, rIx, cx_K, nox_K, List.replicate_succ, List.replicate_zero, Nat.reduceSub, Bool.true_eq_false, Bool.false_eq_true, Nat.reduceAdd, List.cons.injEq, reduceCtorEq, false_and, false_or, or_false, tAug, rSetO, rJoin, tMakeL, rStrO, ClX.tCMeth, rPop, tLc2_k, iEnum, tPar3, iZipS, iZipS3, tListZip, rInDT, tBackS, tBackT, tSlSt, rUn]
  refine ⟨sa, ns, rfl, hS, hns, fun p c H1 s1 np P1 => ?_⟩
  simp only [tSeq, tIfS, tTest, tB, tAnd, tOr, tNot, tAndV, tOrV, tNotV, tIf, tOp, tUn, tChain, rEq, rNe, rI0, rI, rU, tCallR, tCons, tNil, tC, tVar, tRet, tRetN, tTup_k, tLst_k, tCB, tNext, tAsg, gName, gTup, gCons, gNil, tDrop, tPar, tFld, ClX.tCVal, tPropR, rBin, rBinT, rNeOwn, rSetL_k, gSub, tMakeK_k, tMethR, rInO, tDNewK_k, tYes, wipe, tMakeR_k, tSMeth, tSMethK, rMulS, decide_true, tNever, sFld, rIsiT, and_false, rListOf, rTupOf, rLenSeq, rIxL, rIxT, rIxS, rCat_k, rRep_k, rSlL_k, rSlS, rNewStrs_k, rAppend_k, tBM, tBM0, tM0, tM1, tSl, tNoPart, tPart, tLc_k, tFor_k, iList, iTup, iEnumT, iRng1, iRng2, iRng2L, iStr, L2.start, List.map, List.length_cons, List.length_nil, List.cons_append, List.nil_append, List.getElem?_cons_succ, List.getElem?_cons_zero, Option.some.injEq, V.int.injEq, V.bl.injEq, V.str.injEq, V.ref.injEq, exists_eq_left', exists_eq_left, and_assoc, exists_and_left, exists_eq, exists_eq', true_and, and_true, List.set_cons_zero, List.set_cons_succ, List.set, decide_eq_true_eq, Bool.not_eq_true', if_true, if_false, rIx, cx_K, nox_K, List.replicate_succ, List.replicate_zero, Nat.reduceSub, Bool.true_eq_false, Bool.false_eq_true, Nat.reduceAdd, List.cons.injEq, reduceCtorEq, false_and, false_or, or_false, tAug, rSetO, rJoin, tMakeL, rStrO, ClX.tCMeth, rPop, tLc2_k, iEnum, tPar3, iZipS, iZipS3, tListZip, rInDT, tBackS, tBackT, tSlSt, rUn]
  refine ⟨by decide, by decide, ?_⟩
  refine kFor.it walk_range (fun i σ H' => Pen H' p c ((i : Int) * 1000) ∧ ∃ v2 v3 v4 v5 v6 v7 v8, σ = [some (.ref sa), some (.ref p), v2, v3, v4, v5, v6, v7, v8]) ⟨P1.le (by simp), _, _, _, _, _, _, _, rfl⟩ (fun _ _ _ _ _ => trivial) (fun i xv σ H2 H3 hi hP hY => ?_) fun σ H2 hP => ?_
  · obtain ⟨P2, v2, v3, v4, v5, v6, v7, v8, rfl⟩ := hP
    obtain ⟨rfl, rfl⟩ := hY
    have hi : i < 6 := hi
    simp only [tSeq, tIfS, tTest, tB, tAnd, tOr, tNot, tAndV, tOrV, tNotV, tIf, tOp, tUn, tChain, rEq, rNe, rI0, rI, rU, tCallR, tCons, tNil, tC, tVar, tRet, tRetN, tTup_k, tLst_k, tCB, tNext, tAsg, gName, gTup, gCons, gNil, tDrop, tPar, tFld, ClX.tCVal, tPropR, rBin, rBinT, rNeOwn, rSetL_k, gSub, tMakeK_k, tMethR, rInO, tDNewK_k, tYes, wipe, tMakeR_k, tSMeth, tSMethK, rMulS, decide_true, tNever, sFld, rIsiT, and_false, rListOf, rTupOf, rLenSeq, rIxL, rIxT, rIxS, rCat_k, rRep_k, rSlL_k, rSlS, rNewStrs_k, rAppend_k, tBM, tBM0, tM0, tM1, tSl, tNoPart, tPart, tLc_k, tFor_k, iList, iTup, iEnumT, iRng1, iRng2, iRng2L, iStr, L2.start, List.map, List.length_cons, List.length_nil, List.cons_append, List.nil_append, List.getElem?_cons_succ, List.getElem?_cons_zero, Option.some.injEq, V.int.injEq, V.bl.injEq, V.str.injEq, V.ref.injEq, exists_eq_left', exists_eq_left, and_assoc, exists_and_left, exists_eq, exists_eq', true_and, and_true, List.set_cons_zero, List.set_cons_succ, List.set, decide_eq_true_eq, Bool.not_eq_true', if_true, if_false, rIx, cx_K, nox_K, List.replicate_succ, List.replicate_zero, Nat.reduceSub, Bool.true_eq_false, Bool.false_eq_true, Nat.reduceAdd, List.cons.injEq, reduceCtorEq, false_and, false_or, or_false, tAug, rSetO, rJoin, tMakeL, rStrO, ClX.tCMeth, rPop, tLc2_k, iEnum, tPar3, iZipS, iZipS3, tListZip, rInDT, tBackS, tBackT, tSlSt, rUn]
    refine ⟨p, c, 8, _, rfl, P2, by omega, by decide, by decide, fun z1 H4 z10 z11 s4 P4 => ⟨_, rfl, ?_⟩⟩
    refine ⟨p, c, 6, _, rfl, P4, by omega, by decide, by decide, fun z2 H5 z20 z21 s5 P5 => ⟨_, rfl, ?_⟩⟩
    obtain ⟨W, eW⟩ : ∃ m : Nat, 1 + z1 = (m : Int) := ⟨(1 + z1).toNat, by omega⟩
    obtain ⟨N, eN⟩ : ∃ m : Nat, 1 + z2 = (m : Int) := ⟨(1 + z2).toNat, by omega⟩
    rw [eW, eN]
    have w8 : W ≤ 8 := by omega
    have w1 : 1 ≤ W := by omega
    have t6 : N ≤ 6 := by omega
    have t1 : 1 ≤ N := by omega
    have hb : (N : Int) * ((W : Int) + 1) ≤ 6 * 9 := Int.mul_le_mul (by omega) (by omega) (by omega) (by omega)
    have hb0 : 0 ≤ (N : Int) * ((W : Int) + 1) := Int.mul_nonneg (by omega) (by omega)
    generalize hBB : (N : Int) * ((W : Int) + 1) = BB at *
    have go : ∀ {p c : Addr} {n : Int} {H : Hp} {Q : VK} {E : XK}, Pen H p c n → 0 ≤ n → n + 60 ≤ 1048576 → (∀ (l : Addr) (g : List (List Nat)) (H' : Hp), H l = none → SameBut p H H' → Pen H' p c (n + 60) → H' l = some (.lst (rowsV g)) → Good W g → g.length = N → Q (.ref l) H') → spLines [.ref p, .int (W : Int), .int (N : Int)] H Q E := fun {p c n H Q E} hP n0 hn k =>
      ⟨p, c, n, W, N, rfl, hP, w1, by omega, by omega, by rw [hBB]; omega, fun l ls H' nl s' P' hl hll hrow => by
        obtain ⟨rs, rfl, hrs⟩ := rows_codes hrow
        rw [List.length_map] at hll
        rw [List.map_map] at hl
        rw [hBB] at P'
        exact k l rs H' nl s' (P'.le (by omega)) hl ⟨by omega, by omega, by omega, by omega, hrs⟩ hll⟩
    refine go P5 (by omega) (by omega) fun l g H6 nl s6 P6 hl gg hgl => ?_
    refine newPic gg (.inl hl) fun x H7 s7 nx px => ?_
    have P7 := P6.same s7
    have l7 := s7 _ _ hl
    refine go P7 (by omega) (by omega) fun m g' H8 nm s8 P8 hm gh hgl' => ?_
    have px8 := px.but P7 s8
    have l8 := rows_but l7 gg P7 s8
    refine newPic gh (.inl hm) fun y H9 s9 ny py => ?_
    have P9 := P8.same s9
    have px9 := px8.same s9
    have l9 := s9 _ _ l8
    clear P2 P4 P5 P6 P7 P8 s4 s5 s6 s7 s8 s9 hl l7 l8 px px8 hm nm ny nx go
    refine ⟨x, l, W, g, rfl, px9, gg, l9, fun HA sA => ⟨_, rfl, ?_⟩⟩
    rw [if_neg (by decide)]
    have pxA := px9.same sA
    have pyA := py.same sA
    refine ⟨x, y, W, g, g', rfl, pxA, pyA, gg, gh, by omega, fun HB sB => ⟨_, rfl, ?_⟩⟩
    rw [if_neg (by decide)]
    refine join2 (pxA.same sB) (pyA.same sB) gg gh (by omega) fun z HC sC pz => ?_
    have hj : (jRs gAnd g g').length = g'.length := by rw [jRs_len (by omega)]; omega
    refine ⟨z, y, W, _, g', rfl, pz, (pyA.same sB).same sC, good_j dig_gAnd gg gh (by omega), gh, hj, fun HD sD => ⟨_, rfl, ?_⟩⟩
    rw [if_neg (by decide)]
    have S := ((sA.trans sB).trans sC).trans sD
    have PD := P9.same S
    have pxD := px9.same S
    have lD := S _ _ l9
    have nlp : l ≠ p := rows_ne P9 gg l9
    clear S sA sB sC sD px9 pxA pyA pz py l9 P9
    refine ⟨by decide, by decide, ?_⟩
    refine kFor.it walk_range (fun j σ H' => ∃ v8, σ = [some (.ref sa), some (.ref p), some (.int (i : Nat)), some (.int (W : Nat)), some (.int (N : Nat)), some (.ref l), some (.ref x), some (.ref y), v8] ∧ Pen H' p c ((i : Int) * 1000 + 200 + (j : Int) * 2) ∧ Pic H' a.Picture x g ∧ H' l = some (.lst (rowsV g))) ⟨v8, by simp, PD.le (by omega), pxD, lD⟩ (fun _ _ _ _ _ => trivial) (fun j v σ HE HF hj hP hY => ?_) fun σ HE hP => ?_
    · obtain ⟨v8, rfl, PE, pxE, lE⟩ := hP
      obtain ⟨rfl, rfl⟩ := hY
      have hj : j < 4 := hj
      simp only [tSeq, tIfS, tTest, tB, tAnd, tOr, tNot, tAndV, tOrV, tNotV, tIf, tOp, tUn, tChain, rEq, rNe, rI0, rI, rU, tCallR, tCons, tNil, tC, tVar, tRet, tRetN, tTup_k, tLst_k, tCB, tNext, tAsg, gName, gTup, gCons, gNil, tDrop, tPar, tFld, ClX.tCVal, tPropR, rBin, rBinT, rNeOwn, rSetL_k, gSub, tMakeK_k, tMethR, rInO, tDNewK_k, tYes, wipe, tMakeR_k, tSMeth, tSMethK, rMulS, decide_true, tNever, sFld, rIsiT, and_false, rListOf, rTupOf, rLenSeq, rIxL, rIxT, rIxS, rCat_k, rRep_k, rSlL_k, rSlS, rNewStrs_k, rAppend_k, tBM, tBM0, tM0, tM1, tSl, tNoPart, tPart, tLc_k, tFor_k, iList, iTup, iEnumT, iRng1, iRng2, iRng2L, iStr, L2.start, List.map, List.length_cons, List.length_nil, List.cons_append, List.nil_append, List.getElem?_cons_succ, List.getElem?_cons_zero, Option.some.injEq, V.int.injEq, V.bl.injEq, V.str.injEq, V.ref.injEq, exists_eq_left', exists_eq_left, and_assoc, exists_and_left, exists_eq, exists_eq', true_and, and_true, List.set_cons_zero, List.set_cons_succ, List.set, decide_eq_true_eq, Bool.not_eq_true', if_true, if_false, rIx, cx_K, nox_K, List.replicate_succ, List.replicate_zero, Nat.reduceSub, Bool.true_eq_false, Bool.false_eq_true, Nat.reduceAdd, List.cons.injEq, reduceCtorEq, false_and, false_or, or_false, tAug, rSetO, rJoin, tMakeL, rStrO, ClX.tCMeth, rPop, tLc2_k, iEnum, tPar3, iZipS, iZipS3, tListZip, rInDT, tBackS, tBackT, tSlSt, rUn]
      refine ⟨p, c, x, l, _, W, g, rfl, PE, by omega, pxE, gg, w8, by omega, lE, nlp, fun HG sG PG => ⟨_, rfl, ?_⟩⟩
      rw [if_neg (by decide)]
      exact ⟨PG.le (by push_cast; omega), pxE.but PE sG, rows_but lE gg PE sG⟩
    · obtain ⟨v8, rfl, PE, pxE, lE⟩ := hP
      exact ⟨PE.le (by push_cast; omega), _, _, _, _, _, _, _, rfl⟩
  · exact k _
end
end Pf
end
section
namespace Pf
open PySem PySem.Spec PyProof.Rows L2 Ow StX
theorem tup2_mk {K : PySem.W.Frag} {A : Addr} {td : Option Addr} {tn : Nat} {ts : Array (Option Value)} {u1 u2 : Value} {xs : List V} (l : K.lookup A = some ⟨.type "tuple", td, .seq #[u1, u2] tn, ts⟩) (v : Vals xs [u1, u2]) :
    ∃ (o : Obj) (its : Array Value) (n : Nat), K.lookup A = some o ∧ o.cls = .type "tuple" ∧ o.data = .seq its n ∧ its.size ≤ sizeLine ∧ Vals xs its.toList := ⟨_, #[u1, u2], tn, l, rfl, rfl, by show 2 ≤ sizeLine; decide, v⟩

theorem fnt_mk {K : PySem.W.Frag} {x qual : Str} {st : Stmt} {f : Addr} {oc : Value} {od an : Option Addr} {osl : Array (Option Value)} {kV doc pm cdv ct : Value}
    (l : K.lookup f = some ⟨oc, od, .func (PySem.W.fnOf x qual (defArgs st) (defBody st) (defScope st) .none kV doc pm an cdv ct), osl⟩) (c : PySem.W.codeIn K cdv qual = true) (k : PySem.W.keepIn K (.ref f) = true) : FnT K x qual st [] f :=
  ⟨_, ⟨⟨oc, od, .none, kV, doc, pm, an, cdv, ct, osl, rfl, l, c, .inl ⟨rfl, rfl⟩, .inl rfl⟩, k⟩⟩
theorem fntD_mk {K : PySem.W.Frag} {x qual : Str} {st : Stmt} {f D : Addr} {oc : Value} {od an : Option Addr} {osl : Array (Option Value)} {kV doc pm cdv ct tc : Value} {td : Option Addr} {tn : Nat} {ts : Array (Option Value)} {its : List Value} {dvs : List V}
    (l : K.lookup f = some ⟨oc, od, .func (PySem.W.fnOf x qual (defArgs st) (defBody st) (defScope st) (.ref D) kV doc pm an cdv ct), osl⟩) (c : PySem.W.codeIn K cdv qual = true) (k : PySem.W.keepIn K (.ref f) = true)
    (t : K.lookup D = some ⟨tc, td, .seq its.toArray tn, ts⟩) (hd : dvs ≠ []) (v : Vals dvs its) : FnT K x qual st dvs f :=
  ⟨_, ⟨⟨oc, od, .ref D, kV, doc, pm, an, cdv, ct, osl, rfl, l, c, .inr ⟨hd, D, _, its, tn, rfl, t, rfl, v⟩, .inl rfl⟩, k⟩⟩
theorem fntD1_mk {K : PySem.W.Frag} {x qual : Str} {st : Stmt} {f D : Addr} {oc : Value} {od an : Option Addr} {osl : Array (Option Value)} {kV doc pm cdv ct tc u : Value} {td : Option Addr} {tn : Nat} {ts : Array (Option Value)} {dv : V}
    (l : K.lookup f = some ⟨oc, od, .func (PySem.W.fnOf x qual (defArgs st) (defBody st) (defScope st) (.ref D) kV doc pm an cdv ct), osl⟩) (c : PySem.W.codeIn K cdv qual = true) (k : PySem.W.keepIn K (.ref f) = true)
    (t : K.lookup D = some ⟨tc, td, .seq #[u] tn, ts⟩) (v : RelV dv u) : FnT K x qual st [dv] f := fntD_mk (its := [u]) l c k t (by simp) (.cons v .nil)
theorem propR_mk {K : PySem.W.Frag} {C p g : Addr} {f : Str} {rest : List Value} (h1 : PySem.W.findIn K (.ref C) f = some (some (.ref p))) (h2 : PySem.W.specialIn K (.ref p) "__get__" = some (some (.builtin "property.__get__")))
    (h3 : PySem.W.takesIn K (.ref p) = some true) (h4 : PySem.W.recIn K p "property" = some (.ref g :: rest)) : PropR K C f p g := ⟨h1, h2, h3, rest, h4⟩
theorem mro2_mk {K : PySem.W.Frag} {C : Addr} {cd : PySem.ClassData} (h : PySem.W.clsIn K C = some cd) (m : (cd.mro == [.ref C, .type "object"]) = true) : mro2 K C = true := by
  unfold mro2
  rw [h]
  exact m
theorem all_mk {l : PySem.W.OpenLaw} {w : World} {K : PySem.W.Frag} {h : Heap} {mg : Str → Option Value} {fa : Addr} (X : K.In h) (G : h.Ns mainGlobals mg) (hfa : mg "law" = some (.ref fa))
    {x__law_pen x__law_draw x__law_pick x__law_lines x_is_int x_is_int_in x_is_colour x_check_colour x_is_row x_wrong_row x_is_pixel x_check_pixel x_add_seeds x_marked_region x_run_end x_runs x_region_pixels x_Picture_init x_Picture_rows x_Picture_width x_Picture_height x_Picture_area x_Picture_eq x_row_pairs x_lies_within x_Picture_le x_Picture_lt x_laid_over x_what_agrees x_what_differs x_Picture_or x_Picture_and x_Picture_xor x_check_axis x_flipped_rows x_Picture_flipped x_Picture_invert x_Picture_region x__law_plain_right x__law_region_right x__law_two_right x_law x_Picture x_pr_Picture_rows x_pr_Picture_width x_pr_Picture_height x_HoldError x_Unlike x_MARKt x_AXES : Addr}
    (n_len : PySem.W.nsIn K mainGlobals "len" = some none)
    (n_int : PySem.W.nsIn K mainGlobals "int" = some none)
    (n_abs : PySem.W.nsIn K mainGlobals "abs" = some none)
    (n_list : PySem.W.nsIn K mainGlobals "list" = some none)
    (n_range : PySem.W.nsIn K mainGlobals "range" = some none)
    (n_repr : PySem.W.nsIn K mainGlobals "repr" = some none)
    (n_tuple : PySem.W.nsIn K mainGlobals "tuple" = some none)
    (n_str : PySem.W.nsIn K mainGlobals "str" = some none)
    (n_isinstance : PySem.W.nsIn K mainGlobals "isinstance" = some none)
    (n_bool : PySem.W.nsIn K mainGlobals "bool" = some none)
    (n_enumerate : PySem.W.nsIn K mainGlobals "enumerate" = some none)
    (n_zip : PySem.W.nsIn K mainGlobals "zip" = some none)
    (n_all : PySem.W.nsIn K mainGlobals "all" = some none)
    (n_sum : PySem.W.nsIn K mainGlobals "sum" = some none)
    (m__law_pen : PySem.W.nsIn K mainGlobals "_law_pen" = some (some (.ref x__law_pen)))
    (m__law_draw : PySem.W.nsIn K mainGlobals "_law_draw" = some (some (.ref x__law_draw)))
    (m__law_pick : PySem.W.nsIn K mainGlobals "_law_pick" = some (some (.ref x__law_pick)))
    (m__law_lines : PySem.W.nsIn K mainGlobals "_law_lines" = some (some (.ref x__law_lines)))
    (m_is_int : PySem.W.nsIn K mainGlobals "is_int" = some (some (.ref x_is_int)))
    (m_is_int_in : PySem.W.nsIn K mainGlobals "is_int_in" = some (some (.ref x_is_int_in)))
    (m_is_colour : PySem.W.nsIn K mainGlobals "is_colour" = some (some (.ref x_is_colour)))
    (m_check_colour : PySem.W.nsIn K mainGlobals "check_colour" = some (some (.ref x_check_colour)))
    (m_is_row : PySem.W.nsIn K mainGlobals "is_row" = some (some (.ref x_is_row)))
    (m_wrong_row : PySem.W.nsIn K mainGlobals "wrong_row" = some (some (.ref x_wrong_row)))
    (m_is_pixel : PySem.W.nsIn K mainGlobals "is_pixel" = some (some (.ref x_is_pixel)))
    (m_check_pixel : PySem.W.nsIn K mainGlobals "check_pixel" = some (some (.ref x_check_pixel)))
    (m_add_seeds : PySem.W.nsIn K mainGlobals "add_seeds" = some (some (.ref x_add_seeds)))
    (m_marked_region : PySem.W.nsIn K mainGlobals "marked_region" = some (some (.ref x_marked_region)))
    (m_run_end : PySem.W.nsIn K mainGlobals "run_end" = some (some (.ref x_run_end)))
    (m_runs : PySem.W.nsIn K mainGlobals "runs" = some (some (.ref x_runs)))
    (m_region_pixels : PySem.W.nsIn K mainGlobals "region_pixels" = some (some (.ref x_region_pixels)))
    (m_row_pairs : PySem.W.nsIn K mainGlobals "row_pairs" = some (some (.ref x_row_pairs)))
    (m_lies_within : PySem.W.nsIn K mainGlobals "lies_within" = some (some (.ref x_lies_within)))
    (m_laid_over : PySem.W.nsIn K mainGlobals "laid_over" = some (some (.ref x_laid_over)))
    (m_what_agrees : PySem.W.nsIn K mainGlobals "what_agrees" = some (some (.ref x_what_agrees)))
    (m_what_differs : PySem.W.nsIn K mainGlobals "what_differs" = some (some (.ref x_what_differs)))
    (m_check_axis : PySem.W.nsIn K mainGlobals "check_axis" = some (some (.ref x_check_axis)))
    (m_flipped_rows : PySem.W.nsIn K mainGlobals "flipped_rows" = some (some (.ref x_flipped_rows)))
    (m__law_plain_right : PySem.W.nsIn K mainGlobals "_law_plain_right" = some (some (.ref x__law_plain_right)))
    (m__law_region_right : PySem.W.nsIn K mainGlobals "_law_region_right" = some (some (.ref x__law_region_right)))
    (m__law_two_right : PySem.W.nsIn K mainGlobals "_law_two_right" = some (some (.ref x__law_two_right)))
    (m_law : PySem.W.nsIn K mainGlobals "law" = some (some (.ref x_law)))
    (m_Picture : PySem.W.nsIn K mainGlobals "Picture" = some (some (.ref x_Picture)))
    (c_Picture : ClsF K x_Picture)
    (M_Picture : Mk K x_Picture x_Picture_init)
    (a_Picture__rows : PySem.W.findIn K (.ref x_Picture) "_rows" = some none)
    (p_Picture_rows : PropR K x_Picture "rows" x_pr_Picture_rows x_Picture_rows)
    (p_Picture_width : PropR K x_Picture "width" x_pr_Picture_width x_Picture_width)
    (p_Picture_height : PropR K x_Picture "height" x_pr_Picture_height x_Picture_height)
    (o_Picture_eq : PySem.W.findIn K (.ref x_Picture) "__eq__" = some (some (.ref x_Picture_eq)))
    (f_Picture_eq : PySem.W.isFn K (.ref x_Picture_eq) = true)
    (o_Picture_le : PySem.W.findIn K (.ref x_Picture) "__le__" = some (some (.ref x_Picture_le)))
    (f_Picture_le : PySem.W.isFn K (.ref x_Picture_le) = true)
    (o_Picture_lt : PySem.W.findIn K (.ref x_Picture) "__lt__" = some (some (.ref x_Picture_lt)))
    (f_Picture_lt : PySem.W.isFn K (.ref x_Picture_lt) = true)
    (o_Picture_invert : PySem.W.findIn K (.ref x_Picture) "__invert__" = some (some (.ref x_Picture_invert)))
    (f_Picture_invert : PySem.W.isFn K (.ref x_Picture_invert) = true)
    (cr_Picture : ClX.CRead K x_Picture (.type "type"))
    (cv_MOST : ∃ u, ClX.CVal K x_Picture (.type "type") "MOST" (.int 200) u)
    (s_Picture_first : PySem.W.selfFirst K x_Picture = true)
    (s_Picture_not : PySem.W.notFirst K x_Picture (.ref x_Picture) = true)
    (o_Picture_ne : PySem.W.findIn K (.ref x_Picture) "__ne__" = some (some (.builtin "object.__ne__")))
    (s_Picture_obj : PySem.W.subIn K (.ref x_Picture) (.type "object") = some true)
    (o_Picture_or : PySem.W.findIn K (.ref x_Picture) (PySem.dunder "or") = some (some (.ref x_Picture_or)))
    (f_Picture_or : PySem.W.isFn K (.ref x_Picture_or) = true)
    (o_Picture_and : PySem.W.findIn K (.ref x_Picture) (PySem.dunder "and") = some (some (.ref x_Picture_and)))
    (f_Picture_and : PySem.W.isFn K (.ref x_Picture_and) = true)
    (o_Picture_xor : PySem.W.findIn K (.ref x_Picture) (PySem.dunder "xor") = some (some (.ref x_Picture_xor)))
    (f_Picture_xor : PySem.W.isFn K (.ref x_Picture_xor) = true)
    (mt_area : Meth K x_Picture "area" x_Picture_area)
    (mt_flipped : Meth K x_Picture "flipped" x_Picture_flipped)
    (mt_region : Meth K x_Picture "region" x_Picture_region)
    (m_HoldError : PySem.W.nsIn K mainGlobals "HoldError" = some (some (.ref x_HoldError)))
    (m_Unlike : PySem.W.nsIn K mainGlobals "Unlike" = some (some (.ref x_Unlike)))
    (ei_Unlike : PySem.W.excIn K x_Unlike [.type "ValueError", .type "Exception", .type "BaseException", .type "object"] "ValueError.__new__" = true)
    (kp_Unlike : PySem.W.keepIn K (.ref x_Unlike) = true)
    (m_MARK : PySem.W.nsIn K mainGlobals "MARK" = some (some (.str (Str.ofString "x") x_MARKt)))
    (m_AXES : PySem.W.nsIn K mainGlobals "AXES" = some (some (.ref x_AXES)))
    (b_Unlike : PySem.W.subIn K (.ref x_Unlike) (.type "BaseException") = some true)
    (t_Unlike : PySem.W.typeIn K (.ref x_Unlike) = some (.type "type"))
    (xm_Unlike_Unlike : PySem.W.exmOne K (.ref x_Unlike) (.ref x_Unlike) = some true)
    (t_AXES : ∃ (o : Obj) (its : Array Value) (n : Nat), K.lookup x_AXES = some o ∧ o.cls = .type "tuple" ∧ o.data = .seq its n ∧ its.size ≤ sizeLine ∧ Vals [.str "across", .str "down"] its.toList)
    (d__law_pen : FnT K "_law_pen" "_law_pen" s__law_pen [] x__law_pen)
    (k__law_pen : PySem.W.keepIn K (.ref x__law_pen) = true)
    (d__law_draw : FnT K "_law_draw" "_law_draw" s__law_draw [] x__law_draw)
    (k__law_draw : PySem.W.keepIn K (.ref x__law_draw) = true)
    (d__law_pick : FnT K "_law_pick" "_law_pick" s__law_pick [] x__law_pick)
    (k__law_pick : PySem.W.keepIn K (.ref x__law_pick) = true)
    (d__law_lines : FnT K "_law_lines" "_law_lines" s__law_lines [] x__law_lines)
    (k__law_lines : PySem.W.keepIn K (.ref x__law_lines) = true)
    (d_is_int : FnT K "is_int" "is_int" s_is_int [] x_is_int)
    (k_is_int : PySem.W.keepIn K (.ref x_is_int) = true)
    (d_is_int_in : FnT K "is_int_in" "is_int_in" s_is_int_in [] x_is_int_in)
    (k_is_int_in : PySem.W.keepIn K (.ref x_is_int_in) = true)
    (d_is_colour : FnT K "is_colour" "is_colour" s_is_colour [] x_is_colour)
    (k_is_colour : PySem.W.keepIn K (.ref x_is_colour) = true)
    (d_check_colour : FnT K "check_colour" "check_colour" s_check_colour [] x_check_colour)
    (k_check_colour : PySem.W.keepIn K (.ref x_check_colour) = true)
    (d_is_row : FnT K "is_row" "is_row" s_is_row [] x_is_row)
    (k_is_row : PySem.W.keepIn K (.ref x_is_row) = true)
    (d_wrong_row : FnT K "wrong_row" "wrong_row" s_wrong_row [] x_wrong_row)
    (k_wrong_row : PySem.W.keepIn K (.ref x_wrong_row) = true)
    (d_is_pixel : FnT K "is_pixel" "is_pixel" s_is_pixel [] x_is_pixel)
    (k_is_pixel : PySem.W.keepIn K (.ref x_is_pixel) = true)
    (d_check_pixel : FnT K "check_pixel" "check_pixel" s_check_pixel [] x_check_pixel)
    (k_check_pixel : PySem.W.keepIn K (.ref x_check_pixel) = true)
    (d_add_seeds : FnT K "add_seeds" "add_seeds" s_add_seeds [] x_add_seeds)
    (k_add_seeds : PySem.W.keepIn K (.ref x_add_seeds) = true)
    (d_marked_region : FnT K "marked_region" "marked_region" s_marked_region [] x_marked_region)
    (k_marked_region : PySem.W.keepIn K (.ref x_marked_region) = true)
    (d_run_end : FnT K "run_end" "run_end" s_run_end [] x_run_end)
    (k_run_end : PySem.W.keepIn K (.ref x_run_end) = true)
    (d_runs : FnT K "runs" "runs" s_runs [] x_runs)
    (k_runs : PySem.W.keepIn K (.ref x_runs) = true)
    (d_region_pixels : FnT K "region_pixels" "region_pixels" s_region_pixels [] x_region_pixels)
    (k_region_pixels : PySem.W.keepIn K (.ref x_region_pixels) = true)
    (d_Picture_init : FnT K "__init__" "Picture.__init__" s_Picture_init [] x_Picture_init)
    (d_Picture_rows : FnT K "rows" "Picture.rows" s_Picture_rows [] x_Picture_rows)
    (d_Picture_width : FnT K "width" "Picture.width" s_Picture_width [] x_Picture_width)
    (d_Picture_height : FnT K "height" "Picture.height" s_Picture_height [] x_Picture_height)
    (d_Picture_area : FnT K "area" "Picture.area" s_Picture_area [] x_Picture_area)
    (d_Picture_eq : FnT K "__eq__" "Picture.__eq__" s_Picture_eq [] x_Picture_eq)
    (d_row_pairs : FnT K "row_pairs" "row_pairs" s_row_pairs [] x_row_pairs)
    (k_row_pairs : PySem.W.keepIn K (.ref x_row_pairs) = true)
    (d_lies_within : FnT K "lies_within" "lies_within" s_lies_within [] x_lies_within)
    (k_lies_within : PySem.W.keepIn K (.ref x_lies_within) = true)
    (d_Picture_le : FnT K "__le__" "Picture.__le__" s_Picture_le [] x_Picture_le)
    (d_Picture_lt : FnT K "__lt__" "Picture.__lt__" s_Picture_lt [] x_Picture_lt)
    (d_laid_over : FnT K "laid_over" "laid_over" s_laid_over [] x_laid_over)
    (k_laid_over : PySem.W.keepIn K (.ref x_laid_over) = true)
    (d_what_agrees : FnT K "what_agrees" "what_agrees" s_what_agrees [] x_what_agrees)
    (k_what_agrees : PySem.W.keepIn K (.ref x_what_agrees) = true)
    (d_what_differs : FnT K "what_differs" "what_differs" s_what_differs [] x_what_differs)
    (k_what_differs : PySem.W.keepIn K (.ref x_what_differs) = true)
    (d_Picture_or : FnT K "__or__" "Picture.__or__" s_Picture_or [] x_Picture_or)
    (d_Picture_and : FnT K "__and__" "Picture.__and__" s_Picture_and [] x_Picture_and)
    (d_Picture_xor : FnT K "__xor__" "Picture.__xor__" s_Picture_xor [] x_Picture_xor)
    (d_check_axis : FnT K "check_axis" "check_axis" s_check_axis [] x_check_axis)
    (k_check_axis : PySem.W.keepIn K (.ref x_check_axis) = true)
    (d_flipped_rows : FnT K "flipped_rows" "flipped_rows" s_flipped_rows [] x_flipped_rows)
    (k_flipped_rows : PySem.W.keepIn K (.ref x_flipped_rows) = true)
    (d_Picture_flipped : FnT K "flipped" "Picture.flipped" s_Picture_flipped [] x_Picture_flipped)
    (d_Picture_invert : FnT K "__invert__" "Picture.__invert__" s_Picture_invert [] x_Picture_invert)
    (d_Picture_region : FnT K "region" "Picture.region" s_Picture_region [] x_Picture_region)
    (d__law_plain_right : FnT K "_law_plain_right" "_law_plain_right" s__law_plain_right [] x__law_plain_right)
    (k__law_plain_right : PySem.W.keepIn K (.ref x__law_plain_right) = true)
    (d__law_region_right : FnT K "_law_region_right" "_law_region_right" s__law_region_right [] x__law_region_right)
    (k__law_region_right : PySem.W.keepIn K (.ref x__law_region_right) = true)
    (d__law_two_right : FnT K "_law_two_right" "_law_two_right" s__law_two_right [] x__law_two_right)
    (k__law_two_right : PySem.W.keepIn K (.ref x__law_two_right) = true)
    (d_law : FnT K "law" "law" s_law [] x_law)
    (k_law : PySem.W.keepIn K (.ref x_law) = true)
    : ∀ base : Heap, K.In base → base.Ns mainGlobals mg → FnG l.prog w K mg base CX0 10 fa (spLaw K) := by
  have e := hfa.symm.trans (PySem.W.mg_of X G m_law)
  have e2 : x_law = fa := by
    cases e
    rfl
  subst e2
  have T : Txt K mg ⟨x__law_pen, x__law_draw, x__law_pick, x__law_lines, x_is_int, x_is_int_in, x_is_colour, x_check_colour, x_is_row, x_wrong_row, x_is_pixel, x_check_pixel, x_add_seeds, x_marked_region, x_run_end, x_runs, x_region_pixels, x_Picture_init, x_Picture_rows, x_Picture_width, x_Picture_height, x_Picture_area, x_Picture_eq, x_row_pairs, x_lies_within, x_Picture_le, x_Picture_lt, x_laid_over, x_what_agrees, x_what_differs, x_Picture_or, x_Picture_and, x_Picture_xor, x_check_axis, x_flipped_rows, x_Picture_flipped, x_Picture_invert, x_Picture_region, x__law_plain_right, x__law_region_right, x__law_two_right, x_law, x_Picture, x_pr_Picture_rows, x_pr_Picture_width, x_pr_Picture_height, x_HoldError, x_Unlike, x_MARKt, x_AXES⟩ :=
    { n_len := PySem.W.mg_none_of X G n_len,
      n_int := PySem.W.mg_none_of X G n_int,
      n_abs := PySem.W.mg_none_of X G n_abs,
      n_list := PySem.W.mg_none_of X G n_list,
      n_range := PySem.W.mg_none_of X G n_range,
      n_repr := PySem.W.mg_none_of X G n_repr,
      n_tuple := PySem.W.mg_none_of X G n_tuple,
      n_str := PySem.W.mg_none_of X G n_str,
      n_isinstance := PySem.W.mg_none_of X G n_isinstance,
      n_bool := PySem.W.mg_none_of X G n_bool,
      n_enumerate := PySem.W.mg_none_of X G n_enumerate,
      n_zip := PySem.W.mg_none_of X G n_zip,
      n_all := PySem.W.mg_none_of X G n_all,
      n_sum := PySem.W.mg_none_of X G n_sum,
      d__law_pen := d__law_pen,
      m__law_pen := PySem.W.mg_of X G m__law_pen,
      k__law_pen := k__law_pen,
      d__law_draw := d__law_draw,
      m__law_draw := PySem.W.mg_of X G m__law_draw,
      k__law_draw := k__law_draw,
      d__law_pick := d__law_pick,
      m__law_pick := PySem.W.mg_of X G m__law_pick,
      k__law_pick := k__law_pick,
      d__law_lines := d__law_lines,
      m__law_lines := PySem.W.mg_of X G m__law_lines,
      k__law_lines := k__law_lines,
      d_is_int := d_is_int,
      m_is_int := PySem.W.mg_of X G m_is_int,
      k_is_int := k_is_int,
      d_is_int_in := d_is_int_in,
      m_is_int_in := PySem.W.mg_of X G m_is_int_in,
      k_is_int_in := k_is_int_in,
      d_is_colour := d_is_colour,
      m_is_colour := PySem.W.mg_of X G m_is_colour,
      k_is_colour := k_is_colour,
      d_check_colour := d_check_colour,
      m_check_colour := PySem.W.mg_of X G m_check_colour,
      k_check_colour := k_check_colour,
      d_is_row := d_is_row,
      m_is_row := PySem.W.mg_of X G m_is_row,
      k_is_row := k_is_row,
      d_wrong_row := d_wrong_row,
      m_wrong_row := PySem.W.mg_of X G m_wrong_row,
      k_wrong_row := k_wrong_row,
      d_is_pixel := d_is_pixel,
      m_is_pixel := PySem.W.mg_of X G m_is_pixel,
      k_is_pixel := k_is_pixel,
      d_check_pixel := d_check_pixel,
      m_check_pixel := PySem.W.mg_of X G m_check_pixel,
      k_check_pixel := k_check_pixel,
      d_add_seeds := d_add_seeds,
      m_add_seeds := PySem.W.mg_of X G m_add_seeds,
      k_add_seeds := k_add_seeds,
      d_marked_region := d_marked_region,
      m_marked_region := PySem.W.mg_of X G m_marked_region,
      k_marked_region := k_marked_region,
      d_run_end := d_run_end,
      m_run_end := PySem.W.mg_of X G m_run_end,
      k_run_end := k_run_end,
      d_runs := d_runs,
      m_runs := PySem.W.mg_of X G m_runs,
      k_runs := k_runs,
      d_region_pixels := d_region_pixels,
      m_region_pixels := PySem.W.mg_of X G m_region_pixels,
      k_region_pixels := k_region_pixels,
      d_Picture_init := d_Picture_init,
      d_Picture_rows := d_Picture_rows,
      d_Picture_width := d_Picture_width,
      d_Picture_height := d_Picture_height,
      d_Picture_area := d_Picture_area,
      d_Picture_eq := d_Picture_eq,
      d_row_pairs := d_row_pairs,
      m_row_pairs := PySem.W.mg_of X G m_row_pairs,
      k_row_pairs := k_row_pairs,
      d_lies_within := d_lies_within,
      m_lies_within := PySem.W.mg_of X G m_lies_within,
      k_lies_within := k_lies_within,
      d_Picture_le := d_Picture_le,
      d_Picture_lt := d_Picture_lt,
      d_laid_over := d_laid_over,
      m_laid_over := PySem.W.mg_of X G m_laid_over,
      k_laid_over := k_laid_over,
      d_what_agrees := d_what_agrees,
      m_what_agrees := PySem.W.mg_of X G m_what_agrees,
      k_what_agrees := k_what_agrees,
      d_what_differs := d_what_differs,
      m_what_differs := PySem.W.mg_of X G m_what_differs,
      k_what_differs := k_what_differs,
      d_Picture_or := d_Picture_or,
      d_Picture_and := d_Picture_and,
      d_Picture_xor := d_Picture_xor,
      d_check_axis := d_check_axis,
      m_check_axis := PySem.W.mg_of X G m_check_axis,
      k_check_axis := k_check_axis,
      d_flipped_rows := d_flipped_rows,
      m_flipped_rows := PySem.W.mg_of X G m_flipped_rows,
      k_flipped_rows := k_flipped_rows,
      d_Picture_flipped := d_Picture_flipped,
      d_Picture_invert := d_Picture_invert,
      d_Picture_region := d_Picture_region,
      d__law_plain_right := d__law_plain_right,
      m__law_plain_right := PySem.W.mg_of X G m__law_plain_right,
      k__law_plain_right := k__law_plain_right,
      d__law_region_right := d__law_region_right,
      m__law_region_right := PySem.W.mg_of X G m__law_region_right,
      k__law_region_right := k__law_region_right,
      d__law_two_right := d__law_two_right,
      m__law_two_right := PySem.W.mg_of X G m__law_two_right,
      k__law_two_right := k__law_two_right,
      d_law := d_law,
      m_law := PySem.W.mg_of X G m_law,
      k_law := k_law,
      m_Picture := PySem.W.mg_of X G m_Picture,
      c_Picture := c_Picture,
      M_Picture := M_Picture,
      a_Picture__rows := a_Picture__rows,
      p_Picture_rows := p_Picture_rows,
      p_Picture_width := p_Picture_width,
      p_Picture_height := p_Picture_height,
      o_Picture_eq := o_Picture_eq,
      f_Picture_eq := f_Picture_eq,
      o_Picture_le := o_Picture_le,
      f_Picture_le := f_Picture_le,
      o_Picture_lt := o_Picture_lt,
      f_Picture_lt := f_Picture_lt,
      o_Picture_invert := o_Picture_invert,
      f_Picture_invert := f_Picture_invert,
      cr_Picture := cr_Picture,
      cv_MOST := cv_MOST,
      s_Picture_first := s_Picture_first,
      s_Picture_not := s_Picture_not,
      o_Picture_ne := o_Picture_ne,
      s_Picture_obj := s_Picture_obj,
      o_Picture_or := o_Picture_or,
      f_Picture_or := f_Picture_or,
      o_Picture_and := o_Picture_and,
      f_Picture_and := f_Picture_and,
      o_Picture_xor := o_Picture_xor,
      f_Picture_xor := f_Picture_xor,
      mt_area := mt_area,
      mt_flipped := mt_flipped,
      mt_region := mt_region,
      m_HoldError := PySem.W.mg_of X G m_HoldError,
      m_AXES := PySem.W.mg_of X G m_AXES,
      m_MARK := PySem.W.mg_of X G m_MARK,
      b_Unlike := b_Unlike,
      t_Unlike := t_Unlike,
      xm_Unlike_Unlike := xm_Unlike_Unlike,
      t_AXES := t_AXES,
      ei_Unlike := ei_Unlike,
      kp_Unlike := kp_Unlike,
      m_Unlike := PySem.W.mg_of X G m_Unlike }
  exact fun base _ _ => ok_law T
theorem walk {l : PySem.W.OpenLaw} {q : Program} {loose : List Str} {XP : (Str → Option Value) → Heap → Prop} {YP : World → Heap → Prop} {d : DefRec} {K : Params → PySem.W.Frag} (hn : l.most = some 63) (hdf : d.params.defaults = [])
    (hY : ∀ (w : World) (h : Heap), YP w h → (K w.params).In h)
    (F : ∀ (w : World) (mg : Str → Option Value) (fa : Addr) (h : Heap), (K w.params).In h → h.Ns mainGlobals mg → mg d.name = some (.ref fa) →
      ∀ base : Heap, (K w.params).In base → base.Ns mainGlobals mg → FnG l.prog w (K w.params) mg base CX0 10 fa (spLaw (K w.params))) :
    PySem.W.WalkO q loose XP YP l.row.toRowW d [] (fun f vs => PySem.call f vs) :=
  Ow.walk_ofG (n := 63) (k := 10) (sp := fun w => spLaw (K w.params)) hn (by decide) hdf ⟨rfl, by decide, by decide⟩ hY F (fun _ _ a ns hl _ hS => ⟨a, ns, rfl, hS, hl, fun _ => rfl⟩)
end Pf
end
open PySem PySem.W PyProof.Rows
set_option maxRecDepth 100000 in
set_option maxHeartbeats 0 in
theorem PySem.Challenge.cw_heldfloods_k23_whole_pictures_flipped_holds : PySem.Challenge.rw_heldfloods_k23_whole_pictures_flipped.Holds := by
  w_on; o_law; k_head; (case hw => w_witness2)
  k_fill
  refine Pf.walk (l := PySem.Challenge.rw_heldfloods_k23_whole_pictures_flipped) rfl rfl (fun w h Y => PySem.W.kIn_of Y) ?F
  case F =>
    intro w mg fa h KX G hmg
    refine' Pf.all_mk KX G hmg ?n_len ?n_int ?n_abs ?n_list ?n_range ?n_repr ?n_tuple ?n_str ?n_isinstance ?n_bool ?n_enumerate ?n_zip ?n_all ?n_sum ?m__law_pen ?m__law_draw ?m__law_pick ?m__law_lines ?m_is_int ?m_is_int_in ?m_is_colour ?m_check_colour ?m_is_row ?m_wrong_row ?m_is_pixel ?m_check_pixel ?m_add_seeds ?m_marked_region ?m_run_end ?m_runs ?m_region_pixels ?m_row_pairs ?m_lies_within ?m_laid_over ?m_what_agrees ?m_what_differs ?m_check_axis ?m_flipped_rows ?m__law_plain_right ?m__law_region_right ?m__law_two_right ?m_law ?m_Picture ?c_Picture ?M_Picture ?a_Picture__rows ?p_Picture_rows ?p_Picture_width ?p_Picture_height ?o_Picture_eq ?f_Picture_eq ?o_Picture_le ?f_Picture_le ?o_Picture_lt ?f_Picture_lt ?o_Picture_invert ?f_Picture_invert ?cr_Picture ?cv_MOST ?s_Picture_first ?s_Picture_not ?o_Picture_ne ?s_Picture_obj ?o_Picture_or ?f_Picture_or ?o_Picture_and ?f_Picture_and ?o_Picture_xor ?f_Picture_xor ?mt_area ?mt_flipped ?mt_region ?m_HoldError ?m_Unlike ?ei_Unlike ?kp_Unlike ?m_MARK ?m_AXES ?b_Unlike ?t_Unlike ?xm_Unlike_Unlike ?t_AXES ?d__law_pen ?k__law_pen ?d__law_draw ?k__law_draw ?d__law_pick ?k__law_pick ?d__law_lines ?k__law_lines ?d_is_int ?k_is_int ?d_is_int_in ?k_is_int_in ?d_is_colour ?k_is_colour ?d_check_colour ?k_check_colour ?d_is_row ?k_is_row ?d_wrong_row ?k_wrong_row ?d_is_pixel ?k_is_pixel ?d_check_pixel ?k_check_pixel ?d_add_seeds ?k_add_seeds ?d_marked_region ?k_marked_region ?d_run_end ?k_run_end ?d_runs ?k_runs ?d_region_pixels ?k_region_pixels ?d_Picture_init ?d_Picture_rows ?d_Picture_width ?d_Picture_height ?d_Picture_area ?d_Picture_eq ?d_row_pairs ?k_row_pairs ?d_lies_within ?k_lies_within ?d_Picture_le ?d_Picture_lt ?d_laid_over ?k_laid_over ?d_what_agrees ?k_what_agrees ?d_what_differs ?k_what_differs ?d_Picture_or ?d_Picture_and ?d_Picture_xor ?d_check_axis ?k_check_axis ?d_flipped_rows ?k_flipped_rows ?d_Picture_flipped ?d_Picture_invert ?d_Picture_region ?d__law_plain_right ?k__law_plain_right ?d__law_region_right ?k__law_region_right ?d__law_two_right ?k__law_two_right ?d_law ?k_law
    (case n_len => k_is)
    (case n_int => k_is)
    (case n_abs => k_is)
    (case n_list => k_is)
    (case n_range => k_is)
    (case n_repr => k_is)
    (case n_tuple => k_is)
    (case n_str => k_is)
    (case n_isinstance => k_is)
    (case n_bool => k_is)
    (case n_enumerate => k_is)
    (case n_zip => k_is)
    (case n_all => k_is)
    (case n_sum => k_is)
    (case m__law_pen => k_is)
    (case m__law_draw => k_is)
    (case m__law_pick => k_is)
    (case m__law_lines => k_is)
    (case m_is_int => k_is)
    (case m_is_int_in => k_is)
    (case m_is_colour => k_is)
    (case m_check_colour => k_is)
    (case m_is_row => k_is)
    (case m_wrong_row => k_is)
    (case m_is_pixel => k_is)
    (case m_check_pixel => k_is)
    (case m_add_seeds => k_is)
    (case m_marked_region => k_is)
    (case m_run_end => k_is)
    (case m_runs => k_is)
    (case m_region_pixels => k_is)
    (case m_row_pairs => k_is)
    (case m_lies_within => k_is)
    (case m_laid_over => k_is)
    (case m_what_agrees => k_is)
    (case m_what_differs => k_is)
    (case m_check_axis => k_is)
    (case m_flipped_rows => k_is)
    (case m__law_plain_right => k_is)
    (case m__law_region_right => k_is)
    (case m__law_two_right => k_is)
    (case m_law => k_is)
    (case m_Picture => k_is)
    (case c_Picture => (refine' ⟨⟨?_, ?_, ?_, ?_⟩, ?_, ?_, ?_, ?_, ?_, ?_⟩ <;> k_is))
    (case M_Picture => (refine' ⟨?a, ?b, ?c, ?d⟩; (case a => k_is); (case b => k_is); (case c => k_is); (case d => k_is)))
    (case a_Picture__rows => k_is)
    (case p_Picture_rows => (refine' Pf.propR_mk ?a ?b ?c ?d; (case a => k_is); (case b => k_is); (case c => k_is); (case d => k_is)))
    (case p_Picture_width => (refine' Pf.propR_mk ?a ?b ?c ?d; (case a => k_is); (case b => k_is); (case c => k_is); (case d => k_is)))
    (case p_Picture_height => (refine' Pf.propR_mk ?a ?b ?c ?d; (case a => k_is); (case b => k_is); (case c => k_is); (case d => k_is)))
    (case o_Picture_eq => k_is)
    (case f_Picture_eq => k_is)
    (case o_Picture_le => k_is)
    (case f_Picture_le => k_is)
    (case o_Picture_lt => k_is)
    (case f_Picture_lt => k_is)
    (case o_Picture_invert => k_is)
    (case f_Picture_invert => k_is)
    (case cr_Picture => (refine' ⟨?a, ?b⟩; (case a => k_is); (case b => k_is)))
    (case cv_MOST => (refine' ⟨_, ⟨?a, ?b⟩⟩; (case a => k_is); (case b => exact ⟨_, rfl⟩)))
    (case s_Picture_first => k_is)
    (case s_Picture_not => k_is)
    (case o_Picture_ne => k_is)
    (case s_Picture_obj => k_is)
    (case o_Picture_or => k_is)
    (case f_Picture_or => k_is)
    (case o_Picture_and => k_is)
    (case f_Picture_and => k_is)
    (case o_Picture_xor => k_is)
    (case f_Picture_xor => k_is)
    (case mt_area => (refine' ⟨?a, ?b, ?c⟩; (case a => k_is); (case b => k_is); (case c => k_is)))
    (case mt_flipped => (refine' ⟨?a, ?b, ?c⟩; (case a => k_is); (case b => k_is); (case c => k_is)))
    (case mt_region => (refine' ⟨?a, ?b, ?c⟩; (case a => k_is); (case b => k_is); (case c => k_is)))
    (case m_HoldError => k_is)
    (case m_Unlike => k_is)
    (case ei_Unlike => k_exc)
    (case kp_Unlike => k_is)
    (case m_MARK => k_is)
    (case m_AXES => k_is)
    (case b_Unlike => k_is)
    (case t_Unlike => k_is)
    (case xm_Unlike_Unlike => (refine' PySem.W.exm_ref ?a ?b ?c ?d; (case a => k_is); (case b => k_is); (case c => k_is); (case d => k_is)))
    (case t_AXES => (refine' Pf.tup2_mk ?l ?v; (case l => k_is); (case v => exact .cons ⟨_, rfl⟩ (.cons ⟨_, rfl⟩ .nil))))
    (case d__law_pen => (refine' Pf.fnt_mk ?l ?c ?k; (case l => k_is); (case c => k_is); (case k => k_is)))
    (case k__law_pen => k_is)
    (case d__law_draw => (refine' Pf.fnt_mk ?l ?c ?k; (case l => k_is); (case c => k_is); (case k => k_is)))
    (case k__law_draw => k_is)
    (case d__law_pick => (refine' Pf.fnt_mk ?l ?c ?k; (case l => k_is); (case c => k_is); (case k => k_is)))
    (case k__law_pick => k_is)
    (case d__law_lines => (refine' Pf.fnt_mk ?l ?c ?k; (case l => k_is); (case c => k_is); (case k => k_is)))
    (case k__law_lines => k_is)
    (case d_is_int => (refine' Pf.fnt_mk ?l ?c ?k; (case l => k_is); (case c => k_is); (case k => k_is)))
    (case k_is_int => k_is)
    (case d_is_int_in => (refine' Pf.fnt_mk ?l ?c ?k; (case l => k_is); (case c => k_is); (case k => k_is)))
    (case k_is_int_in => k_is)
    (case d_is_colour => (refine' Pf.fnt_mk ?l ?c ?k; (case l => k_is); (case c => k_is); (case k => k_is)))
    (case k_is_colour => k_is)
    (case d_check_colour => (refine' Pf.fnt_mk ?l ?c ?k; (case l => k_is); (case c => k_is); (case k => k_is)))
    (case k_check_colour => k_is)
    (case d_is_row => (refine' Pf.fnt_mk ?l ?c ?k; (case l => k_is); (case c => k_is); (case k => k_is)))
    (case k_is_row => k_is)
    (case d_wrong_row => (refine' Pf.fnt_mk ?l ?c ?k; (case l => k_is); (case c => k_is); (case k => k_is)))
    (case k_wrong_row => k_is)
    (case d_is_pixel => (refine' Pf.fnt_mk ?l ?c ?k; (case l => k_is); (case c => k_is); (case k => k_is)))
    (case k_is_pixel => k_is)
    (case d_check_pixel => (refine' Pf.fnt_mk ?l ?c ?k; (case l => k_is); (case c => k_is); (case k => k_is)))
    (case k_check_pixel => k_is)
    (case d_add_seeds => (refine' Pf.fnt_mk ?l ?c ?k; (case l => k_is); (case c => k_is); (case k => k_is)))
    (case k_add_seeds => k_is)
    (case d_marked_region => (refine' Pf.fnt_mk ?l ?c ?k; (case l => k_is); (case c => k_is); (case k => k_is)))
    (case k_marked_region => k_is)
    (case d_run_end => (refine' Pf.fnt_mk ?l ?c ?k; (case l => k_is); (case c => k_is); (case k => k_is)))
    (case k_run_end => k_is)
    (case d_runs => (refine' Pf.fnt_mk ?l ?c ?k; (case l => k_is); (case c => k_is); (case k => k_is)))
    (case k_runs => k_is)
    (case d_region_pixels => (refine' Pf.fnt_mk ?l ?c ?k; (case l => k_is); (case c => k_is); (case k => k_is)))
    (case k_region_pixels => k_is)
    (case d_Picture_init => (refine' Pf.fnt_mk ?l ?c ?k; (case l => k_is); (case c => k_is); (case k => k_is)))
    (case d_Picture_rows => (refine' Pf.fnt_mk ?l ?c ?k; (case l => k_is); (case c => k_is); (case k => k_is)))
    (case d_Picture_width => (refine' Pf.fnt_mk ?l ?c ?k; (case l => k_is); (case c => k_is); (case k => k_is)))
    (case d_Picture_height => (refine' Pf.fnt_mk ?l ?c ?k; (case l => k_is); (case c => k_is); (case k => k_is)))
    (case d_Picture_area => (refine' Pf.fnt_mk ?l ?c ?k; (case l => k_is); (case c => k_is); (case k => k_is)))
    (case d_Picture_eq => (refine' Pf.fnt_mk ?l ?c ?k; (case l => k_is); (case c => k_is); (case k => k_is)))
    (case d_row_pairs => (refine' Pf.fnt_mk ?l ?c ?k; (case l => k_is); (case c => k_is); (case k => k_is)))
    (case k_row_pairs => k_is)
    (case d_lies_within => (refine' Pf.fnt_mk ?l ?c ?k; (case l => k_is); (case c => k_is); (case k => k_is)))
    (case k_lies_within => k_is)
    (case d_Picture_le => (refine' Pf.fnt_mk ?l ?c ?k; (case l => k_is); (case c => k_is); (case k => k_is)))
    (case d_Picture_lt => (refine' Pf.fnt_mk ?l ?c ?k; (case l => k_is); (case c => k_is); (case k => k_is)))
    (case d_laid_over => (refine' Pf.fnt_mk ?l ?c ?k; (case l => k_is); (case c => k_is); (case k => k_is)))
    (case k_laid_over => k_is)
    (case d_what_agrees => (refine' Pf.fnt_mk ?l ?c ?k; (case l => k_is); (case c => k_is); (case k => k_is)))
    (case k_what_agrees => k_is)
    (case d_what_differs => (refine' Pf.fnt_mk ?l ?c ?k; (case l => k_is); (case c => k_is); (case k => k_is)))
    (case k_what_differs => k_is)
    (case d_Picture_or => (refine' Pf.fnt_mk ?l ?c ?k; (case l => k_is); (case c => k_is); (case k => k_is)))
    (case d_Picture_and => (refine' Pf.fnt_mk ?l ?c ?k; (case l => k_is); (case c => k_is); (case k => k_is)))
    (case d_Picture_xor => (refine' Pf.fnt_mk ?l ?c ?k; (case l => k_is); (case c => k_is); (case k => k_is)))
    (case d_check_axis => (refine' Pf.fnt_mk ?l ?c ?k; (case l => k_is); (case c => k_is); (case k => k_is)))
    (case k_check_axis => k_is)
    (case d_flipped_rows => (refine' Pf.fnt_mk ?l ?c ?k; (case l => k_is); (case c => k_is); (case k => k_is)))
    (case k_flipped_rows => k_is)
    (case d_Picture_flipped => (refine' Pf.fnt_mk ?l ?c ?k; (case l => k_is); (case c => k_is); (case k => k_is)))
    (case d_Picture_invert => (refine' Pf.fnt_mk ?l ?c ?k; (case l => k_is); (case c => k_is); (case k => k_is)))
    (case d_Picture_region => (refine' Pf.fnt_mk ?l ?c ?k; (case l => k_is); (case c => k_is); (case k => k_is)))
    (case d__law_plain_right => (refine' Pf.fnt_mk ?l ?c ?k; (case l => k_is); (case c => k_is); (case k => k_is)))
    (case k__law_plain_right => k_is)
    (case d__law_region_right => (refine' Pf.fnt_mk ?l ?c ?k; (case l => k_is); (case c => k_is); (case k => k_is)))
    (case k__law_region_right => k_is)
    (case d__law_two_right => (refine' Pf.fnt_mk ?l ?c ?k; (case l => k_is); (case c => k_is); (case k => k_is)))
    (case k__law_two_right => k_is)
    (case d_law => (refine' Pf.fnt_mk ?l ?c ?k; (case l => k_is); (case c => k_is); (case k => k_is)))
    (case k_law => k_is)
