import PyProof.Rows.All
import Wide.All
import OpenK.AllK
import Wide.FinOn
import PyProof.EqAt
import PyProof.EqKinds
import PyProof.TupleCall
import PyProof.InstNe
import KE.KOpsOwn
import HandS.Base
import HandS.Call
import HandS.List
import HandS.More
import PyProof.TwoTypesSub
import PyProof.AutoIntOps
import PyProof.StrReplace2
import HandS.Words
import HandS.Star
import HandS.IsInst
import HandS.Defaults
import HandS.Property
import HandS.OwnEq
import HandS.Lambda
import HandS.Ends
import PyProof.ReprRoads
import HandS.ExcInit
import HandS.ExcField
import HandS.CallSlots
import HandS.ForExc
import HandS.ExcIs
import KE.KExcIs
import HandS.EndTab
import HandS.MakeKwOnly
import HandS.FStr
import KE.KCallOwn
import HandS.RaiseMore
import HandS.ExcInitHot
import HandS.ExcValue
import HandS.Walk
import HandS.ForMost
import HandS.StrMore
import HandS.ClsMeth
import OpenK.KMeth
import KE.GoesMore
import HandS.Codes
import PyProof.StrBlock2
import HandS.TryMany
import HandS.Zip
import KE.GoesZip
import HandS.Deep
import HandS.TupMul
import HandS.CallLocal
import HandS.MapJoin
import HandS.DictTup
import KE.KDictDisplayH
import HandS.TupAny
import PyProof.Rows.Range3
import HandS.Small
import KE.KEqNest
import HandS.MethStar
import KE.KFmtOwn
import HandS.Wide
import HandS.Text
import HandS.Style
import HandS.Flow
import PySem.Challenge.RW_heldfloods_k05_places_written_and_read
set_option Elab.async false
set_option linter.all false
set_option maxRecDepth 100000
section
set_option maxHeartbeats 4000000
/-! Operators that an own class defines, over instances that are tracked. -/
namespace Ow
open PySem PySem.Spec PyProof.Rows L2

/-- an instance of the class at C stands at a -/
def InsAt (H : Hp) (a C : Addr) : Prop := ∃ dx fs, H a = some (.ins C dx fs)

section
variable {X : Cx} {CX : CXT} {n : Nat} {C g : Addr} {sp : Sp} {E : XK}

theorem inst_of {pins : List (Addr × Obj)} {σ : L2.St} {H : Hp} {s : Shared} {a : Addr} (I : Inv X pins σ H s) (h : InsAt H a C) : ∃ ox od, PySem.W.InstAt s.heap a ox C od := by
  obtain ⟨dx, fs, ea⟩ := h
  obtain ⟨mA, O, _⟩ := ins_get I.hok ea
  obtain ⟨od, J, _⟩ := O.look
  exact ⟨_, _, J⟩

theorem cmpbackR {Q : Value → Shared → Prop} {v : V} {u : Value} {s : Shared} (r : RelV v u) (q : Q u s) : PySem.W.CmpBack Q u s := by
  cases v <;> first
    | (cases r; exact q)
    | (obtain ⟨t, rfl⟩ := r; exact q)

/-- x op y, both instances of C -/
def rBin (C : Addr) (sp : Sp) (E : XK) : R2 := fun x y H Q => ∃ a b, x = .ref a ∧ y = .ref b ∧ InsAt H a C ∧ InsAt H b C ∧ sp [x, y] H Q E
theorem op_bin {op : Operator} (hc : PySem.W.selfFirst X.K C = true) (hs : PySem.W.findIn X.K (.ref C) (PySem.dunder op.info.2) = some (some (.ref g))) (hf : PySem.W.isFn X.K (.ref g) = true)
    (F : FnR X.prog X.w X.K X.mg X.base CX n g sp) (hr : Room n X.A) (hx : Passes CX X E) : OpR X (binaryOp op) (rBin C sp E) := by
  intro pins s σ H x y v u Q I rx ry h
  obtain ⟨a, b, rfl, rfl, ha, hb, q⟩ := h
  cases (show v = Value.ref a from rx)
  cases (show u = Value.ref b from ry)
  obtain ⟨ox, od, J⟩ := inst_of I ha
  obtain ⟨oy, od', J'⟩ := inst_of I hb
  obtain ⟨m, hF⟩ := I.fr
  refine PySem.W.binop_K (op := op) hF I.ok.mod.kin J J'.type hc hs hf ?_
  refine wpAny_mono (wpAny_call (run_fnR (us := [.ref a, .ref b]) (vs := [.ref a, .ref b]) F hr hx I (.cons rfl (.cons rfl .nil)) q)) (fun w s' z => ?_) fun _ _ x => x
  obtain ⟨z', H', I', rz, qz⟩ := z
  exact cmpbackR rz ⟨z', H', I', rz, qz⟩

/-- x op n, an instance of C and an int -/
def rBinI (C : Addr) (sp : Sp) (E : XK) : R2 := fun x y H Q => ∃ a i, x = .ref a ∧ y = .int i ∧ InsAt H a C ∧ sp [x, y] H Q E
theorem op_binI {op : Operator} {fo ro rc : Option Value} (hc : PySem.W.selfFirst X.K C = true) (hs : PySem.W.findIn X.K (.ref C) (PySem.dunder op.info.2) = some (some (.ref g))) (hf : PySem.W.isFn X.K (.ref g) = true)
    (hrr : PySem.W.findIn X.K (.ref C) (dunderR op.info.2) = some rc) (hp : rc = none ∨ ∃ g : Addr, rc = some (.ref g))
    (h1 : PySem.W.findIn X.K (.type "int") (PySem.dunder op.info.2) = some fo) (h2 : PySem.W.findIn X.K (.type "int") (dunderR op.info.2) = some ro) (hsub : PySem.W.subIn X.K (.type "int") (.ref C) = some false)
    (F : FnR X.prog X.w X.K X.mg X.base CX n g sp) (hr : Room n X.A) (hx : Passes CX X E) : OpR X (binaryOp op) (rBinI C sp E) := by
  intro pins s σ H x y v u Q I rx ry h
  obtain ⟨a, i, rfl, rfl, ha, q⟩ := h
  cases (show v = Value.ref a from rx)
  obtain ⟨t, rfl⟩ := ry
  obtain ⟨ox, od, J⟩ := inst_of I ha
  obtain ⟨m, hF⟩ := I.fr
  refine PySem.W.ksp_binT (op := op) (T := "int") hF I.ok.mod.kin J rfl hc hs hf hrr hp h1 h2 hsub ?_
  refine wpAny_mono (wpAny_call (run_fnR (us := [.ref a, .int i t]) (vs := [.ref a, .int i]) F hr hx I (.cons rfl (.cons ⟨t, rfl⟩ .nil)) q)) (fun w s' z => ?_) fun _ _ x => x
  obtain ⟨z', H', I', rz, qz⟩ := z
  exact cmpbackR rz ⟨z', H', I', rz, qz⟩

/-- ~x -/
def rUn (C : Addr) (sp : Sp) (E : XK) : V → Hp → VK → Prop := fun x H Q => ∃ a, x = .ref a ∧ InsAt H a C ∧ sp [x] H Q E
theorem un_inv_own (hs : PySem.W.findIn X.K (.ref C) "__invert__" = some (some (.ref g))) (hf : PySem.W.isFn X.K (.ref g) = true)
    (F : FnR X.prog X.w X.K X.mg X.base CX n g sp) (hr : Room n X.A) (hx : Passes CX X E) : UnR X (unaryOp .Invert) (rUn C sp E) := by
  intro pins s σ H x v Q I rx h
  obtain ⟨a, rfl, ha, q⟩ := h
  cases (show v = Value.ref a from rx)
  obtain ⟨ox, od, J⟩ := inst_of I ha
  obtain ⟨m, hF⟩ := I.fr
  refine PySem.W.ksp_inv hF I.ok.mod.kin J hs hf ?_
  exact wpAny_call (run_fnR (us := [.ref a]) (vs := [.ref a]) F hr hx I (.cons rfl .nil) q)

/-- x op y, a comparison whose def stands at g; y an instance of C too -/
theorem op_cmp {op : CmpOp} (hop : ∀ a b, compareOp op a b = richCompare op a b) (hs : PySem.W.findIn X.K (.ref C) (cmpInfo op).2.1 = some (some (.ref g))) (hf : PySem.W.isFn X.K (.ref g) = true) (hn : PySem.W.notFirst X.K C (.ref C) = true)
    (F : FnR X.prog X.w X.K X.mg X.base CX n g sp) (hr : Room n X.A) (hx : Passes CX X E) : OpR X (compareOp op) (rBin C sp E) := by
  intro pins s σ H x y v u Q I rx ry h
  obtain ⟨a, b, rfl, rfl, ha, hb, q⟩ := h
  cases (show v = Value.ref a from rx)
  cases (show u = Value.ref b from ry)
  obtain ⟨ox, od, J⟩ := inst_of I ha
  obtain ⟨oy, od', J'⟩ := inst_of I hb
  obtain ⟨m, hF⟩ := I.fr
  rw [hop]
  refine PySem.W.cmp_K (op := op) (tb := .ref C) hr.units0 hF I.ok.mod.kin J J'.type hn hs hf ?_
  refine wpAny_mono (wpAny_call (run_fnR (us := [.ref a, .ref b]) (vs := [.ref a, .ref b]) F hr hx I (.cons rfl (.cons rfl .nil)) q)) (fun w s' z => ?_) fun _ _ x => x
  obtain ⟨z', H', I', rz, qz⟩ := z
  exact cmpbackR rz ⟨z', H', I', rz, qz⟩
end
end Ow
end
section
set_option maxHeartbeats 4000000
namespace Ow
open PySem PySem.Spec PyProof.Rows L2 PySem.W

section
variable {prog : Program} {w : World} {M : Model} {A : Around} {E : Value → Shared → Prop} {s : Shared} {K : Frag} {x C L f : Addr} {h₀ : Heap} {m : Str → Option Value} {ox : Obj} {od : Option Obj} {nm : String}

theorem add_ref_at {i : Int} {t : Tok} {x C dx : Addr} : GivesAt (fun s => s.heap.get? x = some (instObj C dx)) (Builtin.«int.__add__» ⟨[.int i t, .ref x], []⟩) (.val Value.notImplemented) := by
  intro prog w A R s hx h
  obtain ⟨hp, g, d, tk, os⟩ := s
  have hl : ∀ {M : Model} {A : Around} {E : Value → Shared → Prop} {Q : Option Int → Shared → Prop}, Q none ⟨hp, g, d, tk, os⟩ → wpAny M A (asInt? (.ref x)) Q E ⟨hp, g, d, tk, os⟩ := by
    intro M A E Q q
    unfold asInt?
    exact wpAny_bind (wpAny_load hx (wpAny_pure q))
  unfold Builtin.«int.__add__»
  wp_walk using hl
  exact h
theorem int_add_ref {i : Int} {t : Tok} {x C dx : Addr} {s : Shared} {Q : Value → Shared → Prop} (hx : s.heap.get? x = some (instObj C dx)) (h : Q .notImplemented s) :
    wpAny (model prog w) A (call (.builtin "int.__add__") [.int i t, .ref x]) Q E s :=
  call_givesAt F.slot_int_add (typeIs_int s i t) F.entry_int_add (F.args_int_add_2 _ _) add_ref_at hx h
theorem int_add_own {i : Int} {t : Tok} {x C dx f fa : Addr} {cd : ClassData} {rest : List Value} {Q : Value → Shared → Prop} (X : K.In s.heap) (hx : s.heap.get? x = some (instObj C dx)) (I : InstAt s.heap x ox C od) (hcd : clsIn K C = some cd) (hm : cd.mro = .ref C :: rest)
    (ha : findIn K (.ref C) (PySem.dunder "add") = some (some (.ref fa))) (hs : findIn K (.ref C) (dunderR "add") = some (some (.ref f))) (hf : isFn K (.ref f) = true) (hsub : subIn K (.ref C) (.type "int") = some false)
    (h : wpAny (model prog w) A (call (.ref f) [.ref x, .int i t]) (PySem.W.CmpBack Q) E s) : wpAny (model prog w) A (binaryOp .Add (.int i t) (.ref x)) Q E s := by
  have one := ksp_try X I hs hf h
  have two : ∀ {Q' : Option Value → Shared → Prop}, Q' none s → wpAny (model prog w) A (tryMethod (.int i t) (PySem.dunder "add") (.ref x)) Q' E s := by
    intro Q' q
    unfold tryMethod
    exact wpAny_bind (wpAny_callSpecial?_slot (typeIs_int s i t) F.slot_int_add (int_add_ref hx (wpAny_pure q)))
  obtain ⟨hh, g, d, tt, os⟩ := s
  have L1 : Looks (model prog w) hh (typeOf (.int i t)) (.type "int") := Looks.of_pure rfl
  have L2 : Looks (model prog w) hh (typeOf (.ref x)) (.ref C) := I.type
  have L3 : Looks (model prog w) hh (fillsNumberSlot (.type "int") "add") true := Looks.of_pure F.fills_int_add
  have L4 : Looks (model prog w) hh (fillsNumberSlot (.ref C) "add") true := fills_K X hcd hm ha
  have L5 : Looks (model prog w) hh (isSubtype (.ref C) (.type "int")) false := looks_subIn X hsub
  have L7 : Looks (model prog w) hh (numberSlotInPython (.type "int") "add") false := Looks.of_pure rfl
  have hne : (Value.type "int" == Value.ref C) = false := Bool.eq_false_iff.mpr fun q => by cases beq_iff_eq.mp q
  show wpAny (model prog w) A (binaryOp .Add (.int i t) (.ref x)) Q E _
  have hi : Operator.info .Add = ("+", "add") := rfl
  simp only [binaryOp, hi]
  refine wpAny_holding (wpAny_bind ?_)
  unfold binaryOp1
  refine wpAny_bind (L1.at (wpAny_bind (L2.at (wpAny_bind (L3.at ?_)))))
  simp only [hne, Bool.false_eq_true, if_false]
  ksp_lk
  refine two ?_
  ksp_lk
  refine wpAny_mono one (fun r s' hr' => ?_) fun _ _ e => e
  obtain ⟨v, rfl, hq⟩ := hr'
  ksp_lk
  exact hq
end
end Ow
end
section
set_option maxHeartbeats 4000000
namespace Ow
open PySem PySem.Spec PyProof.Rows L2 PySem.W

section
variable {prog : Program} {w : World} {M : Model} {A : Around} {E : Value → Shared → Prop} {s : Shared} {K : Frag} {x C L f : Addr} {h₀ : Heap} {m : Str → Option Value} {ox : Obj} {od : Option Obj} {nm T : String}
/-- no += of one's own: C over object alone -/
theorem noI_own {h : Heap} {cd : ClassData} {add : Bool} (X : K.In h) (hc : clsIn K C = some cd) (hm : cd.mro = [.ref C, .type "object"]) (hs : findIn K (.ref C) (dunderI nm) = some none)
    (ho : typeLookup (.type "object") (dunderI nm) = pure none) : Looks M h (fillsInplaceSlot (.ref C) nm add) false := by
  intro A Q E s k q
  have Lm : Looks M h (mroOf (.ref C)) cd.mro := (looks_clsIn X hc).andThen (f := fun cd => pure cd.mro) .now
  have Lm' := Lm.keeps k
  obtain ⟨hh, g, d, tt, os⟩ := s
  have X' : K.In hh := X.keeps k
  have L1 : Looks M hh (typeLookup (.ref C) (dunderI nm)) none := looks_findIn X' hs
  have L2 : Looks M hh (typeLookup (.type "object") (dunderI nm)) none := Looks.of_pure ho
  unfold fillsInplaceSlot
  refine wpAny_bind (Lm'.at ?_)
  rw [hm, List.anyM_cons]
  refine wpAny_bind (wpAny_bind (L1.at ?_))
  refine wpAny_pure ?_
  simp only [Bool.false_eq_true, if_false]
  rw [List.anyM_cons]
  refine wpAny_bind (wpAny_bind (L2.at ?_))
  refine wpAny_pure ?_
  simp only [Bool.false_eq_true, if_false]
  exact wpAny_pure q

theorem iadd_own {op : Operator} {b : Value} {cd : ClassData} {fo ro rc : Option Value} {Q : Value → Shared → Prop} (X : K.In s.heap) (I : InstAt s.heap x ox C od) (hb : typeOf b = pure (.type T)) (hcd : clsIn K C = some cd) (hm : cd.mro = [.ref C, .type "object"])
    (hni : findIn K (.ref C) (dunderI op.info.2) = some none) (hno : typeLookup (.type "object") (dunderI op.info.2) = pure none)
    (hs : findIn K (.ref C) (PySem.dunder op.info.2) = some (some (.ref f))) (hf : isFn K (.ref f) = true) (hr : findIn K (.ref C) (dunderR op.info.2) = some rc) (hp : rc = none ∨ ∃ g : Addr, rc = some (.ref g))
    (h1 : findIn K (.type T) (PySem.dunder op.info.2) = some fo) (h2 : findIn K (.type T) (dunderR op.info.2) = some ro) (hsub : subIn K (.type T) (.ref C) = some false)
    (h : wpAny (model prog w) A (call (.ref f) [.ref x, b]) (PySem.W.CmpBack Q) E s) : wpAny (model prog w) A (inplaceOp op (.ref x) b) Q E s := by
  rcases hi : op.info with ⟨sym, nm'⟩
  rw [hi] at hs hr h1 h2 hni hno
  dsimp only at hs hr h1 h2 hni hno
  have one := ksp_try X I hs hf h
  obtain ⟨hh, g, d, tt, os⟩ := s
  have L0 : Looks (model prog w) hh (fillsInplaceSlot (.ref C) nm' (op == .Add)) false := noI_own X hcd hm hni hno
  have L1 : Looks (model prog w) hh (typeOf (.ref x)) (.ref C) := I.type
  have L2 : Looks (model prog w) hh (typeOf b) (.type T) := Looks.of_pure hb
  have L3 : Looks (model prog w) hh (fillsNumberSlot (.ref C) nm') true := fills_K X hcd hm hs
  have L4 : Looks (model prog w) hh (fillsNumberSlot (.type T) nm') ((fo.isSome && !isSeqSlot fo) || (ro.isSome && !isSeqSlot ro)) := ksp_fillsT X h1 h2
  have L5 : Looks (model prog w) hh (isSubtype (.type T) (.ref C)) false := looks_subIn X hsub
  have L6 : Looks (model prog w) hh (numberSlotInPython (.ref C) nm') true := ksp_inPy X hs hr hp
  have L7 : Looks (model prog w) hh (numberSlotInPython (.type T) nm') false := Looks.of_pure rfl
  have L8 : Looks (model prog w) hh (typeLookup (.type T) (dunderR nm')) ro := looks_findIn X h2
  generalize ((fo.isSome && !isSeqSlot fo) || (ro.isSome && !isSeqSlot ro)) = right at L4
  have hne : (Value.ref C == Value.type T) = false := Bool.eq_false_iff.mpr fun q => by cases beq_iff_eq.mp q
  unfold inplaceOp
  simp only [hi]
  refine wpAny_holding (wpAny_bind (L1.at (wpAny_bind (L0.at ?_))))
  simp only [Bool.false_eq_true, if_false]
  refine wpAny_bind ?_
  unfold binaryOp1
  refine wpAny_bind (L1.at (wpAny_bind (L2.at (wpAny_bind (L3.at ?_)))))
  simp only [hne, Bool.false_eq_true, if_false]
  cases right with
  | false =>
    ksp_lk
    refine wpAny_mono one (fun r s' hr' => ?_) fun _ _ e => e
    obtain ⟨v, rfl, hq⟩ := hr'
    ksp_lk
    exact hq
  | true =>
    ksp_lk
    refine wpAny_mono one (fun r s' hr' => ?_) fun _ _ e => e
    obtain ⟨v, rfl, hq⟩ := hr'
    ksp_lk
    exact hq
end
end Ow
end
section
set_option maxHeartbeats 4000000
namespace Ow
open PySem PySem.Spec PyProof.Rows L2 PySem.W

section
variable {prog : Program} {w : World} {M : Model} {A : Around} {E : Value → Shared → Prop} {s : Shared} {K : Frag} {x y C L f : Addr} {ox oy : Obj} {od od' : Option Obj}

theorem objNe_K {Q : PySem.Fin → Shared → Prop} (X : K.In s.heap) (I : InstAt s.heap x ox C od) (hs : findIn K (.ref C) "__eq__" = some (some (.ref f))) (hf : isFn K (.ref f) = true) (hu : A.units < cLine)
    (hcall : wpAny (model prog w) A (call (.ref f) [.ref x, .ref y]) (fun v s' => ∃ b, v = .bool b ∧ Q (.done (.ret (.bool (!b)))) s') E s) :
    wpAny (model prog w) A (Builtin.«object.__ne__» ⟨[.ref x, .ref y], []⟩) Q E s := by
  unfold Builtin.«object.__ne__»
  repeat (first
    | with_reducible refine wpAny_cRoomFor hu ?_
    | (refine wpAny_bind (m := callSpecialIfBound? (.ref x) (Str.ofString "__eq__") [.ref y])
        (ifBound_K X I hs hf (wpAny_mono hcall (fun r s' hr => by
          obtain ⟨b, rfl, hq⟩ := hr
          repeat (first | exact hq | exact wpAny_pure hq | exact wpAny_truthy_bool hq | (refine wpAny_bind (m := truthy (.bool _)) (wpAny_truthy_bool ?_)) | wp_step)) fun _ _ e => e)))
    | wp_step)

theorem check_K {id owner n : String} {rest : List Value} {Q : Unit → Shared → Prop} (X : K.In s.heap) (I : InstAt s.heap x ox C od) (hk : builtinKind id = some .slot) (hs : splitId id = some (owner, n))
    (ha : argsOk id ⟨.ref x :: rest, []⟩) (hob : subIn K (.ref C) (.type owner) = some true) (hq : Q () s) :
    wpAny M A (checkBuiltinCall id ⟨.ref x :: rest, []⟩) Q E s := by
  obtain ⟨h, g, d, t, os⟩ := s
  have Ls : Looks M h (isSubtype (.ref C) (.type owner)) true := looks_subIn X hob
  have hx := I.at_
  have hc := I.cls
  have X0 := X
  simp only [checkBuiltinCall, hk, hs]
  refine wpAny_bind ?_
  unfold isInstance
  repeat (first | (with_reducible refine wpAny_loadPart_at hx ?_; rw [hc]) | (with_reducible refine Ls.here ?_) | wp_step)
  cases hsig : Manifest.signature? id with
  | none => exact wpAny_pure hq
  | some sig =>
    simp only [argsOk, hsig] at ha
    have h2 : Bind.checkArgs id sig ⟨.ref x :: rest, []⟩ = pure () := ha
    show wpAny M A (Bind.checkArgs id sig ⟨.ref x :: rest, []⟩) Q E _
    rw [h2]; exact wpAny_pure hq

theorem ne_own {Q : Value → Shared → Prop} (hu : A.units + 1 < cLine) (X : K.In s.heap) (I : InstAt s.heap x ox C od) (J : InstAt s.heap y oy C od') (hne : findIn K (.ref C) "__ne__" = some (some (.builtin "object.__ne__")))
    (hs : findIn K (.ref C) "__eq__" = some (some (.ref f))) (hf : isFn K (.ref f) = true) (hob : subIn K (.ref C) (.type "object") = some true)
    (hcall : wpAny (model prog w) A.in1 (call (.ref f) [.ref x, .ref y]) (fun v s' => ∃ b, v = .bool b ∧ Q (.bool (!b)) s') E s) :
    wpAny (model prog w) A (compareOp .NotEq (.ref x) (.ref y)) Q E s := by
  have S := F.cmp_object.ne
  have one : wpAny (model prog w) A (tryCompare (.ref x) "__ne__" (.ref y)) (fun r s' => ∃ v, r = some v ∧ Q v s') E s := by
    unfold tryCompare
    refine wpAny_bind ?_
    simp only [callSpecialIfBound?, bindSpecialIfBound?]
    refine wpAny_holding (wpAny_bind (wpAny_bind (wpAny_bind (I.type.here ((looks_findIn X hne).here ?_)))))
    simp only [S.bind]
    have fin : ∀ {R : Option Value → Shared → Prop}, (∀ b s', Q (.bool (!b)) s' → R (some (.bool (!b))) s') → wpAny (model prog w) A (call (.builtin "object.__ne__") ([.ref x] ++ [.ref y]) >>= fun v => pure (some v)) R E s := by
      intro R hR
      refine wpAny_bind (wpAny_call (codeAny_call_builtin S.plain F.cmpEntry_ne (check_K X I F.cmpKind_ne F.cmpSplit_ne (F.cmpArgs_ne _ _) hob (objNe_K (A := A.in1) X I hs hf hu (wpAny_mono hcall (fun v s' hv => ?_) fun _ _ e => e)))))
      obtain ⟨b, rfl, hq⟩ := hv
      exact ⟨b, rfl, wpAny_pure (hR b _ hq)⟩
    refine wpAny_bind (wpAny_askSetting (wpAny_ite ?_))
    split
    · exact wpAny_bind (wpAny_pure (wpAny_pure (fin fun b s' hq => wpAny_pure ⟨_, rfl, hq⟩)))
    · exact wpAny_tryCatch (wpAny_bind (wpAny_pure (wpAny_pure (fin fun b s' hq => wpAny_pure ⟨_, rfl, hq⟩))))
  show wpAny (model prog w) A (richCompare .NotEq (.ref x) (.ref y)) Q E s
  unfold richCompare
  simp only [oneThing_ref]
  refine wpAny_holding (wpAny_bind (wpAny_cRoomFor (Nat.lt_of_succ_lt hu) ?_))
  refine wpAny_bind (I.type.here (wpAny_bind (J.type.here ?_)))
  rw [show (Value.ref C != Value.ref C) = false from by simp]
  simp only [Bool.false_eq_true, if_false]
  refine wpAny_bind (wpAny_pure ?_)
  simp only [Bool.false_eq_true, if_false]
  refine wpAny_bind (wpAny_mono one (fun r s' z => ?_) fun _ _ e => e)
  obtain ⟨v, rfl, hq⟩ := z
  exact wpAny_pure hq
end

section
variable {X : Cx} {CX : CXT} {n : Nat} {C g : Addr} {sp : Sp} {E : XK}
/-- x != y, both instances of C, which has == alone -/
def rNeOwn (C : Addr) (sp : Sp) (E : XK) : R2 := fun x y H Q => ∃ a b, x = .ref a ∧ y = .ref b ∧ InsAt H a C ∧ InsAt H b C ∧ sp [x, y] H (fun v H' => ∃ k, v = .bl k ∧ Q (.bl (!k)) H') E
theorem op_ne_own (hne : PySem.W.findIn X.K (.ref C) "__ne__" = some (some (.builtin "object.__ne__"))) (hs : PySem.W.findIn X.K (.ref C) "__eq__" = some (some (.ref g))) (hf : PySem.W.isFn X.K (.ref g) = true) (hob : PySem.W.subIn X.K (.ref C) (.type "object") = some true)
    (F : FnR X.prog X.w X.K X.mg X.base CX n g sp) (hr : Room (n + 1) X.A) (hx : Passes CX X E) : OpR X (compareOp .NotEq) (rNeOwn C sp E) := by
  intro pins s σ H x y v u Q I rx ry h
  obtain ⟨a, b, rfl, rfl, ha, hb, q⟩ := h
  cases (show v = Value.ref a from rx)
  cases (show u = Value.ref b from ry)
  obtain ⟨ox, od, J⟩ := inst_of I ha
  obtain ⟨oy, od', J'⟩ := inst_of I hb
  have hu : X.A.units + 1 < cLine := hu_of hr
  refine ne_own hu I.kIn J J' hne hs hf hob ?_
  refine wpAny_call ?_
  refine codeAny_mono (F X.A.in1 X.stack s H [.ref a, .ref b] [.ref a, .ref b] _ E hr.in1 I.env0.in1 (.cons rfl (.cons rfl .nil)) q) fun r s' hq => ?_
  cases r with
  | error e => exact hx pins σ H s e s' I hq
  | ok fl =>
    cases fl with
    | ret u =>
      obtain ⟨v, H', I2, rv, k, ev, qq⟩ := I.after hq
      subst ev
      cases (show u = Value.bool k from rv)
      exact ⟨k, rfl, .bl (!k), H', I2, rfl, qq⟩
    | next => exact False.elim hq
    | brk => exact False.elim hq
    | cont => exact False.elim hq
end
end Ow
end
section
set_option maxHeartbeats 4000000
namespace Ow
open PySem PySem.Spec PyProof.Rows L2 StX

section
variable {X : Cx} {CX : CXT} {n : Nat} {C g fa : Addr} {sp : Sp} {E : XK}

theorem inst_of2 {pins : List (Addr × Obj)} {σ : L2.St} {H : Hp} {s : Shared} {a : Addr} (I : Inv X pins σ H s) (h : InsAt H a C) : ∃ dx od, s.heap.get? a = some (PySem.W.instObj C dx) ∧ PySem.W.InstAt s.heap a (PySem.W.instObj C dx) C od := by
  obtain ⟨dx, fs, ea⟩ := h
  obtain ⟨mA, O, _⟩ := ins_get I.hok ea
  obtain ⟨od, J, _⟩ := O.look
  exact ⟨dx, _, J.at_, J⟩

/-- n + x: the instance's __radd__ -/
def rBinR (C : Addr) (sp : Sp) (E : XK) : R2 := fun x y H Q => ∃ a i, x = .int i ∧ y = .ref a ∧ InsAt H a C ∧ sp [y, x] H Q E
theorem op_radd (hc : PySem.W.selfFirst X.K C = true) (ha : PySem.W.findIn X.K (.ref C) (PySem.dunder "add") = some (some (.ref fa))) (hs : PySem.W.findIn X.K (.ref C) (dunderR "add") = some (some (.ref g))) (hf : PySem.W.isFn X.K (.ref g) = true)
    (hsub : PySem.W.subIn X.K (.ref C) (.type "int") = some false)
    (F : FnR X.prog X.w X.K X.mg X.base CX n g sp) (hr : Room n X.A) (hx : Passes CX X E) : OpR X (binaryOp .Add) (rBinR C sp E) := by
  intro pins s σ H x y v u Q I rx ry h
  obtain ⟨a, i, rfl, rfl, hia, q⟩ := h
  obtain ⟨t, rfl⟩ := rx
  cases (show u = Value.ref a from ry)
  obtain ⟨dx, od, hx', J⟩ := inst_of2 I hia
  obtain ⟨cd, rest, hcd, hm⟩ := PySem.W.ksp_first hc
  refine int_add_own I.kIn hx' J hcd hm ha hs hf hsub ?_
  refine wpAny_mono (wpAny_call (run_fnR (us := [.ref a, .int i t]) (vs := [.ref a, .int i]) F hr hx I (.cons rfl (.cons ⟨t, rfl⟩ .nil)) q)) (fun w s' z => ?_) fun _ _ x => x
  obtain ⟨z', H', I', rz, qz⟩ := z
  exact cmpbackR rz ⟨z', H', I', rz, qz⟩

def mro2 (K : PySem.W.Frag) (C : Addr) : Bool := (PySem.W.clsIn K C).any fun cd => cd.mro == [.ref C, .type "object"]
theorem mro2_of {K : PySem.W.Frag} {C : Addr} (h : mro2 K C = true) : ∃ cd, PySem.W.clsIn K C = some cd ∧ cd.mro = [.ref C, .type "object"] := by
  obtain ⟨cd, hcd, hm⟩ := PySem.W.any_some h
  exact ⟨cd, hcd, beq_iff_eq.mp hm⟩
theorem noI_obj_add : typeLookup (.type "object") (dunderI "add") = pure none := by rw [typeLookup_type, builtinLookup_eq_fast]; kernel_rfl
/-- x += n, the class has no __iadd__ -/
theorem iop_addI {fo ro rc : Option Value} (hc : mro2 X.K C = true) (hni : PySem.W.findIn X.K (.ref C) (dunderI "add") = some none) (hs : PySem.W.findIn X.K (.ref C) (PySem.dunder "add") = some (some (.ref g))) (hf : PySem.W.isFn X.K (.ref g) = true)
    (hrr : PySem.W.findIn X.K (.ref C) (dunderR "add") = some rc) (hp : rc = none ∨ ∃ g : Addr, rc = some (.ref g))
    (h1 : PySem.W.findIn X.K (.type "int") (PySem.dunder "add") = some fo) (h2 : PySem.W.findIn X.K (.type "int") (dunderR "add") = some ro) (hsub : PySem.W.subIn X.K (.type "int") (.ref C) = some false)
    (F : FnR X.prog X.w X.K X.mg X.base CX n g sp) (hr : Room n X.A) (hx : Passes CX X E) : OpR X (inplaceOp .Add) (rBinI C sp E) := by
  intro pins s σ H x y v u Q I rx ry h
  obtain ⟨a, i, rfl, rfl, hia, q⟩ := h
  cases (show v = Value.ref a from rx)
  obtain ⟨t, rfl⟩ := ry
  obtain ⟨ox, od, J⟩ := inst_of I hia
  obtain ⟨cd, hcd, hm⟩ := mro2_of hc
  refine iadd_own (op := .Add) (T := "int") I.kIn J rfl hcd hm hni noI_obj_add hs hf hrr hp h1 h2 hsub ?_
  refine wpAny_mono (wpAny_call (run_fnR (us := [.ref a, .int i t]) (vs := [.ref a, .int i]) F hr hx I (.cons rfl (.cons ⟨t, rfl⟩ .nil)) q)) (fun w s' z => ?_) fun _ _ x => x
  obtain ⟨z', H', I', rz, qz⟩ := z
  exact cmpbackR rz ⟨z', H', I', rz, qz⟩

/-- f(e, ..), a def of the module, by its positional promise -/
def tCallR (sp : Sp) (E : XK) (t : TA) : TE := fun σ H Q => t σ H fun vs H1 => sp vs H1 Q E
theorem pe_callR {x : Str} {f : Addr} {e : Expr} {es : List Expr} {t : TA} {p pos : Pos} (F : FnR X.prog X.w X.K X.mg X.base CX n f sp) (hr : Room n X.A) (hm : X.mg x = some (.ref f)) (hk : PySem.W.keepIn X.K (.ref f) = true) (hx : Passes CX X E)
    (ha : PA X (e :: es) t) (hg : Gl X x := by rfl) (hdb : (x == ("__debug__" : Str)) = false := by decide) (he : starEach (e :: es) X.env = (false, eval e X.env) :: starEach es X.env := by rfl) (hpl : (backTo pos (starEach es X.env)).any (·.1) = false := by rfl) :
    PE X (.Call (.Name x p) (e :: es) [] pos) (tCallR sp E t) := by
  refine ⟨fun pins s σ H Q I h => ?_⟩
  refine wpAny_Call_Name_kw (ld_glob I hg hm ?_ hdb)
  refine PySem.W.callWith_K (h₀ := X.base) I.ok.mod.kin hk (thn (ha.run pos pins s σ H _ I h) fun us s1 ⟨vs, H1, I1, r, q⟩ => ⟨I1.kIn, ?_⟩) he hpl
  exact wpAny_call (run_fnR F hr hx I1 r q)

/-- C(e, ..): a new instance, by the positional promise of __init__ -/
theorem pe_makeRR {x : Str} {e : Expr} {es : List Expr} {t : TA} {p pos : Pos} (M : Mk X.K C g) (F : FnR X.prog X.w X.K X.mg X.base CX n g sp) (hr : Room (n + 1) X.A) (hm : X.mg x = some (.ref C)) (hx : Passes CX X E) (ha : PA X (e :: es) t) (hg : Gl X x := by rfl) (hdb : (x == ("__debug__" : Str)) = false := by decide)
    (he : starEach (e :: es) X.env = (false, eval e X.env) :: starEach es X.env := by rfl) (hpl : (backTo pos (starEach es X.env)).any (·.1) = false := by rfl) : PE X (.Call (.Name x p) (e :: es) [] pos) (tMakeR C sp E t) :=
  pe_makeR M F hr hg hm hx ha hdb he hpl
end
end Ow
end
section
set_option maxHeartbeats 4000000
namespace Ow
open PySem PySem.Spec PyProof.Rows L2 StX

/-- what the walk asks of an own class -/
structure ClsF (K : PySem.W.Frag) (C : Addr) : Prop where
  cl : Cls K C
  ca : PySem.W.findIn K (.ref C) "__class__" = some (some (.builtin "object.__class__"))
  cn : PySem.W.specialIn K (.builtin "object.__class__") "__get__" = some (some (.builtin "getset_descriptor.__get__"))
  ct : PySem.W.takesIn K (.builtin "object.__class__") = some true
  cm : PySem.W.mroIn K C (.type "object") = some true
  ic : PySem.W.isClsIn K C = true
  ty : PySem.W.typeIn K (.ref C) = some (.type "type")
theorem ClsF.tyOf {K : PySem.W.Frag} {C p dx : Addr} {H : Hp} {fs : List (Str × V)} (c : ClsF K C) (h : H p = some (.ins C dx fs)) : TyX K H (.ref p) (.ref C) := .base (.ins h c.cl c.ca c.cn c.ct c.cm)
theorem kit_self {K : PySem.W.Frag} {t : Value} : PySem.W.kitOne K t t = some true := by
  unfold PySem.W.kitOne
  rw [if_pos (beq_self_eq_true t)]
/-- t is not below the own class at C -/
theorem kit_own {K : PySem.W.Frag} {C : Addr} {t : Value} {b : Bool} (c : ClsF K C) (h : PySem.W.subIn K t (.ref C) = some b) (hb : (t == Value.ref C) = false) : PySem.W.kitOne K t (.ref C) = some b := by
  unfold PySem.W.kitOne
  rw [if_neg (by rw [hb]; exact Bool.false_ne_true)]
  show (if ((PySem.W.clsIn K C).isSome && PySem.W.typeIn K (.ref C) == some (.type "type")) = true then PySem.W.subIn K t (.ref C) else none) = some b
  have h1 : (PySem.W.clsIn K C).isSome = true := c.ic
  rw [h1, c.ty]
  rw [if_pos (by rfl)]
  exact h
/-- an instance of C against a built-in type -/
theorem kit_bty {K : PySem.W.Frag} {C : Addr} {T : String} {b : Bool} (hm : PySem.W.kitMeta T = true) (h : PySem.W.subIn K (.ref C) (.type T) = some b) : PySem.W.kitOne K (.ref C) (.type T) = some b := by
  unfold PySem.W.kitOne
  rw [if_neg (by intro z; cases beq_iff_eq.mp z)]
  show (if PySem.W.kitMeta T = true then PySem.W.subIn K (.ref C) (.type T) else none) = some b
  rw [if_pos hm]
  exact h
theorem kit_int_int {K : PySem.W.Frag} : PySem.W.kitOne K (.type "int") (.type "int") = some true := kit_self
theorem kit_int_bool {K : PySem.W.Frag} : PySem.W.kitOne K (.type "int") (.type "bool") = some false := kit_ty (by decide +kernel)

section
variable {X : Cx} {CX : CXT} {k : Nat} {C p g a dx : Addr} {fs : List (Str × V)} {f : Str} {sp : Sp} {E : XK} {e : Expr} {pos : Pos} {ta : TE}
structure PropR (K : PySem.W.Frag) (C : Addr) (f : Str) (p g : Addr) : Prop where
  at_ : PySem.W.findIn K (.ref C) f = some (some (.ref p))
  get : PySem.W.specialIn K (.ref p) "__get__" = some (some (.builtin "property.__get__"))
  tak : PySem.W.takesIn K (.ref p) = some true
  rec_ : ∃ rest, PySem.W.recIn K p "property" = some (.ref g :: rest)
theorem getprop_R {pins : List (Addr × Obj)} {σ : L2.St} {H : Hp} {s : Shared} {Q : VK} {b : Bool} (I : Inv X pins σ H s) (ea : H a = some (.ins C dx fs)) (c : Cls X.K C) (hp : PropR X.K C f p g)
    (F : FnR X.prog X.w X.K X.mg X.base CX k g sp) (hr : Room (k + 1) X.A) (hx : Passes CX X.nox E) (h : sp [.ref a] H Q E) :
    wpAny (model X.prog X.w) X.A (getAttr (.ref a) f b) (EP X pins σ Q) X.xe s := by
  obtain ⟨mA, O, _, _, _, _⟩ := ins_get I.hok ea
  obtain ⟨od, J, _⟩ := O.look
  obtain ⟨rest, hrec⟩ := hp.rec_
  have I1 := I.tok (s.toks + 1)
  have hc : (PySem.W.clsIn X.K C).isSome = true := by
    obtain ⟨cd, hc, _⟩ := PySem.W.any_some c.hd
    rw [hc]
    rfl
  refine PySem.W.get_bind I.kIn J (PySem.W.plainGet_of (c.get f)).1 (PySem.W.findObj_data hc hp.at_ hp.get hp.tak) (PySem.W.plainGet_of (c.get f)).2 (wpAny_call (PySem.W.prop_get (s := { s with toks := s.toks + 1 }) I.kIn hrec ?_))
  refine codeAny_mono (F X.A.in1 X.stack { s with toks := s.toks + 1 } H [.ref a] [.ref a] Q E hr.in1 I1.env0.in1 (.cons rfl .nil) h) fun r s' hq => ?_
  cases r with
  | error er => exact False.elim (hx pins σ H { s with toks := s.toks + 1 } er s' (I1.wish _) hq)
  | ok fl =>
    cases fl with
    | ret u =>
      obtain ⟨v, H', I3, rv, q3⟩ := I1.after hq
      show wpAny _ _ (handedOut u) _ _ _
      rw [PySem.W.handedOut_of (handed_of rv)]
      exact wpAny_pure ⟨v, H', I3, rv, q3⟩
    | next => exact False.elim hq
    | brk => exact False.elim hq
    | cont => exact False.elim hq
def tPropR (C : Addr) (sp : Sp) (E : XK) (ta : TE) : TE := fun σ H Q => ta σ H fun x H1 => ∃ a dx fs, x = .ref a ∧ H1 a = some (.ins C dx fs) ∧ sp [.ref a] H1 Q E
/-- e.f, f a property -/
theorem pe_propR (he : PE X e ta) (c : Cls X.K C) (hp : PropR X.K C f p g) (F : FnR X.prog X.w X.K X.mg X.base CX k g sp) (hr : Room (k + 1) X.A) (hx : Passes CX X.nox E)
    (hab : attributeBase e f X.env (eval e X.env) = eval e X.env := by rfl) : PE X (.Attribute e f pos) (tPropR C sp E ta) := by
  refine ⟨fun pins s σ H Q I h => ?_⟩
  refine attr_of hab (thn (he.run pins s σ H _ I h) fun u s1 ⟨x, H1, I1, rx, a, dx, fs, ex, ea, q⟩ => ?_)
  subst ex
  obtain rfl : u = Value.ref a := rx
  exact getprop_R I1 ea c hp F hr hx q
end

/-- a def of the text, as the top left it: dvs its defaults -/
def FnT (K : PySem.W.Frag) (x qual : Str) (st : Stmt) (dvs : List V) (f : Addr) : Prop := ∃ fd, FunD K x qual (defArgs st) (defBody st) (defScope st) dvs [] f fd
section
variable {P : Program} {w : World} {K : PySem.W.Frag} {mg : Str → Option Value} {base : Heap} {x qual : Str} {st : Stmt} {dvs : List V} {f : Addr}
theorem FnT.kp (F : FnT K x qual st dvs f) : PySem.W.keepIn K (.ref f) = true := F.elim fun _ z => z.kp
/-- a def without defaults that lets nothing out -/
theorem FnT.ok {N ps : List Str} {k : Nat} {sp : Sp} (F : FnT K x qual st [] f) (S : FnScope N ps (defScope st))
    (hb : ∀ (kV doc pm : Value) (an : Option Addr) (cdv ct : Value) (us : List Value), us.length = ps.length → bindArgs (PySem.W.fnOf x qual (defArgs st) (defBody st) (defScope st) .none kV doc pm an cdv ct) ⟨us, []⟩ = pure (ps.zip us))
    (len : ∀ vs H Q E, sp vs H Q E → vs.length = ps.length)
    (hbody : ∀ (cdv : Value) (A : Around) (outer : List Env) (s : Shared) (H : Hp) (vs : List V) (Q : VK) (E : XK), Room k (A.deeper (envOfC qual (defScope st) s.heap.objs.size f cdv)) → sp vs H Q E →
      ∃ t, PSs (cxOf CX0 P w K mg base N qual (defScope st) f cdv A outer s H E).nox (defBody st) t ∧ t { nx := fun _ H' => Q .non H', rt := Q } (start N vs) H) : FnR P w K mg base CX0 (k + 1) f sp := by
  obtain ⟨fd, F⟩ := F
  have ok : FnOk P w K mg base CX0 (k + 1) f fd ps sp := F.ok S len fun cdv A outer s H vs Q E hr hsp => by
    obtain ⟨t, h, q⟩ := hbody cdv A outer s H vs Q E hr hsp
    exact ⟨t, h.nox, q⟩
  have b : Binds K fd ps [] := F.bindsN hb
  have r := ok.raw b .nil
  exact r.imp fun vs H Q E h => by rw [List.append_nil]; exact h
/-- .. with defaults, all of its arguments told; or the last ones filled up: j of the defaults are not used -/
theorem FnT.okD {N ps : List Str} {k n j : Nat} {sp : Sp} (F : FnT K x qual st dvs f) (S : FnScope N ps (defScope st)) (hd : dvs ≠ []) (hn : n + (dvs.length - j) = ps.length)
    (hb : ∀ (T : Addr) (kV doc pm : Value) (an : Option Addr) (cdv ct : Value) (us its : List Value), us.length = n → its.length = dvs.length →
      ∃ k, bindArgs (PySem.W.fnOf x qual (defArgs st) (defBody st) (defScope st) (.ref T) kV doc pm an cdv ct) ⟨us, []⟩ = seqItems? (.ref T) >>= k ∧ k (some its.toArray) = pure (ps.zip (us ++ its.drop j)))
    (len : ∀ vs H Q E, sp vs H Q E → vs.length = ps.length)
    (hbody : ∀ (cdv : Value) (A : Around) (outer : List Env) (s : Shared) (H : Hp) (vs : List V) (Q : VK) (E : XK), Room k (A.deeper (envOfC qual (defScope st) s.heap.objs.size f cdv)) → sp vs H Q E →
      ∃ t, PSs (cxOf CX0 P w K mg base N qual (defScope st) f cdv A outer s H E).nox (defBody st) t ∧ t { nx := fun _ H' => Q .non H', rt := Q } (start N vs) H) : FnR P w K mg base CX0 (k + 1) f (fun vs H Q E => sp (vs ++ dvs.drop j) H Q E) := by
  obtain ⟨fd, F⟩ := F
  have ok : FnOk P w K mg base CX0 (k + 1) f fd ps sp := F.ok S len fun cdv A outer s H vs Q E hr hsp => by
    obtain ⟨t, h, q⟩ := hbody cdv A outer s H vs Q E hr hsp
    exact ⟨t, h.nox, q⟩
  obtain ⟨ds, hds, b⟩ := F.binds1 n j hd hn hb
  exact ok.raw b hds
end
end Ow
end
section
set_option maxHeartbeats 4000000
namespace Ow
open PySem PySem.SeqAt
open AutoSeq1 (wpAny_loadPart')
open MeetsSeq MeetsSeq2 MeetsSeq3 SeqRoads2

section
variable {prog : Program} {w : World} {A : Around} {R : Result → Shared → Prop}
theorem ne_loopG (l b : Addr) (N : Nat) (I : Nat → Shared → Prop) (hl : GQ.ListI prog w A (fun e s' => R (.error e) s') l b N I)
    (fin : ∀ s, I N s → R (.ok (.ret (.bool false))) s) (k : Nat) :
    ∀ i : Nat, N - i = k → i ≤ N → ∀ s, I i s →
      wpAny (model prog w) A.in1 (Builtin.«list.__eq__.loop» ⟨[.ref l, .ref b, rawInt i, rawInt 3], []⟩) (GQ.FinOf prog w A R) (fun e s' => R (.error e) s') s := by
  induction k with
  | zero =>
    intro i hk hi s h
    obtain ⟨items, items2, n, n2, hl1, hb1, hs1, hs2, _⟩ := hl _ _ h
    have hi' : i = N := by omega
    have hR : R (.ok (.ret (.bool false))) s := fin s (hi' ▸ h)
    obtain ⟨hp, g, d, tk, os⟩ := s
    wp_walk using wpAny_loadPart' hl1, wpAny_loadPart' hb1
    have hi1 : items[((i : Nat) : Int).toNat]? = none := by simp; omega
    have hi2 : items2[((i : Nat) : Int).toNat]? = none := by simp; omega
    rw [hi1, hi2]
    wp_walk using wpAny_loadPart' hl1, wpAny_loadPart' hb1
    show R (.ok (.ret (.bool (items.size != items2.size)))) _
    rw [hs1, hs2]
    simpa using hR
  | succ k ih =>
    intro i hk hi s h
    obtain ⟨items, items2, n, n2, hl1, hb1, hs1, hs2, turn⟩ := hl _ _ h
    have hlt : i < items.size := by omega
    have hlt2 : i < items2.size := by omega
    have ht := turn hlt hlt2
    obtain ⟨hp, g, d, tk, os⟩ := s
    wp_walk using wpAny_loadPart' hl1, wpAny_loadPart' hb1
    have hi1 : items[((i : Nat) : Int).toNat]? = some items[i] := by simp [hlt]
    have hi2 : items2[((i : Nat) : Int).toNat]? = some items2[i] := by simp [hlt2]
    have hc : ((i : Int) + 1) = ((i + 1 : Nat) : Int) := by omega
    rw [hi1, hi2]
    refine wpAny_bind (wpAny_mono ht (fun r s2 h2 => ?_) fun _ _ x => x)
    obtain ⟨hr, h2⟩ := h2
    subst hr
    have hrec := ih (i + 1) (by omega) (by omega) s2 h2
    obtain ⟨hp2, g2, d2, tk2, os2⟩ := s2
    wp_walk
    rw [hc]
    exact ⟨plainId_quiet plain_eq_loop _, codeAny_builtin entry_eq_loop (by
      rw [Around.under_plainId plain_eq_loop _]
      exact hrec)⟩

theorem list_neG (l b : Addr) (N : Nat) (I : Nat → Shared → Prop) (hl : GQ.ListI prog w A (fun e s' => R (.error e) s') l b N I)
    (fin : ∀ s, I N s → R (.ok (.ret (.bool false))) s) {s : Shared} (h : I 0 s) :
    wpAny (model prog w) A.in1 (Builtin.«list.__ne__» ⟨[.ref l, .ref b], []⟩) (GQ.FinOf prog w A R) (fun e s' => R (.error e) s') s := by
  obtain ⟨items, items2, n, n2, hl1, hb1, hs1, hs2, _⟩ := hl _ _ h
  have hrec := ne_loopG (A := A) (R := R) l b N I hl fin _ 0 rfl (Nat.zero_le _) s h
  obtain ⟨hp, g, d, tk, os⟩ := s
  have f3 := AutoSeq1.sub_list_list
  have hne : ¬ (items.size != items2.size) = true := by simp [hs1, hs2]
  wp_walk using wpAny_loadPart' hl1, wpAny_loadPart' hb1
  exact ⟨plainId_quiet plain_eq_loop _, codeAny_builtin entry_eq_loop (by
    rw [Around.under_plainId plain_eq_loop _]
    exact hrec)⟩
theorem rn_listG {E : Value → Shared → Prop} {s : Shared} {l b : Addr} {N : Nat} {Q : Value → Shared → Prop} (hu : A.units < cLine) (I : Nat → Shared → Prop) (hl : GQ.ListI prog w A E l b N I)
    (fin : ∀ s, I N s → Q (.bool false) s) (h : I 0 s) : wpAny (model prog w) A (richCompare .NotEq (.ref l) (.ref b)) Q E s := by
  obtain ⟨items, items2, n, n2, hl1, hb1, _, _, _⟩ := hl _ _ h
  refine wpAny_richCompare_same_room (op := .NotEq) ⟨_, hl1, rfl⟩ ⟨_, hb1, rfl⟩ F.slot_list_ne (GQ.call_here F.slot_list_ne ⟨_, hl1, rfl⟩ F.entry_list_ne (F.args_list_ne_2 _ _) ?_) hu
  exact list_neG (R := wants (fun v s' => v ≠ .notImplemented ∧ Q v s') E) l b N I hl (fun s' q => ⟨(fun x => nomatch x), fin s' q⟩) h
end
end Ow
namespace Ow
open PySem PySem.Spec PyProof.Rows L2 StX
section
variable {X : Cx} {n m : Nat} {D D' : Eqv}
/-- two lists, equal item by item: != gives False -/
def rNeL (D : Eqv) : R2 := fun x y H Q => DList D x y H ∧ ∀ H', Ext H H' → Q (.bl false) H'
theorem op_neL (hD : Mon D) (h : EqG X n D) (hr : Room (n + 1) X.A) : OpR X (compareOp .NotEq) (rNeL D) := by
  intro pins s σ H x y v u Q I rx ry hq
  obtain ⟨⟨a, b, xs, ys, rfl, rfl, ha, hb, p⟩, q⟩ := hq
  cases rx
  cases ry
  show wpAny (model X.prog X.w) X.A (richCompare .NotEq (.ref a) (.ref b)) (EP X pins σ Q) X.xe s
  have sb : Sub X (n + 1) X.A := ⟨hr, rfl⟩
  refine rn_listG (N := xs.length) hr.units0 (fun _ s' => LoopI X pins σ H s') (fun i s' q => ?_) (fun s' q' => ?_) ⟨H, I, Ext.rfl'⟩
  · obtain ⟨H1, I1, e1⟩ := id q
    obtain ⟨z, its, k, r, e⟩ := I1.hok a _ (e1 _ _ ha)
    obtain ⟨z2, its2, k2, r2, e2⟩ := I1.hok b _ (e1 _ _ hb)
    refine ⟨its.toArray, its2.toArray, k, k2, e, e2, by rw [List.size_toArray, ← r.length], by rw [List.size_toArray, ← r2.length, ← p.1], fun h1 h2 => ?_⟩
    exact turnG hD h sb p r r2 i h1 h2 s' q
  · obtain ⟨H1, I1, e1⟩ := q'
    exact ⟨.bl false, H1, I1, rfl, q H1 e1⟩
/-- instances of C by their own ==, a positional promise -/
theorem eqG_insR {CX : CXT} {C f : Addr} {R : Addr → Addr → Hp → Prop} {E : XK} (F : FnR X.prog X.w X.K X.mg X.base CX n f (spEq R))
    (hs : PySem.W.findIn X.K (.ref C) "__eq__" = some (some (.ref f))) (hf : PySem.W.isFn X.K (.ref f) = true) (hx : Passes CX X E) : EqG X n (DIns C R) := by
  have rc : RcG X n (DIns C R) := by
    intro A pins s σ H x y u v sb I rx ry d
    obtain ⟨a, b, dx, dy, fs, gs, rfl, rfl, ha, hb', hr⟩ := d
    cases rx
    cases ry
    obtain ⟨mA, J, _⟩ := ins_get I.hok ha
    obtain ⟨mB, J', _⟩ := ins_get I.hok hb'
    obtain ⟨od, J, _⟩ := J.look
    obtain ⟨od', J', _⟩ := J'.look
    obtain ⟨m, hF⟩ := I.fr
    refine PySem.W.cmp_K (op := .Eq) (tb := .ref C) sb.room.units0 hF I.ok.mod.kin J J'.type (by simp [PySem.W.notFirst]) hs hf ?_
    have hsp : spEq R [.ref a, .ref b] H (fun v H' => v = .bl true ∧ Ext H H') E := ⟨a, b, rfl, hr, fun H' e => ⟨rfl, e⟩⟩
    have e0 : Env0 X.prog X.w X.K X.mg X.base A X.stack s H := by
      have e := I.env0
      exact ⟨by rw [sb.fr]; exact e.frames, e.mod, e.bs, e.bsz, e.funs, e.frf, e.hok, e.bare⟩
    have r2 : Vals [V.ref a, V.ref b] [Value.ref a, Value.ref b] := .cons rfl (.cons rfl .nil)
    refine wpAny_call (codeAny_mono (F A X.stack s H [.ref a, .ref b] [.ref a, .ref b] _ E sb.room e0 r2 hsp) fun r s' hq => ?_)
    cases r with
    | error e => exact hx pins σ H s e s' I hq
    | ok fl =>
      cases fl with
      | ret w =>
        obtain ⟨z, H', I', rz, ez, ex⟩ := I.after hq
        subst ez
        cases rz
        exact ⟨rfl, H', I', ex⟩
      | next => exact False.elim hq
      | brk => exact False.elim hq
      | cont => exact False.elim hq
  exact rc.eqG fun _ _ _ d => let ⟨a, b, _, _, _, _, hx, hy, _⟩ := d; ⟨a, b, hx, hy⟩
end
end Ow
end
section
set_option maxHeartbeats 4000000
/-! Defs that are called while nothing is being shown (repr of containers asks it), and the end of a law whose def asks it. -/
namespace Ow
open PySem PySem.Spec PyProof.Rows L2 StX

/-- a promise by positional values, of calls while no repr runs -/
def FnG (P : Program) (w : World) (K : PySem.W.Frag) (mg : Str → Option Value) (base : Heap) (CX : CXT) (k : Nat) (f : Addr) (sp : Sp) : Prop :=
  ∀ (A : Around) (outer : List Env) (s : Shared) (H : Hp) (us : List Value) (vs : List V) (Q : VK) (E : XK), Room k A → A.guards = some [] → Env0 P w K mg base A outer s H → Vals vs us → sp vs H Q E →
    codeAny (model P w) A (.call (.ref f) ⟨us, []⟩) (CR CX outer P w H s Q E) s
section
variable {P : Program} {w : World} {K : PySem.W.Frag} {mg : Str → Option Value} {base : Heap} {CX : CXT} {j k : Nat} {f : Addr} {sp sp' : Sp} {x qual : Str} {st : Stmt}
theorem FnG.mono (F : FnG P w K mg base CX j f sp) (h : j ≤ k) : FnG P w K mg base CX k f sp := fun A outer s H us vs Q E hr => F A outer s H us vs Q E (hr.mono h)
theorem FnG.imp (F : FnG P w K mg base CX k f sp) (h : ∀ vs H Q E, sp' vs H Q E → sp vs H Q E) : FnG P w K mg base CX k f sp' := fun A outer s H us vs Q E hr g e0 r hs => F A outer s H us vs Q E hr g e0 r (h _ _ _ _ hs)
theorem FnT.okG {N ps : List Str} (F : FnT K x qual st [] f) (S : FnScope N ps (defScope st))
    (hb : ∀ (kV doc pm : Value) (an : Option Addr) (cdv ct : Value) (us : List Value), us.length = ps.length → bindArgs (PySem.W.fnOf x qual (defArgs st) (defBody st) (defScope st) .none kV doc pm an cdv ct) ⟨us, []⟩ = pure (ps.zip us))
    (len : ∀ vs H Q E, sp vs H Q E → vs.length = ps.length)
    (hbody : ∀ (cdv : Value) (A : Around) (outer : List Env) (s : Shared) (H : Hp) (vs : List V) (Q : VK) (E : XK), Room k (A.deeper (envOfC qual (defScope st) s.heap.objs.size f cdv)) → A.guards = some [] → sp vs H Q E →
      ∃ t, PSs (cxOf CX0 P w K mg base N qual (defScope st) f cdv A outer s H E).nox (defBody st) t ∧ t { nx := fun _ H' => Q .non H', rt := Q } (start N vs) H) : FnG P w K mg base CX0 (k + 1) f sp := by
  obtain ⟨fd, F⟩ := F
  intro A outer s H us vs Q E hr hg e0 r hs
  have b := F.bindsN hb
  obtain ⟨oc, od, dV, kV, doc, pm, an, cdv, ct, osl, rfl, lk, hcd, _, _⟩ := F.ex
  have hv := len _ _ _ _ hs
  have hu : us.length = ps.length := r.length.symm.trans hv
  have b1 : BindsTo s (PySem.W.fnOf x qual (defArgs st) (defBody st) (defScope st) dV kV doc pm an cdv ct) ⟨us, []⟩ (ps.zip us) := by
    have := b s us (e0.mod.kin.keeps fun b o e => (e0.bs b o e).1) (by rw [List.append_nil]; exact hu)
    rw [List.append_nil] at this
    exact this
  refine LamX.run_ofS lk hcd S hr e0 b1 r hv fun hr2 => ?_
  obtain ⟨t, h, q⟩ := hbody cdv A outer s H vs Q E hr2 hg hs
  exact ⟨t, h.nox, q⟩
end
section
variable {X : Cx} {CX : CXT} {n : Nat} {sp : Sp} {E : XK}
theorem pe_callG {x : Str} {f : Addr} {e : Expr} {es : List Expr} {t : TA} {p pos : Pos} (F : FnG X.prog X.w X.K X.mg X.base CX n f sp) (hr : Room n X.A) (gd : X.A.guards = some []) (hm : X.mg x = some (.ref f)) (hk : PySem.W.keepIn X.K (.ref f) = true) (hx : Passes CX X E)
    (ha : PA X (e :: es) t) (hg : Gl X x := by rfl) (hdb : (x == ("__debug__" : Str)) = false := by decide) (he : starEach (e :: es) X.env = (false, eval e X.env) :: starEach es X.env := by rfl) (hpl : (backTo pos (starEach es X.env)).any (·.1) = false := by rfl) :
    PE X (.Call (.Name x p) (e :: es) [] pos) (tCallR sp E t) := by
  refine ⟨fun pins s σ H Q I h => ?_⟩
  refine wpAny_Call_Name_kw (ld_glob I hg hm ?_ hdb)
  refine PySem.W.callWith_K (h₀ := X.base) I.ok.mod.kin hk (thn (ha.run pos pins s σ H _ I h) fun us s1 ⟨vs, H1, I1, r, q⟩ => ⟨I1.kIn, ?_⟩) he hpl
  refine wpAny_call (codeAny_mono (F X.A X.stack s1 H1 us vs Q E hr gd I1.env0 r q) fun r s' hq => ?_)
  cases r with
  | error e => exact hx pins σ H1 s1 e s' I1 hq
  | ok fl =>
    cases fl with
    | ret u => exact I1.after hq
    | next => exact False.elim hq
    | brk => exact False.elim hq
    | cont => exact False.elim hq

/-- repr of data: its text -/
def rReprD (K : PySem.W.Frag) : List V → Hp → VK → Prop := fun xs H Q => ∃ (x : V) (d : PyData), xs = [x] ∧ Dp K H x d ∧ d.showable = true ∧ d.hasDict = false ∧ d.depth ≤ 8 ∧ d.shown.length ≤ sizeLine ∧ Q (.str d.shown) H
theorem call_reprD (gd : X.A.guards = some []) (hu : X.A.units + 64 < cLine) : CallR X (.builtin "repr") (rReprD X.K) := by
  intro pins s σ H xs us Q I r h
  obtain ⟨x, d, rfl, hd, hs, hnd, hdp, hsz, q⟩ := h
  obtain ⟨u, rfl, ru⟩ := vals1 r
  have fin : ∀ (h' : Heap) (tk : Nat) (u : Tok), (∀ b o, s.heap.get? b = some o → h'.get? b = some o) → EP X pins σ Q (.str d.shown u) { s with heap := h', toks := tk } := fun h' tk u k => ⟨.str d.shown, H, I.kept (t' := tk) k, ⟨u, rfl⟩, q⟩
  cases hd with
  | non => cases ru; exact PySem.P.repr_of_none (fin s.heap _ _ fun _ _ e => e)
  | bl b => cases ru; exact PySem.P.repr_of_bool (by cases b <;> exact fin s.heap _ _ fun _ _ e => e)
  | int i =>
    obtain ⟨t, rfl⟩ := ru
    have hi : i.natAbs.log2 < 1920 := of_decide_eq_true hs
    exact PySem.P.repr_of_int hi (fin s.heap _ _ fun _ _ e => e)
  | str z => obtain ⟨t, rfl⟩ := ru; exact PySem.P.repr_of_str (fin s.heap _ _ fun _ _ e => e) hsz
  | @lst a zs ds hq ha =>
    cases ru
    obtain ⟨as, rd⟩ := Dp.reads I _ _ _ (.lst hq ha) rfl
    exact repr_of_reads' rd hs (PyData.noDict_hsm hnd) gd (by omega) (fun _ _ e => e) (fun h' u tk k => fin h' tk u k) hsz
  | @tup a zs ds hq ha =>
    cases ru
    obtain ⟨as, rd⟩ := Dp.reads I _ _ _ (.tup hq ha) rfl
    exact repr_of_reads' rd hs (PyData.noDict_hsm hnd) gd (by omega) (fun _ _ e => e) (fun h' u tk k => fin h' tk u k) hsz
end

/-! ### the end of a law whose def wants to know that nothing is being shown -/
section
variable {P : Program} {w : World} {K : PySem.W.Frag} {mg mb : Str → Option Value} {k : Nat} {fa a : Addr} {sp : Sp} {s1 : Shared} {vs : List Value} {ns : List Int}
/-- the call, from one abstract heap that tracks the script alone, or nothing -/
theorem end_from (KX : K.In s1.heap) (hns : s1.heap.Ns mainGlobals mg) (hb : s1.heap.Ns builtinsNs mb) (hbb : ∀ x : Str, x ≠ "__name__" → mb x = bootBuiltins x) (hlim : s1.heap.NoLimit) (hg : s1.gens = #[]) (hr : Room k callerA)
    (F : ∀ base : Heap, K.In base → base.Ns mainGlobals mg → FnG P w K mg base CX0 k fa sp) {H : Hp} (hO : Only H) (hok : HOk P w H s1.heap) (dom : ∀ b u, H b = some u → K.lookup b = none ∧ ∃ o items n, s1.heap.get? b = some o ∧ o.data = .seq items n)
    (hsp : sp [.ref a] H (fun v _ => v = .bl true) fun _ _ _ => False) :
    codeAny (model P w) callerA (.call (.ref fa) ⟨[.ref a], []⟩) (fun r s' => r = .ok (.ret (.bool true)) ∧ OldK s1.heap s'.heap ∧ s'.os = s1.os ∧ AllBare s'.gens) s1 := by
  let base := hidT s1.heap H
  have dicts : ∀ {b : Addr} {o : Obj} {es : Array DictEntry} {ep : Nat}, s1.heap.get? b = some o → o.data = .dict es ep → base.get? b = some o := fun {b o es ep} e d => by
    refine hidT_get e ?_
    cases q : H b with
    | none => rfl
    | some u =>
      obtain ⟨_, o2, items, n, e2, d2⟩ := dom b u q
      rw [e2] at e
      cases e
      rw [d2] at d
      cases d
  have names : ∀ {b : Addr} {m : Str → Option Value}, s1.heap.Ns b m → base.Ns b m := fun z => by
    obtain ⟨o, es, ep, e, d, r⟩ := z
    exact ⟨o, es, ep, dicts e d, d, r⟩
  have hK : K.In base := fun b o e => by
    refine hidT_get (KX b o e) ?_
    cases q : H b with
    | none => rfl
    | some u =>
      have z := (dom b u q).1
      rw [e] at z
      cases z
  have lim : base.NoLimit := by
    obtain ⟨m, h1, h2⟩ := hlim
    exact ⟨m, names h1, h2⟩
  have e0 : Env0 P w K mg base callerA [] s1 H :=
    { frames := rfl, mod := ⟨hK, names hns, ⟨mb, names hb, hbb⟩, lim⟩, bs := fun b o e => of_hidT e, bsz := Nat.le_of_eq (hidT_size _ _), funs := trivial, frf := fun b hb => (List.not_mem_nil hb).elim, hok := hok, bare := .of_eq hg }
  refine codeAny_mono (F base hK (names hns) callerA [] s1 H [.ref a] [.ref a] _ _ hr rfl e0 (.cons rfl .nil) hsp) fun r s' h => ?_
  cases r with
  | error e => exact False.elim h
  | ok fl =>
    cases fl with
    | ret u =>
      obtain ⟨v, H2, os, bare, un, ok2, rv, q⟩ := h
      subst q
      cases rv
      refine ⟨rfl, OldK.of_keep fun b o e => ?_, os, bare⟩
      cases q : H b with
      | none => exact un.keep b o e q (fun z => List.not_mem_nil z) (fun z => List.not_mem_nil z)
      | some u =>
        rcases hO b with z | ⟨ob, xs, z⟩
        · rw [q] at z
          cases z
        · have e1 := (hok b _ z).1
          have e2 := (ok2 b _ (un.frzs b ob _ z)).1
          rw [e] at e1
          cases e1
          exact e2
    | next => exact False.elim h
    | brk => exact False.elim h
    | cont => exact False.elim h
theorem end_callG (KX : K.In s1.heap) (hns : s1.heap.Ns mainGlobals mg) (hb : s1.heap.Ns builtinsNs mb) (hbb : ∀ x : Str, x ≠ "__name__" → mb x = bootBuiltins x) (hlim : s1.heap.NoLimit) (hg : s1.gens = #[]) (hr : Room k callerA)
    (ha : s1.heap.get? a = some { cls := .type "list", data := .seq vs.toArray }) (hi : IntsAre vs ns) (hl : ns.length ≤ sizeLine) (F : ∀ base : Heap, K.In base → base.Ns mainGlobals mg → FnG P w K mg base CX0 k fa sp)
    (hsp : ∀ H : Hp, Only H → SqL K H a (ns.map V.int) → sp [.ref a] H (fun v _ => v = .bl true) fun _ _ _ => False) :
    codeAny (model P w) callerA (.call (.ref fa) ⟨[.ref a], []⟩) (fun r s' => r = .ok (.ret (.bool true)) ∧ OldK s1.heap s'.heap ∧ s'.os = s1.os ∧ AllBare s'.gens) s1 := by
  have rv := vals_ints hi
  have hl2 : (ns.map V.int).length ≤ sizeLine := by rw [List.length_map]; exact hl
  cases hk : K.lookup a with
  | some o =>
    have e := KX a o hk
    rw [ha] at e
    cases e
    refine end_from KX hns hb hbb hlim hg hr F (H := fun _ => none) (fun _ => .inl rfl) (fun b u z => by cases z) (fun b u z => by cases z) (hsp _ (fun _ => .inl rfl) ?_)
    exact .inr ⟨_, vs.toArray, _, hk, rfl, rfl, rfl, by rw [List.size_toArray, hi.length]; exact hl, by simpa using rv⟩
  | none =>
    let o : Obj := { cls := .type "list", data := .seq vs.toArray }
    let H : Hp := fun b => if b = a then some (.frz o (.lst (ns.map V.int))) else none
    have H1 : H a = some (.frz o (.lst (ns.map V.int))) := if_pos rfl
    have H0 : ∀ b u, H b = some u → b = a ∧ u = .frz o (.lst (ns.map V.int)) := fun b u z => by
      by_cases e : b = a
      · subst e
        rw [H1] at z
        cases z
        exact ⟨rfl, rfl⟩
      · have z0 : H b = none := if_neg e
        rw [z0] at z
        cases z
    have hO : Only H := fun b => by
      by_cases e : b = a
      · subst e; exact .inr ⟨_, _, H1⟩
      · exact .inl (if_neg e)
    refine end_from KX hns hb hbb hlim hg hr F (H := H) hO (fun b u z => ?_) (fun b u z => ?_) (hsp _ hO (.inl (.inr ⟨_, H1⟩)))
    · obtain ⟨rfl, rfl⟩ := H0 b u z
      exact ⟨ha, hl2, vs, _, rv, ha⟩
    · obtain ⟨rfl, rfl⟩ := H0 b u z
      exact ⟨hk, _, _, _, ha, rfl⟩
end
theorem walk_ofG {l : PySem.W.OpenLaw} {n k : Nat} {q : Program} {loose : List Str} {XP : (Str → Option Value) → Heap → Prop} {YP : World → Heap → Prop} {d : DefRec} {K : Params → PySem.W.Frag} {sp : World → Sp}
    (hn : l.most = some n) (hn2 : n ≤ sizeLine) (hdf : d.params.defaults = []) (hr : Room k callerA) (hY : ∀ (w : World) (h : Heap), YP w h → (K w.params).In h)
    (F : ∀ (w : World) (mg : Str → Option Value) (fa : Addr) (h : Heap), (K w.params).In h → h.Ns mainGlobals mg → mg d.name = some (.ref fa) →
      ∀ base : Heap, (K w.params).In base → base.Ns mainGlobals mg → FnG l.prog w (K w.params) mg base CX0 k fa (sp w))
    (hsp : ∀ (w : World) (H : Hp) (a : Addr) (ns : List Int), ns.length ≤ n → Only H → SqL (K w.params) H a (ns.map V.int) → sp w [.ref a] H (fun v _ => v = .bl true) fun _ _ _ => False) :
    PySem.W.WalkO q loose XP YP l.row.toRowW d [] (fun f vs => PySem.call f vs) := by
  refine Att.attach_call hn hdf fun w s0 s1 mg mb fa o pm cd doc a vs ns G Y ho hd hcd hmg hobj hints hlen hg => ?_
  have KX := hY w _ Y
  exact end_callG KX G.T.g G.T.b G.T.builtins G.T.nolimit hg hr hobj hints (Nat.le_trans hlen hn2) (F w mg fa _ KX G.T.g hmg) fun H hO hS => hsp w H a ns hlen hO hS
end Ow
end
section
set_option maxHeartbeats 4000000
/-! Own errors with a def of their own that keeps the fields: raise C(e), raise C(e, e'). -/
namespace Ow
open PySem PySem.Spec PyProof.Rows L2 StX
section
variable {P : Program} {w : World} {K : PySem.W.Frag} {mg : Str → Option Value} {base : Heap} {x qual : Str} {st : Stmt} {f : Addr}
/-- a def without defaults that may let errors out -/
theorem FnT.okX {N ps : List Str} {k : Nat} {sp : Sp} (F : FnT K x qual st [] f) (S : FnScope N ps (defScope st))
    (hb : ∀ (kV doc pm : Value) (an : Option Addr) (cdv ct : Value) (us : List Value), us.length = ps.length → bindArgs (PySem.W.fnOf x qual (defArgs st) (defBody st) (defScope st) .none kV doc pm an cdv ct) ⟨us, []⟩ = pure (ps.zip us))
    (len : ∀ vs H Q E, sp vs H Q E → vs.length = ps.length)
    (hbody : ∀ (cdv : Value) (A : Around) (outer : List Env) (s : Shared) (H : Hp) (vs : List V) (Q : VK) (E : XK), Room k (A.deeper (envOfC qual (defScope st) s.heap.objs.size f cdv)) → sp vs H Q E →
      ∃ t, PSs (cxOf (CX P w) P w K mg base N qual (defScope st) f cdv A outer s H E) (defBody st) t ∧ t { nx := fun _ H' => Q .non H', rt := Q } (start N vs) H) : FnR P w K mg base (CX P w) (k + 1) f sp := by
  obtain ⟨fd, F⟩ := F
  have ok : FnOk P w K mg base (CX P w) (k + 1) f fd ps sp := F.ok S len hbody
  have b : Binds K fd ps [] := F.bindsN hb
  exact (ok.raw b .nil).imp fun vs H Q E h => by rw [List.append_nil]; exact h
/-- .. with defaults -/
theorem FnT.okDX {N ps : List Str} {k n j : Nat} {sp : Sp} {dvs : List V} (F : FnT K x qual st dvs f) (S : FnScope N ps (defScope st)) (hd : dvs ≠ []) (hn : n + (dvs.length - j) = ps.length)
    (hb : ∀ (T : Addr) (kV doc pm : Value) (an : Option Addr) (cdv ct : Value) (us its : List Value), us.length = n → its.length = dvs.length →
      ∃ k, bindArgs (PySem.W.fnOf x qual (defArgs st) (defBody st) (defScope st) (.ref T) kV doc pm an cdv ct) ⟨us, []⟩ = seqItems? (.ref T) >>= k ∧ k (some its.toArray) = pure (ps.zip (us ++ its.drop j)))
    (len : ∀ vs H Q E, sp vs H Q E → vs.length = ps.length)
    (hbody : ∀ (cdv : Value) (A : Around) (outer : List Env) (s : Shared) (H : Hp) (vs : List V) (Q : VK) (E : XK), Room k (A.deeper (envOfC qual (defScope st) s.heap.objs.size f cdv)) → sp vs H Q E →
      ∃ t, PSs (cxOf (CX P w) P w K mg base N qual (defScope st) f cdv A outer s H E) (defBody st) t ∧ t { nx := fun _ H' => Q .non H', rt := Q } (start N vs) H) : FnR P w K mg base (CX P w) (k + 1) f (fun vs H Q E => sp (vs ++ dvs.drop j) H Q E) := by
  obtain ⟨fd, F⟩ := F
  have ok : FnOk P w K mg base (CX P w) (k + 1) f fd ps sp := F.ok S len hbody
  obtain ⟨ds, hds, b⟩ := F.binds1 n j hd hn hb
  exact ok.raw b hds
/-- an own error's class, whose __init__ stands at g -/
structure ErrF (K : PySem.W.Frag) (C g : Addr) : Prop where
  ox : OexC K C
  iC : PySem.W.findIn K (.ref C) "__init__" = some (some (.ref g))
  tI : PySem.W.typeIn K (.ref g) = some (.type "function")
/-- __init__(self, v): self.f = v -/
def spErr1 (C : Addr) (n : Str) : Sp := fun vs H Q _ => ∃ (a : Addr) (v : V), vs = [.ref a, v] ∧ H a = some (exo a C none) ∧ ∀ dx, H dx = none → dx ≠ a → Q .non (upd (upd H dx (exd dx [(n, v)])) a (exo a C (some dx)))
/-- __init__(self, v, u): self.f = v; self.g = u -/
def spErr2 (C : Addr) (n m : Str) : Sp := fun vs H Q _ => ∃ (a : Addr) (v u : V), vs = [.ref a, v, u] ∧ H a = some (exo a C none) ∧ ∀ dx, H dx = none → dx ≠ a → Q .non (upd (upd H dx (exd dx [(m, u), (n, v)])) a (exo a C (some dx)))
theorem raise_heap {H : Hp} {a d : Addr} {C : Addr} {fs : List (Str × V)} (ha : H a = none) (hne : d ≠ a) :
    upd (del (upd (upd (upd H a (exo a C none)) d (exd d fs)) a (exo a C (some d))) a) d (.xd fs) = upd H d (.xd fs) := by
  funext b
  by_cases e : b = d
  · subst e; rw [upd_same, upd_same]
  · rw [upd_ne e, upd_ne e]
    by_cases e2 : b = a
    · subst e2
      rw [ha]
      exact if_pos rfl
    · show (if b = a then none else _) = _
      rw [if_neg e2, upd_ne e2, upd_ne e, upd_ne e2]
/-- what making such an error asks: the reading of pmk_oex, its fields told -/
theorem err1_made {Q : XK} {H1 : Hp} {v : V} {C : Addr} {n : Str} (k : ∀ d, H1 d = none → Q (.ref C) (some d) (upd H1 d (.xd [(n, v)]))) :
    [v].length ≤ 1000 ∧ ∀ a, H1 a = none → spErr1 C n (.ref a :: ([v] ++ [])) (upd H1 a (exo a C none)) (fun u H2 => u = .non ∧ ∃ (d : Addr) (fs : List (Str × V)), H2 a = some (exo a C (some d)) ∧ H2 d = some (exd d fs) ∧ H1 d = none ∧ Q (.ref C) (some d) (upd (del H2 a) d (.xd fs))) (fun _ _ _ => False) := by
  refine ⟨Nat.le_of_ble_eq_true rfl, fun a ha => ⟨a, v, rfl, upd_same, fun dx hdx ne => ⟨rfl, dx, _, upd_same, by rw [upd_ne ne]; exact upd_same, by rw [upd_ne ne] at hdx; exact hdx, ?_⟩⟩⟩
  rw [raise_heap ha ne]
  refine k dx ?_
  rw [upd_ne ne] at hdx
  exact hdx
theorem err2_made {Q : XK} {H1 : Hp} {v u : V} {C : Addr} {n m : Str} (k : ∀ d, H1 d = none → Q (.ref C) (some d) (upd H1 d (.xd [(m, u), (n, v)]))) :
    [v, u].length ≤ 1000 ∧ ∀ a, H1 a = none → spErr2 C n m (.ref a :: ([v, u] ++ [])) (upd H1 a (exo a C none)) (fun u H2 => u = .non ∧ ∃ (d : Addr) (fs : List (Str × V)), H2 a = some (exo a C (some d)) ∧ H2 d = some (exd d fs) ∧ H1 d = none ∧ Q (.ref C) (some d) (upd (del H2 a) d (.xd fs))) (fun _ _ _ => False) := by
  refine ⟨Nat.le_of_ble_eq_true rfl, fun a ha => ⟨a, v, u, rfl, upd_same, fun dx hdx ne => ⟨rfl, dx, _, upd_same, by rw [upd_ne ne]; exact upd_same, by rw [upd_ne ne] at hdx; exact hdx, ?_⟩⟩⟩
  rw [raise_heap ha ne]
  refine k dx ?_
  rw [upd_ne ne] at hdx
  exact hdx
/-- a def without defaults that lets nothing out: its promise by binds, for makings of errors -/
theorem FnT.okB {N ps : List Str} {k : Nat} {sp : Sp} (F : FnT K x qual st [] f) (S : FnScope N ps (defScope st))
    (hb : ∀ (kV doc pm : Value) (an : Option Addr) (cdv ct : Value) (us : List Value), us.length = ps.length → bindArgs (PySem.W.fnOf x qual (defArgs st) (defBody st) (defScope st) .none kV doc pm an cdv ct) ⟨us, []⟩ = pure (ps.zip us))
    (len : ∀ vs H Q E, sp vs H Q E → vs.length = ps.length)
    (hbody : ∀ (cdv : Value) (A : Around) (outer : List Env) (s : Shared) (H : Hp) (vs : List V) (Q : VK) (E : XK), Room k (A.deeper (envOfC qual (defScope st) s.heap.objs.size f cdv)) → sp vs H Q E →
      ∃ t, PSs (cxOf CX0 P w K mg base N qual (defScope st) f cdv A outer s H E).nox (defBody st) t ∧ t { nx := fun _ H' => Q .non H', rt := Q } (start N vs) H) : ∃ fd, FnOk P w K mg base CX0 (k + 1) f fd ps sp ∧ Binds K fd ps [] := by
  obtain ⟨fd, F⟩ := F
  exact ⟨fd, F.ok S len fun cdv A outer s H vs Q E hr hsp => by
    obtain ⟨t, h, q⟩ := hbody cdv A outer s H vs Q E hr hsp
    exact ⟨t, h.nox, q⟩, F.bindsN hb⟩
/-- v is no integer (a bool is none) -/
def NoInt (K : PySem.W.Frag) (H : Hp) (v : V) : Prop := (∃ b, v = .bl b) ∨ ∃ T : String, TyX K H v (.type T) ∧ PySem.W.kitOne K (.type T) (.type "int") = some false
theorem kit_bool_int {K : PySem.W.Frag} : PySem.W.kitOne K (.type "bool") (.type "int") = some true := kit_ty (by decide +kernel)
theorem NoInt.non {H : Hp} : NoInt K H .non := .inr ⟨_, .base .non, kit_ty (by decide +kernel)⟩
theorem NoInt.bl {H : Hp} {b : Bool} : NoInt K H (.bl b) := .inl ⟨b, rfl⟩
theorem NoInt.str {H : Hp} {z : Str} : NoInt K H (.str z) := .inr ⟨_, .base (.str z), kit_ty (by decide +kernel)⟩
theorem NoInt.lst {H : Hp} {l : Addr} {xs : List V} (h : H l = some (.lst xs)) : NoInt K H (.ref l) := .inr ⟨_, .base (.lst h), kit_ty (by decide +kernel)⟩
theorem NoInt.tup {H : Hp} {l : Addr} {xs : List V} (h : H l = some (.tup xs)) : NoInt K H (.ref l) := .inr ⟨_, .base (.tup h), kit_ty (by decide +kernel)⟩
theorem NoInt.dict {H : Hp} {l : Addr} {kvs : List (Key × V)} (h : H l = some (.dK kvs)) : NoInt K H (.ref l) := .inr ⟨_, .base (.dK h), kit_ty (by decide +kernel)⟩
/-- is_int of any value -/
def spIntV (K : PySem.W.Frag) : Sp := fun vs H Q _ => ∃ v, vs = [v] ∧ ((∃ i : Int, v = .int i ∧ Q (.bl true) H) ∨ (NoInt K H v ∧ Q (.bl false) H))
/-- the error of the class at B lets out, with one field -/
def Out1 (B : Addr) (n : Str) (H : Hp) (E : XK) (v : V) : Prop := ∀ d, H d = none → E (.ref B) (some d) (upd H d (.xd [(n, v)]))
theorem TyOf.same {H H' : Hp} {v : V} {t : Value} (h : TyOf K H v t) (m : ∀ b o, H b = some o → H' b = some o) : TyOf K H' v t := by
  cases h with
  | non => exact .non
  | bl x => exact .bl x
  | int i => exact .int i
  | str x => exact .str x
  | flt x => exact .flt x
  | lst h => exact .lst (m _ _ h)
  | frz h => exact .frz (m _ _ h)
  | tup h => exact .tup (m _ _ h)
  | dK h => exact .dK (m _ _ h)
  | dT h => exact .dT (m _ _ h)
  | ins h c a b d e => exact .ins (m _ _ h) c a b d e
theorem TyX.same {H H' : Hp} {v : V} {t : Value} (h : TyX K H v t) (m : ∀ b o, H b = some o → H' b = some o) : TyX K H' v t := by
  cases h with
  | base h => exact .base (TyOf.same h m)
  | byt b => exact .byt b
  | set h => exact .set (m _ _ h)
  | kList h c => exact .kList h c
  | kTuple h c => exact .kTuple h c
  | kDict h c => exact .kDict h c
  | fTuple h => exact .fTuple (m _ _ h)
  | fDict h => exact .fDict (m _ _ h)
theorem NoInt.same {H H' : Hp} {v : V} (h : NoInt K H v) (m : ∀ b o, H b = some o → H' b = some o) : NoInt K H' v := by
  rcases h with h | ⟨t, h, q⟩
  · exact .inl h
  · exact .inr ⟨t, TyX.same h m, q⟩
/-- .. from a heap that has grown -/
def OutS (B : Addr) (n : Str) (H : Hp) (E : XK) (v : V) : Prop := ∀ H', (∀ b o, H b = some o → H' b = some o) → Out1 B n H' E v
end
/-- what a callee lets out leaves the def -/
theorem passUp {X : Cx} {E : XK} (tk : Takes X fun cls d _ H => E cls d H) : Passes (CX X.prog X.w) X E := fun pins σ H s e s' I h => passAt tk σ pins H s e s' I h
end Ow
end
section
set_option maxHeartbeats 4000000
/-! isinstance of a caught own error that keeps fields; what a def that tries its argument tells. -/
namespace Ow
open PySem PySem.Spec PyProof.Rows L2 StX
section
variable {X : Cx} {a : Addr} {oe : Obj} {cls : Value} {d : Option Addr} {pn : List (Addr × Obj)}
/-- isinstance(error, T): error the caught one, with its fields at dd -/
def rIsEX (K : PySem.W.Frag) (a : Addr) (cls : Value) (d : Option Addr) : List V → Hp → VK → Prop := fun xs H Q => ∃ (c : V) (cv : Value) (b : Bool) (D dd : Addr) (fs : List (Str × V)),
  xs = [.ref a, c] ∧ cls = .ref D ∧ ExcC K D ∧ (PySem.W.clsIn K D).isSome = true ∧ d = some dd ∧ H dd = some (.xd fs) ∧ (∀ u, RelV c u → u = cv) ∧ PySem.W.kitOne K (.ref D) cv = some b ∧ Q (.bl b) H
theorem call_isEX (hz : Zc cls d oe) (hf : ∃ vs, oe.data = .fields vs) : CallR (X.suite a ((a, oe) :: pn)) (.builtin "isinstance") (rIsEX X.K a cls d) := by
  intro pins s σ H xs us Q I r h
  obtain ⟨c, cv, b, D, dd, fs, rfl, rfl, C, hci, rfl, hdd, hcv, hk, q⟩ := h
  cases r with
  | cons rx r2 =>
    cases r2 with
    | cons rc r3 =>
      cases r3
      cases rx
      cases hcv _ rc
      obtain ⟨hget, _⟩ := I.pin (a, oe) (List.mem_append.mpr (.inl List.mem_cons_self))
      obtain ⟨vs, hv⟩ := hf
      obtain ⟨z1, z2⟩ := hz
      obtain ⟨od, hod⟩ : ∃ o, s.heap.get? dd = some o := by
        have := I.hok dd _ hdd
        obtain ⟨mA, ⟨o, _, _, e, _⟩, _⟩ := this
        exact ⟨o, e⟩
      have J : PySem.W.InstAt s.heap a oe D (some od) := ⟨hget, z1, by unfold PySem.W.notCls; rw [hv], by rw [z2]; exact hod⟩
      refine PySem.W.kia_one (PySem.W.kitx_exc (x := a) (ox := oe) (od := some od) hci C.hg C.hk C.hs C.ha C.hn C.ht C.hm) I.kIn J hk (fun z => by cases z) fun tk => ?_
      exact ⟨.bl b, H, I.kept fun _ _ e => e, rfl, q⟩
end
/-- return (z, ask()), ask a handed lambda that may raise -/
theorem ret_told {X : Cx} {f c' : Addr} {q z : Str} {tl : XK → Hp → VK → Prop} {W : WX} {n : Str} {j ct : Nat} {p0 p1 p2 pt ps : Pos}
    (act : ∀ E : XK, (∀ cls d σ' H', E cls d H' → W cls d σ' H') → PE X (.Call (.Name n p1) [] [] p2) (fun σZ HZ Q => σZ[0]? = some (some (.ref f)) ∧ HZ c' = some (LamX.CodeO c' q) ∧ tl E HZ Q)) :
    PSs X [.Return (some (.Tuple [.Constant (.str z) j p0, .Call (.Name n p1) [] [] p2] ct pt)) ps] (fun D σ H => ∃ Ech : XK, (∀ cls d σ' H', Ech cls d H' → W cls d σ' H') ∧ σ[0]? = some (some (.ref f)) ∧ H c' = some (LamX.CodeO c' q) ∧
      tl Ech H (fun v H1 => [V.str z, v].length ≤ sizeLine ∧ ∀ p, H1 p = none → D.rt (.ref p) (upd H1 p (.tup [.str z, v])))) := by
  refine ⟨fun pins s' σ H' D I ⟨Ech, hW, h1, h2, h3⟩ => ?_⟩
  exact (pss_one (ps_ret (pe_tup (pa_cons pe_str (pa_cons (act Ech hW) pa_nil))))).run pins s' σ H' D I ⟨h1, h2, h3⟩
/-- as many slots as names stand at each statement -/
theorem pss_len {X : Cx} {b : List Stmt} {t : TS} (n : Nat) (hn : X.N.length = n) (h : PSs X b t) : PSs X b (fun D σ H => σ.length = n → t D σ H) := ⟨fun pins s σ H D I q => h.run pins s σ H D I (q (I.len.trans hn))⟩
/-- an own class against another one -/
theorem kit_err {K : PySem.W.Frag} {C : Addr} {t : Value} {b : Bool} (hi : (PySem.W.clsIn K C).isSome = true) (ht : PySem.W.typeIn K (.ref C) = some (.type "type")) (h : PySem.W.subIn K t (.ref C) = some b) (hb : (t == Value.ref C) = false) : PySem.W.kitOne K t (.ref C) = some b := by
  unfold PySem.W.kitOne
  rw [if_neg (by rw [hb]; exact Bool.false_ne_true)]
  show (if ((PySem.W.clsIn K C).isSome && PySem.W.typeIn K (.ref C) == some (.type "type")) = true then PySem.W.subIn K t (.ref C) else none) = some b
  rw [hi, ht]
  rw [if_pos (by rfl)]
  exact h
end Ow
end
section
set_option maxHeartbeats 4000000
/-! A comparison of an own instance with a value of another kind. -/
namespace Ow
open PySem PySem.Spec PyProof.Rows L2 StX
section
variable {X : Cx} {CX : CXT} {n : Nat} {C g : Addr} {sp : Sp} {E : XK}
/-- x op y: x an instance of C, y of the type t, that is not below C -/
def rBinT (K : PySem.W.Frag) (C : Addr) (sp : Sp) (E : XK) : R2 := fun x y H Q => ∃ (a : Addr) (t : Value), x = .ref a ∧ InsAt H a C ∧ TyX K H y t ∧ PySem.W.notFirst K C t = true ∧ sp [x, y] H Q E
theorem op_cmpT {op : CmpOp} (hop : ∀ a b, compareOp op a b = richCompare op a b) (hs : PySem.W.findIn X.K (.ref C) (cmpInfo op).2.1 = some (some (.ref g))) (hf : PySem.W.isFn X.K (.ref g) = true)
    (F : FnR X.prog X.w X.K X.mg X.base CX n g sp) (hr : Room n X.A) (hx : Passes CX X E) : OpR X (compareOp op) (rBinT X.K C sp E) := by
  intro pins s σ H x y v u Q I rx ry h
  obtain ⟨a, t, rfl, ha, ht, hn, q⟩ := h
  cases (show v = Value.ref a from rx)
  obtain ⟨ox, od, J⟩ := inst_of I ha
  obtain ⟨m, hF⟩ := I.fr
  obtain ⟨Pk, k, hk, _⟩ := kit_of I ry ht
  rw [hop]
  refine PySem.W.cmp_K (op := op) (tb := t) hr.units0 hF I.ok.mod.kin J (k.ty _ _ I.kIn hk) hn hs hf ?_
  refine wpAny_mono (wpAny_call (run_fnR (us := [.ref a, u]) (vs := [.ref a, y]) F hr hx I (.cons rfl (.cons ry .nil)) q)) (fun w s' z => ?_) fun _ _ x => x
  obtain ⟨z', H', I', rz, qz⟩ := z
  exact cmpbackR rz ⟨z', H', I', rz, qz⟩
theorem notFirst_of {K : PySem.W.Frag} {T : String} (h : PySem.W.subIn K (.type T) (.ref C) = some false) : PySem.W.notFirst K C (.type T) = true := by
  unfold PySem.W.notFirst
  rw [h]
  simp
end
end Ow
end
section
set_option maxHeartbeats 4000000
/-! A law whose def hands lambdas over: its code is told, and the code's table. -/
namespace Ow
open PySem PySem.Spec PyProof.Rows L2 StX
section
variable {P : Program} {w : World} {K : PySem.W.Frag} {mg : Str → Option Value} {base : Heap} {x qual : Str} {st : Stmt} {f c : Addr}
/-- a def of the text without defaults, its code at c -/
def FnC (K : PySem.W.Frag) (x qual : Str) (st : Stmt) (f c : Addr) : Prop := ∃ (oc : Value) (od an : Option Addr) (kV doc pm ct : Value) (osl : Array (Option Value)),
  K.lookup f = some ⟨oc, od, .func (PySem.W.fnOf x qual (defArgs st) (defBody st) (defScope st) .none kV doc pm an (.ref c) ct), osl⟩ ∧ PySem.W.codeIn K (.ref c) qual = true
theorem FnC.mk {oc : Value} {od an : Option Addr} {kV doc pm ct : Value} {osl : Array (Option Value)} (l : K.lookup f = some ⟨oc, od, .func (PySem.W.fnOf x qual (defArgs st) (defBody st) (defScope st) .none kV doc pm an (.ref c) ct), osl⟩) (h : PySem.W.codeIn K (.ref c) qual = true) : FnC K x qual st f c := ⟨oc, od, an, kV, doc, pm, ct, osl, l, h⟩
theorem FnC.ok {N ps : List Str} (F : FnC K x qual st f c) (S : FnScope N ps (defScope st))
    (hb : ∀ (kV doc pm : Value) (an : Option Addr) (cdv ct : Value) (us : List Value), us.length = ps.length → bindArgs (PySem.W.fnOf x qual (defArgs st) (defBody st) (defScope st) .none kV doc pm an cdv ct) ⟨us, []⟩ = pure (ps.zip us)) :
    ∃ fd : FuncData, (∀ (s : Shared) (us : List Value), us.length = ps.length → BindsTo s fd ⟨us, []⟩ (ps.zip us)) ∧ ∀ (P : Program) (w : World) (mg : Str → Option Value) (base : Heap) (k : Nat) (sp : Sp), (∀ vs H Q E, sp vs H Q E → vs.length = ps.length) →
      (∀ (A : Around) (outer : List Env) (s : Shared) (H : Hp) (vs : List V) (Q : VK) (E : XK), Room k (A.deeper (envOfC qual (defScope st) s.heap.objs.size f (.ref c))) → sp vs H Q E →
        ∃ t, PSs (cxOf CX0 P w K mg base N qual (defScope st) f (.ref c) A outer s H E).nox (defBody st) t ∧ t { nx := fun _ H' => Q .non H', rt := Q } (start N vs) H) → FnOk P w K mg base CX0 (k + 1) f fd ps sp := by
  obtain ⟨oc, od, an, kV, doc, pm, ct, osl, lk, hcd⟩ := F
  refine ⟨_, fun s us hu => BindsTo.of_eq (hb kV doc pm an (.ref c) ct us hu), fun P w mg base k sp len hbody => ⟨len, fun A outer s H args us vs Q E hr e0 b r hs => ?_⟩⟩
  refine LamX.run_ofS lk hcd S hr e0 b r (len _ _ _ _ hs) fun hr2 => ?_
  obtain ⟨t, h, q⟩ := hbody A outer s H vs Q E hr2 hs
  exact ⟨t, h.nox, q⟩
/-- a code object, its table at T -/
theorem codeHd_mk {h : Heap} {T : Addr} {od : Option Addr} {vs : Array Value} {osl : Array (Option Value)} {file : Str} {tf : Tok} {flags text : Int} {tg tt : Tok} {inF : Bool} (X : K.In h) (l : K.lookup c = some ⟨.type "code", od, .fields vs, osl⟩)
    (e1 : vs[11]? = some (.ref T)) (e2 : vs.getD 11 .none = .ref T) (e3 : vs.getD 18 .none = .str file tf) (e4 : vs.getD 7 .none = .int flags tg) (e5 : vs.getD 9 .none = .bool inF) (e6 : vs.getD 10 .none = .int text tt) (ne : c ≠ T) : PySem.W.CodeHd h c T :=
  ⟨_, vs, file, tf, flags, tg, inF, text, tt, X _ _ l, rfl, rfl, e1, e2, e3, e4, e5, e6, ne⟩
end
/-- a table is not of the written part -/
theorem km_none {K : Params → PySem.W.Frag} {as ts : List Addr} {e : ∀ P, as = (K P).map fun x => x.1} {w : World} {h : Heap} (_ : (PySem.W.kmHook K as e ts).says w h) {T : Addr} (n : as.contains T = false) : List.lookup T (K w.params) = none := by
  rw [List.lookup_eq_none_iff]
  intro p hp
  have m : p.1 ∈ as := by rw [e w.params]; exact List.mem_map.mpr ⟨p, hp, rfl⟩
  refine bne_iff_ne.mpr fun q => ?_
  rw [← q] at m
  have := List.contains_iff_mem.mpr m
  rw [n] at this
  cases this
end Ow
end
section
set_option maxHeartbeats 4000000
/-! A def with defaults and without keyword-only parameters, called by keywords. -/
namespace Ow
open PySem PySem.Spec PyProof.Rows L2 StX
section
variable {K : PySem.W.Frag} {x qual : Str} {params : Arguments} {body : List Stmt} {scope : PySem.Scope} {dvs : List V} {kws : List (Str × V)} {f : Addr} {fd : FuncData} {ps : List Str}
/-- n arguments by place, ks by keyword; g puts the defaults in -/
theorem kbnD (F : FunD K x qual params body scope dvs kws f fd) (n : Nat) (ks : List Str) (g : {α : Type} → List α → List α → List α → List α) (hd : dvs ≠ [])
    (hg : ∀ {vs ds zs : List V} {us its ws : List Value}, Vals vs us → Vals ds its → Vals zs ws → Vals (g vs ds zs) (g us its ws))
    (h : ∀ (T : Addr) (kV doc pm : Value) (an : Option Addr) (cdv ct : Value) (us its ws : List Value), us.length = n → its.length = dvs.length → ws.length = ks.length →
      ∃ k, bindArgs (PySem.W.fnOf x qual params body scope (.ref T) kV doc pm an cdv ct) ⟨us, ks.zip ws⟩ = seqItems? (.ref T) >>= k ∧ k (some its.toArray) = pure (ps.zip (g us its ws))) :
    ∃ its, KBn K fd ps n ks (fun us ws => g us its ws) fun vs zs => g vs dvs zs := by
  obtain ⟨oc, od, dV, kV, doc, pm, an, cdv, ct, osl, rfl, lk, hcd, hD, hK⟩ := F.ex
  rcases hD with ⟨e, _⟩ | ⟨_, T, o, its, m, rfl, lT, oT, rT⟩
  · exact absurd e hd
  refine ⟨its, ⟨fun s us ws X hu hw => ?_, fun r1 r2 => hg r1 rT r2⟩⟩
  obtain ⟨k, e1, e2⟩ := h T kV doc pm an cdv ct us its ws hu rT.length.symm hw
  exact BindsTo.of_looks fun M => by
    rw [e1]
    exact looks_items X lT oT (PySem.W.Looks.of_pure e2)
end
section
variable {X : Cx} {CX : CXT} {k : Nat} {f : Addr} {fd : FuncData} {ps ks : List Str} {sp : Sp} {E : XK} {x : Str} {p pos : Pos} {kws : List Keyword} {tk : TA} {g : List Value → List Value → List Value} {gV : List V → List V → List V}
/-- f(k=e, ..): by keywords alone -/
def tCallKO (m : Nat) (sp : Sp) (gV : List V → List V → List V) (E : XK) (tk : TA) : TE := fun σ H Q => tk σ H fun zs H2 => zs.length = m ∧ sp (gV [] zs) H2 Q E
theorem pe_callKO (F : FnOk X.prog X.w X.K X.mg X.base CX k f fd ps sp) (hr : Room k X.A) (hg : Gl X x) (hm : X.mg x = some (.ref f)) (hk : PySem.W.keepIn X.K (.ref f) = true) (hb : KBn X.K fd ps 0 ks g gV) (hx : Passes CX X E) (hkw : PK X kws tk)
    (hall : ((backToKw pos (keywordEach kws X.env)).all fun x => x.1.isSome) = true := by rfl) (hks : List.filterMap (fun x => x.1) (backToKw pos (keywordEach kws X.env)) = ks := by rfl) (hdb : (x == Str.ofString "__debug__") = false := by decide)
    (hpl : (((backTo pos (starEach [] X.env)).any fun x => x.1) || (backToKw pos (keywordEach kws X.env)).any fun x => x.1.isNone) = false := by rfl) :
    PE X (.Call (.Name x p) [] kws pos) (tCallKO ks.length sp gV E tk) := by
  refine ⟨fun pins s σ H Q I h => ?_⟩
  refine wpAny_Call_Name_kw (ld_glob I hg hm ?_ hdb)
  refine PySem.W.callWith_KW0 I.ok.mod.kin hk hall (thn (hkw.run pos pins s σ H _ I h) fun ws s2 z => ?_) hpl
  obtain ⟨zs, H2, I2, rz, l2, q2⟩ := z
  refine ⟨I2.kIn, ?_⟩
  rw [hks]
  exact run_fnN (us := []) (vs := []) F hr hb hx I2 .nil rz rfl l2 q2
end
end Ow
end
section
set_option maxHeartbeats 4000000
/-! `x in o`, `x not in o` and `str(o)` where o is an instance of an own class that defines them. -/
namespace Ow
open PySem PySem.Spec PyProof.Rows L2

theorem unlessNone_fn {K : PySem.W.Frag} {M : Model} {A : Around} {E : Value → Shared → Prop} {s : Shared} {x C f : Addr} {ox : Obj} {od : Option Obj} {name : Str} {args : List Value} {refuse : Sem Value} {Q : Option Value → Shared → Prop}
    (X : K.In s.heap) (I : PySem.W.InstAt s.heap x ox C od) (hs : PySem.W.findIn K (.ref C) name = some (some (.ref f))) (hf : PySem.W.typeIn K (.ref f) = some (.type "function"))
    (h : wpAny M A (call (.ref f) (.ref x :: args)) (fun v => Q (some v)) E s) : wpAny M A (callSpecialUnlessNone? (.ref x) name args refuse) Q E s :=
  wpAny_bind (wpAny_bind (I.type.here ((PySem.W.looks_findIn X hs).here (wpAny_holding (wpAny_bind ((PySem.W.bind_fn X _ hf).here (wpAny_bind (wpAny_mono h (fun _ _ z => wpAny_pure z) fun _ _ z => z))))))))

theorem contains_own {K : PySem.W.Frag} {M : Model} {A : Around} {E : Value → Shared → Prop} {s : Shared} {x C f : Addr} {ox : Obj} {od : Option Obj} {v : Value} {Q : Bool → Shared → Prop}
    (X : K.In s.heap) (I : PySem.W.InstAt s.heap x ox C od) (hs : PySem.W.findIn K (.ref C) "__contains__" = some (some (.ref f))) (hf : PySem.W.isFn K (.ref f) = true)
    (h : wpAny M A (call (.ref f) [.ref x, v]) (fun r s' => ∃ b, r = .bool b ∧ Q b s') E s) : wpAny M A (contains (.ref x) v) Q E s := by
  unfold contains
  refine wpAny_holding ?_
  refine wpAny_bind (m := specialOf (.ref x) "__contains__") (wpAny_bind (I.type.here ((PySem.W.looks_findIn X hs).here ?_)))
  dsimp only
  rw [if_neg (show ¬ (some (Value.ref f) == some Value.none) = true from fun z => by cases z)]
  refine wpAny_bind (m := callSpecialUnlessNone? (.ref x) (Str.ofString "__contains__") [v] _) (unlessNone_fn X I hs (beq_iff_eq.mp hf) (wpAny_mono h (fun r s' z => ?_) fun _ _ z => z))
  obtain ⟨b, rfl, q⟩ := z
  exact wpAny_truthy_bool q

section
variable {X : Cx} {CX : CXT} {n : Nat} {C g : Addr} {sp : Sp} {E : XK}
/-- x in o, o an instance of C -/
def rInO (C : Addr) (sp : Sp) (E : XK) (f : Bool → Bool) : R2 := fun x y H Q => ∃ a, y = .ref a ∧ InsAt H a C ∧ sp [y, x] H (fun v H' => ∃ b, v = .bl b ∧ Q (.bl (f b)) H') E
theorem op_inO (hs : PySem.W.findIn X.K (.ref C) "__contains__" = some (some (.ref g))) (hf : PySem.W.isFn X.K (.ref g) = true)
    (F : FnR X.prog X.w X.K X.mg X.base CX n g sp) (hr : Room n X.A) (hx : Passes CX X E) : OpR X (compareOp .In) (rInO C sp E id) := by
  intro pins s σ H x y v u Q I rx ry h
  obtain ⟨a, rfl, ha, q⟩ := h
  cases (show u = Value.ref a from ry)
  obtain ⟨ox, od, J⟩ := inst_of I ha
  obtain ⟨m, hF⟩ := I.fr
  refine wpAny_bind (contains_own (I.ok.mod.kin.keeps hF.keep) J hs hf ?_)
  refine wpAny_mono (wpAny_call (run_fnR (us := [.ref a, v]) (vs := [.ref a, x]) F hr hx I (.cons rfl (.cons rx .nil)) q)) (fun w s' z => ?_) fun _ _ x => x
  obtain ⟨z', H', I', rz, b, rfl, qz⟩ := z
  exact ⟨b, rz, wpAny_pure ⟨.bl b, H', I', rfl, qz⟩⟩
theorem op_notInO (hs : PySem.W.findIn X.K (.ref C) "__contains__" = some (some (.ref g))) (hf : PySem.W.isFn X.K (.ref g) = true)
    (F : FnR X.prog X.w X.K X.mg X.base CX n g sp) (hr : Room n X.A) (hx : Passes CX X E) : OpR X (compareOp .NotIn) (rInO C sp E fun b => !b) := by
  intro pins s σ H x y v u Q I rx ry h
  obtain ⟨a, rfl, ha, q⟩ := h
  cases (show u = Value.ref a from ry)
  obtain ⟨ox, od, J⟩ := inst_of I ha
  obtain ⟨m, hF⟩ := I.fr
  refine wpAny_bind (contains_own (I.ok.mod.kin.keeps hF.keep) J hs hf ?_)
  refine wpAny_mono (wpAny_call (run_fnR (us := [.ref a, v]) (vs := [.ref a, x]) F hr hx I (.cons rfl (.cons rx .nil)) q)) (fun w s' z => ?_) fun _ _ x => x
  obtain ⟨z', H', I', rz, b, rfl, qz⟩ := z
  exact ⟨b, rz, wpAny_pure ⟨.bl (!b), H', I', rfl, qz⟩⟩
/-- a callee runs further down than the body -/
theorem run_fnRS {pins : List (Addr × Obj)} {σ : L2.St} {H : Hp} {s : Shared} {A : Around} {Q : VK} {us : List Value} {vs : List V} (F : FnR X.prog X.w X.K X.mg X.base CX n g sp) (hr : Room n A) (hfr : A.frames = X.A.frames) (hx : Passes CX X E) (I : Inv X pins σ H s) (r : Vals vs us) (h : sp vs H Q E) :
    codeAny (model X.prog X.w) A (.call (.ref g) ⟨us, []⟩) (fun r s' => match r with | .ok (.ret v) => EP X pins σ Q v s' | .ok _ => False | .error e => X.xe e s') s := by
  have e0 : Env0 X.prog X.w X.K X.mg X.base A X.stack s H := by
    have e := I.env0
    exact ⟨by rw [hfr]; exact e.frames, e.mod, e.bs, e.bsz, e.funs, e.frf, e.hok, e.bare⟩
  refine codeAny_mono (F A X.stack s H us vs Q E hr e0 r h) fun r s' hq => ?_
  cases r with
  | error e => exact hx pins σ H s e s' I hq
  | ok fl =>
    cases fl with
    | ret u => exact I.after hq
    | next => exact False.elim hq
    | brk => exact False.elim hq
    | cont => exact False.elim hq
/-- str(o), o an instance of C that has a __str__ -/
def rStrO (C : Addr) (sp : Sp) (E : XK) : List V → Hp → VK → Prop := fun xs H Q => ∃ a, xs = [.ref a] ∧ InsAt H a C ∧ sp [.ref a] H (fun v H' => ∃ t, v = .str t ∧ Q (.str t) H') E
theorem call_strO (hs : PySem.W.findIn X.K (.ref C) "__str__" = some (some (.ref g))) (hf : PySem.W.isFn X.K (.ref g) = true)
    (F : FnR X.prog X.w X.K X.mg X.base CX n g sp) (hr : Room (n + 2) X.A) (hx : Passes CX X E) : CallR X (.type "str") (rStrO C sp E) := by
  intro pins s σ H xs us Q I r h
  obtain ⟨a, rfl, ha, q⟩ := h
  obtain ⟨u, rfl, ru⟩ := vals1 r
  cases (show u = Value.ref a from ru)
  obtain ⟨ox, od, J⟩ := inst_of I ha
  obtain ⟨m, hF⟩ := I.fr
  refine PySem.W.kso_call hr.in1.in1.units0 (I.ok.mod.kin.keeps hF.keep) J hs hf ?_
  refine wpAny_mono (wpAny_call (run_fnRS (us := [.ref a]) (vs := [.ref a]) F hr.in1.in1 rfl hx I (.cons rfl .nil) q)) (fun w s' z => ?_) fun _ _ x => x
  obtain ⟨z', H', I', rz, t, rfl, qz⟩ := z
  obtain ⟨tk, rfl⟩ := rz
  exact ⟨.str t, H', I', ⟨tk, rfl⟩, qz⟩
end
end Ow
end
section
set_option maxHeartbeats 4000000
/-! The end of a law whose def hands lambdas over and asks repr of containers: nothing is being shown, and the codes' tables are told. -/
namespace Ow
open PySem PySem.Spec PyProof.Rows L2 StX
section
variable {P : Program} {w : World} {K : PySem.W.Frag} {mg mb : Str → Option Value} {k : Nat} {fa a c T : Addr} {sp : Sp} {s1 : Shared} {vs : List Value} {ns : List Int}
/-- a table that is still empty -/
abbrev tab0 : Obj := { cls := .none, data := .fields #[] }
/-- what stands in the abstract heap at the begin: the table, and perhaps the script -/
structure Begin (K : PySem.W.Frag) (h : Heap) (T : Addr) (H : Hp) : Prop where
  tab : H T = some (.tbl #[])
  rest : ∀ b, b ≠ T → H b = none ∨ ∃ o xs items n, H b = some (.frz o (.lst xs)) ∧ K.lookup b = none ∧ h.get? b = some o ∧ o.data = .seq items n
theorem end_fromT (KX : K.In s1.heap) (hns : s1.heap.Ns mainGlobals mg) (hb : s1.heap.Ns builtinsNs mb) (hbb : ∀ x : Str, x ≠ "__name__" → mb x = bootBuiltins x) (hlim : s1.heap.NoLimit) (hg : s1.gens = #[]) (hr : Room k callerA)
    (eT : s1.heap.get? T = some tab0) (nT : K.lookup T = none) (cT : PySem.W.CodeHd s1.heap c T)
    (main : ∃ (m : Addr) (o : Obj), mg "__builtins__" = some (.ref m) ∧ m ≠ builtinsNs ∧ s1.heap.get? m = some o ∧ o.cls = .type "module" ∧ o.dict = some builtinsNs ∧ o.data = .plain)
    (F : ∀ base : Heap, K.In base → base.Ns mainGlobals mg → LamX.TabB base mg c T → FnG P w K mg base CX0 k fa sp) {H : Hp} (B : Begin K s1.heap T H) (hok : HOk P w H s1.heap)
    (hsp : sp [.ref a] H (fun v _ => v = .bl true) fun _ _ _ => False) :
    codeAny (model P w) callerA (.call (.ref fa) ⟨[.ref a], []⟩) (fun r s' => r = .ok (.ret (.bool true)) ∧ OldK s1.heap s'.heap ∧ s'.os = s1.os ∧ AllBare s'.gens) s1 := by
  let base := hidT s1.heap H
  have free : ∀ {b : Addr} {o : Obj}, s1.heap.get? b = some o → (∀ items n, o.data ≠ .seq items n) → o.data ≠ .fields #[] → base.get? b = some o := fun {b o} e d1 d2 => by
    refine hidT_get e ?_
    by_cases q : b = T
    · rw [q, eT] at e
      cases e
      exact (d2 rfl).elim
    · rcases B.rest b q with z | ⟨o2, xs, items, n, _, _, e2, z⟩
      · exact z
      · rw [e] at e2
        cases e2
        exact (d1 _ _ z).elim
  have names : ∀ {b : Addr} {m : Str → Option Value}, s1.heap.Ns b m → base.Ns b m := fun z => by
    obtain ⟨o, es, ep, e, d, r⟩ := z
    exact ⟨o, es, ep, free e (fun _ _ y => by rw [d] at y; cases y) (fun y => by rw [d] at y; cases y), d, r⟩
  have hK : K.In base := fun b o e => by
    refine hidT_get (KX b o e) ?_
    by_cases q : b = T
    · rw [q, nT] at e
      cases e
    · rcases B.rest b q with z | ⟨o2, xs, items, n, _, z, _⟩
      · exact z
      · rw [e] at z
        cases z
  have lim : base.NoLimit := by
    obtain ⟨m, h1, h2⟩ := hlim
    exact ⟨m, names h1, h2⟩
  have TB : LamX.TabB base mg c T := by
    refine ⟨?_, ?_, fun z => ?_⟩
    · obtain ⟨o, us, file, tf, flags, tg, inF, text, tt, e1, p1, p2, p3, p4, p5, p6, p7, p8, p9⟩ := cT
      exact ⟨o, us, file, tf, flags, tg, inF, text, tt, free e1 (fun _ _ y => by rw [p2] at y; cases y) (fun y => by rw [p2] at y; cases y; simp at p3), p1, p2, p3, p4, p5, p6, p7, p8, p9⟩
    · obtain ⟨m, o, q1, q2, q3, q4, q5, q6⟩ := main
      refine ⟨m, o, q1, q2, fun y => ?_, fun y => ?_, free q3 (fun _ _ y => by rw [q6] at y; cases y) (fun y => by rw [q6] at y; cases y), q4, q5, q6⟩
      · obtain ⟨og, es, ep, e, d, _⟩ := hns
        rw [y, e] at q3
        cases q3
        rw [q6] at d
        cases d
      · rw [y, eT] at q3
        cases q3
        cases q6
    · obtain ⟨og, es, ep, e, d, _⟩ := hns
      rw [z, eT] at e
      cases e
      cases d
  have e0 : Env0 P w K mg base callerA [] s1 H :=
    { frames := rfl, mod := ⟨hK, names hns, ⟨mb, names hb, hbb⟩, lim⟩, bs := fun b o e => of_hidT e, bsz := Nat.le_of_eq (hidT_size _ _), funs := trivial, frf := fun b hb => (List.not_mem_nil hb).elim, hok := hok, bare := .of_eq hg }
  refine codeAny_mono (F base hK (names hns) TB callerA [] s1 H [.ref a] [.ref a] _ _ hr rfl e0 (.cons rfl .nil) hsp) fun r s' h => ?_
  cases r with
  | error e => exact False.elim h
  | ok fl =>
    cases fl with
    | next => exact False.elim h
    | brk => exact False.elim h
    | cont => exact False.elim h
    | ret u =>
      obtain ⟨v, H2, os, bare, un, ok2, rv, q⟩ := h
      subst q
      cases rv
      have still : ∀ b o, b ≠ T → s1.heap.get? b = some o → s'.heap.get? b = some o := fun b o nb e => by
        rcases B.rest b nb with z | ⟨o2, xs, items, n, z, _⟩
        · exact un.keep b o e z (fun y => List.not_mem_nil y) (fun y => List.not_mem_nil y)
        · have e1 := (hok b _ z).1
          have e2 := (ok2 b _ (un.frzs b o2 _ z)).1
          rw [e] at e1
          cases e1
          exact e2
      obtain ⟨more, z⟩ := un.tbls T #[] B.tab
      have wide := ok2 T _ z
      refine ⟨rfl, ⟨fun b o e => ?_, fun b o e => ?_⟩, os, bare⟩
      · by_cases q : b = T
        · subst q
          rw [eT] at e
          cases e
          exact .inr (.inl ⟨(cT.tab eT).isCodeTable, rfl, #[], _, rfl, by rw [Array.empty_append]; exact wide⟩)
        · exact .inl (still b o q e)
      · by_cases q : b = T
        · subst q
          exact ⟨_, wide⟩
        · exact ⟨o, still b o q e⟩
theorem end_callT (KX : K.In s1.heap) (hns : s1.heap.Ns mainGlobals mg) (hb : s1.heap.Ns builtinsNs mb) (hbb : ∀ x : Str, x ≠ "__name__" → mb x = bootBuiltins x) (hlim : s1.heap.NoLimit) (hg : s1.gens = #[]) (hr : Room k callerA)
    (eT : s1.heap.get? T = some tab0) (nT : K.lookup T = none) (cT : PySem.W.CodeHd s1.heap c T)
    (main : ∃ (m : Addr) (o : Obj), mg "__builtins__" = some (.ref m) ∧ m ≠ builtinsNs ∧ s1.heap.get? m = some o ∧ o.cls = .type "module" ∧ o.dict = some builtinsNs ∧ o.data = .plain)
    (ha : s1.heap.get? a = some { cls := .type "list", data := .seq vs.toArray }) (hi : IntsAre vs ns) (hl : ns.length ≤ sizeLine) (F : ∀ base : Heap, K.In base → base.Ns mainGlobals mg → LamX.TabB base mg c T → FnG P w K mg base CX0 k fa sp)
    (hsp : ∀ H : Hp, H T = some (.tbl #[]) → SqL K H a (ns.map V.int) → sp [.ref a] H (fun v _ => v = .bl true) fun _ _ _ => False) :
    codeAny (model P w) callerA (.call (.ref fa) ⟨[.ref a], []⟩) (fun r s' => r = .ok (.ret (.bool true)) ∧ OldK s1.heap s'.heap ∧ s'.os = s1.os ∧ AllBare s'.gens) s1 := by
  have rv := vals_ints hi
  have hl2 : (ns.map V.int).length ≤ sizeLine := by rw [List.length_map]; exact hl
  have naT : a ≠ T := fun z => by
    rw [z, eT] at ha
    cases ha
  cases hk : K.lookup a with
  | some o =>
    have e := KX a o hk
    rw [ha] at e
    cases e
    let H : Hp := fun b => if b = T then some (.tbl #[]) else none
    have HT : H T = some (.tbl #[]) := if_pos rfl
    have HN : ∀ b, b ≠ T → H b = none := fun b n => if_neg n
    refine end_fromT KX hns hb hbb hlim hg hr eT nT cT main F (H := H) ⟨HT, fun b n => .inl (HN b n)⟩ (fun b u z => ?_) (hsp H HT ?_)
    · by_cases q : b = T
      · subst q
        rw [HT] at z
        cases z
        exact eT
      · rw [HN b q] at z
        cases z
    · exact .inr ⟨_, vs.toArray, _, hk, rfl, rfl, rfl, by rw [List.size_toArray, hi.length]; exact hl, by simpa using rv⟩
  | none =>
    let o : Obj := { cls := .type "list", data := .seq vs.toArray }
    let H : Hp := fun b => if b = a then some (.frz o (.lst (ns.map V.int))) else if b = T then some (.tbl #[]) else none
    have HA : H a = some (.frz o (.lst (ns.map V.int))) := if_pos rfl
    have HT : H T = some (.tbl #[]) := by show (if T = a then _ else _) = _; rw [if_neg (Ne.symm naT), if_pos rfl]
    have HN : ∀ b, b ≠ a → b ≠ T → H b = none := fun b n n2 => by show (if b = a then _ else _) = _; rw [if_neg n, if_neg n2]
    refine end_fromT KX hns hb hbb hlim hg hr eT nT cT main F (H := H) ⟨HT, fun b n => ?_⟩ (fun b u z => ?_) (hsp H HT (.inl (.inr ⟨_, HA⟩)))
    · by_cases q : b = a
      · subst q
        exact .inr ⟨o, _, _, _, HA, hk, ha, rfl⟩
      · exact .inl (HN b q n)
    · by_cases q : b = a
      · subst q
        rw [HA] at z
        cases z
        exact ⟨ha, hl2, vs, _, rv, ha⟩
      · by_cases q2 : b = T
        · subst q2
          rw [HT] at z
          cases z
          exact eT
        · rw [HN b q q2] at z
          cases z
end
/-- what is to be known of the law's promise at the head's heap -/
def LawT (l : PySem.W.OpenLaw) (w : World) (K : PySem.W.Frag) (k n : Nat) (mg : Str → Option Value) (fa : Addr) (h : Heap) : Prop :=
  ∃ (c T : Addr) (sp : Sp), h.get? T = some tab0 ∧ K.lookup T = none ∧ PySem.W.CodeHd h c T ∧
    (∀ (H : Hp) (a : Addr) (ns : List Int), ns.length ≤ n → H T = some (.tbl #[]) → SqL K H a (ns.map V.int) → sp [.ref a] H (fun v _ => v = .bl true) fun _ _ _ => False) ∧
    ∀ base : Heap, K.In base → base.Ns mainGlobals mg → LamX.TabB base mg c T → FnG l.prog w K mg base CX0 k fa sp
theorem walk_ofTG {l : PySem.W.OpenLaw} {n k : Nat} {q : Program} {loose : List Str} {XP : (Str → Option Value) → Heap → Prop} {YP : World → Heap → Prop} {d : DefRec} {K : Params → PySem.W.Frag}
    (hn : l.most = some n) (hn2 : n ≤ sizeLine) (hdf : d.params.defaults = []) (hr : Room k callerA) (hY : ∀ (w : World) (h : Heap), YP w h → (K w.params).In h)
    (F : ∀ (w : World) (mg : Str → Option Value) (fa : Addr) (h : Heap), YP w h → (K w.params).In h → h.Ns mainGlobals mg → mg d.name = some (.ref fa) → LawT l w (K w.params) k n mg fa h) :
    PySem.W.WalkO q loose XP YP l.row.toRowW d [] (fun f vs => PySem.call f vs) := by
  refine Att.attach_call hn hdf fun w s0 s1 mg mb fa o pm cd doc a vs ns G Y ho hd hcd hmg hobj hints hlen hg => ?_
  have KX := hY w _ Y
  obtain ⟨c, T, sp, eT, nT, cT, hsp, hF⟩ := F w mg fa _ Y KX G.T.g hmg
  exact end_callT KX G.T.g G.T.b G.T.builtins G.T.nolimit hg hr eT nT cT G.T.bmain hobj hints (Nat.le_trans hlen hn2) hF fun H hH hS => hsp H a ns hlen hH hS
end Ow
end
section
set_option maxHeartbeats 4000000
/-! A law's def, its code told, called while nothing is being shown; what stays when a lambda is made. -/
namespace Ow
open PySem PySem.Spec PyProof.Rows L2 StX
section
variable {P : Program} {w : World} {K : PySem.W.Frag} {mg : Str → Option Value} {base : Heap} {x qual : Str} {st : Stmt} {f c : Addr}
theorem FnC.okG {N ps : List Str} {k : Nat} {sp : Sp} (F : FnC K x qual st f c) (S : FnScope N ps (defScope st))
    (hb : ∀ (kV doc pm : Value) (an : Option Addr) (cdv ct : Value) (us : List Value), us.length = ps.length → bindArgs (PySem.W.fnOf x qual (defArgs st) (defBody st) (defScope st) .none kV doc pm an cdv ct) ⟨us, []⟩ = pure (ps.zip us))
    (len : ∀ vs H Q E, sp vs H Q E → vs.length = ps.length)
    (hbody : ∀ (A : Around) (outer : List Env) (s : Shared) (H : Hp) (vs : List V) (Q : VK) (E : XK), Room k (A.deeper (envOfC qual (defScope st) s.heap.objs.size f (.ref c))) → A.guards = some [] → sp vs H Q E →
      ∃ t, PSs (cxOf CX0 P w K mg base N qual (defScope st) f (.ref c) A outer s H E).nox (defBody st) t ∧ t { nx := fun _ H' => Q .non H', rt := Q } (start N vs) H) : FnG P w K mg base CX0 (k + 1) f sp := by
  obtain ⟨oc, od, an, kV, doc, pm, ct, osl, lk, hcd⟩ := F
  intro A outer s H us vs Q E hr hg e0 r hs
  have hv := len _ _ _ _ hs
  refine LamX.run_ofS lk hcd S hr e0 (BindsTo.of_eq (hb kV doc pm an (.ref c) ct us (r.length.symm.trans hv))) r hv fun hr2 => ?_
  obtain ⟨t, h, q⟩ := hbody A outer s H vs Q E hr2 hg hs
  exact ⟨t, h.nox, q⟩
end
section
variable {K : PySem.W.Frag} {H H' : Hp} {v : V} {t : Value}
theorem TyOf.extN (h : TyOf K H v t) (m : LamX.ExtN H H') : TyOf K H' v t := by
  cases h with
  | non => exact .non
  | bl x => exact .bl x
  | int i => exact .int i
  | str x => exact .str x
  | flt x => exact .flt x
  | lst h => exact .lst (m _ _ h fun _ z => by cases z)
  | frz h => exact .frz (m _ _ h fun _ z => by cases z)
  | tup h => exact .tup (m _ _ h fun _ z => by cases z)
  | dK h => exact .dK (m _ _ h fun _ z => by cases z)
  | dT h => exact .dT (m _ _ h fun _ z => by cases z)
  | ins h c a b d e => exact .ins (m _ _ h fun _ z => by cases z) c a b d e
theorem TyX.extN (h : TyX K H v t) (m : LamX.ExtN H H') : TyX K H' v t := by
  cases h with
  | base h => exact .base (TyOf.extN h m)
  | byt b => exact .byt b
  | set h => exact .set (m _ _ h fun _ z => by cases z)
  | kList h c => exact .kList h c
  | kTuple h c => exact .kTuple h c
  | kDict h c => exact .kDict h c
  | fTuple h => exact .fTuple (m _ _ h fun _ z => by cases z)
  | fDict h => exact .fDict (m _ _ h fun _ z => by cases z)
theorem NoInt.extN (h : NoInt K H v) (m : LamX.ExtN H H') : NoInt K H' v := by
  rcases h with h | ⟨t, h, q⟩
  · exact .inl h
  · exact .inr ⟨t, TyX.extN h m, q⟩
end
end Ow
end
section
set_option maxHeartbeats 4000000
/-! A def with defaults: its promise as FnOk, by place and by keywords. -/
namespace Ow
open PySem PySem.Spec PyProof.Rows L2 StX
section
variable {P : Program} {w : World} {K : PySem.W.Frag} {mg : Str → Option Value} {base : Heap} {CX : CXT} {x qual : Str} {params : Arguments} {body : List Stmt} {scope : PySem.Scope} {dvs : List V} {f : Addr} {fd : FuncData} {ps : List Str} {k : Nat} {sp : Sp}
/-- n arguments by place, the defaults behind the first j fill up -/
theorem posR (F : FunD K x qual params body scope dvs [] f fd) (ok : FnOk P w K mg base CX k f fd ps sp) (n j : Nat) (hd : dvs ≠ []) (hn : n + (dvs.length - j) = ps.length)
    (hb : ∀ (T : Addr) (kV doc pm : Value) (an : Option Addr) (cdv ct : Value) (us its : List Value), us.length = n → its.length = dvs.length →
      ∃ k, bindArgs (PySem.W.fnOf x qual params body scope (.ref T) kV doc pm an cdv ct) ⟨us, []⟩ = seqItems? (.ref T) >>= k ∧ k (some its.toArray) = pure (ps.zip (us ++ its.drop j))) : FnR P w K mg base CX k f (fun vs H Q E => sp (vs ++ dvs.drop j) H Q E) := by
  obtain ⟨ds, hds, b⟩ := F.binds1 n j hd hn hb
  exact ok.raw b hds
end
end Ow
end
section
set_option maxHeartbeats 4000000
/-! An instance called by keywords alone; a def without defaults called by keywords; a def called without arguments. -/
namespace Ow
open PySem PySem.Spec PyProof.Rows L2 StX
section
variable {K : PySem.W.Frag} {x qual : Str} {params : Arguments} {body : List Stmt} {scope : PySem.Scope} {f : Addr} {fd : FuncData} {ps ks : List Str} {n : Nat} {g : List Value → List Value → List Value} {gV : List V → List V → List V}
/-- keywords at a def without defaults -/
theorem kbn0 (F : FunD K x qual params body scope [] [] f fd) (hrel : ∀ {vs zs : List V} {us ws : List Value}, Vals vs us → Vals zs ws → Vals (gV vs zs) (g us ws))
    (hb : ∀ (kV doc pm : Value) (an : Option Addr) (cdv ct : Value) (us ws : List Value), us.length = n → ws.length = ks.length → bindArgs (PySem.W.fnOf x qual params body scope .none kV doc pm an cdv ct) ⟨us, ks.zip ws⟩ = pure (ps.zip (g us ws))) : KBn K fd ps n ks g gV := by
  obtain ⟨oc, od, dV, kV, doc, pm, an, cdv, ct, osl, rfl, lk, hcd, hD, hK⟩ := F.ex
  rcases hD with ⟨_, rfl⟩ | ⟨e, _⟩
  · exact ⟨fun s us ws _ hu hw => BindsTo.of_eq (hb kV doc pm an cdv ct us ws hu hw), hrel⟩
  · exact absurd rfl e
end
theorem callKW_of {M : Model} {A : Around} {E : Value → Shared → Prop} {s : Shared} {a : Addr} {p : Pos} {Q : Value → Shared → Prop} {as : List (Bool × Sem Value)} {kws : List (Option Str × Sem Value)} (np : (as.any (·.1) || kws.any (·.1.isNone)) = false)
    (h : wpAny M A (evalArgs (.ref a) true as kws) (fun z s1 => (∃ C ox od, PySem.W.InstAt s1.heap a ox C od ∧ ox.data = .plain) ∧ wpAny M A (call (.ref a) z.pos z.kw) Q E s1) E s) : wpAny M A (callWith p (.ref a) [] as kws) Q E s := by
  unfold callWith
  refine wpAny_bind (wpAny_holding (wpAny_mono h (fun z s1 y => wpAny_bind (wpAny_standAt ?_)) fun _ _ e => e))
  obtain ⟨⟨C, ox, od, J, hd⟩, y⟩ := y
  simp only [np]
  refine wpAny_bind ((PySem.W.kco_keeper (M := M) J hd).here ?_)
  exact wpAny_bind (wpAny_mono (wpAny_operateT y) (fun r s2 hr => wpAny_bind (wpAny_holding (wpAny_point (wpAny_pure hr)))) fun _ _ e => e)
section
variable {X : Cx} {CX : CXT} {k n : Nat} {f C : Addr} {fd : FuncData} {ps ks : List Str} {sp : Sp} {E : XK} {x : Str} {p pos : Pos} {fe : Expr} {kws : List Keyword} {tf : TE} {tk : TA} {g : List Value → List Value → List Value} {gV : List V → List V → List V}
/-- o(k=e, ..): o an expression that gives an instance of C -/
def tCallOK (X : Cx) (C : Addr) (m : Nat) (sp : Sp) (gV : List V → List V → List V) (E : XK) (tf : TE) (tk : TA) : TE := fun σ H Q => tf σ H fun y H1 => ∃ a, y = V.ref a ∧ tk σ H1 fun zs H2 => zs.length = m ∧ InsC X H2 a C ∧ sp (gV [V.ref a] zs) H2 Q E
theorem pe_callOK (hf : PE X fe tf) (c : CallO X.K C f) (F : FnOk X.prog X.w X.K X.mg X.base CX k f fd ps sp) (hr : Room k X.A) (hb : KBn X.K fd ps 1 ks g gV) (hx : Passes CX X E) (hkw : PK X kws tk)
    (ht : eval (.Call fe [] kws pos) X.env = (do callWith pos (← eval fe X.env) [] (backTo pos (starEach [] X.env)) (backToKw pos (keywordEach kws X.env))) := by rfl)
    (hall : ((backToKw pos (keywordEach kws X.env)).all fun x => x.1.isSome) = true := by rfl) (hks : List.filterMap (fun x => x.1) (backToKw pos (keywordEach kws X.env)) = ks := by rfl)
    (hpl : (((backTo pos (starEach [] X.env)).any fun x => x.1) || (backToKw pos (keywordEach kws X.env)).any fun x => x.1.isNone) = false := by rfl) : PE X (.Call fe [] kws pos) (tCallOK X C ks.length sp gV E tf tk) := by
  refine ⟨fun pins s σ H Q I h => ?_⟩
  rw [ht]
  refine wpAny_bind (thn (hf.run pins s σ H _ I h) fun u s1 ⟨y, H1, I1, ry, a, ey, q⟩ => ?_)
  subst ey
  obtain rfl : u = Value.ref a := ry
  refine callKW_of hpl (evalArgs_kw2_nil hall (thn (hkw.run pos pins s1 σ H1 _ I1 q) fun ws s2 ⟨zs, H2, I2, rz, l2, hi, q2⟩ => ?_))
  obtain ⟨ox, od, J, hd⟩ := insC_at I2 hi
  refine ⟨⟨C, ox, od, J, hd⟩, ?_⟩
  rw [hks]
  have r1 : Vals [V.ref a] [Value.ref a] := .cons rfl .nil
  refine wpAny_call (PySem.W.kco_code I2.kIn J hd c.at_ c.fn c.fi (codeAny_mono (F.run X.A X.stack s2 H2 ⟨[.ref a], ks.zip ws⟩ (g [.ref a] ws) (gV [.ref a] zs) Q E hr I2.env0 (hb.to s2 [.ref a] ws I2.kIn rfl (rz.length.symm.trans l2)) (hb.rel r1 rz) q2) fun r s' hq => ?_))
  cases r with
  | error e => exact hx pins σ H2 s2 e s' I2 hq
  | ok fl =>
    cases fl with
    | ret u => exact I2.after hq
    | next => exact False.elim hq
    | brk => exact False.elim hq
    | cont => exact False.elim hq
/-- o(e, ..), told without the context (for a lambda's body) -/
def tCallOI (C : Addr) (sp : Sp) (E : XK) (tf : TE) (t : TA) : TE := fun σ H Q => tf σ H fun y H1 => ∃ a, y = V.ref a ∧ t σ H1 fun vs H2 => InsAt H2 a C ∧ sp (V.ref a :: vs) H2 Q E
theorem pe_callOI {g : Addr} {e : Expr} {es : List Expr} {t : TA} (hf : PE X fe tf) (c : CallO X.K C g) (F : FnR X.prog X.w X.K X.mg X.base CX k g sp) (hr : Room k X.A) (hx : Passes CX X E) (ha : PA X (e :: es) t)
    (ht : eval (.Call fe (e :: es) [] pos) X.env = (do callWith pos (← eval fe X.env) [] (backTo pos (starEach (e :: es) X.env)) (backToKw pos (keywordEach [] X.env))) := by rfl)
    (he : starEach (e :: es) X.env = (false, eval e X.env) :: starEach es X.env := by rfl) (hpl : (backTo pos (starEach es X.env)).any (·.1) = false := by rfl) : PE X (.Call fe (e :: es) [] pos) (tCallOI C sp E tf t) := by
  constructor
  intro pins s σ H Q I h
  rw [ht]
  refine wpAny_bind (thn (hf.run pins s σ H _ I h) fun u s1 z => ?_)
  obtain ⟨y, H1, I1, ry, a, rfl, q⟩ := z
  obtain rfl : u = Value.ref a := ry
  refine callO_with (thn (ha.run pos pins s1 σ H1 _ I1 q) fun us s2 z => ?_) he hpl
  obtain ⟨vs, H2, I2, r, ⟨dx, fs, hi⟩, q2⟩ := z
  have hc : InsC X H2 a C := .inr ⟨dx, fs, hi⟩
  obtain ⟨ox, od, J, hd⟩ := insC_at I2 hc
  exact ⟨⟨C, ox, od, J, hd⟩, run_callO c F hr hx I2 hc r q2⟩
end
end Ow
end
section
set_option maxHeartbeats 4000000
/-! Own errors as values: made, by place or by keywords, their fields read, their classes asked. -/
namespace PySem
namespace OwX
open Builtin Builtin.ObjectAttr HandSPX
section
variable {M : Model} {A : Around} {E : Value → Shared → Prop} {h : Heap} {g : Array GenState} {d : Drawn} {t : Nat} {os : OsState}
variable {nm q : Str} {C N : Addr} {bs bm bmB : List Value} {hdct : Bool} {sn : List Str} {sub : List Value} {ab : Bool} {col : Option Bool} {dd : Option Addr} {k0 k1 k2 k3 k5 : Option Value} {B newId initId : String}
theorem check_new_kw (F : ExcBaseFacts B newId initId bmB) (hT : ∀ X : String, bm.contains (.type X) = bmB.contains (.type X)) {rest : List Value} {kw : List (Str × Value)} {Q : Unit → Shared → Prop}
    (hC : h.get? C = some (excClassObj nm q C N bs bm hdct sn sub ab col dd k0 k1 k2 k3 k5 newId)) (hq : Q () ⟨h, g, d, t, os⟩) : wpAny M A (checkBuiltinCall newId ⟨.ref C :: rest, kw⟩) Q E ⟨h, g, d, t, os⟩ := by
  have hcont : (Value.ref C :: bm).contains (.type B) = true := by rw [List.contains_cons, hT, F.hasB, Bool.or_true]
  have hstar := F.noStar
  simp only [checkBuiltinCall, F.newKind, F.newSplit, F.newRow]
  repeat (first | refine wpAny_loadPart_at hC ?_ | (refine wpAny_isSubtype_exc hC ?_; rw [hcont]) | refine wpAny_staticBase_exc hC ?_ | refine wpAny_madeBy_exc hC ?_ | simp only [bne_self_eq_false, Bool.false_eq_true, if_false] | wp_step)
  exact hq
end
section
variable {prog : Program} {w : World} {A : Around} {E : Value → Shared → Prop} {R : Result → Shared → Prop} {h : Heap} {g : Array GenState} {d : Drawn} {t : Nat} {os : OsState}
variable {nm q : Str} {C N : Addr} {bs bm bmB : List Value} {hdct : Bool} {sn : List Str} {sub : List Value} {ab : Bool} {col : Option Bool} {dd : Option Addr} {k0 k1 k2 k3 k5 : Option Value} {B newId initId : String}
theorem new_kw (F : ExcBaseFacts B newId initId bmB) (hT : ∀ X : String, bm.contains (.type X) = bmB.contains (.type X)) {rest : List Value} {kw : List (Str × Value)}
    (hC : h.get? C = some (excClassObj nm q C N bs bm hdct sn sub ab col dd k0 k1 k2 k3 k5 newId))
    (hq : R (.ok (.ret (.ref (h.objs.size + 1)))) ⟨(h.push { cls := .type "tuple", data := .seq rest.toArray }).push
      { cls := .ref C, data := .fields #[.ref h.objs.size, .none, .none, .none, .bool false, .none] }, g, d, t, os⟩) (hrest : rest.length ≤ sizeLine) :
    codeAny (model prog w) A (.builtin newId ⟨.ref C :: rest, kw⟩) R ⟨h, g, d, t, os⟩ := by
  have hends := F.ends
  have hcB : (Value.ref C :: bm).contains (.type B) = true := by rw [List.contains_cons, hT, F.hasB, Bool.or_true]
  have hcA : (Value.ref C :: bm).contains (.type "AttributeError") = false := by rw [List.contains_cons, hT, F.noAttr]; rfl
  have hcN : (Value.ref C :: bm).contains (.type "NameError") = false := by rw [List.contains_cons, hT, F.noName]; rfl
  refine codeAny_builtinAt F.entry ?_
  unfold Builtin.«BaseException.__new__»
  refine wpAt_bind ?_
  show wpAt _ _ _ (stack >>= _) _ _ _
  refine wpAt_bind (wpAt_stack fun p below => wpAt_of_wpAny ?_)
  wp_walk
  refine wpAt_of_wpAny ?_
  rw [F.owner]
  repeat (first | with_reducible refine wpAny_madeHere_exc F.canon hC ?_ | with_reducible refine wpAny_loadPart_at hC ?_ | (with_reducible refine wpAny_isSubtype_exc hC ?_; first | rw [hcB] | rw [hcA] | rw [hcN]) | wp_step)
  show R _ _
  rw [Heap.size_push]
  exact hq
theorem type_call_kw (F : ExcBaseFacts B newId initId bmB) (hT : ∀ X : String, bm.contains (.type X) = bmB.contains (.type X)) {rest : List Value} {kw : List (Str × Value)} {fI : Addr} {Q : Fin → Shared → Prop}
    (hC : h.get? C = some (excClassObj nm q C N bs bm hdct sn sub ab col dd k0 k1 k2 k3 k5 newId))
    (hi : W.Looks (model prog w) h (typeLookup (.ref C) "__init__") (some (.ref fI))) (hb : ∀ self, W.Looks (model prog w) h (bindSpecial (.ref fI) self) (.ref fI, [self])) (hrest : rest.length ≤ sizeLine)
    (hq : codeAny (model prog w) A (.call (.ref fI) ⟨.ref (h.objs.size + 1) :: rest, kw⟩)
      (fun r s' => match r with | .ok (.ret v) => v = .none ∧ Q (.done (.ret (.ref (h.objs.size + 1)))) s' | .ok _ => False | .error e => E e s')
      ⟨(h.push (W.kdv_tup rest)).push (excO C h.objs.size), g, d, t, os⟩) :
    wpAny (model prog w) A (Builtin.«type.__call__» ⟨.ref C :: rest, kw⟩) Q E ⟨h, g, d, t, os⟩ := by
  repeat (first | with_reducible refine wpAny_loadPart_at hC ?_ | with_reducible refine wpAny_madeBy_exc hC ?_ | wp_step)
  refine codeAny_call_builtin_code (Code.quiet_builtin _ F.quiet) (check_new_kw F hT hC ?_)
  refine new_kw F hT hC ?_ hrest
  show wpAny _ _ _ _ _ _
  have k : ∀ b o, h.get? b = some o → ((h.push (W.kdv_tup rest)).push (excO C h.objs.size)).get? b = some o := fun b o e => Heap.get?_push_of_some _ (Heap.get?_push_of_some _ e)
  have hC₁ := k _ _ hC
  have hget : ((h.push (W.kdv_tup rest)).push (excO C h.objs.size)).get? (h.objs.size + 1) = some (excO C h.objs.size) := by heap_get
  have hcC : (Value.ref C :: bm).contains (.ref C) = true := by simp
  have i1 := hi.keeps k
  have b1 := (hb (.ref (h.objs.size + 1))).keeps k
  unfold isInstance
  repeat (first | with_reducible refine wpAny_loadPart_at hget ?_ | (with_reducible refine wpAny_isSubtype_exc hC₁ ?_; rw [hcC]) | wp_step)
  show wpAny _ _ (typeLookup (.ref C) _) _ _ _
  refine i1.at ?_
  refine wpAny_holding (wpAny_bind (b1.at ?_))
  refine wpAny_bind (wpAny_call (codeAny_mono hq fun r s' z => ?_))
  rcases r with e | (v | _ | _ | _) <;> first | exact z | exact z.elim | skip
  obtain ⟨rfl, z⟩ := z
  first
    | exact wpAny_pure (wpAny_pure z)
    | (wp_walk; exact z)
theorem call_kw (F : ExcBaseFacts B newId initId bmB) (hT : ∀ X : String, bm.contains (.type X) = bmB.contains (.type X)) {rest : List Value} {kw : List (Str × Value)} {fI : Addr}
    (hC : h.get? C = some (excClassObj nm q C N bs bm hdct sn sub ab col dd k0 k1 k2 k3 k5 newId))
    (hi : W.Looks (model prog w) h (typeLookup (.ref C) "__init__") (some (.ref fI))) (hb : ∀ self, W.Looks (model prog w) h (bindSpecial (.ref fI) self) (.ref fI, [self])) (hrest : rest.length ≤ sizeLine)
    (hq : codeAny (model prog w) (A.under (.builtin "type.__call__" ⟨.ref C :: rest, kw⟩)) (.call (.ref fI) ⟨.ref (h.objs.size + 1) :: rest, kw⟩) (W.InitBack (h.objs.size + 1) R)
      ⟨(h.push (W.kdv_tup rest)).push (excO C h.objs.size), g, d, t, os⟩) :
    codeAny (model prog w) A (.call (.ref C) ⟨rest, kw⟩) R ⟨h, g, d, t, os⟩ := by
  have f1 := tc_lookup
  have f2 := tc_bind (.ref C)
  have hTy : (⟨h, g, d, t, os⟩ : Shared).TypeIs (.ref C) "type" := ⟨_, hC, rfl⟩
  refine codeAny_of_tree ?_
  show wpAny _ _ (callAny (.ref C) _) _ _ _
  repeat (any_goals (first | assumption | with_reducible refine wpAny_loadPart_at hC ?_ | wp_step))
  refine ⟨rfl, ?_⟩
  refine codeAny_call_builtin_at (Code.quiet_builtin _ (by decide +kernel)) entry_typeCall (wpAny_check_type_call_sub hC (type_call_kw F hT hC hi hb hrest ?_))
  refine codeAny_mono hq fun r s' z => ?_
  rcases r with e | (v | _ | _ | _) <;> exact z
end
end OwX
end PySem
namespace Ow
open PySem PySem.Spec PyProof.Rows L2 StX
section
variable {X : Cx} {CX : CXT} {x : Str} {C fI : Addr} {k n : Nat} {fd : FuncData} {ps ks : List Str} {sp : Sp} {ds : List Value} {dvs : List V} {E : XK} {p pos : Pos} {e : Expr} {es : List Expr} {kws : List Keyword} {ta tk : TA} {g : List Value → List Value → List Value} {gV : List V → List V → List V}
/-- C(e, ..): a new error, then its __init__; the error is the value -/
def tOex (C : Addr) (sp : Sp) (ta : TA) : TE := fun σ H Q => ta σ H fun vs H1 => vs.length ≤ 1000 ∧ ∀ a, H1 a = none → sp (.ref a :: vs) (upd H1 a (exo a C none)) (fun u H2 => u = .non ∧ Q (.ref a) H2) (fun _ _ _ => False)
theorem pe_oex (T : OexC X.K C) (iC : PySem.W.findIn X.K (.ref C) "__init__" = some (some (.ref fI))) (tI : PySem.W.typeIn X.K (.ref fI) = some (.type "function"))
    (F1 : FnR X.prog X.w X.K X.mg X.base CX (k + 1) fI sp) (hr : Room (k + 2) X.A) (hx : Passes CX X (fun _ _ _ => False)) (hg : Gl X x) (hm : X.mg x = some (.ref C)) (ha : PA X (e :: es) ta)
    (hdb : (x == ("__debug__" : Str)) = false := by decide) (he : starEach (e :: es) X.env = (false, eval e X.env) :: starEach es X.env := by rfl) (hpl : (backTo pos (starEach es X.env)).any (·.1) = false := by rfl) :
    PE X (.Call (.Name x p) (e :: es) [] pos) (tOex C sp ta) := by
  refine ⟨fun pins s σ H Q I h => ?_⟩
  obtain ⟨nm, q, N, bs, bm, sn, sub, ab, col, dd, k0, k1, k2, k3, k5, hC, hbm⟩ := T.cls
  refine wpAny_Call_Name_kw (ld_glob I hg hm ?_ hdb)
  refine PySem.W.callWith_K (h₀ := X.base) I.ok.mod.kin T.kC (thn (ha.run pos pins s σ H _ I h) fun us s1 ⟨vs, H1, I1, r1, hz, q1⟩ => ⟨I1.kIn, ?_⟩) he hpl
  show wpAny _ _ (call (.ref C) us) _ _ _
  obtain ⟨hp, g, dr, tk, os⟩ := s1
  have hsz : hp.objs.size ≤ hp.objs.size + 1 := Nat.le_succ _
  have hn : H1 (hp.objs.size + 1) = none := I1.hok.fresh hsz
  have hq := q1 (hp.objs.size + 1) hn
  have kk : ∀ b o, hp.get? b = some o → ((hp.push (PySem.W.kdv_tup us)).push (PySem.HandSPX.excO C hp.objs.size)).get? b = some o := fun b o e => Heap.get?_push_of_some _ (Heap.get?_push_of_some _ e)
  have hget : ((hp.push (PySem.W.kdv_tup us)).push (PySem.HandSPX.excO C hp.objs.size)).get? (hp.objs.size + 1) = some (PySem.HandSPX.excO C hp.objs.size) := by heap_get
  have I2 : Inv X pins σ (upd H1 (hp.objs.size + 1) (exo (hp.objs.size + 1) C none)) ⟨(hp.push (PySem.W.kdv_tup us)).push (PySem.HandSPX.excO C hp.objs.size), g, dr, tk, os⟩ :=
    I1.laid (t' := tk) (a := hp.objs.size + 1) (o := exo (hp.objs.size + 1) C none) (h' := (hp.push (PySem.W.kdv_tup us)).push (PySem.HandSPX.excO C hp.objs.size)) kk hsz (exo_ok hget)
  have r2 : Vals (V.ref (hp.objs.size + 1) :: vs) (Value.ref (hp.objs.size + 1) :: us) := .cons rfl r1
  have hus : us.length ≤ sizeLine := by
    rw [← Paired.length r1, sizeLine_eq]
    omega
  refine wpAny_call (PySem.HandSPX.call_own F.excBase_ValueError (fun Y => PySem.HandSPX.refsVE_contains Y bm hbm) (I1.kIn _ _ hC) (PySem.W.looks_findIn I1.kIn iC) (fun self => PySem.W.bind_fn I1.kIn self tI) hus
    (codeAny_mono (F1 _ X.stack _ _ (Value.ref (hp.objs.size + 1) :: us) _ _ (fun _ _ _ => False) (hr.make C us []) (I2.env0.make C us []) r2 hq) fun r s' hq' => ?_))
  cases r with
  | error er => exact hx pins σ _ _ er s' I2 hq'
  | ok fl =>
    cases fl with
    | ret u =>
      obtain ⟨v, H', I3, rv, ev, q3⟩ := I2.after hq'
      subst ev
      exact ⟨rv, V.ref (hp.objs.size + 1), H', I3, rfl, q3⟩
    | next => exact False.elim hq'
    | brk => exact False.elim hq'
    | cont => exact False.elim hq'
/-- C(k=e, ..): by keywords alone -/
def tOexK (C : Addr) (m : Nat) (gV : List V → List V → List V) (sp : Sp) (tk : TA) : TE := fun σ H Q => tk σ H fun zs H1 => zs.length = m ∧ ∀ a, H1 a = none → sp (gV [.ref a] zs) (upd H1 a (exo a C none)) (fun u H2 => u = .non ∧ Q (.ref a) H2) (fun _ _ _ => False)
theorem pe_oexK (T : OexC X.K C) (iC : PySem.W.findIn X.K (.ref C) "__init__" = some (some (.ref fI))) (tI : PySem.W.typeIn X.K (.ref fI) = some (.type "function"))
    (F1 : FnOk X.prog X.w X.K X.mg X.base CX k fI fd ps sp) (hr : Room (k + 1) X.A) (hb : KBn X.K fd ps 1 ks g gV) (hx : Passes CX X (fun _ _ _ => False)) (hg : Gl X x) (hm : X.mg x = some (.ref C)) (hkw : PK X kws tk)
    (hall : (backToKw pos (keywordEach kws X.env)).all (·.1.isSome) = true := by rfl) (hks : (backToKw pos (keywordEach kws X.env)).filterMap (·.1) = ks := by rfl) (hdb : (x == ("__debug__" : Str)) = false := by decide)
    (hpl : ((backTo pos (starEach [] X.env)).any (·.1) || (backToKw pos (keywordEach kws X.env)).any (·.1.isNone)) = false := by rfl) :
    PE X (.Call (.Name x p) [] kws pos) (tOexK C ks.length gV sp tk) := by
  refine ⟨fun pins s σ H Q I h => ?_⟩
  obtain ⟨nm, q, N, bs, bm, sn, sub, ab, col, dd, k0, k1, k2, k3, k5, hC, hbm⟩ := T.cls
  refine wpAny_Call_Name_kw (ld_glob I hg hm ?_ hdb)
  refine PySem.W.callWith_KW0 (h₀ := X.base) I.ok.mod.kin T.kC hall (thn (hkw.run pos pins s σ H _ I h) fun ws s1 ⟨zs, H1, I1, rz, l2, q1⟩ => ⟨I1.kIn, ?_⟩) hpl
  rw [hks]
  show wpAny _ _ (call (.ref C) [] (ks.zip ws)) _ _ _
  obtain ⟨hp, g0, dr, tk, os⟩ := s1
  have hsz : hp.objs.size ≤ hp.objs.size + 1 := Nat.le_succ _
  have hn : H1 (hp.objs.size + 1) = none := I1.hok.fresh hsz
  have hq := q1 (hp.objs.size + 1) hn
  have kk : ∀ b o, hp.get? b = some o → ((hp.push (PySem.W.kdv_tup [])).push (PySem.HandSPX.excO C hp.objs.size)).get? b = some o := fun b o e => Heap.get?_push_of_some _ (Heap.get?_push_of_some _ e)
  have hget : ((hp.push (PySem.W.kdv_tup [])).push (PySem.HandSPX.excO C hp.objs.size)).get? (hp.objs.size + 1) = some (PySem.HandSPX.excO C hp.objs.size) := by heap_get
  have I2 : Inv X pins σ (upd H1 (hp.objs.size + 1) (exo (hp.objs.size + 1) C none)) ⟨(hp.push (PySem.W.kdv_tup [])).push (PySem.HandSPX.excO C hp.objs.size), g0, dr, tk, os⟩ :=
    I1.laid (t' := tk) (a := hp.objs.size + 1) (o := exo (hp.objs.size + 1) C none) (h' := (hp.push (PySem.W.kdv_tup [])).push (PySem.HandSPX.excO C hp.objs.size)) kk hsz (exo_ok hget)
  have r1 : Vals [V.ref (hp.objs.size + 1)] [Value.ref (hp.objs.size + 1)] := .cons rfl .nil
  refine wpAny_call (PySem.OwX.call_kw F.excBase_ValueError (fun Y => PySem.HandSPX.refsVE_contains Y bm hbm) (I1.kIn _ _ hC) (PySem.W.looks_findIn I1.kIn iC) (fun self => PySem.W.bind_fn I1.kIn self tI) (Nat.zero_le _)
    (codeAny_mono (F1.run _ X.stack _ _ ⟨[Value.ref (hp.objs.size + 1)], ks.zip ws⟩ (g [Value.ref (hp.objs.size + 1)] ws) _ _ (fun _ _ _ => False) (hr.make C [] (ks.zip ws)) (I2.env0.make C [] (ks.zip ws)) (hb.to _ [Value.ref (hp.objs.size + 1)] ws I2.kIn rfl (rz.length.symm.trans l2)) (hb.rel r1 rz) hq) fun r s' hq' => ?_))
  cases r with
  | error er => exact hx pins σ _ _ er s' I2 hq'
  | ok fl =>
    cases fl with
    | ret u =>
      obtain ⟨v, H', I3, rv, ev, q3⟩ := I2.after hq'
      subst ev
      exact ⟨rv, V.ref (hp.objs.size + 1), H', I3, rfl, q3⟩
    | next => exact False.elim hq'
    | brk => exact False.elim hq'
    | cont => exact False.elim hq'
/-- o.f, o an own error that keeps fields -/
def tXfV (K : PySem.W.Frag) (n : Str) (te : TE) : TE := fun σ H Q => te σ H fun y H1 => ∃ (a C dd : Addr) (fs : List (Str × V)) (v : V), y = .ref a ∧ XfC K C ∧ PySem.W.findIn K (.ref C) n = some none ∧ H1 a = some (exo a C (some dd)) ∧ H1 dd = some (exd dd fs) ∧ fs.lookup n = some v ∧ Q v H1
theorem pe_xfV {te : TE} {n : Str} (he : PE X e te) (hb : attributeBase e n X.env (eval e X.env) = eval e X.env := by rfl) : PE X (.Attribute e n pos) (tXfV X.K n te) := by
  refine ⟨fun pins s σ H Q I h => ?_⟩
  refine attr_of hb (thn (he.run pins s σ H _ I h) fun u s1 hh => ?_)
  obtain ⟨y, H1, I1, ry, a, C, dd, fs, v, ey, T, hno, ea, ed, l, q⟩ := hh
  subst ey
  obtain rfl : u = Value.ref a := ry
  obtain ⟨t1, ha⟩ := exo_at I1.hok ea
  obtain ⟨mA, hns, hr⟩ := exd_at I1.hok ed
  obtain ⟨od, ho, hl⟩ := lookIn_ns hns
  obtain ⟨u, hu, ru⟩ := RelO.some_of (v := v) (o := mA n) (by rw [← l]; exact hr n)
  have J : PySem.W.InstAt s1.heap a _ C (some od) := ⟨ha, rfl, rfl, ho⟩
  exact HandSPX.exc_get I1.kIn J T.ga T.gg T.exC (PySem.W.findObj_own T.hdC hno rfl (by rw [hl, hu])) (handed_of ru) ⟨v, H1, I1.tok _, ru, q⟩
/-- isinstance(o, T), o an own error with or without fields -/
def rIsXV (K : PySem.W.Frag) : List V → Hp → VK → Prop := fun xs H Q => ∃ (a C : Addr) (d : Option Addr) (c : V) (cv : Value) (b : Bool), xs = [.ref a, c] ∧ H a = some (exo a C d) ∧ (∀ dd, d = some dd → ∃ fs, H dd = some (exd dd fs)) ∧ ExcC K C ∧ (PySem.W.clsIn K C).isSome = true ∧ (∀ u, RelV c u → u = cv) ∧ PySem.W.kitOne K (.ref C) cv = some b ∧ Q (.bl b) H
theorem call_isXV : CallR X (.builtin "isinstance") (rIsXV X.K) := by
  intro pins s σ H xs us Q I r h
  obtain ⟨a, C, d, c, cv, b, rfl, ea, ed, T, hci, hcv, hk, q⟩ := h
  cases r with
  | cons rx r2 =>
    cases r2 with
    | cons rc r3 =>
      cases r3
      cases rx
      cases hcv _ rc
      obtain ⟨t1, ha⟩ := exo_at I.hok ea
      have J : ∃ od, PySem.W.InstAt s.heap a ({ cls := .ref C, dict := d, data := .fields #[.ref t1, .none, .none, .none, .bool false, .none] } : Obj) C od := by
        cases d with
        | none => exact ⟨none, ha, rfl, rfl, True.intro⟩
        | some dd =>
          obtain ⟨fs, hd⟩ := ed dd rfl
          obtain ⟨mA, hns, hr⟩ := exd_at I.hok hd
          obtain ⟨od, ho, hl⟩ := lookIn_ns hns
          exact ⟨some od, ha, rfl, rfl, ho⟩
      obtain ⟨od, J⟩ := J
      refine PySem.W.kia_one (PySem.W.kitx_exc (x := a) (od := od) hci T.hg T.hk T.hs T.ha T.hn T.ht T.hm) I.kIn J hk (fun z => by cases z) fun tk => ?_
      exact ⟨.bl b, H, I.kept fun _ _ e => e, rfl, q⟩
end
end Ow
end
section
set_option maxHeartbeats 4000000
/-! repr of data with dicts, where the table of modules is known to stand. -/
namespace Ow
open PySem PySem.Spec PyProof.Rows L2 StX
def keyD : Key → PyData
  | .inl i => .int i
  | .inr x => .str x
mutual
inductive Dq (K : PySem.W.Frag) (H : Hp) : V → PyData → Prop
  | non : Dq K H .non .none
  | bl (b : Bool) : Dq K H (.bl b) (.bool b)
  | int (i : Int) : Dq K H (.int i) (.int i)
  | str (x : Str) : Dq K H (.str x) (.str x)
  | lst {a : Addr} {xs : List V} {ds : List PyData} : SqL K H a xs → DqAll K H xs ds → Dq K H (.ref a) (.list ds)
  | tup {a : Addr} {xs : List V} {ds : List PyData} : SqT K H a xs → DqAll K H xs ds → Dq K H (.ref a) (.tuple ds)
  | dic {a : Addr} {kvs : List (Key × V)} {ds : List (PyData × PyData)} : H a = some (.dK kvs) → DqPs K H kvs ds → Dq K H (.ref a) (.dict ds)
inductive DqAll (K : PySem.W.Frag) (H : Hp) : List V → List PyData → Prop
  | nil : DqAll K H [] []
  | cons {v : V} {vs : List V} {d : PyData} {ds : List PyData} : Dq K H v d → DqAll K H vs ds → DqAll K H (v :: vs) (d :: ds)
inductive DqPs (K : PySem.W.Frag) (H : Hp) : List (Key × V) → List (PyData × PyData) → Prop
  | nil : DqPs K H [] []
  | cons {k : Key} {v : V} {vs : List (Key × V)} {d : PyData} {ds : List (PyData × PyData)} : Dq K H v d → DqPs K H vs ds → DqPs K H ((k, v) :: vs) ((keyD k, d) :: ds)
end
/-- the table of modules stands in the base -/
def SysB (base : Heap) : Prop := ∃ m, base.Ns sysModules m
section
variable {X : Cx} {pins : List (Addr × Obj)} {σ : L2.St} {H : Hp} {s : Shared}
theorem SysB.lst {a : Addr} {its : Array Value} {n : Nat} {o : Obj} (S : SysB X.base) (I : Inv X pins σ H s) (h : s.heap.get? a = some o) (hd : o.data = .seq its n) : sysModules ≠ a := fun e => by
  obtain ⟨m, ob, es, ep, e1, e2, _⟩ := S
  have z := (I.env0.bs _ _ e1).1
  rw [e, h] at z
  cases z
  rw [hd] at e2
  cases e2
theorem key_reads {h : Heap} {k : Key} {v : Value} (e : keyIs k v = true) : Reads h v (keyD k) [] := by
  rcases keyIs_shape e with ⟨i, t, rfl, rfl⟩ | ⟨x, t, rfl, rfl⟩
  · exact Reads.int i t
  · exact Reads.str x t
mutual
theorem Dq.reads (I : Inv X pins σ H s) : ∀ (d : PyData) (v : V) (u : Value), Dq X.K H v d → RelV v u → ∃ as, Reads s.heap u d as ∧ (SysB X.base → sysModules ∉ as)
  | .none, _, _, h, r => by
    cases h
    cases r
    exact ⟨_, Reads.none, fun _ => List.not_mem_nil⟩
  | .bool b, _, _, h, r => by
    cases h
    cases r
    exact ⟨_, Reads.bool b, fun _ => List.not_mem_nil⟩
  | .int i, _, _, h, r => by
    cases h
    obtain ⟨t, rfl⟩ := r
    exact ⟨_, Reads.int i t, fun _ => List.not_mem_nil⟩
  | .str x, _, _, h, r => by
    cases h
    obtain ⟨t, rfl⟩ := r
    exact ⟨_, Reads.str x t, fun _ => List.not_mem_nil⟩
  | .list ds, _, _, h, r => by
    cases h with
    | lst hs ha =>
      cases r
      obtain ⟨its, rv, ⟨o, n, ho, hc, _, hd⟩, _⟩ := I.list hs
      obtain ⟨as, hr, hq⟩ := Dq.readsAll I ds _ its ha rv
      exact ⟨_, Reads.list ho hc hd hr, fun S z => by
        rcases List.mem_cons.mp z with e | e
        · exact S.lst I ho hd e
        · exact hq S e⟩
  | .tuple ds, _, _, h, r => by
    cases h with
    | tup hs ha =>
      cases r
      obtain ⟨its, rv, ⟨o, ho, hc, n, hd⟩, _⟩ := I.tuple hs
      obtain ⟨as, hr, hq⟩ := Dq.readsAll I ds _ its ha rv
      exact ⟨_, Reads.tuple ho hc hd hr, hq⟩
  | .dict ds, _, _, h, r => by
    cases h with
    | dic hs ha =>
      cases r
      obtain ⟨hlen, ns, vs, rv, o, es, ep, ho, hc, hd, _, hp, _⟩ := I.hok _ _ hs
      obtain ⟨as, bs, h1, h2, h3⟩ := Dq.readsPs I ds _ vs es.toList ha rv hp
      refine ⟨_, Reads.dict ho hc.1 hd h1 h2, fun S z => ?_⟩
      rcases List.mem_append.mp z with e | e
      · rcases List.mem_cons.mp e with e | e
        · rw [← e] at ns
          exact absurd ns (by decide)
        · exact (h3 S).1 e
      · exact (h3 S).2 e
theorem Dq.readsAll (I : Inv X pins σ H s) : ∀ (ds : List PyData) (vs : List V) (us : List Value), DqAll X.K H vs ds → Vals vs us → ∃ as, ReadsAll s.heap us ds as ∧ (SysB X.base → sysModules ∉ as)
  | [], _, _, h, r => by
    cases h
    cases r
    exact ⟨_, ReadsAll.nil, fun _ => List.not_mem_nil⟩
  | d :: ds, _, _, h, r => by
    cases h with
    | cons h1 h2 =>
      cases r with
      | cons r1 r2 =>
        obtain ⟨as, q1, s1⟩ := Dq.reads I d _ _ h1 r1
        obtain ⟨bs, q2, s2⟩ := Dq.readsAll I ds _ _ h2 r2
        exact ⟨_, ReadsAll.cons q1 q2, fun S z => (List.mem_append.mp z).elim (s1 S) (s2 S)⟩
theorem Dq.readsPs (I : Inv X pins σ H s) : ∀ (ds : List (PyData × PyData)) (kvs : List (Key × V)) (vs : List (Key × Value)) (es : List DictEntry), DqPs X.K H kvs ds → KV kvs vs → Pairs (mixKind X.prog X.w) es vs →
    ∃ as bs, ReadsAll s.heap (es.map (·.key)) (ds.map (·.1)) as ∧ ReadsAll s.heap (es.map (·.val)) (ds.map (·.2)) bs ∧ (SysB X.base → sysModules ∉ as ∧ sysModules ∉ bs)
  | [], _, _, _, h, r, p => by
    cases h
    cases r
    cases p
    exact ⟨_, _, ReadsAll.nil, ReadsAll.nil, fun _ => ⟨List.not_mem_nil, List.not_mem_nil⟩⟩
  | (kd, d) :: ds, _, _, _, h, r, p => by
    cases h with
    | cons h1 h2 =>
      cases r with
      | cons r1 r2 =>
        cases p with
        | cons p1 p2 p3 =>
          obtain ⟨e1, rv⟩ := r1
          obtain ⟨bs, q2, s2⟩ := Dq.reads I d _ _ h1 rv
          obtain ⟨as', bs', q3, q4, s3⟩ := Dq.readsPs I ds _ _ _ h2 r2 p3
          subst e1
          rw [← p2] at q2
          refine ⟨_, _, ReadsAll.cons (key_reads p1) q3, ReadsAll.cons q2 q4, fun S => ⟨?_, fun z => ?_⟩⟩
          · exact (s3 S).1
          · exact (List.mem_append.mp z).elim (s2 S) (s3 S).2
end
end
section
variable {X : Cx} {CX : CXT} {n : Nat} {sp : Sp} {E : XK}
/-- repr of data, dicts too: its text -/
def rReprQ (K : PySem.W.Frag) : List V → Hp → VK → Prop := fun xs H Q => ∃ (x : V) (d : PyData), xs = [x] ∧ Dq K H x d ∧ d.showable = true ∧ d.depth ≤ 8 ∧ d.shown.length ≤ sizeLine ∧ Q (.str d.shown) H
theorem call_reprQ (sb : SysB X.base) (gd : X.A.guards = some []) (hu : X.A.units + 64 < cLine) : CallR X (.builtin "repr") (rReprQ X.K) := by
  intro pins s σ H xs us Q I r h
  obtain ⟨x, d, rfl, hd, hs, hdp, hsz, q⟩ := h
  obtain ⟨u, rfl, ru⟩ := vals1 r
  have fin : ∀ (h' : Heap) (tk : Nat) (u : Tok), (∀ b o, s.heap.get? b = some o → h'.get? b = some o) → EP X pins σ Q (.str d.shown u) { s with heap := h', toks := tk } := fun h' tk u k => ⟨.str d.shown, H, I.kept (t' := tk) k, ⟨u, rfl⟩, q⟩
  obtain ⟨as, rd, ns⟩ := Dq.reads I _ _ _ hd ru
  cases hd with
  | non => cases ru; exact PySem.P.repr_of_none (fin s.heap _ _ fun _ _ e => e)
  | bl b => cases ru; exact PySem.P.repr_of_bool (by cases b <;> exact fin s.heap _ _ fun _ _ e => e)
  | int i =>
    obtain ⟨t, rfl⟩ := ru
    have hi : i.natAbs.log2 < 1920 := of_decide_eq_true hs
    exact PySem.P.repr_of_int hi (fin s.heap _ _ fun _ _ e => e)
  | str z => obtain ⟨t, rfl⟩ := ru; exact PySem.P.repr_of_str (fin s.heap _ _ fun _ _ e => e) hsz
  | lst hq ha =>
    cases ru
    exact repr_of_reads' rd hs (fun _ => ns sb) gd (by omega) (fun _ _ e => e) (fun h' u tk k => fin h' tk u k) hsz
  | tup hq ha =>
    cases ru
    exact repr_of_reads' rd hs (fun _ => ns sb) gd (by omega) (fun _ _ e => e) (fun h' u tk k => fin h' tk u k) hsz
  | dic hq ha =>
    cases ru
    exact repr_of_reads' rd hs (fun _ => ns sb) gd (by omega) (fun _ _ e => e) (fun h' u tk k => fin h' tk u k) hsz
end
end Ow
end
section
set_option maxHeartbeats 4000000
namespace Ow
open PySem PySem.Spec PyProof.Rows L2 StX
/-! ### the end of a law whose def wants to know that nothing is being shown -/
section
variable {P : Program} {w : World} {K : PySem.W.Frag} {mg mb : Str → Option Value} {k : Nat} {fa a : Addr} {sp : Sp} {s1 : Shared} {vs : List Value} {ns : List Int}
/-- the call, from one abstract heap that tracks the script alone, or nothing -/
theorem end_fromB (KX : K.In s1.heap) (hns : s1.heap.Ns mainGlobals mg) (hb : s1.heap.Ns builtinsNs mb) (hbb : ∀ x : Str, x ≠ "__name__" → mb x = bootBuiltins x) (hlim : s1.heap.NoLimit) (hsy : SysB s1.heap) (hg : s1.gens = #[]) (hr : Room k callerA)
    (F : ∀ base : Heap, K.In base → base.Ns mainGlobals mg → SysB base → FnG P w K mg base CX0 k fa sp) {H : Hp} (hO : Only H) (hok : HOk P w H s1.heap) (dom : ∀ b u, H b = some u → K.lookup b = none ∧ ∃ o items n, s1.heap.get? b = some o ∧ o.data = .seq items n)
    (hsp : sp [.ref a] H (fun v _ => v = .bl true) fun _ _ _ => False) :
    codeAny (model P w) callerA (.call (.ref fa) ⟨[.ref a], []⟩) (fun r s' => r = .ok (.ret (.bool true)) ∧ OldK s1.heap s'.heap ∧ s'.os = s1.os ∧ AllBare s'.gens) s1 := by
  let base := hidT s1.heap H
  have dicts : ∀ {b : Addr} {o : Obj} {es : Array DictEntry} {ep : Nat}, s1.heap.get? b = some o → o.data = .dict es ep → base.get? b = some o := fun {b o es ep} e d => by
    refine hidT_get e ?_
    cases q : H b with
    | none => rfl
    | some u =>
      obtain ⟨_, o2, items, n, e2, d2⟩ := dom b u q
      rw [e2] at e
      cases e
      rw [d2] at d
      cases d
  have names : ∀ {b : Addr} {m : Str → Option Value}, s1.heap.Ns b m → base.Ns b m := fun z => by
    obtain ⟨o, es, ep, e, d, r⟩ := z
    exact ⟨o, es, ep, dicts e d, d, r⟩
  have hK : K.In base := fun b o e => by
    refine hidT_get (KX b o e) ?_
    cases q : H b with
    | none => rfl
    | some u =>
      have z := (dom b u q).1
      rw [e] at z
      cases z
  have lim : base.NoLimit := by
    obtain ⟨m, h1, h2⟩ := hlim
    exact ⟨m, names h1, h2⟩
  have e0 : Env0 P w K mg base callerA [] s1 H :=
    { frames := rfl, mod := ⟨hK, names hns, ⟨mb, names hb, hbb⟩, lim⟩, bs := fun b o e => of_hidT e, bsz := Nat.le_of_eq (hidT_size _ _), funs := trivial, frf := fun b hb => (List.not_mem_nil hb).elim, hok := hok, bare := .of_eq hg }
  refine codeAny_mono (F base hK (names hns) (let ⟨m, z⟩ := hsy; ⟨m, names z⟩) callerA [] s1 H [.ref a] [.ref a] _ _ hr rfl e0 (.cons rfl .nil) hsp) fun r s' h => ?_
  cases r with
  | error e => exact False.elim h
  | ok fl =>
    cases fl with
    | ret u =>
      obtain ⟨v, H2, os, bare, un, ok2, rv, q⟩ := h
      subst q
      cases rv
      refine ⟨rfl, OldK.of_keep fun b o e => ?_, os, bare⟩
      cases q : H b with
      | none => exact un.keep b o e q (fun z => List.not_mem_nil z) (fun z => List.not_mem_nil z)
      | some u =>
        rcases hO b with z | ⟨ob, xs, z⟩
        · rw [q] at z
          cases z
        · have e1 := (hok b _ z).1
          have e2 := (ok2 b _ (un.frzs b ob _ z)).1
          rw [e] at e1
          cases e1
          exact e2
    | next => exact False.elim h
    | brk => exact False.elim h
    | cont => exact False.elim h
theorem end_callGB (KX : K.In s1.heap) (hns : s1.heap.Ns mainGlobals mg) (hb : s1.heap.Ns builtinsNs mb) (hbb : ∀ x : Str, x ≠ "__name__" → mb x = bootBuiltins x) (hlim : s1.heap.NoLimit) (hsy : SysB s1.heap) (hg : s1.gens = #[]) (hr : Room k callerA)
    (ha : s1.heap.get? a = some { cls := .type "list", data := .seq vs.toArray }) (hi : IntsAre vs ns) (hl : ns.length ≤ sizeLine) (F : ∀ base : Heap, K.In base → base.Ns mainGlobals mg → SysB base → FnG P w K mg base CX0 k fa sp)
    (hsp : ∀ H : Hp, Only H → SqL K H a (ns.map V.int) → sp [.ref a] H (fun v _ => v = .bl true) fun _ _ _ => False) :
    codeAny (model P w) callerA (.call (.ref fa) ⟨[.ref a], []⟩) (fun r s' => r = .ok (.ret (.bool true)) ∧ OldK s1.heap s'.heap ∧ s'.os = s1.os ∧ AllBare s'.gens) s1 := by
  have rv := vals_ints hi
  have hl2 : (ns.map V.int).length ≤ sizeLine := by rw [List.length_map]; exact hl
  cases hk : K.lookup a with
  | some o =>
    have e := KX a o hk
    rw [ha] at e
    cases e
    refine end_fromB KX hns hb hbb hlim hsy hg hr F (H := fun _ => none) (fun _ => .inl rfl) (fun b u z => by cases z) (fun b u z => by cases z) (hsp _ (fun _ => .inl rfl) ?_)
    exact .inr ⟨_, vs.toArray, _, hk, rfl, rfl, rfl, by rw [List.size_toArray, hi.length]; exact hl, by simpa using rv⟩
  | none =>
    let o : Obj := { cls := .type "list", data := .seq vs.toArray }
    let H : Hp := fun b => if b = a then some (.frz o (.lst (ns.map V.int))) else none
    have H1 : H a = some (.frz o (.lst (ns.map V.int))) := if_pos rfl
    have H0 : ∀ b u, H b = some u → b = a ∧ u = .frz o (.lst (ns.map V.int)) := fun b u z => by
      by_cases e : b = a
      · subst e
        rw [H1] at z
        cases z
        exact ⟨rfl, rfl⟩
      · have z0 : H b = none := if_neg e
        rw [z0] at z
        cases z
    have hO : Only H := fun b => by
      by_cases e : b = a
      · subst e; exact .inr ⟨_, _, H1⟩
      · exact .inl (if_neg e)
    refine end_fromB KX hns hb hbb hlim hsy hg hr F (H := H) hO (fun b u z => ?_) (fun b u z => ?_) (hsp _ hO (.inl (.inr ⟨_, H1⟩)))
    · obtain ⟨rfl, rfl⟩ := H0 b u z
      exact ⟨ha, hl2, vs, _, rv, ha⟩
    · obtain ⟨rfl, rfl⟩ := H0 b u z
      exact ⟨hk, _, _, _, ha, rfl⟩
end
theorem walk_ofGB {l : PySem.W.OpenLaw} {n k : Nat} {q : Program} {loose : List Str} {XP : (Str → Option Value) → Heap → Prop} {YP : World → Heap → Prop} {d : DefRec} {K : Params → PySem.W.Frag} {sp : World → Sp}
    (hi : importsNone q = true) (hn : l.most = some n) (hn2 : n ≤ sizeLine) (hdf : d.params.defaults = []) (hr : Room k callerA) (hY : ∀ (w : World) (h : Heap), YP w h → (K w.params).In h)
    (F : ∀ (w : World) (mg : Str → Option Value) (fa : Addr) (h : Heap), (K w.params).In h → h.Ns mainGlobals mg → mg d.name = some (.ref fa) →
      ∀ base : Heap, (K w.params).In base → base.Ns mainGlobals mg → SysB base → FnG l.prog w (K w.params) mg base CX0 k fa (sp w))
    (hsp : ∀ (w : World) (H : Hp) (a : Addr) (ns : List Int), ns.length ≤ n → Only H → SqL (K w.params) H a (ns.map V.int) → sp w [.ref a] H (fun v _ => v = .bl true) fun _ _ _ => False) :
    PySem.W.WalkO q loose XP YP l.row.toRowW d [] (fun f vs => PySem.call f vs) := by
  refine Att.attach_call hn hdf fun w s0 s1 mg mb fa o pm cd doc a vs ns G Y ho hd hcd hmg hobj hints hlen hg => ?_
  have KX := hY w _ Y
  exact end_callGB KX G.T.g G.T.b G.T.builtins G.T.nolimit (let ⟨m, z, _⟩ := (G.T.seer hi).mods; ⟨m, z⟩) hg hr hobj hints (Nat.le_trans hlen hn2) (F w mg fa _ KX G.T.g hmg) fun H hO hS => hsp w H a ns hlen hO hS
end Ow
end
section
set_option maxHeartbeats 4000000
/-! Own errors as values: what holds of one, classes told by the order of their bases, readings of the makings. -/
namespace Ow
open PySem PySem.Spec PyProof.Rows L2 StX
/-- the class's order of bases: itself, the package's base, ValueError, .. -/
def mroE (K : PySem.W.Frag) (C B : Addr) : Bool := match PySem.W.clsIn K C with
  | some cd => cd.mro == [.ref C, .ref B, .type "ValueError", .type "Exception", .type "BaseException", .type "object"]
  | none => false
theorem mroE_mk {K : PySem.W.Frag} {C B : Addr} {cd : PySem.ClassData} (h : PySem.W.clsIn K C = some cd) (m : (cd.mro == [.ref C, .ref B, .type "ValueError", .type "Exception", .type "BaseException", .type "object"]) = true) : mroE K C B = true := by
  unfold mroE
  rw [h]
  exact m
theorem mroE_sub {K : PySem.W.Frag} {C B : Addr} (h : mroE K C B = true) (t : Value) : PySem.W.subIn K (.ref C) t = some (([.ref C, .ref B, .type "ValueError", .type "Exception", .type "BaseException", .type "object"] : List Value).contains t) := by
  unfold mroE at h
  show PySem.W.mroIn K C t = _
  unfold PySem.W.mroIn
  cases e : PySem.W.clsIn K C with
  | none => rw [e] at h; cases h
  | some cd =>
    rw [e] at h
    have q := beq_iff_eq.mp h
    show (if cd.mro.isEmpty then none else some (cd.mro.contains t)) = _
    rw [q]
    rfl
theorem mroE_some {K : PySem.W.Frag} {C B : Addr} (h : mroE K C B = true) : (PySem.W.clsIn K C).isSome = true := by
  unfold mroE at h
  cases e : PySem.W.clsIn K C with
  | none => rw [e] at h; cases h
  | some cd => rfl
/-- isinstance of an own error: its class, the base, a class beside it, ValueError -/
theorem kitE {K : PySem.W.Frag} {C B D : Addr} (h : mroE K C B = true) (i : (PySem.W.clsIn K D).isSome = true) (t : PySem.W.typeIn K (.ref D) = Option.some (.type "type")) (ne : D ≠ C) (nb : D ≠ B) : PySem.W.kitOne K (.ref C) (.ref D) = Option.some false := by
  refine kit_err i t ?_ (beq_eq_false_iff_ne.mpr fun z => ne (by cases z; rfl))
  rw [mroE_sub h]
  simp [ne, nb]
theorem kitEB {K : PySem.W.Frag} {C B : Addr} (h : mroE K C B = true) (i : (PySem.W.clsIn K B).isSome = true) (t : PySem.W.typeIn K (.ref B) = Option.some (.type "type")) (ne : C ≠ B) : PySem.W.kitOne K (.ref C) (.ref B) = Option.some true := by
  refine kit_err i t ?_ (beq_eq_false_iff_ne.mpr fun z => ne (by cases z; rfl))
  rw [mroE_sub h]
  simp
theorem kitEV {K : PySem.W.Frag} {C B : Addr} (h : mroE K C B = true) : PySem.W.kitOne K (.ref C) (.type "ValueError") = Option.some true := by
  unfold PySem.W.kitOne
  rw [if_neg (by simp)]
  show PySem.W.subIn K (.ref C) (.type "ValueError") = _
  rw [mroE_sub h]
  simp
/-- an own error with these fields -/
def EO (H : Hp) (e C : Addr) (fs : List (Str × V)) : Prop := ∃ d, H e = some (exo e C (some d)) ∧ H d = some (exd d fs)
theorem EO.same {H H' : Hp} {e C : Addr} {fs : List (Str × V)} (x : EO H e C fs) (s : ∀ b o, H b = some o → H' b = some o) : EO H' e C fs := by
  obtain ⟨d, h1, h2⟩ := x
  exact ⟨d, s _ _ h1, s _ _ h2⟩
theorem made_keeps {H : Hp} {e d : Addr} {C : Addr} {fs : List (Str × V)} (ha : H e = none) (hd : H d = none) (ne : d ≠ e) :
    (∀ b o, H b = some o → upd (upd (upd H e (exo e C none)) d (exd d fs)) e (exo e C (some d)) b = some o) ∧ EO (upd (upd (upd H e (exo e C none)) d (exd d fs)) e (exo e C (some d))) e C fs := by
  refine ⟨fun b o q => ?_, d, upd_same, by rw [upd_ne ne]; exact upd_same⟩
  have n1 : b ≠ e := ne_of_none q ha
  have n2 : b ≠ d := ne_of_none q hd
  rw [upd_ne n1, upd_ne n2, upd_ne n1]
  exact q
section
variable {H : Hp} {C : Addr} {n m : Str} {v u : V} {Q : VK}
theorem oex1 (k : ∀ (e : Addr) (H' : Hp), (∀ b o, H b = some o → H' b = some o) → EO H' e C [(n, v)] → Q (.ref e) H') :
    [v].length ≤ 1000 ∧ ∀ a, H a = none → spErr1 C n (.ref a :: [v]) (upd H a (exo a C none)) (fun z H2 => z = .non ∧ Q (.ref a) H2) (fun _ _ _ => False) := by
  refine ⟨Nat.le_of_ble_eq_true rfl, fun a ha => ⟨a, v, rfl, upd_same, fun d hd ne => ⟨rfl, ?_⟩⟩⟩
  rw [upd_ne ne] at hd
  exact k a _ (made_keeps ha hd ne).1 (made_keeps ha hd ne).2
theorem oex2 (k : ∀ (e : Addr) (H' : Hp), (∀ b o, H b = some o → H' b = some o) → EO H' e C [(m, u), (n, v)] → Q (.ref e) H') :
    [v, u].length ≤ 1000 ∧ ∀ a, H a = none → spErr2 C n m (.ref a :: [v, u]) (upd H a (exo a C none)) (fun z H2 => z = .non ∧ Q (.ref a) H2) (fun _ _ _ => False) := by
  refine ⟨Nat.le_of_ble_eq_true rfl, fun a ha => ⟨a, v, u, rfl, upd_same, fun d hd ne => ⟨rfl, ?_⟩⟩⟩
  rw [upd_ne ne] at hd
  exact k a _ (made_keeps ha hd ne).1 (made_keeps ha hd ne).2
/-- by keywords, the other way round -/
theorem oexK2 {gV : List V → List V → List V} (hg : ∀ a, gV [V.ref a] [u, v] = [.ref a, v, u]) (k : ∀ (e : Addr) (H' : Hp), (∀ b o, H b = some o → H' b = some o) → EO H' e C [(m, u), (n, v)] → Q (.ref e) H') :
    [u, v].length = 2 ∧ ∀ a, H a = none → spErr2 C n m (gV [.ref a] [u, v]) (upd H a (exo a C none)) (fun z H2 => z = .non ∧ Q (.ref a) H2) (fun _ _ _ => False) := by
  refine ⟨rfl, fun a ha => ?_⟩
  rw [hg]
  exact (oex2 k).2 a ha
end
end Ow
end
section
set_option maxHeartbeats 4000000
/-! An own error without a def of its own, made of nothing, as a value. -/
namespace Ow
open PySem PySem.Spec PyProof.Rows L2 StX
theorem pe_exc0 {X : Cx} {C : Addr} {bmB : List Value} {B newId initId : String} {x : Str} {p pos : Pos} (F : ExcBaseFacts B newId initId bmB) (q : PySem.W.excIn X.K C bmB newId = true) (gC : X.mg x = some (.ref C)) (kC : PySem.W.keepIn X.K (.ref C) = true) (hg : Gl X x)
    (hdb : (x == ("__debug__" : Str)) = false := by decide) : PE X (.Call (.Name x p) [] [] pos) (fun σ H Q => ∀ a, H a = none → Q (.ref a) (upd H a (exo a C none))) := by
  refine ⟨fun pins s σ H Q I h => ?_⟩
  refine wpAny_Call_Name_kw (ld_glob I hg gC ?_ hdb)
  refine PySem.W.callWith_K0 I.kIn kC ?_
  obtain ⟨bm, N, nm, qn, bs, hdct, sn, sub, ab, col, dd, k0, k1, k2, k3, k5, mN, hC, hN, hni, T⟩ := exc_obj I.kIn q
  obtain ⟨hp, g, dr, tk, os⟩ := s
  refine wpAny_call_exc_subT F T hC hN hni (fun h' a hm => ?_) (by show 0 ≤ sizeLine; exact Nat.zero_le _)
  have hn : H a = none := I.hok.gone hm.new
  obtain ⟨t, ht, _, _⟩ := hm.there
  exact ⟨.ref a, upd H a (exo a C none), I.laidN hm.keeps hm.new hn (exo_ok ht), rfl, h a hn⟩
end Ow
end
section
set_option maxHeartbeats 4000000
/-! New objects and comprehensions said once more, so that what is wanted behind them can be read off (the readings unfolded by simp). -/
namespace Ow
open PySem PySem.Spec PyProof.Rows L2 StX
/-- p is a new object o, all else stays -/
structure Fresh (H H' : Hp) (p : Addr) (o : HO) : Prop where
  same : Same H H'
  at_ : H' p = some o
  new : H p = none
theorem Fresh.get {H H' : Hp} {p : Addr} {o : HO} (f : Fresh H H' p o) {b : Addr} {u : HO} (h : H b = some u) : H' b = some u := f.same _ _ h
theorem Fresh.ne {H H' : Hp} {p : Addr} {o : HO} (f : Fresh H H' p o) {b : Addr} {u : HO} (h : H b = some u) : b ≠ p := fun e => by
  rw [e, f.new] at h
  cases h
def kN (o : HO) (Q : VK) : Hp → Prop := fun H => ∀ p, H p = none → Q (.ref p) (upd H p o)
def kNew (f : List V → HO) (Q : VK) : List V → Hp → Prop := fun xs H => xs.length ≤ sizeLine ∧ kN (f xs) Q H
theorem fresh_upd {H : Hp} {p : Addr} {o : HO} (h : H p = none) : Fresh H (upd H p o) p o := ⟨fun b u e => by rw [upd_ne (ne_of_none e h)]; exact e, upd_same, h⟩
theorem kN.mk {o : HO} {Q : VK} {H : Hp} (k : ∀ p H', Fresh H H' p o → Q (.ref p) H') : kN o Q H := fun p h => k p _ (fresh_upd h)
theorem kNew.mk {f : List V → HO} {Q : VK} {xs : List V} {H : Hp} (hs : xs.length ≤ sizeLine) (k : ∀ p H', Fresh H H' p (f xs) → Q (.ref p) H') : kNew f Q xs H := ⟨hs, kN.mk k⟩
theorem tLst_k (t : TA) : tLst t = fun σ H Q => t σ H (kNew .lst Q) := rfl
theorem tTup_k (t : TA) : tTup t = fun σ H Q => t σ H (kNew .tup Q) := rfl
theorem rNewStrs_k (ys : List Str) : rNewStrs ys = fun H Q => kN (.lst (ys.map V.str)) Q H := rfl
theorem rCat_k : rCat = fun x y H Q => ∃ l b xs zs, x = .ref l ∧ y = .ref b ∧ H l = some (.lst xs) ∧ H b = some (.lst zs) ∧ xs.length + zs.length ≤ sizeLine ∧ kN (.lst (xs ++ zs)) Q H := rfl
theorem rRep_k : rRep = fun x y H Q => ∃ l k xs, x = .ref l ∧ y = .int k ∧ H l = some (.lst xs) ∧ -(2 ^ 63) ≤ k ∧ k < 2 ^ 63 ∧ xs.length * k.toNat ≤ sizeLine ∧ kN (.lst (List.replicate k.toNat xs).flatten) Q H := rfl
theorem rSlL_k (K : PySem.W.Frag) : rSlL K = fun x lo hi H Q => ∃ a xs, x = .ref a ∧ SqL K H a xs ∧ kN (.lst (cutV xs lo hi)) Q H := rfl
/-- a list is changed -/
def kPut (l : Addr) (o : HO) (Q : VK) : Hp → Prop := fun H => Q .non (upd H l o)
structure Put (H H' : Hp) (l : Addr) (o : HO) : Prop where
  at_ : H' l = some o
  else_ : ∀ b, b ≠ l → H' b = H b
theorem kPut.mk {l : Addr} {o : HO} {Q : VK} {H : Hp} (k : ∀ H', Put H H' l o → Q .non H') : kPut l o Q H := k _ ⟨upd_same, fun b n => upd_ne n⟩
theorem Put.get {H H' : Hp} {l : Addr} {o : HO} (f : Put H H' l o) {b : Addr} {u : HO} (n : b ≠ l) (h : H b = some u) : H' b = some u := (f.else_ b n).trans h
theorem rAppend_k : rAppend = fun x vs H Q => ∃ l xs y, x = .ref l ∧ vs = [y] ∧ H l = some (.lst xs) ∧ xs.length < sizeLine ∧ kPut l (.lst (xs ++ [y])) Q H := rfl
section
variable {X : Cx}
def rListOf (K : PySem.W.Frag) : List V → Hp → VK → Prop := fun xs H Q => ∃ p ys, xs = [.ref p] ∧ (SqL K H p ys ∨ SqT K H p ys) ∧ kN (.lst ys) Q H
theorem call_listK : CallR X (.type "list") (rListOf X.K) := call_list_of
def rTupOf (K : PySem.W.Frag) : List V → Hp → VK → Prop := fun xs H Q => ∃ p ys, xs = [.ref p] ∧ ((SqL K H p ys ∧ kN (.tup ys) Q H) ∨ (SqT K H p ys ∧ Q (.ref p) H))
theorem call_tupleK : CallR X (.type "tuple") (rTupOf X.K) := call_tuple_of
def rLenSeq (K : PySem.W.Frag) : List V → Hp → VK → Prop := fun xs H Q => ∃ p ys, xs = [.ref p] ∧ (SqL K H p ys ∨ SqT K H p ys) ∧ Q (.int ys.length) H
theorem call_lenK : CallR X (.builtin "len") (rLenSeq X.K) := call_len_seq
end
/-! ### comprehensions whose elements only make new objects -/
def kLc (J : It) (g : TG) (tt : TT) (te : TE) (vs : List Nat) (σ : L2.St) (Q : VK) (H1 : Hp) : Prop := ∀ D, H1 D = none → ∃ W : Nat → Nat → Hp → Prop, (∃ m, W 0 m (upd H1 D (.lst []))) ∧ ∀ i m H, W i m H →
  (J.stop i H ∧ Q (.ref D) H) ∨ (J.go i H ∧ ∃ Nx : Hp → Prop, (∀ H', Nx H' → ∃ m', m' < m ∧ W (i + 1) m' H') ∧ ∀ x H', J.yld i H x H' → g x (wipe σ vs) H' fun σ2 H2 => wipe σ2 vs = wipe σ vs ∧ tt σ2 H2 fun b H3 =>
    if b = true then te σ2 H3 fun y H4 => ∃ acc, H4 D = some (.lst acc) ∧ acc.length < sizeLine ∧ Nx (upd H4 D (.lst (acc ++ [y]))) else Nx H3)
theorem tLc_k (wi : TI) (g : TG) (tt : TT) (te : TE) (vs : List Nat) : tLc wi g tt te vs = fun σ H Q => wi σ H fun J H1 => kLc J g tt te vs σ Q H1 := rfl
/-- within the comprehension: H1 as it was ahead of it, the new list at D -/
structure LcIn (H1 H : Hp) (D : Addr) (acc : List V) : Prop where
  same : Same H1 H
  at_ : H D = some (.lst acc)
  new : H1 D = none
def kApp (D : Addr) (N : Hp → Prop) : VK := fun y H4 => ∃ acc, H4 D = some (.lst acc) ∧ acc.length < sizeLine ∧ N (upd H4 D (.lst (acc ++ [y])))
theorem kApp.mk {H1 H H4 : Hp} {D : Addr} {acc acc' : List V} {y : V} (c : LcIn H1 H D acc) (s : Same H H4) (hl : acc.length < sizeLine) (h : acc ++ [y] = acc') : kApp D (fun H' => LcIn H1 H' D acc') y H4 := by
  refine ⟨acc, s _ _ c.at_, hl, ⟨fun b u e => ?_, by rw [upd_same, h], c.new⟩⟩
  rw [upd_ne (ne_of_none e c.new)]
  exact s _ _ (c.same _ _ e)
theorem kLc.all {J : It} {n : Nat} {G : Hp → Prop} {Y : Nat → Hp → V → Hp → Prop} (w : Walk J n G Y) {g : TG} {tt : TT} {te : TE} {vs : List Nat} {σ : L2.St} {Q : VK} {H1 : Hp} (outs : Nat → List V) (h0 : outs 0 = []) (hG : ∀ H, Same H1 H → G H)
    (hs : ∀ D i x H H', i < n → LcIn H1 H D (outs i) → Y i H x H' → g x (wipe σ vs) H' fun σ2 H2 => wipe σ2 vs = wipe σ vs ∧ tt σ2 H2 fun b H3 => if b = true then te σ2 H3 (kApp D fun H' => LcIn H1 H' D (outs (i + 1))) else LcIn H1 H3 D (outs (i + 1)))
    (hd : ∀ D H', Fresh H1 H' D (.lst (outs n)) → Q (.ref D) H') : kLc J g tt te vs σ Q H1 := fun D hD =>
  lc_it w (fun i H => LcIn H1 H D (outs i)) ⟨(fresh_upd hD).same, by rw [h0]; exact upd_same, hD⟩ (fun i H _ c => hG H c.same) (fun i x H H' hi c y => hs D i x H H' hi c y) fun H c => hd D H ⟨c.same, c.at_, c.new⟩
theorem kLc.map {J : It} {n : Nat} {G : Hp → Prop} {Y : Nat → Hp → V → Hp → Prop} (w : Walk J n G Y) {g : TG} {tt : TT} {te : TE} {vs : List Nat} {σ : L2.St} {Q : VK} {H1 : Hp} (out : List V) (hn : out.length = n) (hG : ∀ H, Same H1 H → G H)
    (hs : ∀ D i x H H', i < n → LcIn H1 H D (out.take i) → Y i H x H' → g x (wipe σ vs) H' fun σ2 H2 => wipe σ2 vs = wipe σ vs ∧ tt σ2 H2 fun b H3 => if b = true then te σ2 H3 (kApp D fun H' => LcIn H1 H' D (out.take (i + 1))) else LcIn H1 H3 D (out.take (i + 1)))
    (hd : ∀ D H', Fresh H1 H' D (.lst out) → Q (.ref D) H') : kLc J g tt te vs σ Q H1 :=
  kLc.all w (fun i => out.take i) (by simp) hG hs fun D H' f => hd D H' (by rw [← hn, List.take_length] at f; exact f)
theorem kApp.at {H1 H H4 : Hp} {D : Addr} {out : List V} {i : Nat} {y : V} (c : LcIn H1 H D (out.take i)) (s : Same H H4) (hl : out.length ≤ sizeLine) (h : out[i]? = some y) : kApp D (fun H' => LcIn H1 H' D (out.take (i + 1))) y H4 := by
  have hi : i < out.length := by
    by_cases q : i < out.length
    · exact q
    · rw [List.getElem?_eq_none (by omega)] at h
      cases h
  refine kApp.mk c s (by rw [List.length_take]; omega) ?_
  rw [List.take_add_one, h]
  rfl
def kFor (J : It) (g : TG) (tb : TS) : TS := fun D σ H => ∃ W : Nat → Nat → L2.St → Hp → Prop, (∃ m, W 0 m σ H) ∧ ∀ i m σ H, W i m σ H →
  (J.stop i H ∧ D.nx σ H) ∨ (J.go i H ∧ ∃ N : L2.St → Hp → Prop, (∀ σ' H', N σ' H' → ∃ m', m' < m ∧ W (i + 1) m' σ' H') ∧ ∀ x H', J.yld i H x H' → g x σ H' fun σ2 H2 => tb { D with nx := N, ct := N, bk := D.nx } σ2 H2)
theorem tFor_k (wi : TI) (g : TG) (tb : TS) : tFor wi g tb = fun D σ H => wi σ H fun J H1 => kFor J g tb D σ H1 := rfl
theorem kFor.it {J : It} {n : Nat} {G : Hp → Prop} {Y : Nat → Hp → V → Hp → Prop} (w : Walk J n G Y) {g : TG} {tb : TS} {D : Ends} {σ : L2.St} {H : Hp} (Pv : Nat → L2.St → Hp → Prop) (h0 : Pv 0 σ H) (hG : ∀ i σ H, i ≤ n → Pv i σ H → G H)
    (hs : ∀ i x σ H H', i < n → Pv i σ H → Y i H x H' → g x σ H' fun σ2 H2 => tb { D with nx := Pv (i + 1), ct := Pv (i + 1), bk := D.nx } σ2 H2) (hd : ∀ σ H, Pv n σ H → D.nx σ H) : kFor J g tb D σ H := for_it w Pv h0 hG hs hd
theorem Same.tup {K : PySem.W.Frag} {H H' : Hp} {a : Addr} {xs : List V} (e : Same H H') (h : SqT K H a xs) : SqT K H' a xs := by
  rcases h with (h | ⟨o, h⟩) | h
  · exact .inl (.inl (e _ _ h))
  · exact .inl (.inr ⟨o, e _ _ h⟩)
  · exact .inr h
/-! ### a new instance -/
def kMake (C : Addr) (sp : Sp) (E : XK) (Q : VK) : List V → Hp → Prop := fun vs H1 => ∀ x dx, H1 x = none → H1 dx = none → dx ≠ x → sp (.ref x :: vs) (upd (upd H1 dx (.own x)) x (.ins C dx [])) (fun v H2 => v = .non ∧ Q (.ref x) H2) E
theorem kMake.mk {C : Addr} {sp : Sp} {E : XK} {Q : VK} {vs : List V} {H : Hp} (k : ∀ x dx H1, Same H H1 → H x = none → H1 x = some (.ins C dx []) → (∀ o, Same H (upd H1 x o)) → sp (.ref x :: vs) H1 (fun v H2 => v = .non ∧ Q (.ref x) H2) E) : kMake C sp E Q vs H := fun x dx nx nd ne => by
  have s : ∀ o, Same H (upd (upd H dx (.own x)) x o) := fun o b u e => by rw [upd_ne (ne_of_none e nx), upd_ne (ne_of_none e nd)]; exact e
  exact k x dx _ (s _) nx upd_same fun o => by rw [upd_upd]; exact s o
theorem tMakeR_k (C : Addr) (sp : Sp) (E : XK) (t : TA) : tMakeR C sp E t = fun σ H Q => t σ H (kMake C sp E Q) := rfl
theorem tDNewK_k : tDNewK = fun _ H Q => kN (.dK []) Q H := rfl
/-- a list is changed by a store -/
def kPutS (l : Addr) (o : HO) (Q : Hp → Prop) : Hp → Prop := fun H => Q (upd H l o)
theorem kPutS.mk {l : Addr} {o : HO} {Q : Hp → Prop} {H : Hp} (k : ∀ H', Put H H' l o → Q H') : kPutS l o Q H := k _ ⟨upd_same, fun b n => upd_ne n⟩
theorem rSetL_k : rSetL = fun o i v H Q => ∃ p xs k j, o = .ref p ∧ i = .int k ∧ H p = some (.lst xs) ∧ ixN xs.length k = some j ∧ kPutS p (.lst (xs.set j v)) Q H := rfl
def kMakeG (C : Addr) (sp : Sp) (gV : List V → List V → List V) (E : XK) (Q : VK) (vs zs : List V) : Hp → Prop := fun H2 => ∀ x dx, H2 x = none → H2 dx = none → dx ≠ x → sp (gV (.ref x :: vs) zs) (upd (upd H2 dx (.own x)) x (.ins C dx [])) (fun v H3 => v = .non ∧ Q (.ref x) H3) E
theorem kMakeG.mk {C : Addr} {sp : Sp} {gV : List V → List V → List V} {E : XK} {Q : VK} {vs zs us : List V} {H : Hp} (e : ∀ x, gV (.ref x :: vs) zs = .ref x :: us) (k : kMake C sp E Q us H) : kMakeG C sp gV E Q vs zs H := fun x dx nx nd ne => by
  rw [e x]
  exact k x dx nx nd ne
theorem tMakeK_k (C : Addr) (n m : Nat) (sp : Sp) (gV : List V → List V → List V) (E : XK) (t tk : TA) : tMakeK C n m sp gV E t tk = fun σ H Q => t σ H fun vs H1 => tk σ H1 fun zs H2 => vs.length = n ∧ zs.length = m ∧ kMakeG C sp gV E Q vs zs H2 := rfl
theorem cx_K {CX : CXT} {P : Program} {w : World} {K : PySem.W.Frag} {mg : Str → Option Value} {base : Heap} {N : List Str} {q : Str} {sc : Scope} {f : Addr} {cdv : Value} {A : Around} {outer : List Env} {s : Shared} {H : Hp} {E : XK} : (cxOf CX P w K mg base N q sc f cdv A outer s H E).K = K := rfl
theorem nox_K {X : Cx} : X.nox.K = X.K := rfl
end Ow
end
section
set_option maxHeartbeats 4000000
/-! o[i] and o[i] = v by an own def; static methods called off a class. -/
namespace Ow
open PySem PySem.Spec PyProof.Rows L2 StX
section
variable {X : Cx} {CX : CXT} {n : Nat} {C g : Addr} {sp : Sp} {E : XK}
def rGetO (C : Addr) (sp : Sp) (E : XK) : R2 := fun x y H Q => ∃ a, x = .ref a ∧ InsAt H a C ∧ sp [x, y] H Q E
theorem pe_subO {o i : Expr} {to ti : TE} {pos : Pos} (hs : PySem.W.findIn X.K (.ref C) "__getitem__" = some (some (.ref g))) (hf : PySem.W.isFn X.K (.ref g) = true) (hfn : PySem.W.fnIn X.K g = true)
    (F : FnR X.prog X.w X.K X.mg X.base CX n g sp) (hr : Room (n + 1) X.A) (hx : Passes CX X E) (ha : PE X o to) (hb : PE X i ti)
    (hsl : ∀ (x : Addr) (u : Value), subscripted i true (.ref x) u = runValue (.builtin "lifetime.subscript" ⟨[.ref x, u], []⟩) := by intro _ _; with_unfolding_all rfl) : PE X (.Subscript o i pos) (tOp (rGetO C sp E) to ti) := by
  refine ⟨fun pins s σ H Q I h => ?_⟩
  refine Subscript_ (binT ha hb I h fun v u s2 x y H2 I2 rx ry q => ?_)
  obtain ⟨a, rfl, hi, q⟩ := q
  obtain rfl : v = Value.ref a := rx
  obtain ⟨ox, od, J⟩ := inst_of I2 hi
  obtain ⟨m, hF⟩ := I2.fr
  refine PySem.W.sub_K hF I2.ok.mod.kin J hs hfn hf ?_ (hsl a u)
  exact wpAny_call (run_fnRS (us := [.ref a, u]) (vs := [.ref a, y]) F hr.in1 rfl hx I2 (.cons rfl (.cons ry .nil)) q)
def rSetO (C : Addr) (sp : Sp) (E : XK) : V → V → V → Hp → (Hp → Prop) → Prop := fun o i v H Q => ∃ a, o = .ref a ∧ InsAt H a C ∧ sp [o, i, v] H (fun _ H' => Q H') E
theorem set_own (hq : PySem.W.noSeq X.K C = true) (hs : PySem.W.findIn X.K (.ref C) "__setitem__" = some (some (.ref g))) (hf : PySem.W.isFn X.K (.ref g) = true)
    (F : FnR X.prog X.w X.K X.mg X.base CX n g sp) (hr : Room n X.A) (hx : Passes CX X E) : PSet X (rSetO C sp E) := by
  intro pins s σ H o i v ov iv u Q I ro ri rv h
  obtain ⟨a, rfl, ha, q⟩ := h
  cases (show ov = Value.ref a from ro)
  obtain ⟨ox, od, J⟩ := inst_of I ha
  obtain ⟨m, hF⟩ := I.fr
  refine PySem.W.ksp_setItem hF I.ok.mod.kin J hq hs hf ?_
  refine wpAny_mono (wpAny_call (run_fnR (us := [.ref a, iv, u]) (vs := [.ref a, i, v]) F hr hx I (.cons rfl (.cons ri (.cons rv .nil))) q)) (fun w s' z => ?_) fun _ _ x => x
  obtain ⟨z', H', I', rz, qz⟩ := z
  exact ⟨H', I', qz⟩
/-- C.m is a static method: its record at p, its def at g -/
structure SMet (K : PySem.W.Frag) (C : Addr) (mc : Value) (m : Str) (p g : Addr) : Prop where
  at_ : PySem.W.findCls K (.ref C) mc m = some (.get (.builtin "staticmethod.__get__") (.ref p) .none (.ref C))
  rc : ∃ rest, PySem.W.recIn K p "staticmethod" = some (.ref g :: rest)
  kp : PySem.W.keepIn K (.ref g) = true
end
section
variable {X : Cx} {pins : List (Addr × Obj)} {σ : L2.St} {H : Hp} {s : Shared} {C p g : Addr} {mc : Value} {m : Str} {A : Around} {E : Value → Shared → Prop}
theorem getsm_ok {b : Bool} {Q : Value → Shared → Prop} (I : Inv X pins σ H s) (r : ClX.CRead X.K C mc) (k : SMet X.K C mc m p g)
    (h : ∀ s', Inv X pins σ H s' → Q (.ref g) s') : wpAny (model X.prog X.w) A (getAttr (.ref C) m b) Q E s := by
  obtain ⟨rest, hp⟩ := k.rc
  refine PySem.W.cls_bind I.kIn r.rd k.at_ ?_
  refine wpAny_call (PySem.W.sm_get (s := { s with toks := s.toks + 1 }) I.kIn hp (PySem.W.handed_on rfl ?_))
  exact h _ (I.tok _)
theorem getmethsm_ok {pl : Sem Bool} {Q : Value × List Value → Shared → Prop} (I : Inv X pins σ H s) (r : ClX.CRead X.K C mc) (k : SMet X.K C mc m p g)
    (h : ∀ s', Inv X pins σ H s' → Q (.ref g, []) s') : wpAny (model X.prog X.w) A (getMethod (.ref C) m pl) Q E s :=
  PySem.W.method_cls I.kIn r.ga (getsm_ok I r k h)
end
section
variable {X : Cx} {CX : CXT} {k : Nat} {C p g : Addr} {mc : Value} {sp : Sp} {E : XK} {o e : Expr} {es : List Expr} {m : Str} {pos apos : Pos} {ta : TE} {t : TA} {pl : Sem Bool}
def tSMeth (C : Addr) (sp : Sp) (E : XK) (ta : TE) (t : TA) : TE := fun σ H Q => ta σ H fun x H1 => x = .ref C ∧ t σ H1 fun vs H2 => sp vs H2 Q E
theorem pe_smeth (he : PE X o ta) (r : ClX.CRead X.K C mc) (c : SMet X.K C mc m p g) (F : FnR X.prog X.w X.K X.mg X.base CX k g sp) (hr : Room k X.A) (hx : Passes CX X E) (ha : PA X (e :: es) t)
    (hst : starEach (e :: es) X.env = (false, eval e X.env) :: starEach es X.env := by rfl) (hpl : (backTo pos (starEach es X.env)).any (·.1) = false := by rfl)
    (ht : eval (.Call (.Attribute o m apos) (e :: es) [] pos) X.env = (do
      let ov ← eval o X.env
      standAt apos.atName
      let (f, first) ← holding [ov] (getMethod ov m pl)
      callWith pos f first (backTo pos (starEach (e :: es) X.env)) (backToKw pos (keywordEach [] X.env))) := by rfl) :
    PE X (.Call (.Attribute o m apos) (e :: es) [] pos) (tSMeth C sp E ta t) := by
  refine ⟨fun pins s σ H Q I h => ?_⟩
  refine PySem.W.methodCall_KW (pl := pl) (thn (he.run pins s σ H _ I h) fun u s1 ⟨x, H1, I1, rx, ex, q⟩ => ?_) ht
  subst ex
  obtain rfl : u = Value.ref C := rx
  refine getmethsm_ok I1 r c fun s2 I2 => ?_
  refine PySem.W.callWith_K (h₀ := X.base) I.ok.mod.kin c.kp (thn (ha.run pos pins s2 σ H1 _ I2 q) fun us s3 ⟨vs, H2, I3, rv, q2⟩ => ⟨I3.kIn, ?_⟩) hst hpl
  refine wpAny_mono (wpAny_call (run_fnR F hr hx I3 rv q2)) (fun w s' z => z) fun _ _ x => x
/-- by keywords alone -/
def tSMethK (C : Addr) (n : Nat) (sp : Sp) (gV : List V → List V → List V) (E : XK) (ta : TE) (tk : TA) : TE := fun σ H Q => ta σ H fun x H1 => x = .ref C ∧ tk σ H1 fun zs H2 => zs.length = n ∧ sp (gV [] zs) H2 Q E
theorem pe_smethK {kws : List Keyword} {fd : FuncData} {ps ks : List Str} {tk : TA} {gl : List Value → List Value → List Value} {gV : List V → List V → List V} (he : PE X o ta) (r : ClX.CRead X.K C mc) (c : SMet X.K C mc m p g)
    (F : FnOk X.prog X.w X.K X.mg X.base CX k g fd ps sp) (hr : Room k X.A) (hb : KBn X.K fd ps 0 ks gl gV) (hx : Passes CX X E) (hkw : PK X kws tk)
    (hall : (backToKw pos (keywordEach kws X.env)).all (·.1.isSome) = true := by rfl) (hks : (backToKw pos (keywordEach kws X.env)).filterMap (·.1) = ks := by rfl)
    (hpl : ((backTo pos (starEach [] X.env)).any (·.1) || (backToKw pos (keywordEach kws X.env)).any (·.1.isNone)) = false := by rfl)
    (ht : eval (.Call (.Attribute o m apos) [] kws pos) X.env = (do
      let ov ← eval o X.env
      standAt apos.atName
      let (f, first) ← holding [ov] (getMethod ov m pl)
      callWith pos f first (backTo pos (starEach [] X.env)) (backToKw pos (keywordEach kws X.env))) := by rfl) :
    PE X (.Call (.Attribute o m apos) [] kws pos) (tSMethK C ks.length sp gV E ta tk) := by
  refine ⟨fun pins s σ H Q I h => ?_⟩
  refine PySem.W.methodCall_KW (pl := pl) (thn (he.run pins s σ H _ I h) fun u s1 ⟨x, H1, I1, rx, ex, q⟩ => ?_) ht
  subst ex
  obtain rfl : u = Value.ref C := rx
  refine getmethsm_ok I1 r c fun s2 I2 => ?_
  refine PySem.W.callWith_KW0 (h₀ := X.base) I.ok.mod.kin c.kp hall ?_ hpl
  refine thn (hkw.run pos pins s2 σ H1 _ I2 q) fun ws s3 ⟨zs, H3, I3, rz, l2, q2⟩ => ⟨I3.kIn, ?_⟩
  rw [hks]
  refine wpAny_call (codeAny_mono (F.run X.A X.stack s3 H3 ⟨[], ks.zip ws⟩ (gl [] ws) (gV [] zs) Q E hr I3.env0 (hb.to s3 [] ws I3.kIn rfl (rz.length.symm.trans l2)) (hb.rel .nil rz) q2) fun r s' hq => ?_)
  cases r with
  | error e => exact hx pins σ H3 s3 e s' I3 hq
  | ok fl =>
    cases fl with
    | ret u => exact I3.after hq
    | next => exact False.elim hq
    | brk => exact False.elim hq
    | cont => exact False.elim hq
end
end Ow
end
section
set_option maxHeartbeats 4000000
/-! enumerate(tuple). -/
namespace Ow
open PySem PySem.Spec PyProof.Rows L2 StX
/-- the tuple at a as it stands at each turn, each item in a new pair -/
def IteT (K : PySem.W.Frag) (a : Addr) : It :=
  ⟨fun i H => ∃ (xs : List V) (x : V), SqT K H a xs ∧ xs[i]? = some x, fun i H v H' => ∃ T x, v = .ref T ∧ H T = none ∧ H' = upd H T (.tup [.int (i : Nat), x]) ∧ ∀ xs, SqT K H a xs → xs[i]? = some x, fun i H => ∃ xs : List V, SqT K H a xs ∧ xs.length ≤ i⟩
theorem cls_ne {h : Heap} {a b : Addr} {oa ob : Obj} {ca cb : String} (ha : h.get? a = some oa) (hb : h.get? b = some ob) (ea : oa.cls = .type ca) (eb : ob.cls = .type cb) (d : ca ≠ cb) : a ≠ b := fun e => by
  subst e
  rw [ha] at hb
  cases hb
  rw [ea] at eb
  exact d (Value.type.inj eb)
theorem enum_doneT {prog : Program} {w : World} {A : Around} {E : Value → Shared → Prop} {s : Shared} {e it a : Addr} {i : Nat} {ys : Array Value} {old : Value} {Q : Option Value → Shared → Prop} (hh : A.in1.handled = none)
    (he : IsEnum s.heap e it i old) (ht : s.heap.IsTupleIter it a i) (hy : s.heap.IsTuple a ys) (hx : ys[i]? = none) (k : ∀ h', Heap.ExtBut it s.heap h' → Q none { s with heap := h' }) : wpAny (model prog w) A (pyNext (.ref e)) Q E s := by
  have ty : s.TypeIs (.ref e) "enumerate" := ⟨_, he, rfl⟩
  unfold pyNext
  refine wpAny_bind (wpAny_attempt (wpAny_callSpecial?_slot (name := Str.ofString "__next__") ty F.slot_enumerate_next (wpAny_call_entry F.slot_enumerate_next ty F.entry_enumerate_next ?_ (F.args_enumerate_next_1 _))))
  show wpAny _ _ (field (.ref e) 2 >>= _) _ _ _
  refine wpAny_bind (wpAny_field he rfl (x := .ref it) rfl (wpAny_bind (wpAny_nextOf_tuple_end hh ht hy hx fun h' x h1 h2 => ?_)))
  obtain ⟨o, ho, hc⟩ := h2
  exact wpAny_bind (wpAny_isInstance (T := "StopIteration") (b := true) ⟨o, ho, hc⟩ isSubtype_stop (wpAny_pure (k _ h1)))
theorem turn_enumT {P : Program} {w : World} {K : PySem.W.Frag} {elts : List Expr} {kk : Nat} {tpos : Pos} (a e it : Addr) :
    Turn P w K (.Tuple elts kk tpos) (IteT K a) [e, it] e (fun i h => (∃ old, IsEnum h e it ((i : Nat) : Int) old) ∧ h.IsTupleIter it a i ∧ e ≠ it) where
  mem := by simp
  obj := fun i h st b hb => by
    obtain ⟨⟨old, he⟩, ⟨o, ho, hc, hd⟩, _⟩ := st
    have e' : b = e ∨ b = it := by simpa using hb
    rcases e' with z | z
    · rw [z]; exact ⟨_, he, fun v q => nomatch q⟩
    · rw [z]; exact ⟨o, ho, fun v q => by rw [hd] at q; cases q⟩
  keep := fun i h h' st k => let ⟨⟨old, he⟩, hi, hne⟩ := st; ⟨⟨old, k e (by simp) _ he⟩, hi.at fun o q => k it (by simp) o q, hne⟩
  item := by
    intro X hP hw hK hc i pins s σ H E I hf st hg
    subst hP hw hK
    obtain ⟨⟨old, he⟩, hit, hne⟩ := st
    obtain ⟨xs, x, hq, hx⟩ := hg
    obtain ⟨its, rv, p, hz⟩ := I.tuple hq
    obtain ⟨u, hu, ru⟩ := rv.get hx
    have hel : e < s.heap.objs.size := Heap.lt_size he
    have hil : it < s.heap.objs.size := by obtain ⟨_, q, _⟩ := hit; exact Heap.lt_size q
    have hai : a ≠ it := by
      obtain ⟨o1, h1, c1, _⟩ := p
      obtain ⟨o2, h2, c2, _⟩ := hit
      exact cls_ne h1 h2 c1 c2 (by decide)
    have hea : e ≠ a := by
      obtain ⟨o1, h1, c1, _⟩ := p
      exact cls_ne he h1 rfl c1 (by decide)
    have hlt : i < its.toArray.size := by
      have := rv.length
      have h3 : i < xs.length := by
        by_cases y : i < xs.length
        · exact y
        · rw [List.getElem?_eq_none (by omega)] at hx
          cases hx
      rw [List.size_toArray]
      omega
    refine wpAny_pyNext_enum_itemD (Draws.tuple (A := X.A.in1) (I.ok.hd hc) it a hai its.toArray) he ⟨hit, p⟩ hlt hne (by simp [hne, hea]) fun x2 h' tk hP ho hit2 hT hsz hk => ?_
    obtain ⟨hit', _⟩ := hit2
    have hxu : x2 = u := by
      have h5 : its[i]? = some x2 := by simpa using hP
      rw [hu] at h5
      exact (Option.some.inj h5).symm
    subst hxu
    refine ⟨_, rfl, wpAny_letOwnedTupleGo_enum (s := { s with heap := h', toks := tk + 1 }) ho fun h'' he' sb => ?_⟩
    have hT2 : h''.get? s.heap.objs.size = some { cls := .type "tuple", data := .seq #[.int i tk, x2] } := (sb.2 _ (Nat.ne_of_gt hel)).trans hT
    have new : ObjOk X.prog X.w (upd H s.heap.objs.size (.tup [.int (i : Nat), x])) h'' s.heap.objs.size (.tup [.int (i : Nat), x]) :=
      ⟨by show 2 ≤ sizeLine; decide, [.int i tk, x2], .cons ⟨_, rfl⟩ (.cons ru .nil), ⟨_, hT2, rfl, _, rfl⟩⟩
    have I1 : Inv X pins σ (upd H s.heap.objs.size (.tup [.int (i : Nat), x])) { s with heap := h'', toks := tk + 1 } :=
      I.turnedNew (ch := [e, it]) (fun b ob hb q => (sb.2 b (fun z => hb (by simp [z]))).trans (hk b ob (fun z => hb (by simp [z])) (fun z => hb (by simp [z])) q)) hf (Nat.le_refl _) new
    refine ⟨.ref s.heap.objs.size, _, I1, rfl, ⟨_, x, rfl, I.hok.fresh (Nat.le_refl _), rfl, fun ys hy => by rw [I.tuple_inj hy hq]; exact hx⟩, ⟨⟨x2, ?_⟩, hit'.at fun o q => (sb.2 it (Ne.symm hne)).trans q, hne⟩, fun b hb => ?_⟩
    · have e1 : ((i + 1 : Nat) : Int) = (i : Int) + 1 := by omega
      rw [e1]; exact he'
    · have hb' : b < s.heap.objs.size := by
        have e' : b = e ∨ b = it := by simpa using hb
        rcases e' with z | z
        · rw [z]; exact hel
        · rw [z]; exact hil
      rw [upd_ne (Nat.ne_of_lt hb')]
      exact (hf b hb).1
  done := by
    intro X hP hw hK hc i pins s σ H E I hf st hg
    subst hP hw hK
    obtain ⟨⟨old, he⟩, hit, hne⟩ := st
    obtain ⟨xs, hq, hx⟩ := hg
    obtain ⟨its, rv, p, hz⟩ := I.tuple hq
    obtain ⟨f0, f1, f2, f3, f4, f5⟩ := hf it (by simp)
    have hl := rv.length
    exact enum_doneT (I.ok.hd hc) he hit p (by simp; omega) fun h' eb => ⟨rfl, I.turned (t' := s.toks) (fun b o hb q => eb b o hb q) f0 f1 f3 f4 f5⟩
  self := fun A i s Q E st h => let ⟨⟨_, he⟩, _⟩ := st; wpAny_pyIter_enum he h
theorem meets_enumT (a : Addr) (ys : Array Value) :
    Meets (Builtin.«enumerate.__new__» ⟨[.type "enumerate", .ref a], []⟩) (fun _ R s => s.heap.IsTuple a ys ∧
      R (.ok (.ret (.ref (s.heap.push { cls := .type "tuple_iterator", data := .fields #[.ref a, .int 0 0] }).objs.size)))
        { s with heap := (s.heap.push { cls := .type "tuple_iterator", data := .fields #[.ref a, .int 0 0] }).push { cls := .type "enumerate", data := .fields #[.none, .bool false, .ref s.heap.objs.size, rawInt 0, .none, .none] } }) :=
  .of_wp fun prog w A R s h => by
    obtain ⟨hp, g, d, tk, os⟩ := s
    obtain ⟨hl, h⟩ := h
    have hsub := sub_enumerate
    have q1 : ∀ {A' : Around} {E : Value → Shared → Prop} {Q : Value → Shared → Prop}, Q (.ref hp.objs.size) ⟨hp.push { cls := .type "tuple_iterator", data := .fields #[.ref a, .int 0 0] }, g, d, tk, os⟩ → wpAny (model prog w) A' (pyIter (.ref a)) Q E ⟨hp, g, d, tk, os⟩ :=
      fun q => wpAny_pyIter_tuple (s := ⟨hp, g, d, tk, os⟩) hl q
    wp_walk using q1
    refine wpAny_stack_any fun st => wpAny_pure ?_
    split
    · rename_i c _ _ _ _ _
      cases (c == Value.type "enumerate")
      · wp_walk using q1
        exact ⟨_, rfl, h⟩
      · wp_walk using q1
        exact ⟨_, rfl, h⟩
    · wp_walk using q1
      exact ⟨_, rfl, h⟩
theorem call_enumT {prog : Program} {w : World} {A : Around} {E : Value → Shared → Prop} {s : Shared} {a : Addr} {ys : Array Value} {Q : Value → Shared → Prop} (hy : s.heap.IsTuple a ys)
    (k : ∀ h', IsEnum h' (s.heap.objs.size + 1) s.heap.objs.size 0 .none → h'.IsTupleIter s.heap.objs.size a 0 → (∀ b o, s.heap.get? b = some o → h'.get? b = some o) → Q (.ref (s.heap.objs.size + 1)) { s with heap := h' }) :
    wpAny (model prog w) A (call (.type "enumerate") [.ref a]) Q E s := by
  refine callType_new F.called_enumerate (by decide) (F.typeCall_enumerate_1 _) (F.newCall_enumerate_1 _) (fun obj => F.args_object_init_2 obj _) F.entry_enumerate_new (meets_enumT a ys) ⟨hy, ?_⟩
  have hz : (s.heap.push { cls := .type "tuple_iterator", data := .fields #[.ref a, .int 0 0] }).objs.size = s.heap.objs.size + 1 := Heap.size_push ..
  have e1 : ((s.heap.push { cls := .type "tuple_iterator", data := .fields #[.ref a, .int 0 0] }).push { cls := .type "enumerate", data := .fields #[.none, .bool false, .ref s.heap.objs.size, rawInt 0, .none, .none] }).get? (s.heap.objs.size + 1) = some { cls := .type "enumerate", data := .fields #[.none, .bool false, .ref s.heap.objs.size, rawInt 0, .none, .none] } := by
    rw [← hz]
    exact Heap.get?_push_size _ rfl
  have e2 : ((s.heap.push { cls := .type "tuple_iterator", data := .fields #[.ref a, .int 0 0] }).push { cls := .type "enumerate", data := .fields #[.none, .bool false, .ref s.heap.objs.size, rawInt 0, .none, .none] }).get? s.heap.objs.size = some { cls := .type "tuple_iterator", data := .fields #[.ref a, .int 0 0] } := Heap.get?_push_of_some _ (Heap.get?_push_size _ rfl)
  show _ ∧ _
  rw [hz]
  exact ⟨⟨_, e1, rfl⟩, k _ e1 ⟨_, e2, rfl, rfl⟩ fun b o e => Heap.get?_push_of_some _ (Heap.get?_push_of_some _ e)⟩
def iEnumT (K : PySem.W.Frag) (ta : TA) : TI := fun σ H R => ta σ H fun vs H1 => ∃ a xs, vs = [.ref a] ∧ ((SqL K H1 a xs ∧ R (Ite K a) H1) ∨ (SqT K H1 a xs ∧ R (IteT K a) H1))
theorem pi_enumT {X : Cx} {e : Expr} {ta : TA} {p pos tpos : Pos} {elts : List Expr} {kk : Nat} (hg : Gl X "enumerate") (hm : X.mg "enumerate" = none) (ha : PA X [e] ta) (hs : starEach [e] X.env = [(false, eval e X.env)] := by rfl) :
    PI X (.Tuple elts kk tpos) (.Call (.Name "enumerate" p) [e] [] pos) (iEnumT X.K ta) := by
  refine ⟨fun pins s σ H R I h => ?_⟩
  refine Call_ (ld_blt I hg hm boot_enumerate (PyProof.Rows.callWith_type1 (thn (ha.run pos pins s σ H _ I h) fun us s1 ⟨vs, H1, I1, r1, q1⟩ => ?_) hs rfl))
  obtain ⟨a, xs, ex, q⟩ := q1
  subst ex
  obtain ⟨u, rfl, ru⟩ := vals1 r1
  obtain rfl : u = Value.ref a := ru
  have fp : ∀ b ∈ [s1.heap.objs.size + 1, s1.heap.objs.size], FpOk X pins H1 b := fun b hb => by
    have hle : s1.heap.objs.size ≤ b := by
      simp only [List.mem_cons, List.not_mem_nil, or_false] at hb
      omega
    exact I1.fpOk hle (I1.hok.fresh hle)
  rcases q with ⟨hq, q⟩ | ⟨hq, q⟩
  · obtain ⟨its, rv, p', hz⟩ := I1.list hq
    refine call_enumerate_list p'.isList fun h' he hit hsz hk => wpAny_pyIter_enum he ?_
    exact ⟨s1.heap.objs.size + 1, _, _, _, H1, rfl, I1.kept (t' := s1.toks) hk, turn_enum a (s1.heap.objs.size + 1) s1.heap.objs.size, ⟨⟨.none, he⟩, hit, Nat.succ_ne_self _⟩, fp, q⟩
  · obtain ⟨its, rv, p', hz⟩ := I1.tuple hq
    refine call_enumT p' fun h' he hit hk => wpAny_pyIter_enum he ?_
    exact ⟨s1.heap.objs.size + 1, _, _, _, H1, rfl, I1.kept (t' := s1.toks) hk, turn_enumT a (s1.heap.objs.size + 1) s1.heap.objs.size, ⟨⟨.none, he⟩, hit, Nat.succ_ne_self _⟩, fp, q⟩
theorem walk_enumT {K : PySem.W.Frag} {a : Addr} {xs : List V} : Walk (IteT K a) xs.length (fun H => SqT K H a xs) (YPair (fun i => some (.int (i : Nat))) (fun i => xs[i]?)) := by
  refine ⟨fun i _ hi q => ⟨xs, xs[i], q, by simp [hi]⟩, fun _ q => ⟨xs, q, Nat.le_refl _⟩, fun i H v H' _ q y => ?_⟩
  obtain ⟨T, x, h1, h2, h3, h4⟩ := y
  exact ⟨T, .int (i : Nat), x, h1, h2, h3, rfl, h4 xs q⟩
/-- text * int -/
def rMulS : R2 := fun x y H Q => ∃ z n, x = .str z ∧ y = .int n ∧ MulOk z n ∧ Q (.str (Txt.mul z n)) H
theorem op_mulS {X : Cx} : OpR X (binaryOp .Mult) rMulS := by
  intro pins s σ H x y v u Q I rx ry h
  obtain ⟨z, n, rfl, rfl, ok, q⟩ := h
  obtain ⟨t, rfl⟩ := rx
  obtain ⟨t', rfl⟩ := ry
  exact SB.mul ok fun t2 k => ⟨.str (Txt.mul z n), H, I.tok _, ⟨t2, rfl⟩, q⟩
theorem fold_one (d : Nat) : ∀ (m : Nat) (acc : List Nat), (List.replicate m #[d]).foldl (fun a b => a ++ b) acc.toArray = (acc ++ List.replicate m d).toArray
  | 0, acc => by simp
  | m + 1, acc => by
    rw [List.replicate_succ, List.foldl_cons, List.append_toArray, fold_one d m (acc ++ [d]), List.replicate_succ, List.append_assoc]
    rfl
theorem mul_one (d : Nat) {n : Int} (h : 1 ≤ n) : Txt.mul (SX.S [d]) n = SX.S (List.replicate n.toNat d) := by
  unfold Txt.mul
  rw [if_neg (by omega)]
  by_cases e : n = 1
  · subst e
    rfl
  · rw [if_neg (by
      rw [SX.S_len]
      simp [e])]
    have := fold_one d n.toNat []
    exact congrArg Str.mk this
theorem mulOk_one (d : Nat) {n : Int} (h : 1 ≤ n) (h2 : n ≤ 100000) : MulOk (SX.S [d]) n := by
  refine ⟨?_, fun _ _ => ?_, fun _ _ => ?_⟩
  · rw [Bool.or_eq_false_iff]
    exact ⟨decide_eq_false (by omega), decide_eq_false (by omega)⟩
  · rw [SX.S_len]
    have : (1 : Int) ≤ (2 ^ 63 - 1) / n := Int.le_ediv_of_mul_le (by omega) (by omega)
    intro z
    have z : (1 : Int) > (2 ^ 63 - 1) / n := z
    omega
  · rw [SX.S_len]
    show Builtin.Str.tooLong (1 * n.toNat) = false
    exact decide_eq_false (Nat.not_lt.mpr (Nat.le_trans (show 1 * n.toNat ≤ 100000 by omega) (by decide +kernel)))
theorem vals_rev {vs : List V} {us : List Value} (r : Vals vs us) : Vals vs.reverse us.reverse := by
  induction r with
  | nil => exact .nil
  | cons h t ih =>
    rw [List.reverse_cons, List.reverse_cons]
    exact ih.append (.cons h .nil)
/-- a def's promise by binds, with the def itself (for calls by keywords) -/
theorem FnT.okF {P : Program} {w : World} {K : PySem.W.Frag} {mg : Str → Option Value} {base : Heap} {x qual : Str} {st : Stmt} {dvs : List V} {f : Addr} {N ps : List Str} {k : Nat} {sp : Sp} (F : FnT K x qual st dvs f) (S : FnScope N ps (defScope st)) (len : ∀ vs H Q E, sp vs H Q E → vs.length = ps.length)
    (hbody : ∀ (cdv : Value) (A : Around) (outer : List Env) (s : Shared) (H : Hp) (vs : List V) (Q : VK) (E : XK), Room k (A.deeper (envOfC qual (defScope st) s.heap.objs.size f cdv)) → sp vs H Q E →
      ∃ t, PSs (cxOf CX0 P w K mg base N qual (defScope st) f cdv A outer s H E).nox (defBody st) t ∧ t { nx := fun _ H' => Q .non H', rt := Q } (L2.start N vs) H) :
    ∃ fd, FnOk P w K mg base CX0 (k + 1) f fd ps sp ∧ FunD K x qual (defArgs st) (defBody st) (defScope st) dvs [] f fd := by
  obtain ⟨fd, F⟩ := F
  exact ⟨fd, F.ok S len fun cdv A outer s H vs Q E hr hsp => by
    obtain ⟨t, h, q⟩ := hbody cdv A outer s H vs Q E hr hsp
    exact ⟨t, h.nox, q⟩, F⟩
end Ow
end
section
namespace Ow
open PySem PySem.Spec PyProof.Rows L2
/-- a static method's facts, of pieces that k_is finds -/
theorem smet_mk {K : PySem.W.Frag} {C p g : Addr} {m : Str} {ta : Value} {rest : List Value}
    (h1 : PySem.W.findIn K (.ref C) m = some (some (.ref p)))
    (h2 : PySem.W.findIn K (.type "type") m = some none)
    (h3 : PySem.W.typeIn K (.ref p) = some ta)
    (h4 : PySem.W.bareKinds.contains ta = false)
    (h5 : PySem.W.specialIn K (.ref p) "__get__" = some (some (.builtin "staticmethod.__get__")))
    (h6 : PySem.W.recIn K p "staticmethod" = some (.ref g :: rest)) (h7 : PySem.W.keepIn K (.ref g) = true) :
    SMet K C (.type "type") m p g := by
  refine ⟨?_, ⟨_, h6⟩, h7⟩
  unfold PySem.W.findCls
  simp only [h2, h1, h3, h4, h5, Option.bind, Builtin.heldUnderItsOwnName]
  rfl
end Ow
end
section
namespace Ow
open PySem PySem.Spec PyProof.Rows L2
/-- a suite that names what was caught: slot i holds it, and is empty behind the suite -/
def asTS (i : Nat) (ts : Addr → Value → Option Addr → TS) : Addr → Value → Option Addr → TS := fun a cls d D σ H =>
  ts a cls d { nx := fun σ' H' => D.nx (σ'.set i none) H', rt := D.rt, bk := fun σ' H' => D.bk (σ'.set i none) H', ct := fun σ' H' => D.ct (σ'.set i none) H' } (σ.set i (some (.ref a))) H
/-- clauses of a try, each with a class by its name, with or without a name for what is caught -/
inductive HdsM (X : Cx) : List ExceptHandler → List (Value × (Addr → Value → Option Addr → TS)) → Prop
  | nil : HdsM X [] []
  | plain {x : Str} {c : Value} {ts : Addr → Value → Option Addr → TS} {b₀ : Stmt} {suite : List Stmt} {np pos' : Pos} {hds : List ExceptHandler} {l : List (Value × (Addr → Value → Option Addr → TS))} (hc : Names X x c)
      (hsu : ∀ (a : Addr) (oe : Obj) (cls : Value) (d : Option Addr) (pn : List (Addr × Obj)), Zc cls d oe → (∃ vs, oe.data = .fields vs) → PSs (X.suite a ((a, oe) :: pn)) (b₀ :: suite) (ts a cls d)) (r : HdsM X hds l) :
      HdsM X (.ExceptHandler (some (.Name x np)) none (b₀ :: suite) pos' :: hds) ((c, ts) :: l)
  | named {x n : Str} {i : Nat} {c : Value} {ts : Addr → Value → Option Addr → TS} {b₀ : Stmt} {suite : List Stmt} {np pos' : Pos} {hds : List ExceptHandler} {l : List (Value × (Addr → Value → Option Addr → TS))} (hi : X.N[i]? = some n) (hln : X.env.kindOf n = some .local) (hc : Names X x c)
      (hsu : ∀ (a : Addr) (oe : Obj) (cls : Value) (d : Option Addr) (pn : List (Addr × Obj)), Zc cls d oe → (∃ vs, oe.data = .fields vs) → PSs (X.suite a ((a, oe) :: pn)) (b₀ :: suite) (ts a cls d)) (r : HdsM X hds l) :
      HdsM X (.ExceptHandler (some (.Name x np)) (some n) (b₀ :: suite) pos' :: hds) ((c, asTS i ts) :: l)
set_option maxHeartbeats 4000000
/-- try with any row of clauses, some with `as` -/
theorem ps_try_mix {X : Cx} {body : List Stmt} {h₀ : ExceptHandler} {hds : List ExceptHandler} {l : List (Value × (Addr → Value → Option Addr → TS))} {pos : Pos} {tb : WX → TS} {Wout : WX} (hs : X.stack = X.env :: X.outer) (hf : X.env.frame = some X.env.locals) (hN : X.N.Nodup) (tk : Takes X Wout)
    (hb : ∀ (W : WX) (pn : List (Addr × Obj)) (xe : Value → Shared → Prop), Takes (X.tr pn xe) W → PassesOwn (model X.prog X.w) X.A X.env xe → PSs (X.tr pn xe) body (tb W)) (hh : HdsM X (h₀ :: hds) l) :
    PS X (.Try body (h₀ :: hds) [] [] pos) (fun D σ H => tb (wMany X.K Wout D l) D σ H) := by
  refine ⟨fun pins s σ H D I h => ?_⟩
  have ok := I.ok
  have hfr : X.A.frames = some (X.env :: X.outer) := by rw [ok.frames, hs]
  refine wpAny_Try_except (wpAny_mono ((hb (wMany X.K Wout D l) (X.pn ++ pins) (fun e s₁ => wpAny (model X.prog X.w) X.A (noteFrame e X.env) (fun _ s₂ => wpAny (model X.prog X.w) X.A (setFlight e none) (fun _ s₃ => wpAny (model X.prog X.w) X.A (handleBy e X.env (h₀ :: hds)) (SP X pins D) X.xe s₃) X.xe s₂) X.xe s₁) ?_ PassesOwn.looking).run [] s σ H D (Inv.toTry I _) h) (fun f s1 hsp => ?_) fun e s1 he => he)
  · intro u s' xx
    obtain ⟨a, B, sI, pins', σ', H', cls, d, rfl, J', nb, up, sky, na, os, ag, w⟩ := xx
    have J := Inv.ofTry J' ok
    have sky' : Sky B (X.env :: X.outer) a (Zc cls d) X.env.locals s'.heap := by rw [← hs]; exact sky
    refine Sky.land Zc.steady hfr hf sky' fun h3 fl3 up3 => ?_
    have J3 := Inv.landed (s' := { heap := h3, gens := s'.gens, drawn := s'.drawn, toks := s'.toks, os := s'.os }) J nb fl3.left (Heap.UpToSlots.trans up up3) os ag
    obtain ⟨oe3, vs3, he3, hz3, hd3⟩ := HandSPX.FlyingZ.there fl3
    have nfr : ¬ a ∈ List.filterMap (fun x : Env => x.frame) (X.env :: X.outer) := fun hm => by
      obtain ⟨_, o', e', hnf⟩ := Heap.FunFrames.mem fl3.right.right.left hm
      have e2 := e'.symm.trans he3
      cases e2
      exact hnf _ hd3
    have nL : a ≠ X.env.locals := fun z => nfr (List.mem_filterMap.mpr ⟨X.env, List.mem_cons_self .., by rw [hf, z]⟩)
    have nF : ¬ a ∈ X.fs := fun hm => by
      obtain ⟨e, he, q⟩ := List.mem_filterMap.mp hm
      exact nfr (List.mem_filterMap.mpr ⟨e, List.mem_cons_of_mem _ he, q⟩)
    have S3 := Inv.suite J3 he3 hd3 na nL nF
    clear h hb
    have key : ∀ (hds' : List ExceptHandler) (l' : List (Value × (Addr → Value → Option Addr → TS))), HdsM X hds' l' → wMany X.K Wout D l' cls d σ' H' → wpAny (model X.prog X.w) X.A (handleBy (.ref a) X.env hds') (SP X pins D) X.xe { heap := h3, gens := s'.gens, drawn := s'.drawn, toks := s'.toks, os := s'.os } := by
      intro hds' l' hk
      have LT : W.Looks (model X.prog X.w) h3 (typeOf (Value.ref a)) cls := fun A Q E s k q => wpAny_typeOf_ref (k a oe3 he3) (by rw [hz3.left]; exact q)
      have test : ∀ {x : Str} {c : Value} {np : Pos} {Q : Value → Shared → Prop} {E : Value → Shared → Prop}, Names X x c → Q c { heap := h3, gens := s'.gens, drawn := s'.drawn, toks := s'.toks, os := s'.os } →
          wpAny (model X.prog X.w) (X.A.mark (some (.ref a))) (eval (.Name x np) X.env) Q E { heap := h3, gens := s'.gens, drawn := s'.drawn, toks := s'.toks, os := s'.os } := by
        intro x c np Q E hc q
        obtain ⟨hg, hdbg, hm | ⟨hm, hv, hnn⟩⟩ := hc
        · exact ld_glob (X := X.suite a _) S3 hg hm q hdbg
        · exact ld_blt (X := X.suite a _) S3 hg hm hv q hnn hdbg
      induction hk with
      | nil =>
        intro w
        refine wpAny_handleBy_nil ?_
        have fl := fl3
        obtain ⟨k1, k2, k3, oe, vs, T, oT, ts', he, hz, hd, h1, hr⟩ := fl3
        unfold PySem.passOn
        refine wpAny_bind (wpAny_field he hd h1 ?_)
        rw [if_neg (by simp)]
        refine wpAny_bind ?_
        rw [hf]
        exact HandSPX.setFlight_upZ fl fun h4 hh4 up4 => wpAny_throw (tk _ _ ⟨a, B, sI, pins, σ', H', cls, d, rfl, J, nb, (up.trans up3).trans up4, .inr (.inr (by rw [hs]; exact hh4)), na, os, ag, w⟩)
      | plain hc hsu r ih =>
        intro w
        obtain ⟨b, hb1, hyes, hno⟩ := w
        refine wpAny_handleBy_cons (codeAny_handlers_test (test hc (W.Looks.here (W.exm_one (Inv.kIn J3) LT hb1) ?_))) (fun q => by cases q)
        cases b with
        | false => exact ih (hno rfl)
        | true =>
          refine codeAny_handlers_suite (HandSPX.lands_againZ fl3 fun h4 fl4 up4 => ?_)
          have J4 := Inv.landed (s' := { heap := h4, gens := s'.gens, drawn := s'.drawn, toks := s'.toks, os := s'.os }) J nb fl4.left (Heap.UpToSlots.trans (Heap.UpToSlots.trans up up3) up4) os ag
          obtain ⟨oe4, vs4, he4, hz4, hd4⟩ := HandSPX.FlyingZ.there fl4
          have S4 := Inv.suite J4 he4 hd4 na nL nF
          refine wpAny_mono ((hsu a oe4 cls d (X.pn ++ pins) hz4 ⟨vs4, hd4⟩).run [] _ σ' H' D S4 (hyes rfl a na)) (fun f s6 hsp => ?_) fun _ _ z => False.elim z
          cases f with
          | next => obtain ⟨σ6, H6, S6, q6⟩ := hsp; exact ⟨σ6, H6, Inv.unsuite S6 ok, q6⟩
          | brk => obtain ⟨σ6, H6, S6, q6⟩ := hsp; exact ⟨σ6, H6, Inv.unsuite S6 ok, q6⟩
          | cont => obtain ⟨σ6, H6, S6, q6⟩ := hsp; exact ⟨σ6, H6, Inv.unsuite S6 ok, q6⟩
          | ret u => obtain ⟨v6, σ6, H6, S6, r6, q6⟩ := hsp; exact ⟨v6, σ6, H6, Inv.unsuite S6 ok, r6, q6⟩
      | named hi hln hc hsu r ih =>
        intro w
        obtain ⟨b, hb1, hyes, hno⟩ := w
        refine wpAny_handleBy_cons (codeAny_handlers_test (test hc (W.Looks.here (W.exm_one (Inv.kIn J3) LT hb1) ?_))) (fun q => by cases q)
        cases b with
        | false => exact ih (hno rfl)
        | true =>
          refine codeAny_handlers_suite_as (HandSPX.lands_againZ fl3 fun h4 fl4 up4 => ?_)
          have J4 := Inv.landed (s' := { heap := h4, gens := s'.gens, drawn := s'.drawn, toks := s'.toks, os := s'.os }) J nb fl4.left (Heap.UpToSlots.trans (Heap.UpToSlots.trans up up3) up4) os ag
          obtain ⟨oe4, vs4, he4, hz4, hd4⟩ := HandSPX.FlyingZ.there fl4
          have S4 := Inv.suite J4 he4 hd4 na nL nF
          refine store_ok (X := X.suite a ((a, oe4) :: (X.pn ++ pins))) (v := .ref a) S4 hN hi (Or.inl hln) rfl (fun s5 S5 => ?_) (Or.inr hln)
          refine wpAny_mono ((hsu a oe4 cls d (X.pn ++ pins) hz4 ⟨vs4, hd4⟩).run [] s5 _ H' _ S5 (hyes rfl a na)) (fun f s6 hsp => ?_) fun _ _ z => False.elim z
          cases f with
          | next => obtain ⟨σ6, H6, S6, q6⟩ := hsp; exact gone_ok (Inv.unsuite S6 ok) hN hi hln fun s7 J7 => ⟨_, H6, J7, q6⟩
          | brk => obtain ⟨σ6, H6, S6, q6⟩ := hsp; exact gone_ok (Inv.unsuite S6 ok) hN hi hln fun s7 J7 => ⟨_, H6, J7, q6⟩
          | cont => obtain ⟨σ6, H6, S6, q6⟩ := hsp; exact gone_ok (Inv.unsuite S6 ok) hN hi hln fun s7 J7 => ⟨_, H6, J7, q6⟩
          | ret u => obtain ⟨v6, σ6, H6, S6, r6, q6⟩ := hsp; exact gone_ok (Inv.unsuite S6 ok) hN hi hln fun s7 J7 => ⟨v6, _, H6, J7, r6, q6⟩
    exact key _ _ hh w
  · cases f with
    | next => obtain ⟨σ', H', J', q⟩ := hsp; exact wpAny_execs_nil ⟨σ', H', Inv.ofTry J' ok, q⟩
    | brk => obtain ⟨σ', H', J', q⟩ := hsp; exact ⟨σ', H', Inv.ofTry J' ok, q⟩
    | cont => obtain ⟨σ', H', J', q⟩ := hsp; exact ⟨σ', H', Inv.ofTry J' ok, q⟩
    | ret u => obtain ⟨v, σ', H', J', r, q⟩ := hsp; exact ⟨v, σ', H', Inv.ofTry J' ok, r, q⟩
end Ow
end
section
set_option maxHeartbeats 4000000
/-! The same for a law that shows dicts, too: the table of modules is told. -/
namespace Ow
open PySem PySem.Spec PyProof.Rows L2 StX
section
variable {P : Program} {w : World} {K : PySem.W.Frag} {mg mb : Str → Option Value} {k : Nat} {fa a c T : Addr} {sp : Sp} {s1 : Shared} {vs : List Value} {ns : List Int}
theorem end_fromTB (KX : K.In s1.heap) (hns : s1.heap.Ns mainGlobals mg) (hb : s1.heap.Ns builtinsNs mb) (hbb : ∀ x : Str, x ≠ "__name__" → mb x = bootBuiltins x) (hlim : s1.heap.NoLimit) (hsy : SysB s1.heap) (hg : s1.gens = #[]) (hr : Room k callerA)
    (eT : s1.heap.get? T = some tab0) (nT : K.lookup T = none) (cT : PySem.W.CodeHd s1.heap c T)
    (main : ∃ (m : Addr) (o : Obj), mg "__builtins__" = some (.ref m) ∧ m ≠ builtinsNs ∧ s1.heap.get? m = some o ∧ o.cls = .type "module" ∧ o.dict = some builtinsNs ∧ o.data = .plain)
    (F : ∀ base : Heap, K.In base → base.Ns mainGlobals mg → LamX.TabB base mg c T → SysB base → FnG P w K mg base CX0 k fa sp) {H : Hp} (B : Begin K s1.heap T H) (hok : HOk P w H s1.heap)
    (hsp : sp [.ref a] H (fun v _ => v = .bl true) fun _ _ _ => False) :
    codeAny (model P w) callerA (.call (.ref fa) ⟨[.ref a], []⟩) (fun r s' => r = .ok (.ret (.bool true)) ∧ OldK s1.heap s'.heap ∧ s'.os = s1.os ∧ AllBare s'.gens) s1 := by
  let base := hidT s1.heap H
  have free : ∀ {b : Addr} {o : Obj}, s1.heap.get? b = some o → (∀ items n, o.data ≠ .seq items n) → o.data ≠ .fields #[] → base.get? b = some o := fun {b o} e d1 d2 => by
    refine hidT_get e ?_
    by_cases q : b = T
    · rw [q, eT] at e
      cases e
      exact (d2 rfl).elim
    · rcases B.rest b q with z | ⟨o2, xs, items, n, _, _, e2, z⟩
      · exact z
      · rw [e] at e2
        cases e2
        exact (d1 _ _ z).elim
  have names : ∀ {b : Addr} {m : Str → Option Value}, s1.heap.Ns b m → base.Ns b m := fun z => by
    obtain ⟨o, es, ep, e, d, r⟩ := z
    exact ⟨o, es, ep, free e (fun _ _ y => by rw [d] at y; cases y) (fun y => by rw [d] at y; cases y), d, r⟩
  have hK : K.In base := fun b o e => by
    refine hidT_get (KX b o e) ?_
    by_cases q : b = T
    · rw [q, nT] at e
      cases e
    · rcases B.rest b q with z | ⟨o2, xs, items, n, _, z, _⟩
      · exact z
      · rw [e] at z
        cases z
  have lim : base.NoLimit := by
    obtain ⟨m, h1, h2⟩ := hlim
    exact ⟨m, names h1, h2⟩
  have TB : LamX.TabB base mg c T := by
    refine ⟨?_, ?_, fun z => ?_⟩
    · obtain ⟨o, us, file, tf, flags, tg, inF, text, tt, e1, p1, p2, p3, p4, p5, p6, p7, p8, p9⟩ := cT
      exact ⟨o, us, file, tf, flags, tg, inF, text, tt, free e1 (fun _ _ y => by rw [p2] at y; cases y) (fun y => by rw [p2] at y; cases y; simp at p3), p1, p2, p3, p4, p5, p6, p7, p8, p9⟩
    · obtain ⟨m, o, q1, q2, q3, q4, q5, q6⟩ := main
      refine ⟨m, o, q1, q2, fun y => ?_, fun y => ?_, free q3 (fun _ _ y => by rw [q6] at y; cases y) (fun y => by rw [q6] at y; cases y), q4, q5, q6⟩
      · obtain ⟨og, es, ep, e, d, _⟩ := hns
        rw [y, e] at q3
        cases q3
        rw [q6] at d
        cases d
      · rw [y, eT] at q3
        cases q3
        cases q6
    · obtain ⟨og, es, ep, e, d, _⟩ := hns
      rw [z, eT] at e
      cases e
      cases d
  have e0 : Env0 P w K mg base callerA [] s1 H :=
    { frames := rfl, mod := ⟨hK, names hns, ⟨mb, names hb, hbb⟩, lim⟩, bs := fun b o e => of_hidT e, bsz := Nat.le_of_eq (hidT_size _ _), funs := trivial, frf := fun b hb => (List.not_mem_nil hb).elim, hok := hok, bare := .of_eq hg }
  refine codeAny_mono (F base hK (names hns) TB (let ⟨m, z⟩ := hsy; ⟨m, names z⟩) callerA [] s1 H [.ref a] [.ref a] _ _ hr rfl e0 (.cons rfl .nil) hsp) fun r s' h => ?_
  cases r with
  | error e => exact False.elim h
  | ok fl =>
    cases fl with
    | next => exact False.elim h
    | brk => exact False.elim h
    | cont => exact False.elim h
    | ret u =>
      obtain ⟨v, H2, os, bare, un, ok2, rv, q⟩ := h
      subst q
      cases rv
      have still : ∀ b o, b ≠ T → s1.heap.get? b = some o → s'.heap.get? b = some o := fun b o nb e => by
        rcases B.rest b nb with z | ⟨o2, xs, items, n, z, _⟩
        · exact un.keep b o e z (fun y => List.not_mem_nil y) (fun y => List.not_mem_nil y)
        · have e1 := (hok b _ z).1
          have e2 := (ok2 b _ (un.frzs b o2 _ z)).1
          rw [e] at e1
          cases e1
          exact e2
      obtain ⟨more, z⟩ := un.tbls T #[] B.tab
      have wide := ok2 T _ z
      refine ⟨rfl, ⟨fun b o e => ?_, fun b o e => ?_⟩, os, bare⟩
      · by_cases q : b = T
        · subst q
          rw [eT] at e
          cases e
          exact .inr (.inl ⟨(cT.tab eT).isCodeTable, rfl, #[], _, rfl, by rw [Array.empty_append]; exact wide⟩)
        · exact .inl (still b o q e)
      · by_cases q : b = T
        · subst q
          exact ⟨_, wide⟩
        · exact ⟨o, still b o q e⟩
theorem end_callTB (KX : K.In s1.heap) (hns : s1.heap.Ns mainGlobals mg) (hb : s1.heap.Ns builtinsNs mb) (hbb : ∀ x : Str, x ≠ "__name__" → mb x = bootBuiltins x) (hlim : s1.heap.NoLimit) (hsy : SysB s1.heap) (hg : s1.gens = #[]) (hr : Room k callerA)
    (eT : s1.heap.get? T = some tab0) (nT : K.lookup T = none) (cT : PySem.W.CodeHd s1.heap c T)
    (main : ∃ (m : Addr) (o : Obj), mg "__builtins__" = some (.ref m) ∧ m ≠ builtinsNs ∧ s1.heap.get? m = some o ∧ o.cls = .type "module" ∧ o.dict = some builtinsNs ∧ o.data = .plain)
    (ha : s1.heap.get? a = some { cls := .type "list", data := .seq vs.toArray }) (hi : IntsAre vs ns) (hl : ns.length ≤ sizeLine) (F : ∀ base : Heap, K.In base → base.Ns mainGlobals mg → LamX.TabB base mg c T → SysB base → FnG P w K mg base CX0 k fa sp)
    (hsp : ∀ H : Hp, H T = some (.tbl #[]) → SqL K H a (ns.map V.int) → sp [.ref a] H (fun v _ => v = .bl true) fun _ _ _ => False) :
    codeAny (model P w) callerA (.call (.ref fa) ⟨[.ref a], []⟩) (fun r s' => r = .ok (.ret (.bool true)) ∧ OldK s1.heap s'.heap ∧ s'.os = s1.os ∧ AllBare s'.gens) s1 := by
  have rv := vals_ints hi
  have hl2 : (ns.map V.int).length ≤ sizeLine := by rw [List.length_map]; exact hl
  have naT : a ≠ T := fun z => by
    rw [z, eT] at ha
    cases ha
  cases hk : K.lookup a with
  | some o =>
    have e := KX a o hk
    rw [ha] at e
    cases e
    let H : Hp := fun b => if b = T then some (.tbl #[]) else none
    have HT : H T = some (.tbl #[]) := if_pos rfl
    have HN : ∀ b, b ≠ T → H b = none := fun b n => if_neg n
    refine end_fromTB KX hns hb hbb hlim hsy hg hr eT nT cT main F (H := H) ⟨HT, fun b n => .inl (HN b n)⟩ (fun b u z => ?_) (hsp H HT ?_)
    · by_cases q : b = T
      · subst q
        rw [HT] at z
        cases z
        exact eT
      · rw [HN b q] at z
        cases z
    · exact .inr ⟨_, vs.toArray, _, hk, rfl, rfl, rfl, by rw [List.size_toArray, hi.length]; exact hl, by simpa using rv⟩
  | none =>
    let o : Obj := { cls := .type "list", data := .seq vs.toArray }
    let H : Hp := fun b => if b = a then some (.frz o (.lst (ns.map V.int))) else if b = T then some (.tbl #[]) else none
    have HA : H a = some (.frz o (.lst (ns.map V.int))) := if_pos rfl
    have HT : H T = some (.tbl #[]) := by show (if T = a then _ else _) = _; rw [if_neg (Ne.symm naT), if_pos rfl]
    have HN : ∀ b, b ≠ a → b ≠ T → H b = none := fun b n n2 => by show (if b = a then _ else _) = _; rw [if_neg n, if_neg n2]
    refine end_fromTB KX hns hb hbb hlim hsy hg hr eT nT cT main F (H := H) ⟨HT, fun b n => ?_⟩ (fun b u z => ?_) (hsp H HT (.inl (.inr ⟨_, HA⟩)))
    · by_cases q : b = a
      · subst q
        exact .inr ⟨o, _, _, _, HA, hk, ha, rfl⟩
      · exact .inl (HN b q n)
    · by_cases q : b = a
      · subst q
        rw [HA] at z
        cases z
        exact ⟨ha, hl2, vs, _, rv, ha⟩
      · by_cases q2 : b = T
        · subst q2
          rw [HT] at z
          cases z
          exact eT
        · rw [HN b q q2] at z
          cases z
end
/-- what is to be known of the law's promise at the head's heap -/
def LawTB (l : PySem.W.OpenLaw) (w : World) (K : PySem.W.Frag) (k n : Nat) (mg : Str → Option Value) (fa : Addr) (h : Heap) : Prop :=
  ∃ (c T : Addr) (sp : Sp), h.get? T = some tab0 ∧ K.lookup T = none ∧ PySem.W.CodeHd h c T ∧
    (∀ (H : Hp) (a : Addr) (ns : List Int), ns.length ≤ n → H T = some (.tbl #[]) → SqL K H a (ns.map V.int) → sp [.ref a] H (fun v _ => v = .bl true) fun _ _ _ => False) ∧
    ∀ base : Heap, K.In base → base.Ns mainGlobals mg → LamX.TabB base mg c T → SysB base → FnG l.prog w K mg base CX0 k fa sp
theorem walk_ofTGB {l : PySem.W.OpenLaw} {n k : Nat} {q : Program} {loose : List Str} {XP : (Str → Option Value) → Heap → Prop} {YP : World → Heap → Prop} {d : DefRec} {K : Params → PySem.W.Frag}
    (hi : importsNone q = true) (hn : l.most = some n) (hn2 : n ≤ sizeLine) (hdf : d.params.defaults = []) (hr : Room k callerA) (hY : ∀ (w : World) (h : Heap), YP w h → (K w.params).In h)
    (F : ∀ (w : World) (mg : Str → Option Value) (fa : Addr) (h : Heap), YP w h → (K w.params).In h → h.Ns mainGlobals mg → mg d.name = some (.ref fa) → LawTB l w (K w.params) k n mg fa h) :
    PySem.W.WalkO q loose XP YP l.row.toRowW d [] (fun f vs => PySem.call f vs) := by
  refine Att.attach_call hn hdf fun w s0 s1 mg mb fa o pm cd doc a vs ns G Y ho hd hcd hmg hobj hints hlen hg => ?_
  have KX := hY w _ Y
  obtain ⟨c, T, sp, eT, nT, cT, hsp, hF⟩ := F w mg fa _ Y KX G.T.g hmg
  exact end_callTB KX G.T.g G.T.b G.T.builtins G.T.nolimit (let ⟨m, z, _⟩ := (G.T.seer hi).mods; ⟨m, z⟩) hg hr eT nT cT G.T.bmain hobj hints (Nat.le_trans hlen hn2) hF fun H hH hS => hsp H a ns hlen hH hS
end Ow
end
section
set_option maxHeartbeats 4000000
namespace Ow
open PySem PySem.Spec PyProof.Rows L2
section
variable {X : Cx} {CX : CXT} {k : Nat} {C g : Addr} {sp : Sp} {E : XK} {o : Expr} {m : Str} {pos apos : Pos} {ta : TE} {pl : Sem Bool}
/-- o.m(k=e, ..): an instance's method, by keywords alone -/
def tMethK (C : Addr) (m : Str) (n : Nat) (sp : Sp) (gV : List V → List V → List V) (E : XK) (ta : TE) (tk : TA) : TE := fun σ H Q => ta σ H fun x H1 => ∃ a dx fs, x = .ref a ∧ H1 a = some (.ins C dx fs) ∧ fs.lookup m = none ∧ tk σ H1 fun zs H2 => zs.length = n ∧ sp (gV [x] zs) H2 Q E
theorem pe_methK {kws : List Keyword} {fd : FuncData} {ps ks : List Str} {tk : TA} {gl : List Value → List Value → List Value} {gV : List V → List V → List V} (he : PE X o ta) (c : Cls X.K C) (hm : Meth X.K C m g)
    (F : FnOk X.prog X.w X.K X.mg X.base CX k g fd ps sp) (hr : Room k X.A) (hb : KBn X.K fd ps 1 ks gl gV) (hx : Passes CX X E) (hkw : PK X kws tk)
    (hall : (backToKw pos (keywordEach kws X.env)).all (·.1.isSome) = true := by rfl) (hks : (backToKw pos (keywordEach kws X.env)).filterMap (·.1) = ks := by rfl)
    (hpl : ((backTo pos (starEach [] X.env)).any (·.1) || (backToKw pos (keywordEach kws X.env)).any (·.1.isNone)) = false := by rfl)
    (ht : eval (.Call (.Attribute o m apos) [] kws pos) X.env = (do
      let ov ← eval o X.env
      standAt apos.atName
      let (f, first) ← holding [ov] (getMethod ov m pl)
      callWith pos f first (backTo pos (starEach [] X.env)) (backToKw pos (keywordEach kws X.env))) := by rfl) :
    PE X (.Call (.Attribute o m apos) [] kws pos) (tMethK C m ks.length sp gV E ta tk) := by
  refine ⟨fun pins s σ H Q I h => ?_⟩
  refine PySem.W.methodCall_KW (pl := pl) (thn (he.run pins s σ H _ I h) fun u s1 ⟨x, H1, I1, rx, a, dx, fs, ex, ea, l, q⟩ => ?_) ht
  subst ex
  obtain rfl : u = Value.ref a := rx
  refine getmeth_ok I1 ea c hm l ?_
  refine PySem.W.callWith_KW0 (h₀ := X.base) I.ok.mod.kin hm.kp hall ?_ hpl
  refine thn (hkw.run pos pins s1 σ H1 _ I1 q) fun ws s3 ⟨zs, H3, I3, rz, l2, q2⟩ => ⟨I3.kIn, ?_⟩
  rw [hks]
  have r1 : Vals [V.ref a] [Value.ref a] := .cons rfl .nil
  refine wpAny_call (codeAny_mono (F.run X.A X.stack s3 H3 ⟨[.ref a], ks.zip ws⟩ (gl [.ref a] ws) (gV [.ref a] zs) Q E hr I3.env0 (hb.to s3 [.ref a] ws I3.kIn rfl (rz.length.symm.trans l2)) (hb.rel r1 rz) q2) fun r s' hq => ?_)
  cases r with
  | error e => exact hx pins σ H3 s3 e s' I3 hq
  | ok fl =>
    cases fl with
    | ret u => exact I3.after hq
    | next => exact False.elim hq
    | brk => exact False.elim hq
    | cont => exact False.elim hq
end
end Ow
end
section
set_option maxHeartbeats 4000000
/-! range(a, b) for any two integers. -/
namespace Ow
open PySem PySem.Spec PyProof.Rows L2
theorem long_self {prog : Program} {w : World} {A : Around} {E : Value → Shared → Prop} {s : Shared} {it : Addr} {x left step : Int} {Q : Value → Shared → Prop} (hit : IsLongIter s.heap it x left step) (h : Q (.ref it) s) : wpAny (model prog w) A (pyIter (.ref it)) Q E s := by
  have hT : s.TypeIs (.ref it) "longrange_iterator" := ⟨_, hit, rfl⟩
  refine wpAny_pyIter_slot hT F.slot_longrange_iterator_iter (wpAny_call_entry F.slot_longrange_iterator_iter hT F.entry_longrange_iterator_iter ?_ (F.args_longrange_iterator_iter_1 (.ref it)))
  exact wpAny_pure ⟨.ref it, rfl, "longrange_iterator", .builtin "longrange_iterator.__next__", hT, F.slot_longrange_iterator_next.lookup, h⟩
theorem turn_long {P : Program} {w : World} {K : PySem.W.Frag} {tg : Expr} (it : Addr) (lo : Int) (n : Nat) : Turn P w K tg (Itr lo n) [it] it fun i h => i ≤ n ∧ IsLongIter h it (lo + (i : Nat) * 1) ((n : Int) - (i : Nat)) 1 where
  mem := by simp
  obj := fun i h st b hb => by
    have e : b = it := by simpa using hb
    subst e
    exact ⟨_, st.2, fun v z => by cases z⟩
  keep := fun i h h' st k => ⟨st.1, k it (by simp) _ st.2⟩
  item := by
    intro X hP hw hK hc i pins s σ H E I hf st hg
    subst hP hw
    obtain ⟨f0, f1, f2, f3, f4, f5⟩ := hf it (by simp)
    have W := Walks.longrange (prog := X.prog) (w := X.w) (I.ok.hd hc) it lo 1 n
    have hlt : i < n := hg
    refine W.item i s _ E hlt st.2 fun v h' tk hv st' kk => ?_
    obtain ⟨t, rfl⟩ := hv
    have I1 := I.turned (t' := tk) (h' := h') (it := it) (fun b o hb e => kk b o (by simpa using hb) e) f0 f1 f3 f4 f5
    refine ⟨.int (lo + (i : Nat) * 1) t, rfl, go_of st' rfl rfl (by decide) ?_⟩
    exact ⟨.int (lo + (i : Nat)), H, I1, ⟨t, by rw [Int.mul_one]⟩, ⟨rfl, rfl⟩, ⟨hlt, st'⟩, fun b hb => (hf b hb).1⟩
  done := by
    intro X hP hw hK hc i pins s σ H E I hf st hg
    subst hP hw
    obtain ⟨f0, f1, f2, f3, f4, f5⟩ := hf it (by simp)
    have W := Walks.longrange (prog := X.prog) (w := X.w) (I.ok.hd hc) it lo 1 n
    have hle : n ≤ i := hg
    obtain ⟨h1, h2⟩ := st
    have e : i = n := by omega
    subst e
    exact W.done s _ E h2 fun h' tk kk => ⟨rfl, I.turned (fun b o hb e => kk b o (by simpa using hb) e) f0 f1 f3 f4 f5⟩
  self := fun A i s Q E st h => long_self st.2 h
theorem size_nat (i j : Int) : Builtin.Range.rangeSize i j 1 = ((j - i).toNat : Int) := by
  rw [rangeSize_one]
  split <;> omega
def iRng2L (ta : TA) : TI := fun σ H R => ta σ H fun vs H1 => ∃ i j : Int, vs = [.int i, .int j] ∧ R (Itr i (j - i).toNat) H1
theorem pi_range2L {X : Cx} {tg a b : Expr} {ta : TA} {p pos : Pos} (hg : Gl X "range") (hm : X.mg "range" = none) (ha : PA X [a, b] ta) (hs : starEach [a, b] X.env = [(false, eval a X.env), (false, eval b X.env)] := by rfl) (hs2 : starEach [b] X.env = [(false, eval b X.env)] := by rfl) :
    PI X tg (.Call (.Name "range" p) [a, b] [] pos) (iRng2L ta) := by
  refine ⟨fun pins s σ H R I h => ?_⟩
  refine Call_ (ld_blt I hg hm boot_range (PyProof.Rows.callWith_type1 (thn (ha.run pos pins s σ H _ I h) fun us s1 ⟨vs, H1, I1, r1, i, j, ex, q⟩ => ?_) (by rw [hs, hs2]) (by rw [hs2]; rfl)))
  subst ex
  obtain ⟨u, u2, rfl, ru, ru2⟩ := vals2 r1
  obtain ⟨t, rfl⟩ := ru
  obtain ⟨t', rfl⟩ := ru2
  refine call_range_2 ?_
  have I2 := I1.kept (h' := s1.heap.push { cls := .type "range", data := .fields #[.int i t, .int j t', .int 1 s1.toks] }) (t' := s1.toks + 1) fun b o e => Heap.get?_push_of_some _ e
  have new := IsRange.new s1.heap i j 1 t t' s1.toks
  cases hz : Builtin.Range.small i j 1 with
  | true =>
    refine wpAny_pyIter_range new hz ?_
    rw [size_nat]
    refine pi_one I2 _ (turn_range _ i _) ?_ q
    have e := Heap.get?_push_size (s1.heap.push { cls := .type "range", data := .fields #[.int i t, .int j t', .int 1 s1.toks] }) (o := { cls := .type "range_iterator", data := .fields #[rawInt i, rawInt ((j - i).toNat : Int), rawInt 1] }) rfl
    simpa using e
  | false =>
    refine wpAny_pyIter_longrange new hz ?_
    rw [size_nat]
    refine pi_one I2 _ (turn_long _ i _) ?_ q
    have e := Heap.get?_push_size (s1.heap.push { cls := .type "range", data := .fields #[.int i t, .int j t', .int 1 s1.toks] }) (o := { cls := .type "longrange_iterator", data := .fields #[rawInt i, rawInt ((j - i).toNat : Int), rawInt 1] }) rfl
    exact ⟨Nat.zero_le _, by simpa using e⟩
end Ow
end
section
set_option maxHeartbeats 4000000
/-! The end of a law of which several defs hand lambdas over: a table for each of them. -/
namespace Ow
open PySem PySem.Spec PyProof.Rows L2 StX
section
variable {P : Program} {w : World} {K : PySem.W.Frag} {mg mb : Str → Option Value} {k : Nat} {fa a : Addr} {TL : List (Addr × Addr)} {sp : Sp} {s1 : Shared} {vs : List Value} {ns : List Int}
/-- what is known of the codes' tables ahead of the call -/
structure TabsAt (K : PySem.W.Frag) (h : Heap) (TL : List (Addr × Addr)) : Prop where
  at_ : ∀ p ∈ TL, h.get? p.2 = some tab0
  no : ∀ p ∈ TL, K.lookup p.2 = none
  cd : ∀ p ∈ TL, PySem.W.CodeHd h p.1 p.2
/-- what stands in the abstract heap at the begin: the tables, and perhaps the script -/
structure BeginL (K : PySem.W.Frag) (h : Heap) (TL : List (Addr × Addr)) (H : Hp) : Prop where
  tab : ∀ p ∈ TL, H p.2 = some (.tbl #[])
  rest : ∀ b, (∀ p ∈ TL, b ≠ p.2) → H b = none ∨ ∃ o xs items n, H b = some (.frz o (.lst xs)) ∧ K.lookup b = none ∧ h.get? b = some o ∧ o.data = .seq items n
theorem end_fromL (KX : K.In s1.heap) (hns : s1.heap.Ns mainGlobals mg) (hb : s1.heap.Ns builtinsNs mb) (hbb : ∀ x : Str, x ≠ "__name__" → mb x = bootBuiltins x) (hlim : s1.heap.NoLimit) (hsy : SysB s1.heap) (hg : s1.gens = #[]) (hr : Room k callerA)
    (tt : TabsAt K s1.heap TL)
    (main : ∃ (m : Addr) (o : Obj), mg "__builtins__" = some (.ref m) ∧ m ≠ builtinsNs ∧ s1.heap.get? m = some o ∧ o.cls = .type "module" ∧ o.dict = some builtinsNs ∧ o.data = .plain)
    (F : ∀ base : Heap, K.In base → base.Ns mainGlobals mg → (∀ p ∈ TL, LamX.TabB base mg p.1 p.2) → SysB base → FnG P w K mg base CX0 k fa sp) {H : Hp} (B : BeginL K s1.heap TL H) (hok : HOk P w H s1.heap)
    (hsp : sp [.ref a] H (fun v _ => v = .bl true) fun _ _ _ => False) :
    codeAny (model P w) callerA (.call (.ref fa) ⟨[.ref a], []⟩) (fun r s' => r = .ok (.ret (.bool true)) ∧ OldK s1.heap s'.heap ∧ s'.os = s1.os ∧ AllBare s'.gens) s1 := by
  let base := hidT s1.heap H
  have free : ∀ {b : Addr} {o : Obj}, s1.heap.get? b = some o → (∀ items n, o.data ≠ .seq items n) → o.data ≠ .fields #[] → base.get? b = some o := fun {b o} e d1 d2 => by
    refine hidT_get e ?_
    by_cases q : ∃ p ∈ TL, b = p.2
    · obtain ⟨p, hp, rfl⟩ := q
      rw [tt.at_ p hp] at e
      cases e
      exact (d2 rfl).elim
    · rcases B.rest b (fun p hp z => q ⟨p, hp, z⟩) with z | ⟨o2, xs, items, n, _, _, e2, z⟩
      · exact z
      · rw [e] at e2
        cases e2
        exact (d1 _ _ z).elim
  have names : ∀ {b : Addr} {m : Str → Option Value}, s1.heap.Ns b m → base.Ns b m := fun z => by
    obtain ⟨o, es, ep, e, d, r⟩ := z
    exact ⟨o, es, ep, free e (fun _ _ y => by rw [d] at y; cases y) (fun y => by rw [d] at y; cases y), d, r⟩
  have hK : K.In base := fun b o e => by
    refine hidT_get (KX b o e) ?_
    by_cases q : ∃ p ∈ TL, b = p.2
    · obtain ⟨p, hp, rfl⟩ := q
      rw [tt.no p hp] at e
      cases e
    · rcases B.rest b (fun p hp z => q ⟨p, hp, z⟩) with z | ⟨o2, xs, items, n, _, z, _⟩
      · exact z
      · rw [e] at z
        cases z
  have lim : base.NoLimit := by
    obtain ⟨m, h1, h2⟩ := hlim
    exact ⟨m, names h1, h2⟩
  have TB : ∀ p ∈ TL, LamX.TabB base mg p.1 p.2 := fun p hp => by
    have eT := tt.at_ p hp
    refine ⟨?_, ?_, fun z => ?_⟩
    · obtain ⟨o, us, file, tf, flags, tg, inF, text, tx, e1, p1, p2, p3, p4, p5, p6, p7, p8, p9⟩ := tt.cd p hp
      exact ⟨o, us, file, tf, flags, tg, inF, text, tx, free e1 (fun _ _ y => by rw [p2] at y; cases y) (fun y => by rw [p2] at y; cases y; simp at p3), p1, p2, p3, p4, p5, p6, p7, p8, p9⟩
    · obtain ⟨m, o, q1, q2, q3, q4, q5, q6⟩ := main
      refine ⟨m, o, q1, q2, fun y => ?_, fun y => ?_, free q3 (fun _ _ y => by rw [q6] at y; cases y) (fun y => by rw [q6] at y; cases y), q4, q5, q6⟩
      · obtain ⟨og, es, ep, e, d, _⟩ := hns
        rw [y, e] at q3
        cases q3
        rw [q6] at d
        cases d
      · rw [y, eT] at q3
        cases q3
        cases q6
    · obtain ⟨og, es, ep, e, d, _⟩ := hns
      rw [z, eT] at e
      cases e
      cases d
  have e0 : Env0 P w K mg base callerA [] s1 H :=
    { frames := rfl, mod := ⟨hK, names hns, ⟨mb, names hb, hbb⟩, lim⟩, bs := fun b o e => of_hidT e, bsz := Nat.le_of_eq (hidT_size _ _), funs := trivial, frf := fun b hb => (List.not_mem_nil hb).elim, hok := hok, bare := .of_eq hg }
  refine codeAny_mono (F base hK (names hns) TB (let ⟨m, z⟩ := hsy; ⟨m, names z⟩) callerA [] s1 H [.ref a] [.ref a] _ _ hr rfl e0 (.cons rfl .nil) hsp) fun r s' h => ?_
  cases r with
  | error e => exact False.elim h
  | ok fl =>
    cases fl with
    | next => exact False.elim h
    | brk => exact False.elim h
    | cont => exact False.elim h
    | ret u =>
      obtain ⟨v, H2, os, bare, un, ok2, rv, q⟩ := h
      subst q
      cases rv
      have still : ∀ b o, (∀ p ∈ TL, b ≠ p.2) → s1.heap.get? b = some o → s'.heap.get? b = some o := fun b o nb e => by
        rcases B.rest b nb with z | ⟨o2, xs, items, n, z, _⟩
        · exact un.keep b o e z (fun y => List.not_mem_nil y) (fun y => List.not_mem_nil y)
        · have e1 := (hok b _ z).1
          have e2 := (ok2 b _ (un.frzs b o2 _ z)).1
          rw [e] at e1
          cases e1
          exact e2
      refine ⟨rfl, ⟨fun b o e => ?_, fun b o e => ?_⟩, os, bare⟩
      · by_cases q : ∃ p ∈ TL, b = p.2
        · obtain ⟨p, hp, rfl⟩ := q
          obtain ⟨more, z⟩ := un.tbls p.2 #[] (B.tab p hp)
          have wide := ok2 p.2 _ z
          have eT := tt.at_ p hp
          rw [eT] at e
          cases e
          exact .inr (.inl ⟨((tt.cd p hp).tab eT).isCodeTable, rfl, #[], _, rfl, by rw [Array.empty_append]; exact wide⟩)
        · exact .inl (still b o (fun p hp z => q ⟨p, hp, z⟩) e)
      · by_cases q : ∃ p ∈ TL, b = p.2
        · obtain ⟨p, hp, rfl⟩ := q
          obtain ⟨more, z⟩ := un.tbls p.2 #[] (B.tab p hp)
          exact ⟨_, ok2 p.2 _ z⟩
        · exact ⟨o, still b o (fun p hp z => q ⟨p, hp, z⟩) e⟩
theorem end_callL (KX : K.In s1.heap) (hns : s1.heap.Ns mainGlobals mg) (hb : s1.heap.Ns builtinsNs mb) (hbb : ∀ x : Str, x ≠ "__name__" → mb x = bootBuiltins x) (hlim : s1.heap.NoLimit) (hsy : SysB s1.heap) (hg : s1.gens = #[]) (hr : Room k callerA)
    (tt : TabsAt K s1.heap TL)
    (main : ∃ (m : Addr) (o : Obj), mg "__builtins__" = some (.ref m) ∧ m ≠ builtinsNs ∧ s1.heap.get? m = some o ∧ o.cls = .type "module" ∧ o.dict = some builtinsNs ∧ o.data = .plain)
    (ha : s1.heap.get? a = some { cls := .type "list", data := .seq vs.toArray }) (hi : IntsAre vs ns) (hl : ns.length ≤ sizeLine) (F : ∀ base : Heap, K.In base → base.Ns mainGlobals mg → (∀ p ∈ TL, LamX.TabB base mg p.1 p.2) → SysB base → FnG P w K mg base CX0 k fa sp)
    (hsp : ∀ H : Hp, (∀ p ∈ TL, H p.2 = some (.tbl #[])) → SqL K H a (ns.map V.int) → sp [.ref a] H (fun v _ => v = .bl true) fun _ _ _ => False) :
    codeAny (model P w) callerA (.call (.ref fa) ⟨[.ref a], []⟩) (fun r s' => r = .ok (.ret (.bool true)) ∧ OldK s1.heap s'.heap ∧ s'.os = s1.os ∧ AllBare s'.gens) s1 := by
  have rv := vals_ints hi
  have hl2 : (ns.map V.int).length ≤ sizeLine := by rw [List.length_map]; exact hl
  have naT : ∀ p ∈ TL, a ≠ p.2 := fun p hp z => by
    rw [z, tt.at_ p hp] at ha
    cases ha
  cases hk : K.lookup a with
  | some o =>
    have e := KX a o hk
    rw [ha] at e
    cases e
    let H : Hp := fun b => if b ∈ TL.map Prod.snd then some (.tbl #[]) else none
    have HT : ∀ p ∈ TL, H p.2 = some (.tbl #[]) := fun p hp => if_pos (List.mem_map_of_mem hp)
    have HN : ∀ b, (∀ p ∈ TL, b ≠ p.2) → H b = none := fun b n => if_neg fun z => by
      obtain ⟨p, hp, e⟩ := List.mem_map.mp z
      exact n p hp e.symm
    refine end_fromL KX hns hb hbb hlim hsy hg hr tt main F (H := H) ⟨HT, fun b n => .inl (HN b n)⟩ (fun b u z => ?_) (hsp H HT ?_)
    · by_cases q : ∃ p ∈ TL, b = p.2
      · obtain ⟨p, hp, rfl⟩ := q
        rw [HT p hp] at z
        cases z
        exact tt.at_ p hp
      · rw [HN b fun p hp y => q ⟨p, hp, y⟩] at z
        cases z
    · exact .inr ⟨_, vs.toArray, _, hk, rfl, rfl, rfl, by rw [List.size_toArray, hi.length]; exact hl, by simpa using rv⟩
  | none =>
    let o : Obj := { cls := .type "list", data := .seq vs.toArray }
    let H : Hp := fun b => if b = a then some (.frz o (.lst (ns.map V.int))) else if b ∈ TL.map Prod.snd then some (.tbl #[]) else none
    have HA : H a = some (.frz o (.lst (ns.map V.int))) := if_pos rfl
    have HT : ∀ p ∈ TL, H p.2 = some (.tbl #[]) := fun p hp => by show (if p.2 = a then _ else _) = _; rw [if_neg (Ne.symm (naT p hp)), if_pos (List.mem_map_of_mem hp)]
    have HN : ∀ b, b ≠ a → (∀ p ∈ TL, b ≠ p.2) → H b = none := fun b n n2 => by
      show (if b = a then _ else _) = _
      rw [if_neg n, if_neg fun z => by
        obtain ⟨p, hp, e⟩ := List.mem_map.mp z
        exact n2 p hp e.symm]
    refine end_fromL KX hns hb hbb hlim hsy hg hr tt main F (H := H) ⟨HT, fun b n => ?_⟩ (fun b u z => ?_) (hsp H HT (.inl (.inr ⟨_, HA⟩)))
    · by_cases q : b = a
      · subst q
        exact .inr ⟨o, _, _, _, HA, hk, ha, rfl⟩
      · exact .inl (HN b q n)
    · by_cases q : b = a
      · subst q
        rw [HA] at z
        cases z
        exact ⟨ha, hl2, vs, _, rv, ha⟩
      · by_cases q2 : ∃ p ∈ TL, b = p.2
        · obtain ⟨p, hp, rfl⟩ := q2
          rw [HT p hp] at z
          cases z
          exact tt.at_ p hp
        · rw [HN b q fun p hp y => q2 ⟨p, hp, y⟩] at z
          cases z
end
/-- what is to be known of the law's promise at the head's heap -/
def LawTL (l : PySem.W.OpenLaw) (w : World) (K : PySem.W.Frag) (k n : Nat) (mg : Str → Option Value) (fa : Addr) (h : Heap) : Prop :=
  ∃ (TL : List (Addr × Addr)) (sp : Sp), TabsAt K h TL ∧
    (∀ (H : Hp) (a : Addr) (ns : List Int), ns.length ≤ n → (∀ p ∈ TL, H p.2 = some (.tbl #[])) → SqL K H a (ns.map V.int) → sp [.ref a] H (fun v _ => v = .bl true) fun _ _ _ => False) ∧
    ∀ base : Heap, K.In base → base.Ns mainGlobals mg → (∀ p ∈ TL, LamX.TabB base mg p.1 p.2) → SysB base → FnG l.prog w K mg base CX0 k fa sp
theorem walk_ofTL {l : PySem.W.OpenLaw} {n k : Nat} {q : Program} {loose : List Str} {XP : (Str → Option Value) → Heap → Prop} {YP : World → Heap → Prop} {d : DefRec} {K : Params → PySem.W.Frag}
    (hi : importsNone q = true) (hn : l.most = some n) (hn2 : n ≤ sizeLine) (hdf : d.params.defaults = []) (hr : Room k callerA) (hY : ∀ (w : World) (h : Heap), YP w h → (K w.params).In h)
    (F : ∀ (w : World) (mg : Str → Option Value) (fa : Addr) (h : Heap), YP w h → (K w.params).In h → h.Ns mainGlobals mg → mg d.name = some (.ref fa) → LawTL l w (K w.params) k n mg fa h) :
    PySem.W.WalkO q loose XP YP l.row.toRowW d [] (fun f vs => PySem.call f vs) := by
  refine Att.attach_call hn hdf fun w s0 s1 mg mb fa o pm cd doc a vs ns G Y ho hd hcd hmg hobj hints hlen hg => ?_
  have KX := hY w _ Y
  obtain ⟨TL, sp, tt, hsp, hF⟩ := F w mg fa _ Y KX G.T.g hmg
  exact end_callL KX G.T.g G.T.b G.T.builtins G.T.nolimit (let ⟨m, z, _⟩ := (G.T.seer hi).mods; ⟨m, z⟩) hg hr tt G.T.bmain hobj hints (Nat.le_trans hlen hn2) hF fun H hH hS => hsp H a ns hlen hH hS
end Ow
end
section
set_option maxHeartbeats 4000000
/-! zip of two or three texts. -/
namespace Ow
open PySem PySem.Spec PyProof.Rows L2
/-- a walk whose items are new tuples with a known content -/
def ItZ (n : Nat) (f : Nat → List V) : It := ⟨fun i _ => i < n, fun i H v H' => ∃ T, v = .ref T ∧ H T = none ∧ H' = upd H T (.tup (f i)), fun i _ => n ≤ i⟩
theorem turn_walksT {P : Program} {w : World} {K : PySem.W.Frag} {elts : List Expr} {kk : Nat} {tpos : Pos} {I : Addr} {fp wr : List Addr} {n : Nat} {Pt : Nat → Array Value → Prop} {St : Nat → Heap → Prop} {Mid : Nat → Addr → Heap → Prop} {f : Nat → List V}
    (W : ∀ A : Around, A.in1.handled = none → WalksT P w A I fp wr n Pt St Mid) (hI : I ∈ fp) (hob : ∀ i h, St i h → ∀ b ∈ fp, ∃ o, h.get? b = some o ∧ ∀ v, o.data ≠ .cell v)
    (hPt : ∀ i vals, Pt i vals → Vals (f i) vals.toList ∧ (f i).length ≤ sizeLine) (hself : ∀ (A : Around) (i : Nat) (s : Shared) (Q E : Value → Shared → Prop), St i s.heap → Q (.ref I) s → wpAny (model P w) A (pyIter (.ref I)) Q E s) :
    Turn P w K (.Tuple elts kk tpos) (ItZ n f) fp I (fun i h => i ≤ n ∧ St i h) where
  mem := hI
  obj := fun i h st b hb => hob i h st.2 b hb
  keep := fun i h h' st k => by
    have W0 := W { callerA with handled := none } rfl
    exact ⟨st.1, W0.frame i h h' st.2 k⟩
  item := by
    intro X hP hw hK hc i pins s σ H E J hf st hg
    subst hP hw
    have W1 := W X.A (J.ok.hd hc)
    have hlt : i < n := hg
    have hlive : ∀ b ∈ fp, b < s.heap.objs.size := fun b hb => by
      obtain ⟨o, ho, _⟩ := hob i _ st.2 b hb
      exact Heap.lt_size ho
    refine W1.item i s _ E hlt st.2 fun T vals h' tk hp hT ht mid kk1 => ?_
    refine ⟨.ref T, rfl, W1.go elts kk tpos i T _ _ E mid fun h'' st'' kk2 => ?_⟩
    have nw : ∀ b, b ∉ fp → b ∉ wr := fun b hb z => hb (W1.sub b z)
    obtain ⟨rv, hl⟩ := hPt i vals hp
    obtain ⟨oT, h1, h2, h3, h4⟩ := ht
    have ht2 : h''.get? T = some oT := kk2 T oT (W1.apart i T _ mid) h1
    have new : ObjOk X.prog X.w (upd H T (.tup (f i))) h'' T (.tup (f i)) := ⟨hl, vals.toList, rv, ⟨oT, ht2, h2, h3, by simpa using h4⟩⟩
    have J1 : Inv X pins σ (upd H T (.tup (f i))) { s with heap := h'', toks := tk } :=
      J.turnedNew (ch := fp) (fun b o hb q => kk2 b o (nw b hb) (kk1 b o (nw b hb) q)) hf hT new
    exact ⟨.ref T, _, J1, rfl, ⟨T, rfl, J.hok.fresh hT, rfl⟩, ⟨hlt, st''⟩, fun b hb => by
      rw [upd_ne (Nat.ne_of_lt (Nat.lt_of_lt_of_le (hlive b hb) hT))]
      exact (hf b hb).1⟩
  done := by
    intro X hP hw hK hc i pins s σ H E J hf st hg
    subst hP hw
    have W1 := W X.A (J.ok.hd hc)
    have hle : n ≤ i := hg
    obtain ⟨h1, h2⟩ := st
    have e : i = n := by omega
    subst e
    exact W1.done s _ E h2 fun h' tk kk => ⟨rfl, J.turnedL (ch := fp) (fun b o hb q => kk b o (fun z => hb (W1.sub b z)) q) hf⟩
  self := fun A i s Q E st h => hself A i s Q E st.2 h
/-- the signs of texts at an index -/
def sgn (x : Str) (i : Nat) : V := .str ⟨#[x.cps.toList.getD i 0]⟩
def iZipS (ta : TA) : TI := fun σ H R => ta σ H fun vs H1 => ∃ x y : Str, vs = [.str x, .str y] ∧ R (ItZ (min x.cps.size y.cps.size) fun i => [sgn x i, sgn y i]) H1
def iZipS3 (ta : TA) : TI := fun σ H R => ta σ H fun vs H1 => ∃ x y z : Str, vs = [.str x, .str y, .str z] ∧ R (ItZ (min (min x.cps.size y.cps.size) z.cps.size) fun i => [sgn x i, sgn y i, sgn z i]) H1
theorem sgn_rel {x : Str} {i : Nat} {v : Value} (h : ∃ c u, x.cps[i]? = some c ∧ v = .str ⟨#[c]⟩ u) : RelV (sgn x i) v := by
  obtain ⟨c, u, h1, rfl⟩ := h
  refine ⟨u, ?_⟩
  have e : x.cps.toList.getD i 0 = c := by rw [List.getD_eq_getElem?_getD, Array.getElem?_toList, h1]; rfl
  rw [e]
theorem stri_ob {h : Heap} {a : Addr} {ty : String} {x : Str} {t : Tok} {i : Nat} (e : h.IsStrIter a ty x t i) : ∃ o, h.get? a = some o ∧ ∀ v, o.data ≠ .cell v := by
  obtain ⟨o, h1, _, h3⟩ := e
  exact ⟨o, h1, fun v z => by rw [h3] at z; cases z⟩
theorem pi_zipS {X : Cx} {e e2 : Expr} {ta : TA} {p pos tpos : Pos} {elts : List Expr} {kk : Nat} (hg : Gl X "zip") (hm : X.mg "zip" = none) (ha : PA X [e, e2] ta) (hs : starEach [e, e2] X.env = [(false, eval e X.env), (false, eval e2 X.env)] := by rfl) (hs2 : starEach [e2] X.env = [(false, eval e2 X.env)] := by rfl) :
    PI X (.Tuple elts kk tpos) (.Call (.Name "zip" p) [e, e2] [] pos) (iZipS ta) := by
  refine ⟨fun pins s σ H R I h => ?_⟩
  refine Call_ (ld_blt I hg hm boot_zip (PyProof.Rows.callWith_type1 (thn (ha.run pos pins s σ H _ I h) fun us s1 ⟨vs, H1, I1, r1, x, y, ex, q⟩ => ?_) (by rw [hs, hs2]) (by rw [hs2]; rfl)))
  subst ex
  obtain ⟨u, u2, rfl, ⟨t1, rfl⟩, ⟨t2, rfl⟩⟩ := vals2 r1
  refine zip_begins2 (begins_text x t1) (begins_text y t2) trivial trivial fun h' hz hTI hTO h1 h2 hsz hk => wpAny_pyIter_zip hz ?_
  have sep : ZipSep2 (s1.heap.objs.size + 4) (s1.heap.objs.size + 2) (s1.heap.objs.size + 3) s1.heap.objs.size (s1.heap.objs.size + 1) [s1.heap.objs.size] [s1.heap.objs.size + 1] := by
    constructor <;> simp <;> omega
  have fp : ∀ b ∈ ((s1.heap.objs.size + 4) :: (s1.heap.objs.size + 2) :: (s1.heap.objs.size + 3) :: ([s1.heap.objs.size] ++ [s1.heap.objs.size + 1])), FpOk X pins H1 b := fun b hb => by
    have hle : s1.heap.objs.size ≤ b := by
      simp only [List.mem_cons, List.mem_append, List.not_mem_nil, or_false] at hb
      omega
    exact I1.fpOk hle (I1.hok.fresh hle)
  refine ⟨s1.heap.objs.size + 4, _, _, _, H1, rfl, I1.kept (t' := s1.toks) hk, turn_walksT (f := fun i => [sgn x i, sgn y i]) (fun A hA => WalksT.zipD2 sep (Draws.text hA s1.heap.objs.size x t1) (Draws.text hA (s1.heap.objs.size + 1) y t2)) (by simp) (fun i h st b hb => ?_) (fun i vals hp => ?_) (fun A i s Q E st hq => wpAny_pyIter_zip st.1 hq), ⟨Nat.zero_le _, hz, hTI, ⟨_, _, hTO⟩, ⟨_, h1, rfl, rfl⟩, ⟨_, h2, rfl, rfl⟩⟩, fp, q⟩
  · obtain ⟨g1, g2, ⟨a1, a2, g3⟩, g4, g5⟩ := st
    simp only [List.mem_cons, List.mem_append, List.not_mem_nil, or_false] at hb
    rcases hb with rfl | rfl | rfl | rfl | rfl
    · exact ⟨_, g1, fun v z => by cases z⟩
    · exact ⟨_, g2, fun v z => by cases z⟩
    · exact ⟨_, g3, fun v z => by cases z⟩
    · exact stri_ob g4
    · exact stri_ob g5
  · obtain ⟨x1, x2, p1, p2, rfl⟩ := hp
    exact ⟨.cons (sgn_rel p1) (.cons (sgn_rel p2) .nil), by show 2 ≤ sizeLine; decide⟩
theorem pi_zipS3 {X : Cx} {e e2 e3 : Expr} {ta : TA} {p pos tpos : Pos} {elts : List Expr} {kk : Nat} (hg : Gl X "zip") (hm : X.mg "zip" = none) (ha : PA X [e, e2, e3] ta) (hs : starEach [e, e2, e3] X.env = [(false, eval e X.env), (false, eval e2 X.env), (false, eval e3 X.env)] := by rfl) (hs2 : starEach [e2, e3] X.env = [(false, eval e2 X.env), (false, eval e3 X.env)] := by rfl) :
    PI X (.Tuple elts kk tpos) (.Call (.Name "zip" p) [e, e2, e3] [] pos) (iZipS3 ta) := by
  refine ⟨fun pins s σ H R I h => ?_⟩
  refine Call_ (ld_blt I hg hm boot_zip (PyProof.Rows.callWith_type1 (thn (ha.run pos pins s σ H _ I h) fun us s1 ⟨vs, H1, I1, r1, x, y, zz, ex, q⟩ => ?_) (by rw [hs, hs2]) (by rw [hs2]; rfl)))
  subst ex
  obtain ⟨u, us2, rfl, ⟨t1, rfl⟩, r2⟩ : ∃ u us2, us = u :: us2 ∧ RelV (.str x) u ∧ Vals [.str y, .str zz] us2 := by
    cases r1 with
    | cons a b => exact ⟨_, _, rfl, a, b⟩
  obtain ⟨u2, u3, rfl, ⟨t2, rfl⟩, ⟨t3, rfl⟩⟩ := vals2 r2
  refine zip_begins3 (begins_text x t1) (begins_text y t2) (begins_text zz t3) trivial trivial trivial fun h' hz hTI hTO h1 h2 h3 hsz hk => wpAny_pyIter_zip hz ?_
  have sep : ZipSep3 (s1.heap.objs.size + 5) (s1.heap.objs.size + 3) (s1.heap.objs.size + 4) s1.heap.objs.size (s1.heap.objs.size + 1) (s1.heap.objs.size + 2) [s1.heap.objs.size] [s1.heap.objs.size + 1] [s1.heap.objs.size + 2] := by
    constructor <;> simp <;> omega
  have fp : ∀ b ∈ ((s1.heap.objs.size + 5) :: (s1.heap.objs.size + 3) :: (s1.heap.objs.size + 4) :: ([s1.heap.objs.size] ++ [s1.heap.objs.size + 1] ++ [s1.heap.objs.size + 2])), FpOk X pins H1 b := fun b hb => by
    have hle : s1.heap.objs.size ≤ b := by
      simp only [List.mem_cons, List.mem_append, List.not_mem_nil, or_false] at hb
      omega
    exact I1.fpOk hle (I1.hok.fresh hle)
  refine ⟨s1.heap.objs.size + 5, _, _, _, H1, rfl, I1.kept (t' := s1.toks) hk, turn_walksT (f := fun i => [sgn x i, sgn y i, sgn zz i]) (fun A hA => WalksT.zipD3 sep (Draws.text hA s1.heap.objs.size x t1) (Draws.text hA (s1.heap.objs.size + 1) y t2) (Draws.text hA (s1.heap.objs.size + 2) zz t3)) (by simp) (fun i h st b hb => ?_) (fun i vals hp => ?_) (fun A i s Q E st hq => wpAny_pyIter_zip st.1 hq), ⟨Nat.zero_le _, hz, hTI, ⟨_, _, _, hTO⟩, ⟨_, h1, rfl, rfl⟩, ⟨_, h2, rfl, rfl⟩, ⟨_, h3, rfl, rfl⟩⟩, fp, q⟩
  · obtain ⟨g1, g2, ⟨a1, a2, a3, g3⟩, g4, g5, g6⟩ := st
    simp only [List.mem_cons, List.mem_append, List.not_mem_nil, or_false] at hb
    rcases hb with rfl | rfl | rfl | (rfl | rfl) | rfl
    · exact ⟨_, g1, fun v z => by cases z⟩
    · exact ⟨_, g2, fun v z => by cases z⟩
    · exact ⟨_, g3, fun v z => by cases z⟩
    · exact stri_ob g4
    · exact stri_ob g5
    · exact stri_ob g6
  · obtain ⟨x1, x2, x3, p1, p2, p3, rfl⟩ := hp
    exact ⟨.cons (sgn_rel p1) (.cons (sgn_rel p2) (.cons (sgn_rel p3) .nil)), by show 3 ≤ sizeLine; decide⟩
/-- as a walk -/
theorem walk_Z {n : Nat} {f : Nat → List V} : Walk (ItZ n f) n (fun _ => True) (fun i H v H' => ∃ T, v = .ref T ∧ H T = none ∧ H' = upd H T (.tup (f i))) := by
  refine ⟨fun i _ hi _ => hi, fun _ _ => Nat.le_refl _, fun i H v H' _ _ y => y⟩
end Ow
end
section
set_option maxHeartbeats 4000000
/-! list(zip(a, b)), a and b tuples. -/
namespace Ow
open PySem PySem.Spec PyProof.Rows L2
section
variable {prog : Program} {w : World} {A : Around} {E : Value → Shared → Prop} {s : Shared} {z TI TO i1 i2 : Addr} {fp1 fp2 : List Addr} {n1 n2 i : Nat} {P1 P2 : Nat → Value → Prop} {St1 St2 : Nat → Heap → Prop} {Q : Value → Shared → Prop}
/-- a zip whose last pair is kept by someone -/
def IsZipH (h : Heap) (z TI TO : Addr) (T : Addr) (b : Bool) : Prop := h.get? z = some { cls := .type "zip", data := .fields #[rawInt (T : Nat), .bool b, .bool false, .ref TI, .ref TO] }
theorem zip_notfree {T : Addr} {b : Bool} {oT : Obj} {K' : Bool → Shared → Prop} (hz : IsZipH s.heap z TI TO T b) (hT : s.heap.get? T = some oT) (k : ∀ h', IsZipH h' z TI TO T true → Heap.SameBut z s.heap h' → K' false { s with heap := h' }) :
    wpAny (model prog w) A (Builtin.SmallTypes.ownedTupleIsFree (.ref z)) K' E s := by
  obtain ⟨hp, g, d, tk0, os⟩ := s
  show wpAny _ _ (field (.ref z) 0 >>= _) _ _ _
  refine wpAny_bind (wpAny_field hz rfl rfl ?_)
  show wpAny _ _ (loadIfAlive T >>= _) _ _ _
  refine wpAny_bind (W.kdx_alive hT ?_)
  show wpAny _ _ (field (.ref z) 1 >>= _) _ _ _
  refine wpAny_bind (wpAny_field hz rfl rfl ?_)
  cases b with
  | true => exact wpAny_pure (k hp hz ⟨rfl, fun _ _ => rfl⟩)
  | false =>
    show wpAny _ _ (setField (.ref z) 1 (.bool true) >>= _) _ _ _
    exact wpAny_bind (wpAny_setField_rec hz (by show 1 < 5; decide) fun g0 hz0 hs0 => wpAny_pure (k g0 hz0 hs0))
theorem zip2_held (S : ZipSep2 z TI TO i1 i2 fp1 fp2) (D1 : Draws prog w A i1 fp1 n1 P1 St1) (D2 : Draws prog w A i2 fp2 n2 P2 St2) {T : Addr} {b : Bool} {oT : Obj} (hz : IsZipH s.heap z TI TO T b) (hT : s.heap.get? T = some oT) (hTI : IsTupOf2 s.heap TI (.ref i1) (.ref i2)) (st1 : St1 i s.heap) (st2 : St2 i s.heap) (lt1 : i < n1) (lt2 : i < n2)
    (hQ : ∀ (x1 x2 : Value) (h' : Heap) (tk : Nat), P1 i x1 → P2 i x2 → IsZipH h' z TI TO T true → St1 (i + 1) h' → St2 (i + 1) h' → IsTupOf2 h' s.heap.objs.size x1 x2 → h'.objs.size = s.heap.objs.size + 1 → (∀ (c : Addr) (o : Obj), c ≠ z → c ≠ i1 → c ≠ i2 → s.heap.get? c = some o → h'.get? c = some o) → Q (.ref s.heap.objs.size) { s with heap := h', toks := tk }) :
    wpAny (model prog w) A (Builtin.«zip.__next__» { pos := [Value.ref z] }) (fun fin s' => ∃ v, fin = Fin.done (Flow.ret v) ∧ Q v s') E s := by
  obtain ⟨hp, g, d, tk0, os⟩ := s
  show wpAny _ _ (field (.ref z) 2 >>= _) _ _ _
  refine wpAny_bind (wpAny_field hz rfl rfl ?_)
  refine wpAny_bind (wpAny_field hz rfl rfl ?_)
  refine wpAny_bind (wpAny_seqItems hTI rfl ?_)
  show wpAny _ _ (Builtin.SmallTypes.ownedTupleIsFree (.ref z) >>= _) _ _ _
  refine wpAny_bind (zip_notfree hz hT fun g0 hz0 hs0 => ?_)
  simp only [Bool.false_eq_true, if_false]
  refine wpAny_bind ?_
  rw [← Array.forIn_toList]
  simp only [List.forIn_cons, List.forIn_nil]
  refine wpAny_bind ?_
  refine wpAny_bind (wpAny_holding ?_)
  show wpAny _ _ (Builtin.SmallTypes.nextOf (.ref i1) >>= _) _ _ _
  refine wpAny_bind (D1.item i _ _ _ lt1 (D1.over st1 hs0 S.zf1) fun x1 p1 tk1 hx1 sn1 hp1 => ?_)
  refine wpAny_pure (wpAny_pure (wpAny_bind (wpAny_bind (wpAny_holding ?_))))
  show wpAny _ _ (Builtin.SmallTypes.nextOf (.ref i2) >>= _) _ _ _
  refine wpAny_bind (D2.item i _ _ _ lt2 (D2.over (D2.over st2 hs0 S.zf2) hp1 S.sep1_2) fun x2 p2 tk2 hx2 sn2 hp2 => ?_)
  refine wpAny_pure (wpAny_pure (wpAny_pure ?_))
  show wpAny _ _ (newTuple [x1, x2] >>= _) _ _ _
  refine wpAny_bind (wpAny_newTuple ?_ (by show 2 ≤ sizeLine; decide))
  have hsz : p2.objs.size = hp.objs.size := by rw [hp2.1, hp1.1, hs0.1]
  have zi1 : z ≠ i1 := fun e => S.zf1 (e ▸ S.mem1)
  have zi2 : z ≠ i2 := fun e => S.zf2 (e ▸ S.mem2)
  have hz2 : p2.get? z = some { cls := .type "zip", data := .fields #[rawInt (T : Nat), .bool true, .bool false, .ref TI, .ref TO] } := hp2.extBut z _ zi2 (hp1.extBut z _ zi1 hz0)
  have j1 := D1.over sn1 hp2 S.sep2_1
  refine wpAny_pure ⟨.ref p2.objs.size, rfl, ?_⟩
  have q := hQ x1 x2 (p2.push { cls := .type "tuple", data := .seq #[x1, x2] }) tk2 hx1 hx2 (Heap.get?_push_of_some _ hz2) (D1.frame (i + 1) p2 _ j1 fun b hb o e => Heap.get?_push_of_some _ e) (D2.frame (i + 1) p2 _ sn2 fun b hb o e => Heap.get?_push_of_some _ e)
    (by show (p2.push _).get? hp.objs.size = _; rw [← hsz]; exact Heap.get?_push_size _ rfl) (by rw [Heap.size_push, hsz]) (fun c o c0 c1 c2 e => Heap.get?_push_of_some _ (hp2.extBut c o c2 (hp1.extBut c o c1 (hs0.extBut c o c0 e))))
  rw [show (Value.ref p2.objs.size) = Value.ref hp.objs.size from by rw [hsz]]
  exact q
theorem zip2_held_end (S : ZipSep2 z TI TO i1 i2 fp1 fp2) (D1 : Draws prog w A i1 fp1 n1 P1 St1) {T : Addr} {b : Bool} {oT : Obj} {R : PySem.Fin → Shared → Prop} (hz : IsZipH s.heap z TI TO T b) (hT : s.heap.get? T = some oT) (hTI : IsTupOf2 s.heap TI (.ref i1) (.ref i2)) (st1 : St1 n1 s.heap)
    (hE : ∀ (h' : Heap) (e : Addr), (∀ (c : Addr) (o : Obj), c ≠ z → c ≠ i1 → s.heap.get? c = some o → h'.get? c = some o) → (∃ o, h'.get? e = some o ∧ o.cls = .type "StopIteration") → E (.ref e) { s with heap := h' }) :
    wpAny (model prog w) A (Builtin.«zip.__next__» { pos := [Value.ref z] }) R E s := by
  obtain ⟨hp, g, d, tk0, os⟩ := s
  show wpAny _ _ (field (.ref z) 2 >>= _) _ _ _
  refine wpAny_bind (wpAny_field hz rfl rfl ?_)
  refine wpAny_bind (wpAny_field hz rfl rfl ?_)
  refine wpAny_bind (wpAny_seqItems hTI rfl ?_)
  show wpAny _ _ (Builtin.SmallTypes.ownedTupleIsFree (.ref z) >>= _) _ _ _
  refine wpAny_bind (zip_notfree hz hT fun g0 hz0 hs0 => ?_)
  simp only [Bool.false_eq_true, if_false]
  refine wpAny_bind ?_
  rw [← Array.forIn_toList]
  simp only [List.forIn_cons, List.forIn_nil]
  refine wpAny_bind ?_
  refine wpAny_bind (wpAny_holding ?_)
  show wpAny _ _ (Builtin.SmallTypes.nextOf (.ref i1) >>= _) _ _ _
  exact wpAny_bind (D1.done _ _ _ (D1.over st1 hs0 S.zf1) fun h' e x h2 => hE h' e (fun c o c0 c1 q => x c o c1 (hs0.extBut c o c0 q)) h2)
end
section
variable {prog : Program} {w : World} {A : Around} {E : Value → Shared → Prop} {s : Shared} {z TI TO i1 i2 : Addr} {fp1 fp2 : List Addr} {n1 n2 i : Nat} {P1 P2 : Nat → Value → Prop} {St1 St2 : Nat → Heap → Prop} {Q : Option Value → Shared → Prop}
theorem pyNext_held (S : ZipSep2 z TI TO i1 i2 fp1 fp2) (D1 : Draws prog w A.in1 i1 fp1 n1 P1 St1) (D2 : Draws prog w A.in1 i2 fp2 n2 P2 St2) {T : Addr} {b : Bool} {oT : Obj} (hz : IsZipH s.heap z TI TO T b) (hT : s.heap.get? T = some oT) (hTI : IsTupOf2 s.heap TI (.ref i1) (.ref i2)) (st1 : St1 i s.heap) (st2 : St2 i s.heap) (lt1 : i < n1) (lt2 : i < n2)
    (hQ : ∀ (x1 x2 : Value) (h' : Heap) (tk : Nat), P1 i x1 → P2 i x2 → IsZipH h' z TI TO T true → St1 (i + 1) h' → St2 (i + 1) h' → IsTupOf2 h' s.heap.objs.size x1 x2 → h'.objs.size = s.heap.objs.size + 1 → (∀ (c : Addr) (o : Obj), c ≠ z → c ≠ i1 → c ≠ i2 → s.heap.get? c = some o → h'.get? c = some o) → Q (some (.ref s.heap.objs.size)) { s with heap := h', toks := tk }) :
    wpAny (model prog w) A (pyNext (.ref z)) Q E s := by
  have ty : s.TypeIs (.ref z) "zip" := ⟨_, hz, rfl⟩
  unfold pyNext
  refine wpAny_bind (wpAny_attempt (wpAny_callSpecial?_slot (name := Str.ofString "__next__") ty F.slot_zip_next (wpAny_call_entry F.slot_zip_next ty F.entry_zip_next ?_ (F.args_zip_next_1 _))))
  refine zip2_held S D1 D2 hz hT hTI st1 st2 lt1 lt2 fun x1 x2 h' tk p1 p2 z1 s1 s2 t1 t2 t3 => ?_
  exact wpAny_pure (hQ x1 x2 h' tk p1 p2 z1 s1 s2 t1 t2 t3)
theorem pyNext_held_end (hh : A.in1.handled = none) (S : ZipSep2 z TI TO i1 i2 fp1 fp2) (D1 : Draws prog w A.in1 i1 fp1 n1 P1 St1) {T : Addr} {b : Bool} {oT : Obj} (hz : IsZipH s.heap z TI TO T b) (hT : s.heap.get? T = some oT) (hTI : IsTupOf2 s.heap TI (.ref i1) (.ref i2)) (st1 : St1 n1 s.heap)
    (hQ : ∀ (h' : Heap), (∀ (c : Addr) (o : Obj), c ≠ z → c ≠ i1 → s.heap.get? c = some o → h'.get? c = some o) → Q none { s with heap := h' }) :
    wpAny (model prog w) A (pyNext (.ref z)) Q E s := by
  have ty : s.TypeIs (.ref z) "zip" := ⟨_, hz, rfl⟩
  unfold pyNext
  refine wpAny_bind (wpAny_attempt (wpAny_callSpecial?_slot (name := Str.ofString "__next__") ty F.slot_zip_next (wpAny_call_entry F.slot_zip_next ty F.entry_zip_next ?_ (F.args_zip_next_1 _))))
  refine zip2_held_end S D1 hz hT hTI st1 fun h' e x hc => ?_
  obtain ⟨o, ho, hc⟩ := hc
  exact wpAny_bind (wpAny_isInstance (T := "StopIteration") (b := true) ⟨o, ho, hc⟩ isSubtype_stop (wpAny_pure (hQ h' x)))
end
end Ow
end
section
set_option maxHeartbeats 4000000
namespace Ow
open PySem PySem.Spec PyProof.Rows L2
section
variable {prog : Program} {w : World} {A : Around} {z TI TO i1 i2 t1 t2 : Addr} {xs ys : Array Value}
/-- a list at S that is being filled with the pairs of a zip: so far those at Ts -/
structure Fill (h0 : Heap) (z TI TO i1 i2 t1 t2 S : Addr) (xs ys : Array Value) (i : Nat) (Ts : List Addr) (h : Heap) : Prop where
  len : Ts.length = i
  lst : ∃ c, h.get? S = some { cls := .type "list", data := .seq (Ts.map Value.ref).toArray c }
  zip : (i = 0 ∧ IsZip h z TI TO .none ∧ ∃ a1 a2, IsTupOf2 h TO a1 a2) ∨ ∃ T b, T ∈ Ts ∧ IsZipH h z TI TO T b
  ti : IsTupOf2 h TI (.ref i1) (.ref i2)
  s1 : h.IsTupleIter i1 t1 i ∧ h.IsTuple t1 xs
  s2 : h.IsTupleIter i2 t2 i ∧ h.IsTuple t2 ys
  at_ : ∀ (j : Nat) (T : Addr), Ts[j]? = some T → ∃ x y, xs[j]? = some x ∧ ys[j]? = some y ∧ IsTupOf2 h T x y
  new : ∀ T ∈ Ts, h0.objs.size ≤ T
  nd : Ts.Nodup
  keep : ∀ b o, h0.get? b = some o → b ≠ z → b ≠ TO → b ≠ i1 → b ≠ i2 → b ≠ S → h.get? b = some o
  size : h0.objs.size ≤ h.objs.size
  lt : ∀ T ∈ Ts, T < h.objs.size
/-- the list is full -/
structure Filled (h0 : Heap) (z TO i1 i2 S : Addr) (xs ys : Array Value) (n : Nat) (Ts : List Addr) (h : Heap) : Prop where
  len : Ts.length = n
  lst : ∃ c, h.get? S = some { cls := .type "list", data := .seq (Ts.map Value.ref).toArray c }
  at_ : ∀ (j : Nat) (T : Addr), Ts[j]? = some T → ∃ x y, xs[j]? = some x ∧ ys[j]? = some y ∧ IsTupOf2 h T x y
  new : ∀ T ∈ Ts, h0.objs.size ≤ T
  nd : Ts.Nodup
  keep : ∀ b o, h0.get? b = some o → b ≠ z → b ≠ TO → b ≠ i1 → b ≠ i2 → b ≠ S → h.get? b = some o
/-- how the parts of a zip stand to each other and to the list -/
structure Parts (h0 : Heap) (z TI TO i1 i2 t1 t2 S : Addr) : Prop where
  sep : ZipSep2 z TI TO i1 i2 [i1, t1] [i2, t2]
  n1 : t1 ≠ i1
  n2 : t2 ≠ i2
  sz : z ≠ S ∧ TI ≠ S ∧ TO ≠ S ∧ i1 ≠ S ∧ i2 ≠ S ∧ t1 ≠ S ∧ t2 ≠ S
  old : z < h0.objs.size ∧ TI < h0.objs.size ∧ TO < h0.objs.size ∧ i1 < h0.objs.size ∧ i2 < h0.objs.size ∧ S < h0.objs.size
theorem Fill.step {h0 h h' : Heap} {S : Addr} {i T : Nat} {Ts : List Addr} {x y : Value} {c : Nat} (J : Fill h0 z TI TO i1 i2 t1 t2 S xs ys i Ts h) (Pt : Parts h0 z TI TO i1 i2 t1 t2 S)
    (hx : xs[i]? = some x) (hy : ys[i]? = some y) (hT : T = h.objs.size) (hz : ∃ T0 b, T0 ∈ Ts ++ [T] ∧ IsZipH h' z TI TO T0 b) (s1 : h'.IsTupleIter i1 t1 (i + 1) ∧ h'.IsTuple t1 xs) (s2 : h'.IsTupleIter i2 t2 (i + 1) ∧ h'.IsTuple t2 ys)
    (ht : IsTupOf2 h' T x y) (hs : h'.objs.size = h.objs.size + 1) (hk : ∀ (c : Addr) (o : Obj), c ≠ z → c ≠ TO → c ≠ i1 → c ≠ i2 → c ≠ S → h.get? c = some o → h'.get? c = some o)
    (hl : h'.get? S = some { cls := .type "list", data := .seq ((Ts ++ [T]).map Value.ref).toArray c }) :
    Fill h0 z TI TO i1 i2 t1 t2 S xs ys (i + 1) (Ts ++ [T]) h' := by
  obtain ⟨o1, o2, o3, o4, o5, o6⟩ := Pt.old
  have big : ∀ T0 ∈ Ts, T0 ≠ z ∧ T0 ≠ TO ∧ T0 ≠ i1 ∧ T0 ≠ i2 ∧ T0 ≠ S := fun T0 hm => by
    have := J.new T0 hm
    exact ⟨Nat.ne_of_gt (Nat.lt_of_lt_of_le o1 this), Nat.ne_of_gt (Nat.lt_of_lt_of_le o3 this), Nat.ne_of_gt (Nat.lt_of_lt_of_le o4 this), Nat.ne_of_gt (Nat.lt_of_lt_of_le o5 this), Nat.ne_of_gt (Nat.lt_of_lt_of_le o6 this)⟩
  refine ⟨by rw [List.length_append, J.len]; rfl, ⟨c, hl⟩, .inr hz, ?_, s1, s2, fun j T0 hj => ?_, fun T0 hm => ?_, ?_, fun b o e a1 a2 a3 a4 a5 => hk b o a1 a2 a3 a4 a5 (J.keep b o e a1 a2 a3 a4 a5), by have := J.size; omega, fun T0 hm => ?_⟩
  · exact hk TI _ Pt.sep.TIz Pt.sep.TITO Pt.sep.TIi1 Pt.sep.TIi2 Pt.sz.2.1 J.ti
  · by_cases hlt : j < Ts.length
    · rw [List.getElem?_append_left hlt] at hj
      obtain ⟨x0, y0, e1, e2, e3⟩ := J.at_ j T0 hj
      obtain ⟨b1, b2, b3, b4, b5⟩ := big T0 (List.mem_of_getElem? hj)
      exact ⟨x0, y0, e1, e2, hk T0 _ b1 b2 b3 b4 b5 e3⟩
    · rw [List.getElem?_append_right (by omega)] at hj
      have hj0 : j - Ts.length = 0 := by
        by_cases q : j - Ts.length = 0
        · exact q
        · rw [List.getElem?_eq_none (by simp; omega)] at hj
          cases hj
      rw [hj0] at hj
      cases hj
      have e : j = i := by have := J.len; omega
      subst e
      exact ⟨x, y, hx, hy, ht⟩
  · rcases List.mem_append.mp hm with h1 | h1
    · exact J.new T0 h1
    · rw [List.mem_singleton.mp h1, hT]
      exact J.size
  · refine List.nodup_append.mpr ⟨J.nd, by simp, fun a ha b hb e => ?_⟩
    rw [List.mem_singleton.mp hb, hT] at e
    exact absurd e (Nat.ne_of_lt (J.lt a ha))
  · rcases List.mem_append.mp hm with h1 | h1
    · exact Nat.lt_of_lt_of_le (J.lt T0 h1) (by rw [hs]; exact Nat.le_succ _)
    · rw [List.mem_singleton.mp h1, hT, hs]
      exact Nat.lt_succ_self _
/-- the loop that fills the list -/
theorem extend_zip {R : Result → Shared → Prop} {h0 : Heap} {S : Addr} {res : Value} {n : Nat} (hh : A.handled = none) (Pt : Parts h0 z TI TO i1 i2 t1 t2 S) (n1 : xs.size = n) (n2 : ys.size = n) (n0 : 0 < n) (hn : n ≤ sizeLine) (g : Array GenState) (d : Drawn) (os : OsState)
    (hR : ∀ (Ts : List Addr) (h' : Heap) (tk : Nat), Filled h0 z TO i1 i2 S xs ys n Ts h' → R (.ok (.ret res)) { heap := h', gens := g, drawn := d, toks := tk, os := os }) :
    ∀ (k i : Nat) (h : Heap) (tk : Nat) (Ts : List Addr), n - i = k → i ≤ n → Fill h0 z TI TO i1 i2 t1 t2 S xs ys i Ts h → codeAny (model prog w) A (.builtin "list.extend.loop" ⟨[.ref S, .ref z, res], []⟩) R { heap := h, gens := g, drawn := d, toks := tk, os := os }
  | 0, i, h, tk, Ts, hk, hi, J => by
    have e : i = n := by omega
    subst e
    obtain ⟨T0, b, hm, hz⟩ : ∃ T b, T ∈ Ts ∧ IsZipH h z TI TO T b := by
      rcases J.zip with ⟨q, _⟩ | q
      · omega
      · exact q
    obtain ⟨j, hj⟩ := List.getElem?_of_mem hm
    obtain ⟨x0, y0, _, _, e3⟩ := J.at_ j T0 hj
    have D1 := Draws.tuple (prog := prog) (w := w) (A := A.in1.in1) hh i1 t1 Pt.n1 xs
    have D2 := Draws.tuple (prog := prog) (w := w) (A := A.in1.in1) hh i2 t2 Pt.n2 ys
    obtain ⟨c, hS⟩ := J.lst
    refine codeAny_builtin F.entry_extend_loop ?_
    rw [Around.under_plainId F.plain_extend_loop _]
    show wpAny _ _ (pyNext (.ref z) >>= _) _ _ _
    refine wpAny_bind (pyNext_held_end (s := { heap := h, gens := g, drawn := d, toks := tk, os := os }) hh Pt.sep D1 hz e3 J.ti (by rw [n1]; exact J.s1) fun h' x => ?_)
    have keepAll : ∀ b o, h.get? b = some o → b ≠ z → b ≠ i1 → h'.get? b = some o := fun b o e a1 a2 => x b o a1 a2 e
    refine wpAny_pure (hR Ts h' tk ?_)
    obtain ⟨o1, o2, o3, o4, o5, o6⟩ := Pt.old
    refine ⟨J.len, ⟨c, keepAll S _ hS (Ne.symm Pt.sz.1) (Ne.symm Pt.sz.2.2.2.1)⟩, fun j T hj => ?_, J.new, J.nd, fun b o e a1 a2 a3 a4 a5 => keepAll b o (J.keep b o e a1 a2 a3 a4 a5) a1 a3⟩
    obtain ⟨x1, y1, q1, q2, q3⟩ := J.at_ j T hj
    have := J.new T (List.mem_of_getElem? hj)
    exact ⟨x1, y1, q1, q2, keepAll T _ q3 (Nat.ne_of_gt (Nat.lt_of_lt_of_le o1 this)) (Nat.ne_of_gt (Nat.lt_of_lt_of_le o4 this))⟩
  | k + 1, i, h, tk, Ts, hk, hi, J => by
    have hlt : i < n := by omega
    obtain ⟨c, hS⟩ := J.lst
    refine codeAny_builtin F.entry_extend_loop ?_
    rw [Around.under_plainId F.plain_extend_loop _]
    show wpAny _ _ (pyNext (.ref z) >>= _) _ _ _
    have D1 := Draws.tuple (prog := prog) (w := w) (A := A.in1.in1) hh i1 t1 Pt.n1 xs
    have D2 := Draws.tuple (prog := prog) (w := w) (A := A.in1.in1) hh i2 t2 Pt.n2 ys
    have next : ∀ (x1 x2 : Value) (h' : Heap) (tk' : Nat), xs[i]? = some x1 → ys[i]? = some x2 → (∃ T0 b, T0 ∈ Ts ++ [h.objs.size] ∧ IsZipH h' z TI TO T0 b) → (h'.IsTupleIter i1 t1 (i + 1) ∧ h'.IsTuple t1 xs) → (h'.IsTupleIter i2 t2 (i + 1) ∧ h'.IsTuple t2 ys) → IsTupOf2 h' h.objs.size x1 x2 → h'.objs.size = h.objs.size + 1 →
        (∀ (c : Addr) (o : Obj), c ≠ z → c ≠ TO → c ≠ i1 → c ≠ i2 → h.get? c = some o → h'.get? c = some o) →
        wpAny (model prog w) A.in1 (do
          Builtin.List.listUpdate (.ref S) fun x_1 => x_1.push (.ref h.objs.size)
          again (Code.builtin "list.extend.loop" ⟨[.ref S, .ref z, res], []⟩)) (fun fin s' => match fin with
          | Fin.done f => R (.ok f) s'
          | Fin.again c' => c'.quiet = true ∧ codeAny (model prog w) A c' R s') (fun e s' => R (.error e) s') { heap := h', gens := g, drawn := d, toks := tk', os := os } := by
      intro x1 x2 h' tk' p1 p2 hz s1 s2 ht hs hk
      have hS' := hk S _ (Ne.symm Pt.sz.1) (Ne.symm Pt.sz.2.2.1) (Ne.symm Pt.sz.2.2.2.1) (Ne.symm Pt.sz.2.2.2.2.1) hS
      refine wpAny_bind (wpAny_updateSeq hS' rfl (wpAny_pure ⟨plainId_quiet F.plain_extend_loop _, ?_⟩) ?_ ?_)
      · have up := fun (b : Addr) (o : Obj) (hb : b ≠ S) (e : h'.get? b = some o) => (Heap.get?_update_other h' (Obj.mapSeq fun x => x.push (.ref h.objs.size)) (Ne.symm hb)).trans e
        refine extend_zip hh Pt n1 n2 n0 hn g d os hR k (i + 1) _ tk' (Ts ++ [h.objs.size]) (by omega) hlt ?_
        have st1 := D1.frame (i + 1) h' (h'.update S (Obj.mapSeq fun x => x.push (.ref h.objs.size))) s1 fun b hb o e => up b o (by
          rcases List.mem_cons.mp hb with rfl | hb
          · exact Pt.sz.2.2.2.1
          · rw [List.mem_singleton.mp hb]; exact Pt.sz.2.2.2.2.2.1) e
        have st2 := D2.frame (i + 1) h' (h'.update S (Obj.mapSeq fun x => x.push (.ref h.objs.size))) s2 fun b hb o e => up b o (by
          rcases List.mem_cons.mp hb with rfl | hb
          · exact Pt.sz.2.2.2.2.1
          · rw [List.mem_singleton.mp hb]; exact Pt.sz.2.2.2.2.2.2) e
        obtain ⟨T0, b, hm, hz⟩ := hz
        have nS : h.objs.size ≠ S := Nat.ne_of_gt (Nat.lt_of_lt_of_le Pt.old.2.2.2.2.2 J.size)
        have hl := Heap.get?_update_self (Obj.mapSeq fun x => x.push (.ref h.objs.size)) hS' rfl
        refine J.step (c := c + 1) Pt p1 p2 rfl ⟨T0, b, hm, up z _ Pt.sz.1 hz⟩ st1 st2 (up _ _ nS ht) (by rw [Heap.size_update]; exact hs) (fun c o c0 c1 c2 c3 c4 e => up c o c4 (hk c o c0 c1 c2 c3 e)) (hl.trans ?_)
        unfold Obj.mapSeq
        simp
      · rw [List.size_toArray, List.length_map, J.len]
        exact Nat.le_trans hi hn
      · rw [Array.size_push, List.size_toArray, List.length_map, J.len]
        exact Nat.succ_le_succ (Nat.le_trans hi hn)
    rcases J.zip with ⟨rfl, hz, a1, a2, hTO⟩ | ⟨T0, b, hm, hz⟩
    · refine wpAny_bind (wpAny_pyNext_zipD2_item (s := { heap := h, gens := g, drawn := d, toks := tk, os := os }) Pt.sep D1 D2 hz J.ti hTO J.s1 J.s2 (by omega) (by omega) fun x1 x2 h' tk' p1 p2 z1 t1' s1 s2 ht hs hk => ?_)
      exact next x1 x2 h' tk' p1 p2 ⟨h.objs.size, false, List.mem_append.mpr (.inr (List.mem_singleton.mpr rfl)), z1⟩ s1 s2 ht hs hk
    · obtain ⟨j, hj⟩ := List.getElem?_of_mem hm
      obtain ⟨x0, y0, _, _, e3⟩ := J.at_ j T0 hj
      refine wpAny_bind (pyNext_held (s := { heap := h, gens := g, drawn := d, toks := tk, os := os }) Pt.sep D1 D2 hz e3 J.ti J.s1 J.s2 (by omega) (by omega) fun x1 x2 h' tk' p1 p2 z1 s1 s2 ht hs hk => ?_)
      exact next x1 x2 h' tk' p1 p2 ⟨T0, true, List.mem_append.mpr (.inl hm), z1⟩ s1 s2 ht hs fun c o c0 c1 c2 c3 e => hk c o c0 c2 c3 e
end
end Ow
end
section
set_option maxHeartbeats 4000000
namespace Ow
open PySem PySem.Spec PyProof.Rows L2
theorem zip_no_len : typeLookup (Value.type "zip") (Str.ofString "__len__") = pure none := by with_unfolding_all rfl
theorem zip_no_hint : typeLookup (Value.type "zip") (Str.ofString "__length_hint__") = pure none := by with_unfolding_all rfl
section
variable {prog : Program} {w : World} {A : Around} {z TI TO i1 i2 t1 t2 : Addr} {xs ys : Array Value}
theorem extendWith_zip {R : Result → Shared → Prop} {h0 : Heap} {S : Addr} {res : Value} {n : Nat} (hh : A.handled = none) (Pt : Parts h0 z TI TO i1 i2 t1 t2 S) (n1 : xs.size = n) (n2 : ys.size = n) (n0 : 0 < n) (hn : n ≤ sizeLine) (g : Array GenState) (d : Drawn) (os : OsState)
    (hR : ∀ (Ts : List Addr) (h' : Heap) (tk : Nat), Filled h0 z TO i1 i2 S xs ys n Ts h' → R (.ok (.ret res)) { heap := h', gens := g, drawn := d, toks := tk, os := os }) (h : Heap) (tk : Nat) (J : Fill h0 z TI TO i1 i2 t1 t2 S xs ys 0 [] h) :
    wpAny (model prog w) A.in1 (Builtin.List.listExtendWith (.ref S) (.ref z) res) (fun fin s' => match fin with
      | Fin.done f => R (.ok f) s'
      | Fin.again c' => c'.quiet = true ∧ codeAny (model prog w) A c' R s') (fun e s' => R (.error e) s') { heap := h, gens := g, drawn := d, toks := tk, os := os } := by
  have hz : IsZip h z TI TO .none := by
    rcases J.zip with ⟨_, q, _⟩ | ⟨T, b, hm, _⟩
    · exact q
    · cases hm
  have ty : ({ heap := h, gens := g, drawn := d, toks := tk, os := os } : Shared).TypeIs (.ref z) "zip" := ⟨_, hz, rfl⟩
  unfold Builtin.List.listExtendWith
  refine wpAny_bind (wpAny_typeOf ty ?_)
  have e1 : (Builtin.List.listSameRef (.ref S) (.ref z) || Value.type "zip" == Value.type "list" || Value.type "zip" == Value.type "tuple") = false := by
    have q : Builtin.List.listSameRef (.ref S) (.ref z) = false := by
      show (S == z) = false
      exact beq_false_of_ne (Ne.symm Pt.sz.1)
    rw [q]
    decide
  rw [if_neg (by rw [e1]; exact Bool.false_ne_true)]
  refine wpAny_bind (wpAny_pyIter_zip hz ?_)
  refine wpAny_bind (wpAny_holding ?_)
  show wpAny _ _ (specialOf (.ref z) (Str.ofString "__len__") >>= _) _ _ _
  refine wpAny_bind (wpAny_specialOf ty zip_no_len ?_)
  show wpAny _ _ (specialOf (.ref z) (Str.ofString "__length_hint__") >>= _) _ _ _
  refine wpAny_bind (wpAny_specialOf ty zip_no_hint (wpAny_pure ?_))
  rw [if_pos (by rfl)]
  refine wpAny_bind (wpAny_rule (wpAny_bind ?_))
  obtain ⟨c, hS⟩ := J.lst
  show wpAny _ _ (updateSeq S (fun x => x.push .none) >>= fun _ => updateSeq S (fun x => x.pop)) _ _ _
  have hS2 := Heap.get?_update_self (Obj.mapSeq fun x => x.push .none) hS rfl
  refine wpAny_bind (wpAny_updateSeq hS rfl ?_ (by show 0 ≤ sizeLine; decide) (by show 1 ≤ sizeLine + 1; decide))
  refine wpAny_updateSeq hS2 rfl ?_ (by show 1 ≤ sizeLine; decide) (by show 0 ≤ sizeLine + 1; decide)
  have hS3 := Heap.get?_update_self (Obj.mapSeq fun x => x.pop) hS2 rfl
  have up : ∀ (b : Addr) (o : Obj), b ≠ S → h.get? b = some o → ((h.update S (Obj.mapSeq fun x => x.push .none)).update S (Obj.mapSeq fun x => x.pop)).get? b = some o := fun b o hb e =>
    (Heap.get?_update_other _ _ (Ne.symm hb)).trans ((Heap.get?_update_other h _ (Ne.symm hb)).trans e)
  have D1 := Draws.tuple (prog := prog) (w := w) (A := A.in1.in1) hh i1 t1 Pt.n1 xs
  have D2 := Draws.tuple (prog := prog) (w := w) (A := A.in1.in1) hh i2 t2 Pt.n2 ys
  obtain ⟨a1, a2, hTO⟩ : ∃ a1 a2, IsTupOf2 h TO a1 a2 := by
    rcases J.zip with ⟨_, _, q⟩ | ⟨T, b, hm, _⟩
    · exact q
    · cases hm
  have J2 : Fill h0 z TI TO i1 i2 t1 t2 S xs ys 0 [] ((h.update S (Obj.mapSeq fun x => x.push .none)).update S (Obj.mapSeq fun x => x.pop)) :=
    { len := rfl
      lst := ⟨_, hS3⟩
      zip := .inl ⟨rfl, up z _ Pt.sz.1 hz, a1, a2, up TO _ Pt.sz.2.2.1 hTO⟩
      ti := up TI _ Pt.sz.2.1 J.ti
      s1 := D1.frame 0 h _ J.s1 fun b hb o e => up b o (by
          rcases List.mem_cons.mp hb with rfl | hb
          · exact Pt.sz.2.2.2.1
          · rw [List.mem_singleton.mp hb]; exact Pt.sz.2.2.2.2.2.1) e
      s2 := D2.frame 0 h _ J.s2 fun b hb o e => up b o (by
          rcases List.mem_cons.mp hb with rfl | hb
          · exact Pt.sz.2.2.2.2.1
          · rw [List.mem_singleton.mp hb]; exact Pt.sz.2.2.2.2.2.2) e
      at_ := fun j T hj => by cases hj
      new := fun T hm => by cases hm
      nd := .nil
      keep := fun b o e b1 b2 b3 b4 b5 => up b o b5 (J.keep b o e b1 b2 b3 b4 b5)
      size := by rw [Heap.size_update, Heap.size_update]; exact J.size
      lt := fun T hm => by cases hm }
  exact wpAny_pure ⟨plainId_quiet F.plain_extend_loop _, extend_zip hh Pt n1 n2 n0 hn g d os hR n 0 _ tk [] (by omega) (Nat.zero_le _) J2⟩
/-- list(z), z a zip of two tuples of one length that has not begun -/
theorem call_list_zip {E : Value → Shared → Prop} {Q : Value → Shared → Prop} {s : Shared} {n : Nat} {a1 a2 : Value} (hh : A.handled = none) (sep : ZipSep2 z TI TO i1 i2 [i1, t1] [i2, t2]) (m1 : t1 ≠ i1) (m2 : t2 ≠ i2) (n1 : xs.size = n) (n2 : ys.size = n) (n0 : 0 < n) (hn : n ≤ sizeLine)
    (hz : IsZip s.heap z TI TO .none) (hTI : IsTupOf2 s.heap TI (.ref i1) (.ref i2)) (hTO : IsTupOf2 s.heap TO a1 a2) (s1 : s.heap.IsTupleIter i1 t1 0 ∧ s.heap.IsTuple t1 xs) (s2 : s.heap.IsTupleIter i2 t2 0 ∧ s.heap.IsTuple t2 ys)
    (hQ : ∀ (Ts : List Addr) (h' : Heap) (tk : Nat), Filled (s.heap.push { cls := .type "list", data := .seq #[] }) z TO i1 i2 s.heap.objs.size xs ys n Ts h' → Q (.ref s.heap.objs.size) { s with heap := h', toks := tk }) :
    wpAny (model prog w) A (call (.type "list") [.ref z]) Q E s := by
  obtain ⟨hp, g, d, tk, os⟩ := s
  refine callType_codes (Q₁ := fun obj s1 => obj = .ref hp.objs.size ∧ s1 = { heap := hp.push { cls := .type "list", data := .seq #[] }, gens := g, drawn := d, toks := tk, os := os }) F.called_list (F.typeCall_list_1 (.ref z)) F.entry_list_init (code_list_new (.ref z) ⟨rfl, rfl⟩) fun obj s₁ h₁ => ?_
  obtain ⟨rfl, rfl⟩ := h₁
  have hS := Heap.get?_push_size hp (o := { cls := .type "list", data := .seq #[] }) rfl
  refine ⟨⟨_, hS, rfl⟩, F.args_list_init_2 _ _, ?_⟩
  show wpAny _ _ (Builtin.List.listItems (.ref hp.objs.size) >>= _) _ _ _
  refine wpAny_bind ?_
  show wpAny _ _ (seqItems? (.ref hp.objs.size) >>= _) _ _ _
  refine wpAny_bind (wpAny_seqItems hS rfl (wpAny_pure ?_))
  refine wpAny_bind (wpAny_updateSeq hS rfl ?_ (by show 0 ≤ sizeLine; decide) (by show 0 ≤ sizeLine + 1; decide))
  refine wpAny_bind (wpAny_letGo ?_)
  have l1 : z < hp.objs.size := Heap.lt_size hz
  have l2 : TI < hp.objs.size := Heap.lt_size hTI
  have l3 : TO < hp.objs.size := Heap.lt_size hTO
  have l4 : i1 < hp.objs.size := by obtain ⟨⟨o, q, _⟩, _⟩ := s1; exact Heap.lt_size q
  have l5 : i2 < hp.objs.size := by obtain ⟨⟨o, q, _⟩, _⟩ := s2; exact Heap.lt_size q
  have l6 : t1 < hp.objs.size := by obtain ⟨_, o, q, _⟩ := s1; exact Heap.lt_size q
  have l7 : t2 < hp.objs.size := by obtain ⟨_, o, q, _⟩ := s2; exact Heap.lt_size q
  have sp : (hp.push { cls := .type "list", data := .seq #[] }).objs.size = hp.objs.size + 1 := Heap.size_push ..
  have Pt : Parts (hp.push { cls := .type "list", data := .seq #[] }) z TI TO i1 i2 t1 t2 hp.objs.size :=
    ⟨sep, m1, m2, ⟨Nat.ne_of_lt l1, Nat.ne_of_lt l2, Nat.ne_of_lt l3, Nat.ne_of_lt l4, Nat.ne_of_lt l5, Nat.ne_of_lt l6, Nat.ne_of_lt l7⟩, by
      rw [sp]
      exact ⟨Nat.lt_succ_of_lt l1, Nat.lt_succ_of_lt l2, Nat.lt_succ_of_lt l3, Nat.lt_succ_of_lt l4, Nat.lt_succ_of_lt l5, Nat.lt_succ_self _⟩⟩
  have up : ∀ (b : Addr) (o : Obj), b ≠ hp.objs.size → hp.get? b = some o → ((hp.push { cls := .type "list", data := .seq #[] }).update hp.objs.size (Obj.mapSeq fun x => #[])).get? b = some o := fun b o hb e =>
    (Heap.get?_update_other _ _ (Ne.symm hb)).trans (Heap.get?_push_of_some _ e)
  have D1 := Draws.tuple (prog := prog) (w := w) (A := A.in1.in1) hh i1 t1 m1 xs
  have D2 := Draws.tuple (prog := prog) (w := w) (A := A.in1.in1) hh i2 t2 m2 ys
  have hS2 := Heap.get?_update_self (Obj.mapSeq fun x => #[]) hS rfl
  have J : Fill (hp.push { cls := .type "list", data := .seq #[] }) z TI TO i1 i2 t1 t2 hp.objs.size xs ys 0 [] ((hp.push { cls := .type "list", data := .seq #[] }).update hp.objs.size (Obj.mapSeq fun x => #[])) :=
    { len := rfl
      lst := ⟨_, hS2⟩
      zip := .inl ⟨rfl, up z _ (Nat.ne_of_lt l1) hz, a1, a2, up TO _ (Nat.ne_of_lt l3) hTO⟩
      ti := up TI _ (Nat.ne_of_lt l2) hTI
      s1 := D1.frame 0 hp _ s1 fun b hb o e => up b o (by
          rcases List.mem_cons.mp hb with rfl | hb
          · exact Nat.ne_of_lt l4
          · rw [List.mem_singleton.mp hb]; exact Nat.ne_of_lt l6) e
      s2 := D2.frame 0 hp _ s2 fun b hb o e => up b o (by
          rcases List.mem_cons.mp hb with rfl | hb
          · exact Nat.ne_of_lt l5
          · rw [List.mem_singleton.mp hb]; exact Nat.ne_of_lt l7) e
      at_ := fun j T hj => by cases hj
      new := fun T hm => by cases hm
      nd := .nil
      keep := fun b o e b1 b2 b3 b4 b5 => (Heap.get?_update_other _ _ (Ne.symm b5)).trans e
      size := by rw [Heap.size_update]; exact Nat.le_refl _
      lt := fun T hm => by cases hm }
  exact extendWith_zip (A := A.in1) hh Pt n1 n2 n0 hn g d os (fun Ts h' tk' q => ⟨rfl, hQ Ts h' tk' q⟩) _ tk J
end
end Ow
end
section
set_option maxHeartbeats 4000000
namespace Ow
open PySem PySem.Spec PyProof.Rows L2
/-- tuples of two laid at addresses -/
def layT (f : Nat → List V) : List Addr → Nat → Hp → Hp
  | [], _, H => H
  | T :: r, i, H => layT f r (i + 1) (upd H T (.tup (f i)))
theorem layT_else (f : Nat → List V) : ∀ (Ts : List Addr) (i : Nat) (H : Hp) (b : Addr), b ∉ Ts → layT f Ts i H b = H b
  | [], _, _, _, _ => rfl
  | T :: r, i, H, b, h => by
    have h1 : b ≠ T := fun e => h (by rw [e]; exact List.mem_cons_self)
    have h2 : b ∉ r := fun e => h (List.mem_cons_of_mem _ e)
    show layT f r (i + 1) (upd H T (.tup (f i))) b = H b
    rw [layT_else f r (i + 1) _ b h2, upd_ne h1]
theorem layT_at (f : Nat → List V) : ∀ (Ts : List Addr) (i : Nat) (H : Hp) (j : Nat) (T : Addr), Ts.Nodup → Ts[j]? = some T → layT f Ts i H T = some (.tup (f (i + j)))
  | [], _, _, _, _, _, h => by cases h
  | T0 :: r, i, H, 0, T, nd, h => by
    have e : T0 = T := by simpa using h
    rw [← e]
    show layT f r (i + 1) (upd H T0 (.tup (f i))) T0 = _
    rw [layT_else f r (i + 1) _ T0 (List.nodup_cons.mp nd).1, upd_same]
    rfl
  | T0 :: r, i, H, j + 1, T, nd, h => by
    show layT f r (i + 1) (upd H T0 (.tup (f i))) T = _
    rw [layT_at f r (i + 1) _ j T (List.nodup_cons.mp nd).2 (by simpa using h)]
    have e : i + 1 + j = i + (j + 1) := by omega
    rw [e]
theorem hok_layT {P : Program} {w : World} {h : Heap} (f : Nat → List V) : ∀ (Ts : List Addr) (i : Nat) (H : Hp), HOk P w H h → Ts.Nodup → (∀ T ∈ Ts, H T = none) → (∀ (j : Nat) (T : Addr), Ts[j]? = some T → ∀ H', ObjOk P w H' h T (.tup (f (i + j)))) → HOk P w (layT f Ts i H) h
  | [], _, _, k, _, _, _ => k
  | T :: r, i, H, k, nd, hn, ho => by
    obtain ⟨n1, n2⟩ := List.nodup_cons.mp nd
    refine hok_layT f r (i + 1) _ (HOk.laidN k (fun _ _ e => e) (hn T List.mem_cons_self) (ho 0 T rfl _)) n2 (fun T' hT' => ?_) fun j T' hj H' => ?_
    · rw [upd_ne (fun e => n1 (by rw [← e]; exact hT'))]
      exact hn T' (List.mem_cons_of_mem _ hT')
    · have := ho (j + 1) T' (by simpa using hj) H'
      have e : i + 1 + j = i + (j + 1) := by omega
      rw [e]
      exact this
theorem vals_refs : ∀ Ts : List Addr, Vals (Ts.map V.ref) (Ts.map Value.ref)
  | [] => .nil
  | T :: r => .cons rfl (vals_refs r)
/-- behind list(zip(a, b)) -/
structure Zipped (H H' : Hp) (S : Addr) (xs ys : List V) : Prop where
  same : Same H H'
  new : H S = none
  at_ : ∃ Ts : List Addr, H' S = some (.lst (Ts.map V.ref)) ∧ Ts.length = xs.length ∧ ∀ (j : Nat) (T : Addr), Ts[j]? = some T → ∃ x y, xs[j]? = some x ∧ ys[j]? = some y ∧ H' T = some (.tup [x, y])
def tListZip (K : PySem.W.Frag) (ta : TA) : TE := fun σ H Q => ta σ H fun vs H1 => ∃ a b xs ys, vs = [.ref a, .ref b] ∧ SqT K H1 a xs ∧ SqT K H1 b ys ∧ xs.length = ys.length ∧ 0 < xs.length ∧ ∀ S H', Zipped H1 H' S xs ys → Q (.ref S) H'
theorem pe_listzip {X : Cx} {e e2 : Expr} {ta : TA} {p p2 pos pos2 : Pos} (hc : X.calm = true) (hgl : Gl X "list") (hml : X.mg "list" = none) (hg : Gl X "zip") (hm : X.mg "zip" = none) (ha : PA X [e, e2] ta)
    (hs : starEach [e, e2] X.env = [(false, eval e X.env), (false, eval e2 X.env)] := by rfl) (hs2 : starEach [e2] X.env = [(false, eval e2 X.env)] := by rfl) :
    PE X (.Call (.Name "list" p) [.Call (.Name "zip" p2) [e, e2] [] pos2] [] pos) (tListZip X.K ta) := by
  refine ⟨fun pins s σ H Q I h => ?_⟩
  refine Call_ (ld_blt I hgl hml boot_list (PyProof.Rows.callWith_type1 ?_ (by rfl) (by rfl)))
  show wpAny _ _ (spliced ((false, eval (.Call (.Name "zip" p2) [e, e2] [] pos2) X.env) :: [])) _ _ _
  refine Calls.spliced_cons ?_
  refine Call_ (ld_blt I hg hm boot_zip (PyProof.Rows.callWith_type1 (thn (ha.run pos2 pins s σ H _ I h) fun us s1 ⟨vs, H1, I1, r1, a, b, xs, ys, ex, hq1, hq2, hl, h0, q⟩ => ?_) (by rw [hs, hs2]) (by rw [hs2]; rfl)))
  subst ex
  obtain ⟨u, u2, rfl, ru, ru2⟩ := vals2 r1
  obtain rfl : u = Value.ref a := ru
  obtain rfl : u2 = Value.ref b := ru2
  obtain ⟨its1, rv1, p1, z1⟩ := I1.tuple hq1
  obtain ⟨its2, rv2, p2', z2⟩ := I1.tuple hq2
  have big1 : a < s1.heap.objs.size := by obtain ⟨o, q, _⟩ := p1; exact Heap.lt_size q
  have big2 : b < s1.heap.objs.size := by obtain ⟨o, q, _⟩ := p2'; exact Heap.lt_size q
  refine zip_begins2 (begins_tuple a its1.toArray) (begins_tuple b its2.toArray) ?_ ?_ fun h' hz hTI hTO g1 g2 hsz hk => Calls.spliced_nil ?_
  · exact p1
  · exact p2'
  have sep : ZipSep2 (s1.heap.objs.size + 4) (s1.heap.objs.size + 2) (s1.heap.objs.size + 3) s1.heap.objs.size (s1.heap.objs.size + 1) [s1.heap.objs.size, a] [s1.heap.objs.size + 1, b] := by
    have ne1 : ∀ k, s1.heap.objs.size + k ≠ a := fun k => Nat.ne_of_gt (Nat.lt_of_lt_of_le big1 (Nat.le_add_right _ _))
    have ne2 : ∀ k, s1.heap.objs.size + k ≠ b := fun k => Nat.ne_of_gt (Nat.lt_of_lt_of_le big2 (Nat.le_add_right _ _))
    have two : ∀ {x y z : Addr}, x ≠ y → x ≠ z → x ∉ [y, z] := fun h1 h2 h => by
      rcases List.mem_cons.mp h with h | h
      · exact h1 h
      · exact h2 (List.mem_singleton.mp h)
    have lt2 : ∀ (k m : Nat), k ≠ m → s1.heap.objs.size + k ≠ s1.heap.objs.size + m := fun k m h e => h (Nat.add_left_cancel e)
    exact ⟨lt2 2 4 (by decide), lt2 3 4 (by decide), lt2 2 3 (by decide), lt2 2 0 (by decide), List.mem_cons_self, two (lt2 4 0 (by decide)) (ne1 4), two (lt2 3 0 (by decide)) (ne1 3), lt2 2 1 (by decide), List.mem_cons_self, two (lt2 4 1 (by decide)) (ne2 4), two (lt2 3 1 (by decide)) (ne2 3), two (lt2 0 1 (by decide)) (ne2 0), two (lt2 1 0 (by decide)) (ne1 1)⟩
  have n1 : its1.toArray.size = xs.length := by rw [List.size_toArray, rv1.length]
  have n2 : its2.toArray.size = xs.length := by rw [List.size_toArray, ← rv2.length, hl]
  have tk : ∀ {c : Addr} {its : Array Value}, s1.heap.IsTuple c its → h'.IsTuple c its := fun z => by
    obtain ⟨o, e1, e2⟩ := z
    exact ⟨o, hk _ o e1, e2⟩
  refine call_list_zip (I1.ok.hd hc) sep (Nat.ne_of_lt big1) (Nat.ne_of_lt (Nat.lt_succ_of_lt big2)) n1 n2 h0 z1 hz hTI hTO ⟨⟨_, g1, rfl, rfl⟩, tk p1⟩ ⟨⟨_, g2, rfl, rfl⟩, tk p2'⟩ fun Ts h'' tk' J => ?_
  have sp : (h'.push { cls := .type "list", data := .seq #[] }).objs.size = s1.heap.objs.size + 6 := by rw [Heap.size_push, hsz]
  have hS0 : h'.objs.size = s1.heap.objs.size + 5 := hsz
  have kp : ∀ (c : Addr) (o : Obj), s1.heap.get? c = some o → h''.get? c = some o := fun c o e => by
    have l : c < s1.heap.objs.size := Heap.lt_size e
    exact J.keep c o (Heap.get?_push_of_some _ (hk c o e)) (Nat.ne_of_lt (Nat.lt_of_lt_of_le l (by omega))) (Nat.ne_of_lt (Nat.lt_of_lt_of_le l (by omega))) (Nat.ne_of_lt (Nat.lt_of_lt_of_le l (by omega))) (Nat.ne_of_lt (Nat.lt_of_lt_of_le l (by omega))) (Nat.ne_of_lt (Nat.lt_of_lt_of_le l (by show s1.heap.objs.size ≤ h'.objs.size; omega)))
  have tnew : ∀ T ∈ Ts, s1.heap.objs.size + 6 ≤ T := fun T hT => by have := J.new T hT; rw [sp] at this; exact this
  have dom : ∀ (c : Addr) (o : HO), H1 c = some o → c < s1.heap.objs.size := fun c o e => by
    by_cases q : c < s1.heap.objs.size
    · exact q
    · rw [I1.hok.fresh (Nat.le_of_not_lt q)] at e
      cases e
  let f : Nat → List V := fun j => [xs.getD j .non, ys.getD j .non]
  have oldT : ∀ c, c < s1.heap.objs.size → layT f Ts 0 H1 c = H1 c := fun c l => layT_else f Ts 0 H1 c fun z => Nat.not_lt.mpr (tnew c z) (Nat.lt_of_lt_of_le l (Nat.le_add_right _ _))
  have old : ∀ c, c < s1.heap.objs.size → upd (layT f Ts 0 H1) h'.objs.size (.lst (Ts.map V.ref)) c = H1 c := fun c l => by
    rw [upd_ne (Nat.ne_of_lt (Nat.lt_of_lt_of_le l (by omega))), oldT c l]
  have pair : ∀ (j : Nat) (T : Addr), Ts[j]? = some T → ∃ x y, xs[j]? = some x ∧ ys[j]? = some y ∧ ∃ u v, IsTupOf2 h'' T u v ∧ RelV x u ∧ RelV y v := fun j T hj => by
    obtain ⟨u, v, e1, e2, e3⟩ := J.at_ j T hj
    have hlt : j < Ts.length := by
      by_cases q : j < Ts.length
      · exact q
      · rw [List.getElem?_eq_none (by omega)] at hj
        cases hj
    have hx : j < xs.length := by rw [← J.len]; exact hlt
    obtain ⟨u', w1, r1⟩ := rv1.get (List.getElem?_eq_getElem hx)
    obtain ⟨v', w2, r2⟩ := rv2.get (List.getElem?_eq_getElem (show j < ys.length by omega))
    rw [List.getElem?_toArray, w1] at e1
    rw [List.getElem?_toArray, w2] at e2
    cases e1
    cases e2
    exact ⟨_, _, List.getElem?_eq_getElem hx, List.getElem?_eq_getElem (by omega), _, _, e3, r1, r2⟩
  have okT : HOk X.prog X.w (layT f Ts 0 H1) h'' := by
    refine hok_layT f Ts 0 H1 (I1.hok.kept kp) J.nd (fun T hT => I1.hok.fresh (Nat.le_trans (Nat.le_add_right _ _) (tnew T hT))) fun j T hj H'' => ?_
    obtain ⟨x, y, e1, e2, u, v, e3, r1, r2⟩ := pair j T hj
    have ef : f (0 + j) = [x, y] := by
      show [xs.getD (0 + j) .non, ys.getD (0 + j) .non] = _
      rw [Nat.zero_add, List.getD_eq_getElem?_getD, List.getD_eq_getElem?_getD, e1, e2]
      rfl
    rw [ef]
    exact ⟨by show 2 ≤ sizeLine; decide, [u, v], .cons r1 (.cons r2 .nil), ⟨_, e3, rfl, _, rfl⟩⟩
  obtain ⟨cL, hL⟩ := J.lst
  have ok2 : HOk X.prog X.w (upd (layT f Ts 0 H1) h'.objs.size (.lst (Ts.map V.ref))) h'' := by
    refine HOk.laidN okT (fun _ _ e => e) ?_ ?_
    · rw [layT_else f Ts 0 H1 _ (fun z => by have := tnew _ z; omega)]
      exact I1.hok.fresh (by omega)
    · exact ⟨by rw [List.length_map, J.len]; exact z1, Ts.map Value.ref, _, vals_refs Ts, hL⟩
  have I2 := I1.un (t' := tk') (h' := h'') (H' := upd (layT f Ts 0 H1) h'.objs.size (.lst (Ts.map V.ref)))
    ⟨fun c o e _ _ _ => kp c o e, fun c o e _ _ _ => ⟨o.slots, kp c o e⟩, fun c o e n _ => by rw [old c (Heap.lt_size e)]; exact n, fun c o e _ => ⟨o, kp c o e⟩, fun c zs e => by rw [old c (dom c _ e)]; exact e, fun c o u e => by rw [old c (dom c _ e)]; exact e, fun c ps e => ⟨#[], by rw [old c (dom c _ e), Array.append_empty]; exact e⟩⟩ ok2
  refine ⟨.ref h'.objs.size, _, I2, rfl, q _ _ ⟨fun c o e => by rw [old c (dom c o e)]; exact e, I1.hok.fresh (by omega), Ts, upd_same, J.len, fun j T hj => ?_⟩⟩
  obtain ⟨x, y, e1, e2, u, v, e3, r1, r2⟩ := pair j T hj
  refine ⟨x, y, e1, e2, ?_⟩
  have hT := tnew T (List.mem_of_getElem? hj)
  rw [upd_ne (Nat.ne_of_gt (Nat.lt_of_lt_of_le (show h'.objs.size < s1.heap.objs.size + 6 by omega) hT)), layT_at f Ts 0 H1 j T J.nd hj]
  show some (HO.tup [xs.getD (0 + j) .non, ys.getD (0 + j) .non]) = _
  rw [Nat.zero_add, List.getD_eq_getElem?_getD, List.getD_eq_getElem?_getD, e1, e2]
  rfl
end Ow
end
section
set_option maxHeartbeats 4000000
/-! raise X(), X an own error without a def of its own. -/
namespace Ow
open PySem PySem.Spec PyProof.Rows L2 StX
theorem pmk_own0 {X : Cx} {C : Addr} {bmB : List Value} {B newId initId : String} {x : Str} {p pos : Pos} (F : ExcBaseFacts B newId initId bmB) (q : PySem.W.excIn X.K C bmB newId = true) (gC : X.mg x = some (.ref C)) (kC : PySem.W.keepIn X.K (.ref C) = true) (r : Raises X (.ref C)) (hg : Gl X x)
    (hdb : (x == ("__debug__" : Str)) = false := by decide) : PMk X (.Call (.Name x p) [] [] pos) (fun _ H Q => Q (.ref C) none H) := by
  intro pins s σ H Q I h
  refine wpAny_Call_Name_kw (ld_glob I hg gC ?_ hdb)
  refine PySem.W.callWith_K0 I.kIn kC ?_
  obtain ⟨bm, N, nm, qn, bs, hdct, sn, sub, ab, col, dd, k0, k1, k2, k3, k5, mN, hC, hN, hni, T⟩ := exc_obj I.kIn q
  obtain ⟨hp, g, dr, tk, os⟩ := s
  exact wpAny_call_exc_subT F T hC hN hni (fun h' e hm => mk_of I hm r h (I.hok.gone hm.new)) (by show 0 ≤ sizeLine; exact Nat.zero_le _)
end Ow
end
section
set_option maxHeartbeats 4000000
/-! x op= y where the class has that method of its own; ~x. -/
namespace Ow
open PySem PySem.Spec PyProof.Rows L2
section
variable {X : Cx} {CX : CXT} {n : Nat} {C g : Addr} {sp : Sp} {E : XK}
theorem iop_own {op : Operator} (hc : PySem.W.selfFirst X.K C = true) (hs : PySem.W.findIn X.K (.ref C) (dunderI op.info.2) = some (some (.ref g))) (hf : PySem.W.isFn X.K (.ref g) = true)
    (F : FnR X.prog X.w X.K X.mg X.base CX n g sp) (hr : Room n X.A) (hx : Passes CX X E) : OpR X (inplaceOp op) (rBin C sp E) := by
  intro pins s σ H x y v u Q I rx ry h
  obtain ⟨a, b, rfl, rfl, ha, hb, q⟩ := h
  cases (show v = Value.ref a from rx)
  cases (show u = Value.ref b from ry)
  obtain ⟨ox, od, J⟩ := inst_of I ha
  obtain ⟨m, hF⟩ := I.fr
  refine PySem.W.ksp_inplace (op := op) hF I.ok.mod.kin J hc hs hf ?_
  refine wpAny_mono (wpAny_call (run_fnR (us := [.ref a, .ref b]) (vs := [.ref a, .ref b]) F hr hx I (.cons rfl (.cons rfl .nil)) q)) (fun w s' z => ?_) fun _ _ x => x
  obtain ⟨z', H', I', rz, qz⟩ := z
  exact cmpbackR rz ⟨z', H', I', rz, qz⟩
end
end Ow
end
section
set_option maxHeartbeats 4000000
/-! A comprehension of which each item is known by what it is, not by where it stands. -/
namespace Ow
open PySem PySem.Spec PyProof.Rows L2
/-- all objects but lists stay -/
def NL (H H' : Hp) : Prop := ∀ b o, H b = some o → (∀ xs, o ≠ .lst xs) → H' b = some o
def LcE (R : Nat → V → Hp → Prop) (H1 H : Hp) (D : Addr) (i : Nat) : Prop := ∃ out, LcIn H1 H D out ∧ out.length = i ∧ ∀ j v, out[j]? = some v → R j v H
theorem kLc.each {J : It} {n : Nat} {G : Hp → Prop} {Y : Nat → Hp → V → Hp → Prop} (w : Walk J n G Y) {g : TG} {tt : TT} {te : TE} {vs : List Nat} {σ : L2.St} {Q : VK} {H1 : Hp} (R : Nat → V → Hp → Prop) (hG : ∀ H, Same H1 H → G H)
    (hs : ∀ D i x H H', i < n → LcE R H1 H D i → Y i H x H' → g x (wipe σ vs) H' fun σ2 H2 => wipe σ2 vs = wipe σ vs ∧ tt σ2 H2 fun b H3 => if b = true then te σ2 H3 (kApp D fun H' => LcE R H1 H' D (i + 1)) else LcE R H1 H3 D (i + 1))
    (hd : ∀ D H' out, Fresh H1 H' D (.lst out) → out.length = n → (∀ i v, out[i]? = some v → R i v H') → Q (.ref D) H') : kLc J g tt te vs σ Q H1 := fun D hD =>
  lc_it w (fun i H => LcE R H1 H D i) ⟨[], ⟨(fresh_upd hD).same, upd_same, hD⟩, rfl, fun j v h => by cases h⟩ (fun i H _ c => hG H (let ⟨_, c, _⟩ := c; c.same)) (fun i x H H' hi c y => hs D i x H H' hi c y) fun H c => let ⟨out, c, h1, h2⟩ := c; hd D H out ⟨c.same, c.at_, c.new⟩ h1 h2
theorem kApp.each {R : Nat → V → Hp → Prop} (hR : ∀ i v H H', R i v H → NL H H' → R i v H') {H1 H H4 : Hp} {D : Addr} {i : Nat} {y : V} (c : LcE R H1 H D i) (s : Same H H4) (hl : i < sizeLine) (h : R i y H4) : kApp D (fun H' => LcE R H1 H' D (i + 1)) y H4 := by
  obtain ⟨out, c, h1, h2⟩ := c
  have at4 := s _ _ c.at_
  have nl : NL H4 (upd H4 D (.lst (out ++ [y]))) := fun b o e n => by
    rw [upd_ne]
    · exact e
    · intro z
      rw [z, at4] at e
      exact n _ (Option.some.inj e).symm
  refine ⟨out, at4, by rw [h1]; exact hl, out ++ [y], ⟨fun b u e => ?_, upd_same, c.new⟩, by rw [List.length_append, h1]; rfl, fun j v hj => ?_⟩
  · rw [upd_ne (ne_of_none e c.new)]
    exact s _ _ (c.same _ _ e)
  · by_cases hlt : j < out.length
    · rw [List.getElem?_append_left hlt] at hj
      exact hR j v _ _ (h2 j v hj) fun b o e n => nl b o (s b o e) n
    · rw [List.getElem?_append_right (by omega)] at hj
      have hz : j - out.length = 0 := by
        by_cases q : j - out.length = 0
        · exact q
        · rw [List.getElem?_eq_none (by rw [List.length_singleton]; omega)] at hj
          cases hj
      rw [hz] at hj
      cases hj
      have e : j = i := by omega
      subst e
      exact hR _ _ _ _ h nl
theorem Same.putNew {H H1 H2 : Hp} {l : Addr} {o : HO} (s : Same H H1) (nl : H l = none) (f : Put H1 H2 l o) : Same H H2 := fun b u e => f.get (ne_of_none e nl) (s b u e)
theorem none_back {H H1 : Hp} {p : Addr} (s : Same H H1) (n : H1 p = none) : H p = none := by
  cases h : H p with
  | none => rfl
  | some o => rw [s _ _ h] at n; cases n
end Ow
end
section
set_option maxHeartbeats 4000000
/-! A comprehension with any invariant (its items may change what stands). -/
namespace Ow
open PySem PySem.Spec PyProof.Rows L2
theorem kLc.it {J : It} {n : Nat} {G : Hp → Prop} {Y : Nat → Hp → V → Hp → Prop} (w : Walk J n G Y) {g : TG} {tt : TT} {te : TE} {vs : List Nat} {σ : L2.St} {Q : VK} {H1 : Hp} (I : Addr → Nat → Hp → Prop) (h0 : ∀ D H', Fresh H1 H' D (.lst []) → I D 0 H') (hG : ∀ D i H, I D i H → G H)
    (hs : ∀ D i x H H', i < n → I D i H → Y i H x H' → g x (wipe σ vs) H' fun σ2 H2 => wipe σ2 vs = wipe σ vs ∧ tt σ2 H2 fun b H3 => if b = true then te σ2 H3 (kApp D fun H' => I D (i + 1) H') else I D (i + 1) H3)
    (hd : ∀ D H', I D n H' → Q (.ref D) H') : kLc J g tt te vs σ Q H1 := fun D hD =>
  lc_it w (fun i H => I D i H) (h0 D _ (fresh_upd hD)) (fun i H _ c => hG D i H c) (fun i x H H' hi c y => hs D i x H H' hi c y) fun H c => hd D H c
end Ow
end
section
set_option maxHeartbeats 4000000
/-! Rules whose readings name the knowledge K itself, not the context's: within comprehensions, where the context hangs on what is bound there. -/
namespace Ow
open PySem PySem.Spec PyProof.Rows L2
section
variable {X : Cx} {K : PySem.W.Frag}
def rJoin (K : PySem.W.Frag) : V → List V → Hp → VK → Prop := fun x xs H Q => ∃ a p, ∃ ys : List Str, x = .str a ∧ xs = [.ref p] ∧ (SqL K H p (ys.map V.str) ∨ SqT K H p (ys.map V.str)) ∧ (ys.map (·.length)).sum + ys.length * a.length ≤ 16777216 ∧ Q (.str (Txt.join a ys)) H
theorem pe_joinK {o e : Expr} {to te : TE} {apos pos : Pos} (hK : X.K = K) (ho : PE X o to) (he : PE X e te) (hs : starEach [e] X.env = [(false, eval e X.env)] := by rfl) (hbase : attributeBase o "join" X.env (eval o X.env) = eval o X.env := by rfl) (hline : (apos.endLine == pos.line) = true := by rfl) :
    PE X (.Call (.Attribute o "join" apos) [e] [] pos) (tM1 (rJoin K) to te) := by
  subst hK
  exact pe_join ho he hs hbase hline
theorem pi_listK {tg l : Expr} {tl : TE} (hK : X.K = K) (hl : PE X l tl) : PI X tg l (iList K tl) := by
  subst hK
  exact pi_list hl
theorem pi_tupK {tg l : Expr} {tl : TE} (hK : X.K = K) (hl : PE X l tl) : PI X tg l (iTup K tl) := by
  subst hK
  exact pi_tup hl
theorem ix_listK (hK : X.K = K) : IxR X (rIxL K) := by
  subst hK
  exact ix_list
theorem call_lenKK (hK : X.K = K) : CallR X (.builtin "len") (rLenSeq K) := by
  subst hK
  exact call_lenK
theorem call_tupleKK (hK : X.K = K) : CallR X (.type "tuple") (rTupOf K) := by
  subst hK
  exact call_tupleK
theorem call_listKK (hK : X.K = K) : CallR X (.type "list") (rListOf K) := by
  subst hK
  exact call_listK
theorem op_eqDK (hK : X.K = K) (hu : X.A.units + 64 < cLine) : OpR X (compareOp .Eq) (rEqD K) := by
  subst hK
  exact op_eqD hu
theorem op_neDK (hK : X.K = K) (hu : X.A.units + 64 < cLine) : OpR X (compareOp .NotEq) (rNeD K) := by
  subst hK
  exact op_neD hu
theorem op_inK (hK : X.K = K) : OpR X (compareOp .In) (rIn K false) := by
  subst hK
  exact op_in_seq
end
end Ow
end
section
set_option maxHeartbeats 4000000
/-! x in t, x not in t: t a tuple, items and x data of any depth. -/
namespace Ow
open PySem PySem.Spec PyProof.Rows L2
section
variable {X : Cx}
def rInDT (K : PySem.W.Frag) (neg : Bool) : R2 := fun x y H Q => ∃ d ds, Dp K H x d ∧ Dp K H y (.tuple ds) ∧ SeqAt.shaped d = true ∧ SeqAt.shaped (.tuple ds) = true ∧ Q (.bl (if neg then !(ds.any fun z => PyData.eqv z d) else ds.any fun z => PyData.eqv z d)) H
theorem op_notInDT (hu : X.A.units + 65 < cLine) : OpR X (compareOp .NotIn) (rInDT X.K true) := by
  intro pins s σ H x y v u Q I rx ry h
  obtain ⟨d, ds, hd, he, sd, se, q⟩ := h
  obtain ⟨as, r1⟩ := Dp.reads I d x v hd rx
  obtain ⟨bs, r2⟩ := Dp.reads I (.tuple ds) y u he ry
  exact SeqAt.notIn_tuple_reads r2 r1 (SeqAt.canLay_of_shaped se) (SeqAt.canLay_of_shaped sd) (room_in_shaped sd hu) ⟨.bl _, H, I, rfl, q⟩
theorem op_inDT (hu : X.A.units + 65 < cLine) : OpR X (compareOp .In) (rInDT X.K false) := by
  intro pins s σ H x y v u Q I rx ry h
  obtain ⟨d, ds, hd, he, sd, se, q⟩ := h
  obtain ⟨as, r1⟩ := Dp.reads I d x v hd rx
  obtain ⟨bs, r2⟩ := Dp.reads I (.tuple ds) y u he ry
  exact SeqAt.in_tuple_reads r2 r1 (SeqAt.canLay_of_shaped se) (SeqAt.canLay_of_shaped sd) (room_in_shaped sd hu) ⟨.bl _, H, I, rfl, q⟩
end
end Ow
end
section
set_option maxHeartbeats 4000000
/-! tuple * int, the int 1 or more. -/
namespace Ow
open PySem PySem.Spec PyProof.Rows L2
theorem tuple_mul1W (l : Addr) (items : Array Value) (n : Nat) (dd : Option Addr) (sl : Array (Option Value)) (u : Tok) :
    Meets (Builtin.«tuple.__mul__» ⟨[.ref l, .int 1 u], []⟩) (fun _ R s => s.heap.get? l = some { cls := .type "tuple", dict := dd, data := .seq items n, slots := sl } ∧
      R (.ok (.ret (Value.ref l))) s) :=
  .of_wp fun prog w A R s h => by
    obtain ⟨hp, g, d, tk, os⟩ := s
    obtain ⟨hl, h⟩ := h
    have f1 := AutoSeq1.idx_int
    wp_walk using wpAny_loadPart' hl
    exact ⟨_, rfl, h⟩
section
variable {X : Cx}
theorem op_repT1 : OpR X (binaryOp .Mult) (fun x y H Q => ∃ l xs, x = .ref l ∧ y = .int 1 ∧ SqT X.K H l xs ∧ Q (.ref l) H) := by
  intro pins s σ H x y v u Q I rx ry h
  obtain ⟨l, xs, rfl, rfl, hT, q⟩ := h
  cases rx
  obtain ⟨t, rfl⟩ := ry
  obtain ⟨its, r, ⟨⟨cls, dd, data, sl⟩, ho, hc, n, hd⟩, hs⟩ := I.tuple hT
  simp only at hc hd
  subst hc hd
  refine wpAny_binaryOp_repeat_ref (T := "tuple") (U := "int") (by decide) ⟨_, ho, rfl⟩ (fun s' => typeIs_int s' 1 t) noFill_tuple_mul F.fills_int_mul F.slot_int_rmul repeat_tuple F.slot_int_index.lookup
    (call_meets F.slot_int_rmul (typeIs_int s 1 t) F.entry_int_rmul (F.args_int_rmul_2 _ _) (int_rmul_tuple 1 t l its.toArray n dd sl)
      ⟨ho, rfl, ⟨_, ho, rfl⟩, call_meets F.slot_tuple_mul ⟨_, ho, rfl⟩ F.entry_tuple_mul (F.args_tuple_mul_2 _ _) (tuple_mul1W l its.toArray n dd sl t) ⟨ho, ?_⟩⟩)
  exact ⟨.ref l, H, I, rfl, q⟩
/-- t * k, k from 1 on: a new tuple, or the very one -/
def rRepT1 : R2 := fun x y H Q => ∃ l k xs, x = .ref l ∧ y = .int k ∧ H l = some (.tup xs) ∧ xs ≠ [] ∧ 1 ≤ k ∧ k ≤ 1000 ∧ xs.length ≤ 1000 ∧ ∀ t H', Same H H' → H' t = some (.tup (List.replicate k.toNat xs).flatten) → (H t = none ∨ t = l) → Q (.ref t) H'
theorem op_repTK : OpR X (binaryOp .Mult) rRepT1 := by
  intro pins s σ H x y v u Q I rx ry h
  obtain ⟨l, k, xs, rfl, rfl, hT, hne, h1, h2, h3, q⟩ := h
  by_cases e : k = 1
  · subst e
    exact op_repT1 pins s σ H _ _ v u Q I rx ry ⟨l, xs, rfl, rfl, .inl (.inl hT), q l H (Same.refl H) (by simpa using hT) (.inr rfl)⟩
  · exact op_repT pins s σ H _ _ v u Q I rx ry ⟨l, k, xs, rfl, rfl, .inl (.inl hT), hne, by omega, h2, h3, fun p hp => q p _ (fresh_upd hp).same (fresh_upd (o := .tup (List.replicate k.toNat xs).flatten) hp).at_ (.inl hp)⟩
end
end Ow
end
section
set_option maxHeartbeats 4000000
/-! An instance made by a local name that holds the class; a classmethod called by keywords. -/
namespace Ow
open PySem PySem.Spec PyProof.Rows L2 StX ClX
section
variable {X : Cx} {CX : CXT} {n i : Nat} {C g : Addr} {sp : Sp} {E : XK} {x : Str} {p pos : Pos} {e : Expr} {es : List Expr} {t : TA}
/-- x(e, ..): slot i holds the class at C -/
def tMakeL (i : Nat) (C : Addr) (sp : Sp) (E : XK) (t : TA) : TE := fun σ H Q => σ[i]? = some (some (.ref C)) ∧ t σ H (kMake C sp E Q)
theorem pe_makeL (M : Mk X.K C g) (F : FnR X.prog X.w X.K X.mg X.base CX n g sp) (hr : Room (n + 1) X.A) (hN : X.N[i]? = some x) (hv : Vis X.env.scope x) (hx : Passes CX X E) (ha : PA X (e :: es) t)
    (hdb : (x == ("__debug__" : Str)) = false := by decide) (hcd : (x == ("__classdict__" : Str)) = false := by decide)
    (he : starEach (e :: es) X.env = (false, eval e X.env) :: starEach es X.env := by rfl) (hpl : (backTo pos (starEach es X.env)).any (·.1) = false := by rfl) : PE X (.Call (.Name x p) (e :: es) [] pos) (tMakeL i C sp E t) := by
  refine ⟨fun pins s σ H Q I h => ?_⟩
  obtain ⟨hs, ht⟩ := h
  refine wpAny_Call_Name_kw (thn ((pe_var (pos := p) hN hv hdb hcd).run pins s σ H (fun v H1 => v = .ref C ∧ H1 = H) I ⟨.ref C, hs, rfl, rfl⟩) fun u s1 ⟨v, H1, I1, r1, q1⟩ => ?_)
  obtain ⟨rfl, rfl⟩ := q1
  cases r1
  refine PySem.W.callWith_K (h₀ := X.base) I.ok.mod.kin M.kp (thn (ha.run pos pins s1 σ _ _ I1 ht) fun us s2 ⟨vs, H2, I2, r, q⟩ => ⟨I2.kIn, ?_⟩) he hpl
  exact run_makeR M F hr hx I2 r q
end
section
variable {X : Cx} {CX : CXT} {k : Nat} {C p g : Addr} {mc : Value} {sp : Sp} {E : XK} {o : Expr} {m : Str} {pos apos : Pos} {ta : TE} {pl : Sem Bool}
/-- C.m(k=e, ..), m a classmethod, by keywords alone -/
def tCMethK (C : Addr) (n : Nat) (sp : Sp) (gV : List V → List V → List V) (E : XK) (ta : TE) (tk : TA) : TE := fun σ H Q => ta σ H fun x H1 => x = .ref C ∧ tk σ H1 fun zs H2 => zs.length = n ∧ sp (gV [.ref C] zs) H2 Q E
theorem pe_cmethK {kws : List Keyword} {fd : FuncData} {ps ks : List Str} {tk : TA} {gl : List Value → List Value → List Value} {gV : List V → List V → List V} (he : PE X o ta) (r : CRead X.K C mc) (c : CMet X.K C mc m p g)
    (F : FnOk X.prog X.w X.K X.mg X.base CX k g fd ps sp) (hr : Room k X.A) (hb : KBn X.K fd ps 1 ks gl gV) (hx : Passes CX X E) (hkw : PK X kws tk)
    (hall : (backToKw pos (keywordEach kws X.env)).all (·.1.isSome) = true := by rfl) (hks : (backToKw pos (keywordEach kws X.env)).filterMap (·.1) = ks := by rfl)
    (hpl : ((backTo pos (starEach [] X.env)).any (·.1) || (backToKw pos (keywordEach kws X.env)).any (·.1.isNone)) = false := by rfl)
    (ht : eval (.Call (.Attribute o m apos) [] kws pos) X.env = (do
      let ov ← eval o X.env
      standAt apos.atName
      let (f, first) ← holding [ov] (getMethod ov m pl)
      callWith pos f first (backTo pos (starEach [] X.env)) (backToKw pos (keywordEach kws X.env))) := by rfl) :
    PE X (.Call (.Attribute o m apos) [] kws pos) (tCMethK C ks.length sp gV E ta tk) := by
  refine ⟨fun pins s σ H Q I h => ?_⟩
  refine PySem.W.methodCall_KW (pl := pl) (thn (he.run pins s σ H _ I h) fun u s1 ⟨x, H1, I1, rx, ex, q⟩ => ?_) ht
  subst ex
  obtain rfl : u = Value.ref C := rx
  refine getmethcm_ok I1 r c fun s2 I2 => ?_
  refine PySem.W.callWith_of hpl (PySem.W.keeps_M c.fi) (evalArgs_kw2_nil hall (thn (hkw.run pos _ s2 σ H1 _ I2 q) fun ws s3 ⟨zs, H3, I3, rz, l2, q2⟩ => ⟨⟨pin_at I3, I3.kIn⟩, ?_⟩))
  rw [hks]
  have r1 : Vals [V.ref C] [Value.ref C] := .cons rfl .nil
  refine thn (Q := EP X ((s1.heap.objs.size, PySem.W.methodObj (.ref g) (.ref C)) :: pins) σ Q) (wpAny_call (PySem.W.method_call (pin_at I3) (codeAny_mono (F.run X.A X.stack s3 H3 ⟨[.ref C], ks.zip ws⟩ (gl [.ref C] ws) (gV [.ref C] zs) Q E hr I3.env0 (hb.to s3 [.ref C] ws I3.kIn rfl (rz.length.symm.trans l2)) (hb.rel r1 rz) q2) fun r s' hq => ?_))) fun _ _ y => unpinE y
  cases r with
  | error e => exact hx _ σ H3 s3 e s' I3 hq
  | ok fl =>
    cases fl with
    | ret u => exact I3.after hq
    | next => exact False.elim hq
    | brk => exact False.elim hq
    | cont => exact False.elim hq
end
end Ow
end
section
/-! Texts of one sign: lstrip, rstrip, find within; runs; the region of a grid. -/
namespace Rg
open PySem PySem.Builtin PySem.Builtin.Str
open SX (S)
/-! ### lstrip, rstrip of one sign -/
def lead (c : Nat) : List Nat → Nat
  | [] => 0
  | d :: r => if d = c then lead c r + 1 else 0
theorem lead_tw (c : Nat) : ∀ r : List Nat, (r.takeWhile (fun d => (S [c]).cps.contains d)).length = lead c r
  | [] => rfl
  | d :: r => by
    have e : (S [c]).cps.contains d = decide (d = c) := by
      show (#[c] : Array Nat).contains d = _
      rw [Bool.eq_iff_iff]
      simp
    unfold lead
    by_cases h : d = c
    · rw [List.takeWhile_cons_of_pos (by rw [e, h]; simp), if_pos h, List.length_cons, lead_tw c r]
    · rw [List.takeWhile_cons_of_neg (by rw [e]; simp [h]), if_neg h]
      rfl
theorem lead_le (c : Nat) : ∀ r : List Nat, lead c r ≤ r.length
  | [] => Nat.le_refl _
  | d :: r => by
    have := lead_le c r
    unfold lead
    rw [List.length_cons]
    split <;> omega
theorem lead_at (c : Nat) : ∀ (r : List Nat) (i : Nat), i < lead c r → r[i]? = some c
  | [], i, h => absurd h (Nat.not_lt_zero _)
  | d :: r, i, h => by
    unfold lead at h
    by_cases e : d = c
    · rw [if_pos e] at h
      cases i with
      | zero => rw [e]; rfl
      | succ i => exact lead_at c r i (by omega)
    · rw [if_neg e] at h
      exact absurd h (Nat.not_lt_zero _)
theorem lead_end (c : Nat) : ∀ (r : List Nat), r[lead c r]? ≠ some c
  | [] => by simp
  | d :: r => by
    unfold lead
    by_cases e : d = c
    · rw [if_pos e]
      exact lead_end c r
    · rw [if_neg e]
      intro z
      cases z
      exact e rfl
theorem strip_eq (g : Nat → Bool) (l r : Bool) (x : Str) : Txt.stripBy g l r x = PySem.stripped g l r x := by
  unfold Txt.stripBy
  split
  · rename_i h
    simp only [PySem.stripSame, Bool.and_eq_true, beq_iff_eq] at h
    unfold PySem.stripped
    rw [h.2, h.1]
    exact (congrArg Str.mk (by simp [Str.length])).symm
  · rfl
theorem lstrip_S (r : List Nat) (c : Nat) : Txt.lstripChars (S r) (S [c]) = S (r.drop (lead c r)) := by
  unfold Txt.lstripChars
  rw [strip_eq]
  unfold PySem.stripped PySem.stripLo PySem.stripHi
  simp only [if_true, Bool.false_eq_true, if_false]
  have e := lead_tw c r
  have e2 : ((S r).cps.toList.takeWhile (S [c]).cps.contains).length = lead c r := e
  rw [e2]
  refine congrArg Str.mk ?_
  rw [SX.S_len]
  simp [List.take_of_length_le]
theorem rstrip_len (r : List Nat) (c : Nat) : (Txt.rstripChars (S r) (S [c])).length = r.length - lead c r.reverse := by
  unfold Txt.rstripChars
  rw [strip_eq]
  unfold PySem.stripped PySem.stripLo PySem.stripHi
  simp only [if_true, Bool.false_eq_true, if_false]
  have e2 : (((S r).cps.toList.drop 0).reverse.takeWhile (S [c]).cps.contains).length = lead c r.reverse := lead_tw c r.reverse
  rw [e2, SX.S_len]
  show ((S r).cps.extract 0 (r.length - lead c r.reverse)).size = _
  simp
/-- [b, e) is the whole run of c around x -/
structure Run (row : List Nat) (c x b e : Nat) : Prop where
  bx : b ≤ x
  xe : x < e
  el : e ≤ row.length
  all : ∀ i, b ≤ i → i < e → row[i]? = some c
  lo : ∀ i, i + 1 = b → row[i]? ≠ some c
  hi : row[e]? ≠ some c
theorem run_of {row : List Nat} {c x : Nat} (h : row[x]? = some c) : Run row c x ((row.take x).length - lead c (row.take x).reverse) (x + lead c (row.drop x)) := by
  have hx := (List.getElem?_eq_some_iff.mp h).1
  have tl : (row.take x).length = x := List.length_take_of_le (by omega)
  have l1 := lead_le c (row.take x).reverse
  have l2 := lead_le c (row.drop x)
  rw [List.length_reverse, tl] at l1
  rw [List.length_drop] at l2
  have a1 := lead_at c (row.drop x)
  have a2 := lead_end c (row.drop x)
  have b1 := lead_at c (row.take x).reverse
  have b2 := lead_end c (row.take x).reverse
  rw [tl]
  have rv : ∀ i, i < x → (row.take x).reverse[i]? = row[x - 1 - i]? := fun i hi => by
    rw [List.getElem?_reverse (by rw [tl]; exact hi), tl, List.getElem?_take, if_pos (by omega)]
  have l0 : 0 < lead c (row.drop x) := by
    refine Nat.pos_of_ne_zero fun z => a2 ?_
    rw [z, List.getElem?_drop]
    exact h
  refine ⟨by omega, by omega, by omega, fun i h1 h2 => ?_, fun i hi => ?_, ?_⟩
  · by_cases hi : i < x
    · have := b1 (x - 1 - i) (by omega)
      rw [rv _ (by omega), show x - 1 - (x - 1 - i) = i from by omega] at this
      exact this
    · have := a1 (i - x) (by omega)
      rw [List.getElem?_drop, show x + (i - x) = i from by omega] at this
      exact this
  · rw [rv _ (by omega), show x - 1 - lead c (row.take x).reverse = i from by omega] at b2
    exact b2
  · rw [List.getElem?_drop] at a2
    exact a2
/-! ### find within -/
theorem occ_stay (s sub : Str) (hi : Nat) : ∀ (l : List Nat) (st : Array Nat × Nat), 1 ≤ st.fst.size → (forIn l st (StrLaws.occBody s sub hi 1)).run.fst = st.fst
  | [], st, h => rfl
  | a :: l, st, h => by
    rw [List.forIn_cons]
    unfold StrLaws.occBody
    rw [if_neg (by omega)]
    exact occ_stay s sub hi l _ h
theorem occ_first (s sub : Str) (hi : Nat) : ∀ (l : List Nat) (free : Nat), (∀ i ∈ l, free ≤ i) →
    (forIn l ((#[] : Array Nat), free) (StrLaws.occBody s sub hi 1)).run.fst.toList = (l.find? fun i => decide (i + sub.length ≤ hi ∧ subAt s sub i = true)).toList
  | [], free, _ => rfl
  | a :: l, free, hf => by
    rw [List.forIn_cons]
    unfold StrLaws.occBody
    have ha : free ≤ a := hf a List.mem_cons_self
    by_cases hc : a + sub.length ≤ hi ∧ subAt s sub a = true
    · have c1 : (((#[] : Array Nat), free).fst.size < 1 ∧ ((#[] : Array Nat), free).snd ≤ a) ∧ a + sub.length ≤ hi := ⟨⟨by simp, ha⟩, hc.1⟩
      rw [if_pos ⟨c1, hc.2⟩, List.find?_cons_of_pos (by simp [hc.1, hc.2])]
      exact congrArg Array.toList (occ_stay s sub hi l (#[].push a, a + sub.length) (by simp))
    · have c2 : ¬ (((((#[] : Array Nat), free).fst.size < 1 ∧ ((#[] : Array Nat), free).snd ≤ a) ∧ a + sub.length ≤ hi) ∧ subAt s sub a = true) := fun h => hc ⟨h.1.2, h.2⟩
      rw [if_neg c2, List.find?_cons_of_neg (by simpa using hc)]
      exact occ_first s sub hi l free fun i h => hf i (List.mem_cons_of_mem _ h)
theorem find_in (row : List Nat) (c b e : Nat) (he : e ≤ row.length) :
    (Txt.findIn (S row) (S [c]) b e = -1 ∧ ∀ i, b ≤ i → i < e → row[i]? ≠ some c) ∨
    ∃ i : Nat, Txt.findIn (S row) (S [c]) b e = i ∧ b ≤ i ∧ i < e ∧ row[i]? = some c ∧ ∀ j, b ≤ j → j < i → row[j]? ≠ some c := by
  have hb : fromIndex (S row).length (b : Int) = b := by unfold fromIndex; rw [if_neg (by omega)]; omega
  have hE : toIndexW (S row).length (e : Int) = e := by rw [SX.S_len]; unfold toIndexW; rw [if_neg (by omega)]; omega
  have iff : ∀ i, (i + (S [c]).length ≤ e ∧ subAt (S row) (S [c]) i = true) ↔ (i < e ∧ row[i]? = some c) := fun i => by
    have z := StrLaws.subAt_one (S row) c i
    have l1 : (S [c]).length = 1 := rfl
    rw [l1]
    rw [show ((⟨#[c]⟩ : Str).length) = 1 from rfl, SX.S_len] at z
    exact ⟨fun h => ⟨by omega, z.mp ⟨by omega, h.2⟩⟩, fun h => ⟨by omega, (z.mpr h.2).2⟩⟩
  unfold Txt.findIn
  have oc : occurrences (S row) (S [c]) b e 1 = ((List.range' b (e + 1 - b)).find? fun i => decide (i + (S [c]).length ≤ e ∧ subAt (S row) (S [c]) i = true)).toList := by
    rw [StrLaws.occ_eq]
    exact occ_first _ _ _ _ _ fun i hi => by
      exact (List.mem_range'_1.mp hi).1
  rw [hb, hE, oc]
  cases hf : (List.range' b (e + 1 - b)).find? (fun i => decide (i + (S [c]).length ≤ e ∧ subAt (S row) (S [c]) i = true)) with
  | none =>
    refine .inl ⟨rfl, fun i h1 h2 h3 => ?_⟩
    have z := List.find?_eq_none.mp hf i (List.mem_range'_1.mpr ⟨h1, by omega⟩)
    exact z (decide_eq_true ((iff i).mpr ⟨h2, h3⟩))
  | some i =>
    obtain ⟨p, hm, hj⟩ := List.find?_range'_eq_some.mp hf
    have z := (iff i).mp (of_decide_eq_true p)
    have hm : b ≤ i := (List.mem_range'_1.mp hm).1
    refine .inr ⟨i, rfl, hm, z.1, z.2, fun j h1 h2 h3 => ?_⟩
    have q := hj j h1 h2
    rw [decide_eq_true ((iff j).mpr ⟨by omega, h3⟩)] at q
    cases q
end Rg
end
section
/-! The region of a grid: marked run by run. -/
namespace Rg
abbrev Cel : Type := Nat × Nat
def cell (g : List (List Nat)) (p : Cel) : Option Nat := (g[p.2]?).bind fun r => r[p.1]?
def Adj (p q : Cel) : Prop := (p.1 = q.1 ∧ (p.2 + 1 = q.2 ∨ q.2 + 1 = p.2)) ∨ (p.2 = q.2 ∧ (p.1 + 1 = q.1 ∨ q.1 + 1 = p.1))
/-- what hangs together with s in the sign c -/
inductive Conn (g : List (List Nat)) (c : Nat) (s : Cel) : Cel → Prop
  | base : cell g s = some c → Conn g c s s
  | step {p q : Cel} : Conn g c s p → Adj p q → cell g q = some c → Conn g c s q
theorem Conn.at_ {g : List (List Nat)} {c : Nat} {s p : Cel} (h : Conn g c s p) : cell g p = some c := by
  cases h with
  | base h => exact h
  | step _ _ h => exact h
def mkr (row : List Nat) (m b e : Nat) : List Nat := row.take b ++ List.replicate (e - b) m ++ row.drop e
theorem mkr_len {row : List Nat} {m b e : Nat} (hb : b ≤ e) (he : e ≤ row.length) : (mkr row m b e).length = row.length := by
  unfold mkr
  rw [List.length_append, List.length_append, List.length_take, List.length_replicate, List.length_drop]
  omega
theorem mkr_at {row : List Nat} {m b e : Nat} (hb : b ≤ e) (he : e ≤ row.length) (i : Nat) : (mkr row m b e)[i]? = if b ≤ i ∧ i < e then some m else row[i]? := by
  unfold mkr
  have lt : (row.take b).length = b := List.length_take_of_le (by omega)
  by_cases h1 : i < b
  · rw [if_neg (by omega), List.append_assoc, List.getElem?_append_left (by omega), List.getElem?_take, if_pos h1]
  · by_cases h2 : i < e
    · rw [if_pos ⟨by omega, h2⟩, List.append_assoc, List.getElem?_append_right (by omega), lt, List.getElem?_append_left (by rw [List.length_replicate]; omega), List.getElem?_replicate, if_pos (by omega)]
    · rw [if_neg (by omega), List.getElem?_append_right (by rw [List.length_append, lt, List.length_replicate]; omega), List.getElem?_drop, List.length_append, lt, List.length_replicate]
      congr 1
      omega
theorem cell_set {g : List (List Nat)} {y : Nat} {r : List Nat} (hy : y < g.length) (p : Cel) : cell (g.set y r) p = if p.2 = y then r[p.1]? else cell g p := by
  unfold cell
  by_cases h : p.2 = y
  · rw [if_pos h, h, List.getElem?_set_self hy]
    rfl
  · rw [if_neg h, List.getElem?_set_ne (fun e => h e.symm)]
theorem cell_mk {g : List (List Nat)} {y m b e : Nat} {row : List Nat} (hy : g[y]? = some row) (hb : b ≤ e) (he : e ≤ row.length) (p : Cel) : cell (g.set y (mkr row m b e)) p = if p.2 = y ∧ b ≤ p.1 ∧ p.1 < e then some m else cell g p := by
  rw [cell_set (List.getElem?_eq_some_iff.mp hy).1]
  by_cases h : p.2 = y
  · rw [if_pos h, mkr_at hb he]
    by_cases h2 : b ≤ p.1 ∧ p.1 < e
    · rw [if_pos h2, if_pos ⟨h, h2⟩]
    · rw [if_neg h2, if_neg (fun z => h2 z.2)]
      unfold cell
      rw [h, hy]
      rfl
  · rw [if_neg h, if_neg (fun z => h z.1)]
/-- q lies on one run with a seed -/
def Reach (new : List (List Nat)) (c : Nat) (sd : List Cel) (q : Cel) : Prop := ∃ e ∈ sd, e.2 = q.2 ∧ ∀ i, min e.1 q.1 ≤ i → i ≤ max e.1 q.1 → cell new (i, q.2) = some c
structure Mid (g new : List (List Nat)) (c m : Nat) (s : Cel) (sd : List Cel) : Prop where
  cells : ∀ p, cell new p = cell g p ∨ (cell new p = some m ∧ Conn g c s p)
  seeds : ∀ q ∈ sd, Conn g c s q
  clos : ∀ p q, cell new p = some m → Adj p q → cell g q = some c → cell new q = some m ∨ Reach new c sd q
  start : cell new s = some m ∨ Reach new c sd s
theorem Mid.init {g : List (List Nat)} {c m : Nat} {s : Cel} (hs : cell g s = some c) (gm : ∀ p, cell g p ≠ some m) : Mid g g c m s [s] where
  cells _ := .inl rfl
  seeds q hq := by rw [List.mem_singleton.mp hq]; exact .base hs
  clos p _ h := absurd h (gm p)
  start := .inr ⟨s, List.mem_singleton.mpr rfl, rfl, fun i h1 h2 => by
    have : i = s.1 := by omega
    subst this
    exact hs⟩
theorem Mid.skip {g new : List (List Nat)} {c m : Nat} {s e0 : Cel} {sd : List Cel} (h : Mid g new c m s (sd ++ [e0])) (hn : cell new e0 ≠ some c) : Mid g new c m s sd := by
  have tr : ∀ q, Reach new c (sd ++ [e0]) q → Reach new c sd q := fun q ⟨e, he, e2, hr⟩ => by
    rcases List.mem_append.mp he with he | he
    · exact ⟨e, he, e2, hr⟩
    · rw [List.mem_singleton.mp he] at e2 hr
      have z := hr e0.1 (by omega) (by omega)
      rw [← e2] at z
      exact absurd z hn
  exact ⟨h.cells, fun q hq => h.seeds q (List.mem_append_left _ hq), fun p q h1 h2 h3 => (h.clos p q h1 h2 h3).imp id (tr q), h.start.imp id (tr s)⟩
theorem Mid.mark {g new : List (List Nat)} {c m : Nat} {s e0 : Cel} {sd sd' : List Cel} {row : List Nat} {b e : Nat} (hcm : c ≠ m) (h : Mid g new c m s (sd ++ [e0])) (hy : new[e0.2]? = some row) (R : Run row c e0.1 b e)
    (hk : ∀ q ∈ sd, q ∈ sd') (hs : ∀ q ∈ sd', q ∈ sd ∨ ((q.2 + 1 = e0.2 ∨ e0.2 + 1 = q.2) ∧ b ≤ q.1 ∧ q.1 < e ∧ cell new q = some c))
    (hc : ∀ q : Cel, (q.2 + 1 = e0.2 ∨ e0.2 + 1 = q.2) → b ≤ q.1 → q.1 < e → cell new q = some c → ∃ t ∈ sd', t.2 = q.2 ∧ t.1 ≤ q.1 ∧ ∀ i, t.1 ≤ i → i ≤ q.1 → cell new (i, q.2) = some c) :
    Mid g (new.set e0.2 (mkr row m b e)) c m s sd' := by
  have cm := cell_mk (m := m) hy (Nat.le_of_lt (Nat.lt_of_le_of_lt R.bx R.xe)) R.el
  have inr : ∀ i, cell new (i, e0.2) = row[i]? := fun i => by
    unfold cell
    show (new[e0.2]?).bind _ = _
    rw [hy]
    rfl
  have gc : ∀ p, cell new p = some c → cell g p = some c := fun p hp => by
    rcases h.cells p with z | z
    · rw [← z]; exact hp
    · rw [hp] at z
      exact absurd (Option.some.inj z.1) hcm
  have runC : ∀ i, b ≤ i → i < e → cell new (i, e0.2) = some c := fun i h1 h2 => (inr i).trans (R.all i h1 h2)
  have c0 := h.seeds e0 (by simp)
  have right : ∀ k, e0.1 + k < e → Conn g c s (e0.1 + k, e0.2) := fun k => by
    induction k with
    | zero => exact fun _ => c0
    | succ k ih => exact fun hk => .step (ih (by omega)) (.inr ⟨rfl, .inl rfl⟩) (gc _ (runC _ (by have := R.bx; omega) hk))
  have left : ∀ k, b + k ≤ e0.1 → Conn g c s (e0.1 - k, e0.2) := fun k => by
    induction k with
    | zero => exact fun _ => c0
    | succ k ih => exact fun hk => .step (ih (by omega)) (.inr ⟨rfl, .inr (by show e0.1 - (k + 1) + 1 = e0.1 - k; omega)⟩) (gc _ (runC _ (by have := R.xe; omega) (by have := R.xe; omega)))
  have conn : ∀ i, b ≤ i → i < e → Conn g c s (i, e0.2) := fun i h1 h2 => by
    by_cases z : e0.1 ≤ i
    · have := right (i - e0.1) (by omega)
      rw [show e0.1 + (i - e0.1) = i from by omega] at this
      exact this
    · have := left (e0.1 - i) (by omega)
      rw [show e0.1 - (e0.1 - i) = i from by omega] at this
      exact this
  have tr : ∀ q, Reach new c (sd ++ [e0]) q → cell (new.set e0.2 (mkr row m b e)) q = some m ∨ Reach (new.set e0.2 (mkr row m b e)) c sd' q := fun q ⟨d, hd, d2, hr⟩ => by
    by_cases hq : q.2 = e0.2
    · by_cases hin : b ≤ q.1 ∧ q.1 < e
      · left
        rw [cm, if_pos ⟨hq, hin⟩]
      · right
        have hr' : ∀ i, min d.1 q.1 ≤ i → i ≤ max d.1 q.1 → row[i]? = some c := fun i h1 h2 => by
          have z := hr i h1 h2
          rw [hq, inr] at z
          exact z
        have out : ∀ i, min d.1 q.1 ≤ i → i ≤ max d.1 q.1 → ¬ (b ≤ i ∧ i < e) := fun i h1 h2 h3 => by
          by_cases lo : q.1 < b
          · exact R.lo (b - 1) (by omega) (hr' (b - 1) (by omega) (by omega))
          · exact R.hi (hr' e (by omega) (by omega))
        have ne : d ≠ e0 := fun z => out d.1 (by omega) (by omega) (by rw [z]; exact ⟨R.bx, R.xe⟩)
        have hd' : d ∈ sd := by
          rcases List.mem_append.mp hd with z | z
          · exact z
          · exact absurd (List.mem_singleton.mp z) ne
        exact ⟨d, hk d hd', d2, fun i h1 h2 => by rw [cm, if_neg (fun z => out i h1 h2 z.2)]; exact hr i h1 h2⟩
    · right
      have ne : d ≠ e0 := fun z => hq (by rw [← d2, z])
      have hd' : d ∈ sd := by
        rcases List.mem_append.mp hd with z | z
        · exact z
        · exact absurd (List.mem_singleton.mp z) ne
      exact ⟨d, hk d hd', d2, fun i h1 h2 => by rw [cm, if_neg (fun z => hq z.1)]; exact hr i h1 h2⟩
  have keep : ∀ q, cell new q = some m → cell (new.set e0.2 (mkr row m b e)) q = some m := fun q hq => by
    rw [cm]
    split
    · rfl
    · exact hq
  refine ⟨fun p => ?_, fun q hq => ?_, fun p q h1 h2 h3 => ?_, h.start.elim (fun z => .inl (keep s z)) (tr s)⟩
  · rw [cm]
    by_cases hp : p.2 = e0.2 ∧ b ≤ p.1 ∧ p.1 < e
    · rw [if_pos hp]
      right
      refine ⟨rfl, ?_⟩
      have := conn p.1 hp.2.1 hp.2.2
      rw [← hp.1] at this
      exact this
    · rw [if_neg hp]
      exact h.cells p
  · rcases hs q hq with z | ⟨z1, z2, z3, z4⟩
    · exact h.seeds q (List.mem_append_left _ z)
    · exact .step (conn q.1 z2 z3) (.inl ⟨rfl, by rcases z1 with z1 | z1; exact .inr z1; exact .inl z1⟩) (gc _ z4)
  · rw [cm] at h1
    by_cases hp : p.2 = e0.2 ∧ b ≤ p.1 ∧ p.1 < e
    · rcases h2 with ⟨a1, a2⟩ | ⟨a1, a2⟩
      · have qy : q.2 + 1 = e0.2 ∨ e0.2 + 1 = q.2 := by omega
        rcases h.cells q with z | z
        · have z' : cell new q = some c := z.trans h3
          obtain ⟨t, ht, t2, t3, t4⟩ := hc q qy (by omega) (by omega) z'
          right
          refine ⟨t, ht, t2, fun i g1 g2 => ?_⟩
          rw [cm, if_neg (fun z => by have := z.1; simp only at this; omega)]
          exact t4 i (by omega) (by omega)
        · exact .inl (keep q z.1)
      · left
        by_cases hq : b ≤ q.1 ∧ q.1 < e
        · rw [cm, if_pos ⟨by omega, hq⟩]
        · rcases h.cells q with z | z
          · have z' : cell new (q.1, e0.2) = some c := by
              rw [show ((q.1, e0.2) : Cel) = q from by rw [← hp.1, a1]]
              exact z.trans h3
            rw [inr] at z'
            by_cases lo : q.1 < b
            · exact absurd z' (R.lo q.1 (by omega))
            · have : q.1 = e := by omega
              rw [this] at z'
              exact absurd z' R.hi
          · exact keep q z.1
    · rw [if_neg hp] at h1
      exact (h.clos p q h1 h2 h3).elim (fun z => .inl (keep q z)) (tr q)
theorem Mid.done {g new : List (List Nat)} {c m : Nat} {s : Cel} (gm : ∀ p, cell g p ≠ some m) (h : Mid g new c m s []) (p : Cel) : (Conn g c s p → cell new p = some m) ∧ (¬ Conn g c s p → cell new p = cell g p) := by
  have no : ∀ q, ¬ Reach new c [] q := fun q ⟨e, he, _⟩ => by cases he
  refine ⟨fun hp => ?_, fun hp => (h.cells p).elim id fun z => absurd z.2 hp⟩
  induction hp with
  | base _ => exact h.start.resolve_right (no _)
  | step _ a b ih => exact (h.clos _ _ ih a b).resolve_right (no _)
/-! ### how much is left -/
def left (g : List (List Nat)) (c : Nat) : Nat := (g.map (·.count c)).sum
theorem left_set (c : Nat) : ∀ (g : List (List Nat)) (y : Nat) (row r : List Nat), g[y]? = some row → left (g.set y r) c + row.count c = left g c + r.count c
  | [], y, row, r, h => by cases h
  | q :: g, 0, row, r, h => by
    cases h
    show (r.count c + left g c) + q.count c = (q.count c + left g c) + r.count c
    omega
  | q :: g, y + 1, row, r, h => by
    have := left_set c g y row r h
    show (q.count c + left (g.set y r) c) + row.count c = (q.count c + left g c) + r.count c
    omega
theorem mkr_count {row : List Nat} {c m x b e : Nat} (hcm : c ≠ m) (R : Run row c x b e) : (mkr row m b e).count c + (e - b) = row.count c := by
  have hbe := Nat.lt_of_le_of_lt R.bx R.xe
  have hm : (row.drop b).take (e - b) = List.replicate (e - b) c := by
    refine List.ext_getElem? fun i => ?_
    rw [List.getElem?_take, List.getElem?_drop, List.getElem?_replicate]
    by_cases hi : i < e - b
    · rw [if_pos hi, if_pos hi]
      exact R.all _ (by omega) (by omega)
    · rw [if_neg hi, if_neg hi]
  have sp : row = row.take b ++ List.replicate (e - b) c ++ row.drop e := by
    have z1 := (List.take_append_drop b row).symm
    have z2 := (List.take_append_drop (e - b) (row.drop b)).symm
    rw [hm, List.drop_drop, show b + (e - b) = e from by omega] at z2
    rw [z2, ← List.append_assoc] at z1
    exact z1
  have e1 := congrArg (List.count c) sp
  rw [List.count_append, List.count_append, List.count_replicate_self] at e1
  unfold mkr
  rw [List.count_append, List.count_append, List.count_eq_zero.mpr (show c ∉ List.replicate (e - b) m from fun z => hcm (List.mem_replicate.mp z).2)]
  omega
end Rg
end
section
/-! Comprehensions of two loops. -/
namespace Ow
open PySem PySem.Spec PyProof.Rows L2 StX
/-- the inner loop -/
def kIn (J1 : It) (g1 : TG) (tt1 : TT) (te : TE) (vs1 : List Nat) (σ2 : L2.St) (D : Addr) (N : Hp → Prop) (H4 : Hp) : Prop := ∃ W1 : Nat → Nat → Hp → Prop, (∃ m, W1 0 m H4) ∧ ∀ j k H, W1 j k H →
  (J1.stop j H ∧ N H) ∨ (J1.go j H ∧ ∃ Nx1 : Hp → Prop, (∀ H', Nx1 H' → ∃ k', k' < k ∧ W1 (j + 1) k' H') ∧ ∀ x H', J1.yld j H x H' → g1 x (wipe σ2 vs1) H' fun σ3 H5 => wipe σ3 vs1 = wipe σ2 vs1 ∧ tt1 σ3 H5 fun b H6 =>
    if b = true then te σ3 H6 (kApp D Nx1) else Nx1 H6)
def kLc2 (J : It) (g : TG) (tt : TT) (wi1 : TI) (g1 : TG) (tt1 : TT) (te : TE) (vs vs1 : List Nat) (σ : L2.St) (Q : VK) (H1 : Hp) : Prop := ∀ D, H1 D = none → ∃ W : Nat → Nat → Hp → Prop, (∃ m, W 0 m (upd H1 D (.lst []))) ∧ ∀ i m H, W i m H →
  (J.stop i H ∧ Q (.ref D) H) ∨ (J.go i H ∧ ∃ Nx : Hp → Prop, (∀ H', Nx H' → ∃ m', m' < m ∧ W (i + 1) m' H') ∧ ∀ x H', J.yld i H x H' → g x (wipe σ vs) H' fun σ2 H2 => wipe σ2 vs = wipe σ vs ∧ tt σ2 H2 fun b H3 =>
    if b = true then wi1 σ2 H3 fun J1 H4 => kIn J1 g1 tt1 te vs1 σ2 D Nx H4 else Nx H3)
theorem tLc2_k (wi : TI) (g : TG) (tt : TT) (wi1 : TI) (g1 : TG) (tt1 : TT) (te : TE) (vs vs1 : List Nat) : tLc2 wi g tt wi1 g1 tt1 te vs vs1 = fun σ H Q => wi σ H fun J H1 => kLc2 J g tt wi1 g1 tt1 te vs vs1 σ Q H1 := rfl
theorem kIn.it {J : It} {n : Nat} {G : Hp → Prop} {Y : Nat → Hp → V → Hp → Prop} (w : Walk J n G Y) {g : TG} {tt : TT} {te : TE} {vs : List Nat} {σ : L2.St} {D : Addr} {N : Hp → Prop} {H4 : Hp} (I : Nat → Hp → Prop) (h0 : I 0 H4) (hG : ∀ i H, I i H → G H)
    (hs : ∀ i x H H', i < n → I i H → Y i H x H' → g x (wipe σ vs) H' fun σ2 H2 => wipe σ2 vs = wipe σ vs ∧ tt σ2 H2 fun b H3 => if b = true then te σ2 H3 (kApp D (I (i + 1))) else I (i + 1) H3)
    (hd : ∀ H', I n H' → N H') : kIn J g tt te vs σ D N H4 := by
  refine ⟨fun i m H => m = n - i ∧ i ≤ n ∧ I i H, ⟨n, by simp, Nat.zero_le _, h0⟩, ?_⟩
  rintro i m H ⟨rfl, hi, p⟩
  have q := hG i H p
  by_cases hlt : i < n
  · exact .inr ⟨w.goes i H hlt q, I (i + 1), fun H' p' => ⟨n - (i + 1), by omega, rfl, hlt, p'⟩, fun x H' y => hs i x H H' hlt p (w.yields i H x H' hlt q y)⟩
  · have e : i = n := by omega
    subst e
    exact .inl ⟨w.stops H q, hd H p⟩
theorem kLc2.it {J : It} {n : Nat} {G : Hp → Prop} {Y : Nat → Hp → V → Hp → Prop} (w : Walk J n G Y) {g : TG} {tt : TT} {wi1 : TI} {g1 : TG} {tt1 : TT} {te : TE} {vs vs1 : List Nat} {σ : L2.St} {Q : VK} {H1 : Hp} (I : Addr → Nat → Hp → Prop) (h0 : ∀ D H', Fresh H1 H' D (.lst []) → I D 0 H') (hG : ∀ D i H, I D i H → G H)
    (hs : ∀ D i x H H', i < n → I D i H → Y i H x H' → g x (wipe σ vs) H' fun σ2 H2 => wipe σ2 vs = wipe σ vs ∧ tt σ2 H2 fun b H3 => if b = true then wi1 σ2 H3 fun J1 H4 => kIn J1 g1 tt1 te vs1 σ2 D (I D (i + 1)) H4 else I D (i + 1) H3)
    (hd : ∀ D H', I D n H' → Q (.ref D) H') : kLc2 J g tt wi1 g1 tt1 te vs vs1 σ Q H1 := fun D hD => by
  refine ⟨fun i m H => m = n - i ∧ i ≤ n ∧ I D i H, ⟨n, by simp, Nat.zero_le _, h0 D _ (fresh_upd hD)⟩, ?_⟩
  rintro i m H ⟨rfl, hi, p⟩
  have q := hG D i H p
  by_cases hlt : i < n
  · exact .inr ⟨w.goes i H hlt q, I D (i + 1), fun H' p' => ⟨n - (i + 1), by omega, rfl, hlt, p'⟩, fun x H' y => hs D i x H H' hlt p (w.yields i H x H' hlt q y)⟩
  · have e : i = n := by omega
    subst e
    exact .inl ⟨w.stops H q, hd D H p⟩
end Ow
end
section
set_option maxHeartbeats 2000000
/-! A displayed dict of one pair whose key is a tuple. -/
namespace Ow
open PySem PySem.Spec PyProof.Rows L2 StX
def tDispT (tk tv : TE) : TE := fun σ H Q => ∀ p, H p = none → tk σ (upd H p (.dT [])) fun x H1 => tv σ H1 fun y H2 => H2 p = some (.dT []) ∧ ∃ (k : List Key) (b : Addr), x = .ref b ∧ H2 b = some (.tup (k.map kV)) ∧ Q (.ref p) (upd H2 p (.dT [(k, y)]))
theorem pe_dispT {X : Cx} {pos : Pos} {k v : Expr} {tk tv : TE} (hu : X.A.units + 1 < cLine) (hk : PE X k tk) (hv : PE X v tv) : PE X (.Dict [some k] [v] pos) (tDispT tk tv) := by
  refine ⟨fun pins s σ H Q I q => ?_⟩
  have hn := I.hok.fresh (Nat.le_refl s.heap.objs.size)
  have I1 := I.laid (a := s.heap.objs.size) (o := .dT []) (h' := s.heap.push { cls := .type "dict", data := .dict #[] }) (t' := s.toks) (fun _ _ q => Heap.get?_push_of_some _ q) (Nat.le_refl _) (dt_empty s.heap I.big)
  rw [arm_eval_Dict, zip_pairTrees [some k] [v] X.env pos rfl rfl, dictDisplay_pairs (pairTrees [some k] [v] X.env pos) (by simp [pairTrees]) (by simp [pairTrees])]
  refine wpAny_bind (wpAny_standAt (wpAny_bind (wpAny_subDictH (knd := tupleKind (mixKind X.prog X.w)) (Q := fun d s' => wpAny (model X.prog X.w) X.A (pure (Value.ref d)) (EP X pins σ Q) X.xe s') (show X.A.units < cLine by omega) (by simp [pairTrees]) ?_)))
  have hp : PPs X pos [some k] [v] [(tk, tv)] := pps_cons hk hv pps_nil
  refine thn (hp.run pins _ σ _ (fun ps H2 => match ps with
    | [(x, y)] => H2 s.heap.objs.size = some (.dT []) ∧ ∃ (k : List Key) (b : Addr), x = .ref b ∧ H2 b = some (.tup (k.map kV)) ∧ Q (.ref s.heap.objs.size) (upd H2 s.heap.objs.size (.dT [(k, y)]))
    | _ => False) I1 (q _ hn)) fun vs s2 ⟨ps, H2, I2, rel, q2⟩ => ?_
  cases rel with
  | nil => exact False.elim q2
  | @cons p w ps ws hpw rest =>
    cases rest with
    | cons _ _ => exact False.elim q2
    | nil =>
      obtain ⟨x, y⟩ := p
      obtain ⟨u1, u2⟩ := w
      obtain ⟨e, ks, b, ex, eb, q3⟩ := q2
      obtain ⟨rx, ry⟩ := hpw
      subst ex
      cases (show u1 = Value.ref b from rx)
      obtain ⟨z, hd, xs, r0, dd⟩ := dt_of I2.hok e
      cases r0
      refine ⟨[(ks, b, u2)], ⟨rfl, rfl, key_of I2.hok eb, True.intro⟩, dd, fun h' tk' dd' hs => wpAny_pure ?_⟩
      obtain ⟨o, es, ep, hq, h2, h3, h4, _, h5⟩ := dd'
      refine ⟨.ref s.heap.objs.size, _, d_write (ob := .dT [(ks, y)]) I2 (by rw [e]; exact True.intro) hs ⟨o, hq⟩ ⟨by show 1 ≤ sizeLine; decide, hd, [(ks, b, u2)], .cons ⟨rfl, ?_, ry⟩ .nil, o, es, ep, hq, h2, h3, h4, h5⟩, rfl, q3⟩
      rw [upd_ne (ne_of eb e (fun z => nomatch z))]
      exact eb
end Ow
end
section
set_option maxHeartbeats 2000000
/-! A list's slice [::e], e 1 or -1. -/
namespace Ow
open PySem PySem.Spec PyProof.Rows L2 StX
def tSlSt (K : PySem.W.Frag) (te tt : TE) : TE := fun σ H Q => te σ H fun x H1 => tt σ H1 fun y H2 => ∃ (a : Addr) (xs : List V), x = .ref a ∧ SqL K H2 a xs ∧ ((y = .int 1 ∧ kN (.lst xs) Q H2) ∨ (y = .int (-1) ∧ kN (.lst xs.reverse) Q H2))
theorem pick_one (its : List Value) : PySem.slicePick its.toArray none none (some 1) = its.toArray := by
  have h : PySem.slicePick its.toArray none none (some 1) = PySem.slicePick its.toArray none none none := rfl
  rw [h, slicePick_cut]
  simp [HT.sIx]
theorem pick_back (its : List Value) : PySem.slicePick its.toArray none none (some (-1)) = its.reverse.toArray := by
  have hb : sliceBounds none none (some (-1)) its.toArray.size = ((its.length : Int) - 1, -1, -1) := by
    simp [sliceBounds]
  unfold PySem.slicePick
  rw [hb]
  unfold sliceRange
  have hc : (if (-1 : Int) > 0 then (if (its.length : Int) - 1 < -1 then (-1 - ((its.length : Int) - 1) + -1 - 1) / -1 else 0) else (if (its.length : Int) - 1 > -1 then ((its.length : Int) - 1 - -1 - -1 - 1) / (- -1) else 0)) = (its.length : Int) := by
    rw [if_neg (by decide)]
    by_cases h : (its.length : Int) - 1 > -1
    · rw [if_pos h]
      show ((its.length : Int) - 1 - -1 - -1 - 1) / 1 = _
      rw [Int.ediv_one]
      omega
    · rw [if_neg h]
      omega
  simp only at hc ⊢
  rw [hc, Int.toNat_natCast, List.filterMap_map]
  congr 1
  have key : ∀ n, n ≤ its.length → (List.range n).filterMap ((fun x => its.toArray[x]?) ∘ fun (k : Nat) => ((its.length : Int) - 1 + -1 * (k : Int)).toNat) = its.reverse.take n := fun n => by
    induction n with
    | zero => intro _; rfl
    | succ n ih =>
      intro h
      rw [List.range_succ, List.filterMap_append, ih (by omega), List.take_add_one, List.getElem?_reverse (by omega)]
      congr 1
      have e : (((fun x => its.toArray[x]?) ∘ fun (k : Nat) => ((its.length : Int) - 1 + -1 * (k : Int)).toNat) n) = its[its.length - 1 - n]? := by
        show its.toArray[((its.length : Int) - 1 + -1 * (n : Int)).toNat]? = _
        rw [show ((its.length : Int) - 1 + -1 * (n : Int)).toNat = its.length - 1 - n from by omega]
        simp
      rw [List.filterMap_cons, e, List.getElem?_eq_getElem (show its.length - 1 - n < its.length by omega)]
      rfl
  have z := key its.length (Nat.le_refl _)
  rw [List.take_of_length_le (by rw [List.length_reverse]; exact Nat.le_refl _)] at z
  exact z
theorem pe_sliceSt {X : Cx} {e st : Expr} {te tt : TE} {p2 pos : Pos} (he : PE X e te) (ht : PE X st tt) : PE X (.Subscript e (.Slice none none (some st) p2) pos) (tSlSt X.K te tt) := by
  refine ⟨fun pins s σ H Q I h => ?_⟩
  refine Subscript_ (thn (he.run pins s σ H _ I h) fun v s1 ⟨x, H1, I1, r1, q1⟩ => ?_)
  refine wpAny_Slice ?_
  rw [evalPart_none]
  refine wpAny_pure (wpAny_pure ?_)
  rw [evalPart_some]
  refine thn (ht.run pins s1 σ H1 _ I1 q1) fun u s2 ⟨y, H2, I2, r2, a, xs, ex, hx, q2⟩ => ?_
  subst ex
  cases r1
  have I3 : Inv X pins σ H2 { s2 with heap := s2.heap.push { cls := .type "slice", data := .fields #[.none, .none, u] } } := I2.kept (t' := s2.toks) fun b ob q => Heap.get?_push_of_some _ q
  obtain ⟨its, r, hl, hz⟩ := I3.list hx
  have fin : ∀ (k : Int) (ys : List V) (jts : List Value), IsPart u (some k) → k ≠ 0 → PySem.slicePick its.toArray none none (some k) = jts.toArray → Vals ys jts → ys.length ≤ xs.length → kN (.lst ys) Q H2 →
      wpAny (model X.prog X.w) X.A (getItem (.ref a) (.ref s2.heap.objs.size)) (EP X pins σ Q) X.xe { s2 with heap := s2.heap.push { cls := .type "slice", data := .fields #[.none, .none, u] } } := fun k ys jts hp k0 hpk rv hle q => by
    refine wpAny_getItem_list_slice hl.isList (Heap.IsSliceOf.new ..) .none .none hp (fun z => k0 (Option.some.inj z)) ?_ (by rw [List.size_toArray, ← r.length]; exact hz)
    rw [hpk]
    exact ⟨.ref _, _, I3.laid (t' := s2.toks) (o := .lst ys) (fun b ob q => Heap.get?_push_of_some _ q) (Nat.le_refl _) ⟨Nat.le_trans hle hz, _, 0, rv, Heap.get?_push_size _ rfl⟩, rfl, q _ (I3.hok.fresh (Nat.le_refl _))⟩
  have hid : typeLookup (.type "list") "__getitem__" = pure (some (.builtin _)) := slot_list_getitem.lookup
  have hrun : wpAny (model X.prog X.w) X.A (getItem (.ref a) (.ref s2.heap.objs.size)) (EP X pins σ Q) X.xe { s2 with heap := s2.heap.push { cls := .type "slice", data := .fields #[.none, .none, u] } } := by
    rcases q2 with ⟨rfl, q⟩ | ⟨rfl, q⟩
    · obtain ⟨t, rfl⟩ := r2
      exact fin 1 xs its (.int _ _) (by decide) (pick_one its) r (Nat.le_refl _) q
    · obtain ⟨t, rfl⟩ := r2
      exact fin (-1) xs.reverse its.reverse (.int _ _) (by decide) (pick_back its) (vals_rev r) (by rw [List.length_reverse]; exact Nat.le_refl _) q
  show wpAny (model X.prog X.w) X.A (subscriptTail e (.Slice none none (some st) p2) (.ref a) (.ref s2.heap.objs.size)) (EP X pins σ Q) X.xe { s2 with heap := s2.heap.push { cls := .type "slice", data := .fields #[.none, .none, u] } }
  exact tail_any (ops := [.ref a, .ref s2.heap.objs.size]) hl.isList.typeIs hid hrun (by with_unfolding_all rfl)
end Ow
end
section
set_option maxHeartbeats 2000000
/-! A text's and a tuple's slice [::e], e -1. -/
namespace Ow
open PySem PySem.Spec PyProof.Rows L2 StX
def revS (z : Str) : Str := ⟨z.cps.toList.reverse.toArray⟩
def tBackS (te tt : TE) : TE := fun σ H Q => te σ H fun x H1 => tt σ H1 fun y H2 => ∃ z, x = .str z ∧ y = .int (-1) ∧ z.length ≤ sizeLine ∧ Q (.str (revS z)) H2
def tBackT (K : PySem.W.Frag) (te tt : TE) : TE := fun σ H Q => te σ H fun x H1 => tt σ H1 fun y H2 => ∃ (a : Addr) (xs : List V), x = .ref a ∧ y = .int (-1) ∧ SqT K H2 a xs ∧ kN (.tup xs.reverse) Q H2
theorem pick_rev {α : Type} (xs : List α) : (List.range xs.length).filterMap (fun (k : Nat) => xs[((xs.length : Int) - 1 + -1 * (k : Int)).toNat]?) = xs.reverse := by
  have key : ∀ n, n ≤ xs.length → (List.range n).filterMap (fun (k : Nat) => xs[((xs.length : Int) - 1 + -1 * (k : Int)).toNat]?) = xs.reverse.take n := fun n => by
    induction n with
    | zero => intro _; rfl
    | succ n ih =>
      intro h
      rw [List.range_succ, List.filterMap_append, ih (by omega), List.take_add_one, List.getElem?_reverse (by omega)]
      congr 1
      rw [List.filterMap_cons, show ((xs.length : Int) - 1 + -1 * (n : Int)).toNat = xs.length - 1 - n from by omega, List.getElem?_eq_getElem (show xs.length - 1 - n < xs.length by omega)]
      rfl
  have z := key xs.length (Nat.le_refl _)
  rw [List.take_of_length_le (by rw [List.length_reverse]; exact Nat.le_refl _)] at z
  exact z
theorem range_back (n : Nat) : sliceRange ((n : Int) - 1) (-1) (-1) = (List.range n).map fun (k : Nat) => ((n : Int) - 1 + -1 * (k : Int)).toNat := by
  unfold sliceRange
  have hc : (if (-1 : Int) > 0 then (if (n : Int) - 1 < -1 then (-1 - ((n : Int) - 1) + -1 - 1) / -1 else 0) else (if (n : Int) - 1 > -1 then ((n : Int) - 1 - -1 - -1 - 1) / (- -1) else 0)) = (n : Int) := by
    rw [if_neg (by decide)]
    by_cases h : (n : Int) - 1 > -1
    · rw [if_pos h]
      show ((n : Int) - 1 - -1 - -1 - 1) / 1 = _
      rw [Int.ediv_one]
      omega
    · rw [if_neg h]
      omega
  simp only at hc ⊢
  rw [hc, Int.toNat_natCast]
theorem made_back (x : Str) (t u : Tok) : sliceMade x t none none (some (-1, u)) = .str (revS x) := by
  have e : slicePicked x none none (some (-1, u)) = (List.range x.length).map fun (k : Nat) => ((x.length : Int) - 1 + -1 * (k : Int)).toNat := range_back x.length
  unfold sliceMade
  rw [e]
  show (if ((-1 : Int) == 1 && _) = true then _ else _) = _
  rw [if_neg (by simp), List.filterMap_map]
  unfold revS
  congr 2
  have z := pick_rev x.cps.toList
  rw [Array.length_toList] at z
  rw [← z]
  congr 1
  refine congrArg (fun f => List.filterMap f _) (funext fun k => ?_)
  simp [Function.comp]
  rfl
theorem pe_backS {X : Cx} {e st : Expr} {te tt : TE} {p2 pos : Pos} (he : PE X e te) (ht : PE X st tt) : PE X (.Subscript e (.Slice none none (some st) p2) pos) (tBackS te tt) := by
  refine ⟨fun pins s σ H Q I h => ?_⟩
  refine Subscript_ (thn (he.run pins s σ H _ I h) fun v s1 ⟨x, H1, I1, r1, q1⟩ => ?_)
  refine wpAny_Slice ?_
  rw [evalPart_none]
  refine wpAny_pure (wpAny_pure ?_)
  rw [evalPart_some]
  refine thn (ht.run pins s1 σ H1 _ I1 q1) fun u s2 ⟨y, H2, I2, r2, z, ex, ey, hz, q2⟩ => ?_
  subst ex
  subst ey
  obtain ⟨t, rfl⟩ := r1
  obtain ⟨tu, rfl⟩ := r2
  have I3 : Inv X pins σ H2 { s2 with heap := s2.heap.push { cls := .type "slice", data := .fields #[.none, .none, .int (-1) tu] } } := I2.kept (t' := s2.toks) fun b ob q => Heap.get?_push_of_some _ q
  have hid : typeLookup (.type "str") "__getitem__" = pure (some (.builtin _)) := F.slot_str_getitem.lookup
  have hl : (revS z).length ≤ sizeLine := by
    have : (revS z).length = z.length := by
      show (z.cps.toList.reverse.toArray).size = z.cps.size
      simp
    rw [this]
    exact hz
  have hrun : wpAny (model X.prog X.w) X.A (getItem (.str z t) (.ref s2.heap.objs.size)) (EP X pins σ Q) X.xe { s2 with heap := s2.heap.push { cls := .type "slice", data := .fields #[.none, .none, .int (-1) tu] } } := by
    refine wpAny_getItem_str_slice (l := none) (u := none) (st := some (-1, tu)) (by
      obtain ⟨o, h1, h2, h3⟩ := Heap.IsSliceOf.new (h := s2.heap) Value.none Value.none (Value.int (-1) tu)
      exact ⟨o, h1, h2, h3⟩) rfl ?_
    rw [made_back]
    exact ⟨hl, .str _, H2, I3.tok _, ⟨_, rfl⟩, q2⟩
  show wpAny (model X.prog X.w) X.A (subscriptTail e (.Slice none none (some st) p2) (.str z t) (.ref s2.heap.objs.size)) (EP X pins σ Q) X.xe { s2 with heap := s2.heap.push { cls := .type "slice", data := .fields #[.none, .none, .int (-1) tu] } }
  exact tail_any (ops := [.str z t, .ref s2.heap.objs.size]) (typeIs_str _ _ _) hid hrun (by with_unfolding_all rfl)
section
variable {prog : Program} {w : World} {A : Around} {E : Value → Shared → Prop} {s : Shared}
theorem adjust_back (n : Nat) : Builtin.Slice.sliceAdjust none none (-1) (n : Int) = ((n : Int) - 1, -1) := by
  unfold Builtin.Slice.sliceAdjust
  rfl
theorem places_back (n : Nat) : Builtin.Slice.slicePlaces ((n : Int) - 1) (-1) (-1) = n := by
  unfold Builtin.Slice.slicePlaces
  rw [if_neg (by decide)]
  by_cases h : (n : Int) - 1 > -1
  · rw [if_pos h]
    show (((n : Int) - 1 - -1 - 1) / 1 + 1).toNat = n
    rw [Int.ediv_one]
    omega
  · rw [if_neg h]
    omega
theorem tupBack {t sl : Addr} {items : Array Value} {tu : Tok} {Q : Value → Shared → Prop} (ht : IsTup s.heap t items) (hs : s.heap.IsSliceOf sl .none .none (.int (-1) tu))
    (h : Q (.ref s.heap.objs.size) { s with heap := s.heap.push { cls := .type "tuple", data := .seq items.toList.reverse.toArray } }) (hsz : items.size ≤ sizeLine) : wpAny (model prog w) A (getItem (.ref t) (.ref sl)) Q E s := by
  have small : sizeOk (.seq items.toList.reverse.toArray) := by
    show items.toList.reverse.toArray.size ≤ sizeLine
    rw [List.size_toArray, List.length_reverse, Array.length_toList]; exact hsz
  obtain ⟨os, hos, hcs, hds⟩ := id hs
  have isl : s.TypeIs (.ref sl) "slice" := ⟨os, hos, hcs⟩
  unfold getItem
  (try with_reducible refine wpAny_holding ?_); (first | refine wpAny_bind (wpAny_pure ?_) | skip)
  refine wpAny_bind (wpAny_sequenceKey ht.typeIs (by decide) (wpAny_bind (wpAny_callSpecial?_slot (name := Str.ofString "__getitem__") ht.typeIs PyProof.Rows.slot_tuple_getitem (wpAny_call_entry PyProof.Rows.slot_tuple_getitem ht.typeIs entry_tuple_getitem ?_ (args_tuple_getitem _ _)))))
  show wpAny (model prog w) _ (Builtin.Tuple.tupleItemsOf (.ref t) >>= _) _ _ s
  refine wpAny_bind (tupleItemsOf_ ht (wpAny_bind (wpAny_typeOf isl ?_)))
  rw [if_pos (by decide : _ = true)]
  refine wpAny_bind ?_
  unfold Builtin.Slice.sliceApplied Builtin.Slice.sliceFields
  refine wpAny_bind (wpAny_bind (wpAny_field hos hds (x := .none) rfl (wpAny_bind (wpAny_field hos hds (x := .none) rfl (wpAny_bind (wpAny_field hos hds (x := .int (-1) tu) rfl (wpAny_pure ?_)))))))
  refine wpAny_bind (PyProof.Rows.slicePart_int ?_)
  show wpAny (model prog w) _ (if ((-1 : Int) == 0) = true then _ else _) _ _ s
  rw [if_neg (by decide : ¬ ((-1 : Int) == 0) = true)]
  refine wpAny_bind (PyProof.Rows.slicePart_none (wpAny_bind (PyProof.Rows.slicePart_none (wpAny_bind (wpAny_pure ?_)))))
  show wpAny (model prog w) _ (match Builtin.Slice.sliceAdjust none none (-1) (items.size : Int) with | (lo, hi) => pure (lo, (-1 : Int), Builtin.Slice.slicePlaces lo hi (-1))) _ _ s
  rw [adjust_back]
  show wpAny (model prog w) _ (pure ((items.size : Int) - 1, (-1 : Int), Builtin.Slice.slicePlaces ((items.size : Int) - 1) (-1) (-1))) _ _ s
  rw [places_back]
  refine wpAny_pure ?_
  have hno : ¬ (((((items.size : Int) - 1) == 0) && ((-1 : Int) == 1) && (items.size == items.size)) = true) := by simp
  show wpAny (model prog w) _ (if ((((items.size : Int) - 1) == 0) && ((-1 : Int) == 1) && (items.size == items.size)) = true then _ else _) _ _ s
  rw [if_neg hno]
  have ep : ((List.range items.size).filterMap fun (k : Nat) => items[(((items.size : Int) - 1) + (k : Int) * (-1)).toNat]?).toArray = items.toList.reverse.toArray := by
    have z := pick_rev items.toList
    rw [Array.length_toList] at z
    rw [← z]
    congr 1
    refine congrArg (fun f => List.filterMap f _) (funext fun k => ?_)
    rw [Int.mul_comm]
    simp
  rw [ep]
  first
    | (exact wpAny_bind (m := Builtin.Tuple.tupleExact _) (wpAny_newObj_type (wpAny_pure ⟨_, rfl, wpAny_pure h⟩) small))
    | (exact wpAny_bind (m := Builtin.Tuple.tupleExact _) (wpAny_newObj_type (wpAny_bind (wpAny_pure (wpAny_pure ⟨_, rfl, wpAny_pure h⟩))) small))
    | (exact wpAny_bind (wpAny_bind (m := Builtin.Tuple.tupleExact _) (wpAny_newObj_type (wpAny_pure (wpAny_pure ⟨_, rfl, wpAny_pure h⟩)) small)))
    | (exact wpAny_bind (wpAny_bind (m := Builtin.Tuple.tupleExact _) (wpAny_newObj_type (wpAny_pure ⟨_, rfl, wpAny_pure h⟩) small)))
end
theorem pe_backT {X : Cx} {e st : Expr} {te tt : TE} {p2 pos : Pos} (he : PE X e te) (ht : PE X st tt) : PE X (.Subscript e (.Slice none none (some st) p2) pos) (tBackT X.K te tt) := by
  refine ⟨fun pins s σ H Q I h => ?_⟩
  refine Subscript_ (thn (he.run pins s σ H _ I h) fun v s1 ⟨x, H1, I1, r1, q1⟩ => ?_)
  refine wpAny_Slice ?_
  rw [evalPart_none]
  refine wpAny_pure (wpAny_pure ?_)
  rw [evalPart_some]
  refine thn (ht.run pins s1 σ H1 _ I1 q1) fun u s2 ⟨y, H2, I2, r2, a, xs, ex, ey, hx, q2⟩ => ?_
  subst ex
  subst ey
  cases r1
  obtain ⟨tu, rfl⟩ := r2
  have I3 : Inv X pins σ H2 { s2 with heap := s2.heap.push { cls := .type "slice", data := .fields #[.none, .none, .int (-1) tu] } } := I2.kept (t' := s2.toks) fun b ob q => Heap.get?_push_of_some _ q
  obtain ⟨its, r, hl, hz⟩ := I3.tuple hx
  have hid : typeLookup (.type "tuple") "__getitem__" = pure (some (.builtin _)) := PyProof.Rows.slot_tuple_getitem.lookup
  have hrun : wpAny (model X.prog X.w) X.A (getItem (.ref a) (.ref s2.heap.objs.size)) (EP X pins σ Q) X.xe { s2 with heap := s2.heap.push { cls := .type "slice", data := .fields #[.none, .none, .int (-1) tu] } } := by
    refine tupBack hl (Heap.IsSliceOf.new ..) ?_ (by rw [List.size_toArray, ← r.length]; exact hz)
    exact ⟨.ref _, _, I3.laid (t' := s2.toks) (o := .tup xs.reverse) (fun b ob q => Heap.get?_push_of_some _ q) (Nat.le_refl _) ⟨by rw [List.length_reverse]; exact hz, _, vals_rev r, IsTup.new _ _⟩, rfl, q2 _ (I3.hok.fresh (Nat.le_refl _))⟩
  show wpAny (model X.prog X.w) X.A (subscriptTail e (.Slice none none (some st) p2) (.ref a) (.ref s2.heap.objs.size)) (EP X pins σ Q) X.xe { s2 with heap := s2.heap.push { cls := .type "slice", data := .fields #[.none, .none, .int (-1) tu] } }
  exact tail_any (ops := [.ref a, .ref s2.heap.objs.size]) hl.typeIs hid hrun (by with_unfolding_all rfl)
end Ow
end
section
/-! Rules for a comprehension's body that name K. -/
namespace Ow
open PySem PySem.Spec PyProof.Rows L2 StX
section
variable {X : Cx} {K : PySem.W.Frag}
theorem ix_tupK (hK : X.K = K) : IxR X (rIxT K) := by
  subst hK
  exact ix_tup
theorem op_notInDTK (hK : X.K = K) (hu : X.A.units + 65 < cLine) : OpR X (compareOp .NotIn) (rInDT K true) := by
  subst hK
  exact op_notInDT hu
theorem op_inDTK (hK : X.K = K) (hu : X.A.units + 65 < cLine) : OpR X (compareOp .In) (rInDT K false) := by
  subst hK
  exact op_inDT hu
end
end Ow
end
section
/-! A caught error that is kept behind its clause: `except X as n: kept = n`. -/
namespace Ow
open PySem PySem.Spec PyProof.Rows L2
/-- an error that was raised and caught, of the class cls, its dict d -/
def exk (a : Addr) (cls : Value) (d : Option Addr) : HO := .ext fun h => ∃ (oe : Obj) (vs : Array Value), h.get? a = some oe ∧ Zc cls d oe ∧ oe.data = .fields vs
theorem exk_ok {P : Program} {w : World} {H : Hp} {h : Heap} {a : Addr} {cls : Value} {d : Option Addr} {oe : Obj} {vs : Array Value} (e : h.get? a = some oe) (z : Zc cls d oe) (hd : oe.data = .fields vs) : ObjOk P w H h a (exk a cls d) :=
  ⟨⟨oe, vs, e, z, hd⟩, ⟨oe, e⟩, fun _ _ ⟨o, v, q, r⟩ k => ⟨o, v, k o q, r⟩⟩
section
variable {X : Cx} {pins : List (Addr × Obj)} {σ : L2.St} {H : Hp} {s : Shared}
theorem exk_at {P : Program} {w : World} {h : Heap} {a : Addr} {cls : Value} {d : Option Addr} (x : HOk P w H h) (e : H a = some (exk a cls d)) : ∃ (oe : Obj) (vs : Array Value), h.get? a = some oe ∧ Zc cls d oe ∧ oe.data = .fields vs := (x a _ e).1
/-- the caught error, pinned so far, is tracked from now on -/
theorem Inv.track {a : Addr} {oe : Obj} {vs : Array Value} {cls : Value} {d : Option Addr} (I : Inv X ((a, oe) :: pins) σ H s) (z : Zc cls d oe) (hd : oe.data = .fields vs) (n0 : X.s_0.heap.get? a = none) (hp : ∀ p ∈ X.pn ++ pins, p.1 ≠ a) : Inv X pins σ (upd H a (exk a cls d)) s := by
  obtain ⟨hget, hn, hL, hF, _⟩ := I.pin (a, oe) (List.mem_append_right _ List.mem_cons_self)
  have ne0 : ∀ b o, X.s_0.heap.get? b = some o → b ≠ a := fun b o e y => by
    rw [y, n0] at e
    cases e
  refine ⟨I.ok, I.os, I.bare, ?_, I.loc, I.cell, ?_, ?_, ?_, I.hok.laidN (fun _ _ e => e) hn (exk_ok hget z hd), I.len⟩
  · have B := I.base
    exact { keep := B.keep, slot := B.slot
            free := fun b o e n x => by rw [upd_ne (ne0 b o e)]; exact B.free b o e n x
            there := B.there
            tups := fun b xs e => by rw [upd_ne (ne_of_none (B.tups b xs e) hn)]; exact B.tups b xs e
            frzs := fun b o u e => by rw [upd_ne (ne_of_none (B.frzs b o u e) hn)]; exact B.frzs b o u e
            tbls := fun b ps e => by
              obtain ⟨m, q⟩ := B.tbls b ps e
              exact ⟨m, by rw [upd_ne (ne_of_none q hn)]; exact q⟩ }
  · rw [upd_ne (Ne.symm hL)]
    exact I.free
  · intro x c e
    have nc : c ≠ a := fun y => by
      obtain ⟨v, o, ho, hv⟩ := I.cell x c e
      rw [y] at ho
      have e2 : oe = o := Option.some.inj (hget.symm.trans ho)
      rw [← e2, hd] at hv
      cases hv
    rw [upd_ne nc]
    exact I.freeC x c e
  · intro p hq
    have h1 := I.pin p (by
      rcases List.mem_append.mp hq with h | h
      · exact List.mem_append_left _ h
      · exact List.mem_append_right _ (List.mem_cons_of_mem _ h))
    refine ⟨h1.1, ?_, h1.2.2⟩
    rw [upd_ne (hp p hq)]
    exact h1.2.1
theorem Inv.unsuiteK {a : Addr} {q : Addr × Obj} (I : Inv (X.suite a (q :: (X.pn ++ pins))) [] σ H s) (ok : X.Ok) : Inv X (q :: pins) σ H s :=
  ⟨ok, I.os, I.bare, I.base, I.loc, I.cell, I.free, I.freeC, fun p hp => I.pin p (by
    refine List.mem_append_left _ ?_
    rcases List.mem_append.mp hp with h | h
    · exact List.mem_cons_of_mem _ (List.mem_append_left _ h)
    · rcases List.mem_cons.mp h with h | h
      · rw [h]; exact List.mem_cons_self
      · exact List.mem_cons_of_mem _ (List.mem_append_right _ h)), I.hok, I.len⟩
end
/-- a suite that names what was caught, at its end: the slot i is empty, the error is tracked -/
def asTSk (i : Nat) (ts : Addr → Value → Option Addr → TS) : Addr → Value → Option Addr → TS := fun a cls d D σ H =>
  ts a cls d { nx := fun σ' H' => D.nx (σ'.set i none) (upd H' a (exk a cls d)), rt := fun _ _ => False, bk := fun _ _ => False, ct := fun _ _ => False } (σ.set i (some (.ref a))) H
set_option maxHeartbeats 4000000
theorem ps_try_keep {X : Cx} {body : List Stmt} {x n : Str} {i : Nat} {c : Value} {ts : Addr → Value → Option Addr → TS} {b₀ : Stmt} {suite : List Stmt} {np pos' pos : Pos} {tb : WX → TS} {Wout : WX} (hs : X.stack = X.env :: X.outer) (hf : X.env.frame = some X.env.locals) (hN : X.N.Nodup) (tk : Takes X Wout)
    (hb : ∀ (W : WX) (pn : List (Addr × Obj)) (xe : Value → Shared → Prop), Takes (X.tr pn xe) W → PassesOwn (model X.prog X.w) X.A X.env xe → PSs (X.tr pn xe) body (tb W))
    (hi : X.N[i]? = some n) (hln : X.env.kindOf n = some .local) (hc : Names X x c) (hx0 : X.ex = [])
    (hsu : ∀ (a : Addr) (oe : Obj) (cls : Value) (d : Option Addr) (pn : List (Addr × Obj)), Zc cls d oe → (∃ vs, oe.data = .fields vs) → PSs (X.suite a ((a, oe) :: pn)) (b₀ :: suite) (ts a cls d)) :
    PS X (.Try body [.ExceptHandler (some (.Name x np)) (some n) (b₀ :: suite) pos'] [] [] pos) (fun D σ H => tb (wMany X.K Wout D [(c, asTSk i ts)]) D σ H) := by
  refine ⟨fun pins s σ H D I h => ?_⟩
  have ok := I.ok
  have hfr : X.A.frames = some (X.env :: X.outer) := by rw [ok.frames, hs]
  refine wpAny_Try_except (wpAny_mono ((hb (wMany X.K Wout D [(c, asTSk i ts)]) (X.pn ++ pins) (fun e s₁ => wpAny (model X.prog X.w) X.A (noteFrame e X.env) (fun _ s₂ => wpAny (model X.prog X.w) X.A (setFlight e none) (fun _ s₃ => wpAny (model X.prog X.w) X.A (handleBy e X.env [.ExceptHandler (some (.Name x np)) (some n) (b₀ :: suite) pos']) (SP X pins D) X.xe s₃) X.xe s₂) X.xe s₁) ?_ PassesOwn.looking).run [] s σ H D (Inv.toTry I _) h) (fun f s1 hsp => ?_) fun e s1 he => he)
  · intro u s' xx
    obtain ⟨a, B, sI, pins', σ', H', cls, d, rfl, J', nb, up, sky, na, os, ag, w⟩ := xx
    have J := Inv.ofTry J' ok
    have Ba : B.get? a = none := by
      rcases sky with y | y | y
      · exact y.2.1
      · exact y.2.1
      · exact y.2.1
    have sky' : Sky B (X.env :: X.outer) a (Zc cls d) X.env.locals s'.heap := by rw [← hs]; exact sky
    refine Sky.land Zc.steady hfr hf sky' fun h3 fl3 up3 => ?_
    have J3 := Inv.landed (s' := { heap := h3, gens := s'.gens, drawn := s'.drawn, toks := s'.toks, os := s'.os }) J nb fl3.left (Heap.UpToSlots.trans up up3) os ag
    obtain ⟨oe3, vs3, he3, hz3, hd3⟩ := HandSPX.FlyingZ.there fl3
    have nfr : ¬ a ∈ List.filterMap (fun x : Env => x.frame) (X.env :: X.outer) := fun hm => by
      obtain ⟨_, o', e', hnf⟩ := Heap.FunFrames.mem fl3.right.right.left hm
      have e2 := e'.symm.trans he3
      cases e2
      exact hnf _ hd3
    have nL : a ≠ X.env.locals := fun z => nfr (List.mem_filterMap.mpr ⟨X.env, List.mem_cons_self .., by rw [hf, z]⟩)
    have nF : ¬ a ∈ X.fs := fun hm => by
      obtain ⟨e, he, q⟩ := List.mem_filterMap.mp hm
      exact nfr (List.mem_filterMap.mpr ⟨e, List.mem_cons_of_mem _ he, q⟩)
    have aI : sI.heap.get? a = none := by
      cases e : sI.heap.get? a with
      | none => rfl
      | some o =>
        have := nb a o e (by rw [hs]; exact nfr)
        rw [Ba] at this
        cases this
    have n0 : X.s_0.heap.get? a = none := by
      cases e : X.s_0.heap.get? a with
      | none => rfl
      | some o =>
        obtain ⟨o', e'⟩ := J.base.there a o e (by rw [hx0]; exact fun z => nomatch z)
        rw [aI] at e'
        cases e'
    have hpn : ∀ p ∈ X.pn ++ pins, p.1 ≠ a := fun p hp y => by
      have := (J.pin p hp).1
      rw [y, aI] at this
      cases this
    have S3 := Inv.suite J3 he3 hd3 na nL nF
    clear h hb
    have LT : W.Looks (model X.prog X.w) h3 (typeOf (Value.ref a)) cls := fun A Q E s k q => wpAny_typeOf_ref (k a oe3 he3) (by rw [hz3.left]; exact q)
    have test : ∀ {x : Str} {c : Value} {np : Pos} {Q : Value → Shared → Prop} {E : Value → Shared → Prop}, Names X x c → Q c { heap := h3, gens := s'.gens, drawn := s'.drawn, toks := s'.toks, os := s'.os } →
        wpAny (model X.prog X.w) (X.A.mark (some (.ref a))) (eval (.Name x np) X.env) Q E { heap := h3, gens := s'.gens, drawn := s'.drawn, toks := s'.toks, os := s'.os } := by
      intro x c np Q E hc q
      obtain ⟨hg, hdbg, hm | ⟨hm, hv, hnn⟩⟩ := hc
      · exact ld_glob (X := X.suite a _) S3 hg hm q hdbg
      · exact ld_blt (X := X.suite a _) S3 hg hm hv q hnn hdbg
    obtain ⟨b, hb1, hyes, hno⟩ := w
    refine wpAny_handleBy_cons (codeAny_handlers_test (test hc (W.Looks.here (W.exm_one (Inv.kIn J3) LT hb1) ?_))) (fun q => by cases q)
    cases b with
    | false =>
      have w := hno rfl
      refine wpAny_handleBy_nil ?_
      have fl := fl3
      obtain ⟨k1, k2, k3, oe, vs, T, oT, ts', he, hz, hd, h1, hr⟩ := fl3
      unfold PySem.passOn
      refine wpAny_bind (wpAny_field he hd h1 ?_)
      rw [if_neg (by simp)]
      refine wpAny_bind ?_
      rw [hf]
      exact HandSPX.setFlight_upZ fl fun h4 hh4 up4 => wpAny_throw (tk _ _ ⟨a, B, sI, pins, σ', H', cls, d, rfl, J, nb, (up.trans up3).trans up4, .inr (.inr (by rw [hs]; exact hh4)), na, os, ag, w⟩)
    | true =>
      refine codeAny_handlers_suite_as (HandSPX.lands_againZ fl3 fun h4 fl4 up4 => ?_)
      have J4 := Inv.landed (s' := { heap := h4, gens := s'.gens, drawn := s'.drawn, toks := s'.toks, os := s'.os }) J nb fl4.left (Heap.UpToSlots.trans (Heap.UpToSlots.trans up up3) up4) os ag
      obtain ⟨oe4, vs4, he4, hz4, hd4⟩ := HandSPX.FlyingZ.there fl4
      have S4 := Inv.suite J4 he4 hd4 na nL nF
      refine store_ok (X := X.suite a ((a, oe4) :: (X.pn ++ pins))) (v := .ref a) S4 hN hi (Or.inl hln) rfl (fun s5 S5 => ?_) (Or.inr hln)
      refine wpAny_mono ((hsu a oe4 cls d (X.pn ++ pins) hz4 ⟨vs4, hd4⟩).run [] s5 _ H' _ S5 (hyes rfl a na)) (fun f s6 hsp => ?_) fun _ _ z => False.elim z
      cases f with
      | next =>
        obtain ⟨σ6, H6, S6, q6⟩ := hsp
        exact gone_ok (Inv.unsuiteK S6 ok) hN hi hln fun s7 J7 => ⟨_, _, Inv.track J7 hz4 hd4 n0 hpn, q6⟩
      | brk => obtain ⟨σ6, H6, S6, q6⟩ := hsp; exact q6.elim
      | cont => obtain ⟨σ6, H6, S6, q6⟩ := hsp; exact q6.elim
      | ret u => obtain ⟨v6, σ6, H6, S6, r6, q6⟩ := hsp; exact q6.elim
  · cases f with
    | next => obtain ⟨σ', H', J', q⟩ := hsp; exact wpAny_execs_nil ⟨σ', H', Inv.ofTry J' ok, q⟩
    | brk => obtain ⟨σ', H', J', q⟩ := hsp; exact ⟨σ', H', Inv.ofTry J' ok, q⟩
    | cont => obtain ⟨σ', H', J', q⟩ := hsp; exact ⟨σ', H', Inv.ofTry J' ok, q⟩
    | ret u => obtain ⟨v, σ', H', J', r, q⟩ := hsp; exact ⟨v, σ', H', Inv.ofTry J' ok, r, q⟩
end Ow
end
section
set_option maxHeartbeats 2000000
/-! isinstance of a kept error or of anything else; a kept error's fields. -/
namespace Ow
open PySem PySem.Spec PyProof.Rows L2 StX
/-- x is a kept error of the class t -/
def KeptTy (K : PySem.W.Frag) (H : Hp) (x : V) (t : Value) : Prop := ∃ (a D : Addr) (d : Option Addr), x = .ref a ∧ t = .ref D ∧ H a = some (exk a (.ref D) d) ∧ (∀ dd, d = some dd → ∃ fs, H dd = some (.xd fs)) ∧ ExcC K D ∧ (PySem.W.clsIn K D).isSome = true
def rIsKp (K : PySem.W.Frag) : List V → Hp → VK → Prop := fun xs H Q => ∃ (x c : V) (t u : Value) (b : Bool), xs = [x, c] ∧ ClsV c u ∧ (TyX K H x t ∨ KeptTy K H x t) ∧ PySem.W.kitOne K t u = some b ∧ Q (.bl b) H
section
variable {X : Cx}
theorem call_isKp : CallR X (.builtin "isinstance") (rIsKp X.K) := by
  intro pins s σ H xs us Q I r h
  obtain ⟨x, c, t, u, b, rfl, k, ty | ty, e, q⟩ := h
  · exact call_isi pins s σ H _ us Q I r ⟨x, c, t, u, b, rfl, k, ty, e, q⟩
  obtain ⟨a, D, d, rfl, rfl, ea, ed, C, hci⟩ := ty
  cases r with
  | cons rx r2 =>
    cases r2 with
    | cons rc r3 =>
      cases r3
      cases rx
      cases k.eq rc
      obtain ⟨oe, vs, hget, hz, hv⟩ := exk_at I.hok ea
      obtain ⟨z1, z2⟩ := hz
      obtain ⟨od, J⟩ : ∃ od, PySem.W.InstAt s.heap a oe D od := by
        cases d with
        | none => exact ⟨none, hget, z1, by unfold PySem.W.notCls; rw [hv], by rw [z2]; exact True.intro⟩
        | some dd =>
          obtain ⟨fs, hdd⟩ := ed dd rfl
          obtain ⟨mA, ⟨o, _, _, e0, _⟩, _⟩ := (show ObjOk X.prog X.w H s.heap dd (.xd fs) from I.hok dd _ hdd)
          exact ⟨some o, hget, z1, by unfold PySem.W.notCls; rw [hv], by rw [z2]; exact e0⟩
      refine PySem.W.kia_one (PySem.W.kitx_exc (x := a) (ox := oe) (od := od) hci C.hg C.hk C.hs C.ha C.hn C.ht C.hm) I.kIn J e (fun z => by cases z) fun tk => ?_
      exact ⟨.bl b, H, I.kept fun _ _ e => e, rfl, q⟩
/-- o.f, o a kept error -/
def tXk (K : PySem.W.Frag) (n : Str) (te : TE) : TE := fun σ H Q => te σ H fun y H1 => ∃ (a C dd : Addr) (fs : List (Str × V)) (v : V), y = .ref a ∧ XfC K C ∧ PySem.W.findIn K (.ref C) n = some none ∧ H1 a = some (exk a (.ref C) (some dd)) ∧ H1 dd = some (.xd fs) ∧ fs.lookup n = some v ∧ Q v H1
theorem pe_xk {e : Expr} {te : TE} {n : Str} {pos : Pos} (he : PE X e te) (hb : attributeBase e n X.env (eval e X.env) = eval e X.env := by rfl) : PE X (.Attribute e n pos) (tXk X.K n te) := by
  refine ⟨fun pins s σ H Q I h => ?_⟩
  refine attr_of hb (thn (he.run pins s σ H _ I h) fun u s1 hh => ?_)
  obtain ⟨y, H1, I1, ry, a, C, dd, fs, v, ey, T, hno, ea, ed, l, q⟩ := hh
  subst ey
  obtain rfl : u = Value.ref a := ry
  obtain ⟨oe, vs, ha, hz, hv⟩ := exk_at I1.hok ea
  obtain ⟨mA, hns, hr⟩ := (show ObjOk X.prog X.w H1 s1.heap dd (.xd fs) from I1.hok dd _ ed)
  obtain ⟨od, ho, hl⟩ := lookIn_ns hns
  obtain ⟨u, hu, ru⟩ := RelO.some_of (v := v) (o := mA n) (by rw [← l]; exact hr n)
  have J : PySem.W.InstAt s1.heap a oe C (some od) := ⟨ha, hz.1, by unfold PySem.W.notCls; rw [hv] <;> rfl, by rw [hz.2]; exact ho⟩
  exact HandSPX.exc_get I1.kIn J T.ga T.gg T.exC (PySem.W.findObj_own T.hdC hno rfl (by rw [hl, hu])) (handed_of ru) ⟨v, H1, I1.tok _, ru, q⟩
end
end Ow
end
section
set_option maxHeartbeats 2000000
/-! bool(o), o an instance with its own __bool__. -/
namespace PySem
namespace OwB
section
variable {prog : Program} {w : World} {A : Around} {E : Value → Shared → Prop} {s : Shared}
theorem meets_boolIn (x : Value) : MeetsIn prog w (Builtin.«bool.__new__» ⟨[.type "bool", x], []⟩) (fun A R s => wpAny (model prog w) A.in1 (truthy x) (fun b s' => R (.ok (.ret (.bool b))) s') (fun e s' => R (.error e) s') s) :=
  .of_wp fun A R s h => by
    have f1 := F.conv_sub_bool
    obtain ⟨hp, g, d, tk, os⟩ := s
    repeat (any_goals (first | with_reducible exact (wpAny_mono h (fun b s' z => ⟨_, rfl, z⟩) fun _ _ z => z) | with_reducible refine wpAny_bind (wpAny_mono h (fun b s' z => ?_) fun _ _ z => z) | assumption | wp_step))
    all_goals first | exact ⟨_, rfl, z⟩ | exact ⟨_, rfl, by assumption⟩ | skip
theorem call_boolIn {x : Value} {Q : Value → Shared → Prop} (h : wpAny (model prog w) A.in1.in1 (truthy x) (fun b s' => Q (.bool b) s') E s) : wpAny (model prog w) A (call (.type "bool") [x]) Q E s :=
  callType_newIn F.called_bool F.newNe_bool (F.typeCall_bool_1 x) (F.newCall_bool_1 x) (fun obj => F.args_object_init_2 obj x) F.entry_bool_new (meets_boolIn x)
    (wpAny_mono h (fun b s' z => ⟨rfl, z⟩) fun e s' z => z)
theorem truthy_own {M : Model} {K : PySem.W.Frag} {x C f : Addr} {ox : Obj} {od : Option Obj} {Q : Bool → Shared → Prop} (X : K.In s.heap) (I : PySem.W.InstAt s.heap x ox C od) (hs : PySem.W.findIn K (.ref C) "__bool__" = some (some (.ref f))) (hf : PySem.W.isFn K (.ref f) = true)
    (h : wpAny M A (call (.ref f) [.ref x]) (fun v s' => ∃ b, v = .bool b ∧ Q b s') E s) : wpAny M A (truthy (.ref x)) Q E s := by
  unfold truthy
  refine wpAny_bind (PySem.W.special_fn (name := Str.ofString "__bool__") X I hs (beq_iff_eq.mp hf) (wpAny_mono h (fun v s' z => ?_) fun _ _ z => z))
  obtain ⟨b, rfl, q⟩ := z
  exact wpAny_pure q
end
end OwB
end PySem
namespace Ow
open PySem PySem.Spec PyProof.Rows L2 StX
section
variable {X : Cx} {CX : CXT} {n : Nat} {C g : Addr} {sp : Sp} {E : XK}
/-- bool(o), o an instance of C that has a __bool__ -/
def rBoolO (C : Addr) (sp : Sp) (E : XK) : List V → Hp → VK → Prop := fun xs H Q => ∃ a, xs = [.ref a] ∧ InsAt H a C ∧ sp [.ref a] H (fun v H' => ∃ b, v = .bl b ∧ Q (.bl b) H') E
theorem call_boolO (hs : PySem.W.findIn X.K (.ref C) "__bool__" = some (some (.ref g))) (hf : PySem.W.isFn X.K (.ref g) = true)
    (F : FnR X.prog X.w X.K X.mg X.base CX n g sp) (hr : Room (n + 2) X.A) (hx : Passes CX X E) : CallR X (.type "bool") (rBoolO C sp E) := by
  intro pins s σ H xs us Q I r h
  obtain ⟨a, rfl, ha, q⟩ := h
  obtain ⟨u, rfl, ru⟩ := vals1 r
  cases (show u = Value.ref a from ru)
  obtain ⟨ox, od, J⟩ := inst_of I ha
  obtain ⟨m, hF⟩ := I.fr
  refine PySem.OwB.call_boolIn (PySem.OwB.truthy_own (I.ok.mod.kin.keeps hF.keep) J hs hf ?_)
  refine wpAny_mono (wpAny_call (run_fnRS (us := [.ref a]) (vs := [.ref a]) F hr.in1.in1 rfl hx I (.cons rfl .nil) q)) (fun w s' z => ?_) fun _ _ x => x
  obtain ⟨z', H', I', rz, b, rfl, qz⟩ := z
  cases rz
  exact ⟨b, rfl, .bl b, H', I', rfl, qz⟩
end
end Ow
end
section
set_option maxHeartbeats 4000000
namespace Ow
open PySem PySem.Spec PyProof.Rows L2 PySem.W

section
variable {prog : Program} {w : World} {M : Model} {A : Around} {E : Value → Shared → Prop} {s : Shared} {K : Frag} {x C L f : Addr} {h₀ : Heap} {m : Str → Option Value} {ox : Obj} {od : Option Obj} {nm : String}

theorem mul_ref_at {i : Int} {t : Tok} {x C dx : Addr} : GivesAt (fun s => s.heap.get? x = some (instObj C dx)) (Builtin.«int.__mul__» ⟨[.int i t, .ref x], []⟩) (.val Value.notImplemented) := by
  intro prog w A R s hx h
  obtain ⟨hp, g, d, tk, os⟩ := s
  have hl : ∀ {M : Model} {A : Around} {E : Value → Shared → Prop} {Q : Option Int → Shared → Prop}, Q none ⟨hp, g, d, tk, os⟩ → wpAny M A (asInt? (.ref x)) Q E ⟨hp, g, d, tk, os⟩ := by
    intro M A E Q q
    unfold asInt?
    exact wpAny_bind (wpAny_load hx (wpAny_pure q))
  unfold Builtin.«int.__mul__»
  wp_walk using hl
  exact h
theorem int_mul_ref {i : Int} {t : Tok} {x C dx : Addr} {s : Shared} {Q : Value → Shared → Prop} (hx : s.heap.get? x = some (instObj C dx)) (h : Q .notImplemented s) :
    wpAny (model prog w) A (call (.builtin "int.__mul__") [.int i t, .ref x]) Q E s :=
  call_givesAt F.slot_int_mul (typeIs_int s i t) F.entry_int_mul (F.args_int_mul_2 _ _) mul_ref_at hx h
theorem int_mul_own {i : Int} {t : Tok} {x C dx f fa : Addr} {cd : ClassData} {rest : List Value} {Q : Value → Shared → Prop} (X : K.In s.heap) (hx : s.heap.get? x = some (instObj C dx)) (I : InstAt s.heap x ox C od) (hcd : clsIn K C = some cd) (hm : cd.mro = .ref C :: rest)
    (ha : findIn K (.ref C) (PySem.dunder "mul") = some (some (.ref fa))) (hs : findIn K (.ref C) (dunderR "mul") = some (some (.ref f))) (hf : isFn K (.ref f) = true) (hsub : subIn K (.ref C) (.type "int") = some false)
    (h : wpAny (model prog w) A (call (.ref f) [.ref x, .int i t]) (PySem.W.CmpBack Q) E s) : wpAny (model prog w) A (binaryOp .Mult (.int i t) (.ref x)) Q E s := by
  have one := ksp_try X I hs hf h
  have two : ∀ {Q' : Option Value → Shared → Prop}, Q' none s → wpAny (model prog w) A (tryMethod (.int i t) (PySem.dunder "mul") (.ref x)) Q' E s := by
    intro Q' q
    unfold tryMethod
    exact wpAny_bind (wpAny_callSpecial?_slot (typeIs_int s i t) F.slot_int_mul (int_mul_ref hx (wpAny_pure q)))
  obtain ⟨hh, g, d, tt, os⟩ := s
  have L1 : Looks (model prog w) hh (typeOf (.int i t)) (.type "int") := Looks.of_pure rfl
  have L2 : Looks (model prog w) hh (typeOf (.ref x)) (.ref C) := I.type
  have L3 : Looks (model prog w) hh (fillsNumberSlot (.type "int") "mul") true := Looks.of_pure F.fills_int_mul
  have L4 : Looks (model prog w) hh (fillsNumberSlot (.ref C) "mul") true := fills_K X hcd hm ha
  have L5 : Looks (model prog w) hh (isSubtype (.ref C) (.type "int")) false := looks_subIn X hsub
  have L7 : Looks (model prog w) hh (numberSlotInPython (.type "int") "mul") false := Looks.of_pure rfl
  have hne : (Value.type "int" == Value.ref C) = false := Bool.eq_false_iff.mpr fun q => by cases beq_iff_eq.mp q
  show wpAny (model prog w) A (binaryOp .Mult (.int i t) (.ref x)) Q E _
  have hi : Operator.info .Mult = ("*", "mul") := rfl
  simp only [binaryOp, hi]
  refine wpAny_holding (wpAny_bind ?_)
  unfold binaryOp1
  refine wpAny_bind (L1.at (wpAny_bind (L2.at (wpAny_bind (L3.at ?_)))))
  simp only [hne, Bool.false_eq_true, if_false]
  ksp_lk
  refine two ?_
  ksp_lk
  refine wpAny_mono one (fun r s' hr' => ?_) fun _ _ e => e
  obtain ⟨v, rfl, hq⟩ := hr'
  ksp_lk
  exact hq
end
end Ow
namespace Ow
open PySem PySem.Spec PyProof.Rows L2 StX
section
variable {X : Cx} {CX : CXT} {n : Nat} {C g fa : Addr} {sp : Sp} {E : XK}
theorem op_rmul (hc : PySem.W.selfFirst X.K C = true) (ha : PySem.W.findIn X.K (.ref C) (PySem.dunder "mul") = some (some (.ref fa))) (hs : PySem.W.findIn X.K (.ref C) (dunderR "mul") = some (some (.ref g))) (hf : PySem.W.isFn X.K (.ref g) = true)
    (hsub : PySem.W.subIn X.K (.ref C) (.type "int") = some false)
    (F : FnR X.prog X.w X.K X.mg X.base CX n g sp) (hr : Room n X.A) (hx : Passes CX X E) : OpR X (binaryOp .Mult) (rBinR C sp E) := by
  intro pins s σ H x y v u Q I rx ry h
  obtain ⟨a, i, rfl, rfl, hia, q⟩ := h
  obtain ⟨t, rfl⟩ := rx
  cases (show u = Value.ref a from ry)
  obtain ⟨dx, od, hx', J⟩ := inst_of2 I hia
  obtain ⟨cd, rest, hcd, hm⟩ := PySem.W.ksp_first hc
  refine int_mul_own I.kIn hx' J hcd hm ha hs hf hsub ?_
  refine wpAny_mono (wpAny_call (run_fnR (us := [.ref a, .int i t]) (vs := [.ref a, .int i]) F hr hx I (.cons rfl (.cons ⟨t, rfl⟩ .nil)) q)) (fun w s' z => ?_) fun _ _ x => x
  obtain ⟨z', H', I', rz, qz⟩ := z
  exact cmpbackR rz ⟨z', H', I', rz, qz⟩

end
end Ow
end
section
set_option maxHeartbeats 4000000
/-! zip of a list and a tuple. -/
namespace Ow
open PySem PySem.Spec PyProof.Rows L2
def ItLT (K : PySem.W.Frag) (a b : Addr) (xs ys : List V) : It := ⟨fun i H => i < min xs.length ys.length ∧ SqL K H a xs ∧ SqT K H b ys, fun i H v H' => ∃ (T : Addr) (x y : V), v = .ref T ∧ H T = none ∧ xs[i]? = some x ∧ ys[i]? = some y ∧ H' = upd H T (.tup [x, y]), fun i H => min xs.length ys.length ≤ i ∧ SqL K H a xs ∧ SqT K H b ys⟩
theorem turn_LT {P : Program} {w : World} {K : PySem.W.Frag} {elts : List Expr} {kk : Nat} {tpos : Pos} {z TI TO i1 i2 a b : Addr} {xs ys : List V} (sep : ZipSep2 z TI TO i1 i2 [i1, a] [i2, b]) (n1 : a ≠ i1) (n2 : b ≠ i2) :
    Turn P w K (.Tuple elts kk tpos) (ItLT K a b xs ys) [z, TI, TO, i1, i2] z (fun i h => i ≤ min xs.length ys.length ∧ IsZip h z TI TO .none ∧ IsTupOf2 h TI (.ref i1) (.ref i2) ∧ (∃ a1 a2, IsTupOf2 h TO a1 a2) ∧ h.IsListIter i1 a i ∧ h.IsTupleIter i2 b i) where
  mem := List.mem_cons_self
  obj := fun i h st c hc => by
    obtain ⟨_, g1, g2, ⟨a1, a2, g3⟩, g4, g5⟩ := st
    simp only [List.mem_cons, List.not_mem_nil, or_false] at hc
    rcases hc with rfl | rfl | rfl | rfl | rfl
    · exact ⟨_, g1, fun v z => by cases z⟩
    · exact ⟨_, g2, fun v z => by cases z⟩
    · exact ⟨_, g3, fun v z => by cases z⟩
    · obtain ⟨o, e1, _, e3⟩ := g4
      exact ⟨o, e1, fun v z => by rw [e3] at z; cases z⟩
    · obtain ⟨o, e1, _, e3⟩ := g5
      exact ⟨o, e1, fun v z => by rw [e3] at z; cases z⟩
  keep := fun i h h' st k => by
    obtain ⟨g0, g1, g2, ⟨a1, a2, g3⟩, g4, g5⟩ := st
    exact ⟨g0, k z (by simp) _ g1, k TI (by simp) _ g2, ⟨a1, a2, k TO (by simp) _ g3⟩, g4.at fun o q => k i1 (by simp) o q, g5.at fun o q => k i2 (by simp) o q⟩
  item := by
    intro X hP hw hK hc i pins s σ H E J hf st hg
    subst hP hw hK
    obtain ⟨hlt, hqx, hqy⟩ := hg
    obtain ⟨its, rv, p, _⟩ := J.list hqx
    obtain ⟨its2, rv2, p2, _⟩ := J.tuple hqy
    obtain ⟨g0, g1, g2, g3, g4, g5⟩ := st
    have l1 := rv.length
    have l2 := rv2.length
    have W1 := WalksT.zipD2 (prog := X.prog) (w := X.w) (A := X.A) sep (Draws.list (A := X.A.in1) (J.ok.hd hc) i1 a n1 its.toArray) (Draws.tuple (A := X.A.in1) (J.ok.hd hc) i2 b n2 its2.toArray)
    have hlive : ∀ c ∈ [z, TI, TO, i1, i2], c < s.heap.objs.size := fun c hcm => by
      simp only [List.mem_cons, List.not_mem_nil, or_false] at hcm
      obtain ⟨a1, a2, g3⟩ := g3
      rcases hcm with rfl | rfl | rfl | rfl | rfl
      · exact Heap.lt_size g1
      · exact Heap.lt_size g2
      · exact Heap.lt_size g3
      · obtain ⟨o, e1, _⟩ := g4; exact Heap.lt_size e1
      · obtain ⟨o, e1, _⟩ := g5; exact Heap.lt_size e1
    refine W1.item i s _ E (by simp only [List.size_toArray]; omega) ⟨g1, g2, g3, ⟨g4, p.isList⟩, ⟨g5, p2⟩⟩ fun T vals h' tk hp hT ht mid kk1 => ?_
    refine ⟨.ref T, rfl, W1.go elts kk tpos i T _ _ E mid fun h'' st'' kk2 => ?_⟩
    have nw : ∀ c, c ∉ [z, TI, TO, i1, i2] → c ∉ [z, TO, i1, i2] := fun c hn hm => hn (by simp only [List.mem_cons, List.not_mem_nil, or_false] at hm ⊢; rcases hm with h | h | h | h <;> simp [h])
    obtain ⟨u, u2, hu, hu2, rfl⟩ := hp
    obtain ⟨x, hx⟩ : ∃ x, xs[i]? = some x := ⟨_, List.getElem?_eq_getElem (by omega)⟩
    obtain ⟨y, hy⟩ : ∃ y, ys[i]? = some y := ⟨_, List.getElem?_eq_getElem (by omega)⟩
    obtain ⟨u', hu', ru⟩ := rv.get hx
    obtain ⟨u2', hu2', ru2⟩ := rv2.get hy
    have e1 : u' = u := Option.some.inj (hu'.symm.trans (by simpa using hu))
    have e2 : u2' = u2 := Option.some.inj (hu2'.symm.trans (by simpa using hu2))
    subst e1
    subst e2
    obtain ⟨oT, q1, q2, q3, q4⟩ := ht
    have ht2 : h''.get? T = some oT := kk2 T oT (W1.apart i T _ mid) q1
    have new : ObjOk X.prog X.w (upd H T (.tup [x, y])) h'' T (.tup [x, y]) := ⟨by show 2 ≤ sizeLine; decide, [u', u2'], .cons ru (.cons ru2 .nil), ⟨oT, ht2, q2, q3, by simpa using q4⟩⟩
    have J1 : Inv X pins σ (upd H T (.tup [x, y])) { s with heap := h'', toks := tk } :=
      J.turnedNew (ch := [z, TI, TO, i1, i2]) (fun c o hb q => kk2 c o (nw c hb) (kk1 c o (nw c hb) q)) hf hT new
    obtain ⟨f1, f2, f3, f4, f5⟩ := st''
    exact ⟨.ref T, _, J1, rfl, ⟨T, x, y, rfl, J.hok.fresh hT, hx, hy, rfl⟩, ⟨hlt, f1, f2, f3, f4.1, f5.1⟩, fun c hb => by
      rw [upd_ne (Nat.ne_of_lt (Nat.lt_of_lt_of_le (hlive c hb) hT))]
      exact (hf c hb).1⟩
  done := by
    intro X hP hw hK hc i pins s σ H E J hf st hg
    subst hP hw hK
    obtain ⟨hle, hqx, hqy⟩ := hg
    obtain ⟨its, rv, p, _⟩ := J.list hqx
    obtain ⟨its2, rv2, p2, _⟩ := J.tuple hqy
    obtain ⟨g0, g1, g2, g3, g4, g5⟩ := st
    have l1 := rv.length
    have l2 := rv2.length
    have W1 := WalksT.zipD2 (prog := X.prog) (w := X.w) (A := X.A) sep (Draws.list (A := X.A.in1) (J.ok.hd hc) i1 a n1 its.toArray) (Draws.tuple (A := X.A.in1) (J.ok.hd hc) i2 b n2 its2.toArray)
    have ei : i = min its.toArray.size its2.toArray.size := by simp only [List.size_toArray]; omega
    have nw : ∀ c, c ∉ [z, TI, TO, i1, i2] → c ∉ [z, TO, i1, i2] := fun c hn hm => hn (by simp only [List.mem_cons, List.not_mem_nil, or_false] at hm ⊢; rcases hm with h | h | h | h <;> simp [h])
    refine W1.done s _ E (by rw [← ei]; exact ⟨g1, g2, g3, ⟨g4, p.isList⟩, ⟨g5, p2⟩⟩) fun h' tk kk => ⟨rfl, J.turnedL (ch := [z, TI, TO, i1, i2]) (fun c o hb q => kk c o (nw c hb) q) hf⟩
  self := fun A i s Q E st h => wpAny_pyIter_zip st.2.1 h
theorem sepLT {n a b : Nat} (la : a < n) (lb : b < n) : ZipSep2 (n + 4) (n + 2) (n + 3) n (n + 1) [n, a] [n + 1, b] where
  TIz := show n + 2 ≠ n + 4 by omega
  TOz := show n + 3 ≠ n + 4 by omega
  TITO := show n + 2 ≠ n + 3 by omega
  TIi1 := show n + 2 ≠ n by omega
  mem1 := List.mem_cons_self
  zf1 := fun h => by
    rcases List.mem_cons.mp h with e | e
    · exact absurd (show n + 4 = n from e) (by omega)
    · exact absurd (show n + 4 = a from List.mem_singleton.mp e) (by omega)
  Tf1 := fun h => by
    rcases List.mem_cons.mp h with e | e
    · exact absurd (show n + 3 = n from e) (by omega)
    · exact absurd (show n + 3 = a from List.mem_singleton.mp e) (by omega)
  TIi2 := show n + 2 ≠ n + 1 by omega
  mem2 := List.mem_cons_self
  zf2 := fun h => by
    rcases List.mem_cons.mp h with e | e
    · exact absurd (show n + 4 = n + 1 from e) (by omega)
    · exact absurd (show n + 4 = b from List.mem_singleton.mp e) (by omega)
  Tf2 := fun h => by
    rcases List.mem_cons.mp h with e | e
    · exact absurd (show n + 3 = n + 1 from e) (by omega)
    · exact absurd (show n + 3 = b from List.mem_singleton.mp e) (by omega)
  sep1_2 := fun h => by
    rcases List.mem_cons.mp h with e | e
    · exact absurd (show n = n + 1 from e) (by omega)
    · exact absurd (show n = b from List.mem_singleton.mp e) (by omega)
  sep2_1 := fun h => by
    rcases List.mem_cons.mp h with e | e
    · exact absurd (show n + 1 = n from e) (by omega)
    · exact absurd (show n + 1 = a from List.mem_singleton.mp e) (by omega)
def iZipLT (K : PySem.W.Frag) (ta : TA) : TI := fun σ H R => ta σ H fun vs H1 => ∃ (a b : Addr) (xs ys : List V), vs = [.ref a, .ref b] ∧ SqL K H1 a xs ∧ SqT K H1 b ys ∧ R (ItLT K a b xs ys) H1
theorem pi_zipLT {X : Cx} {e e2 : Expr} {ta : TA} {p pos tpos : Pos} {elts : List Expr} {kk : Nat} (hg : Gl X "zip") (hm : X.mg "zip" = none) (ha : PA X [e, e2] ta) (hs : starEach [e, e2] X.env = [(false, eval e X.env), (false, eval e2 X.env)] := by rfl)
    (hs2 : starEach [e2] X.env = [(false, eval e2 X.env)] := by rfl) :
    PI X (.Tuple elts kk tpos) (.Call (.Name "zip" p) [e, e2] [] pos) (iZipLT X.K ta) := by
  refine ⟨fun pins s σ H R I h => ?_⟩
  refine Call_ (ld_blt I hg hm boot_zip (PyProof.Rows.callWith_type1 (thn (ha.run pos pins s σ H _ I h) fun us s1 ⟨vs, H1, I1, r1, a, b, xs, ys, ex, hqx, hqy, q⟩ => ?_) (by rw [hs, hs2]) (by rw [hs2]; rfl)))
  subst ex
  obtain ⟨u, u2, rfl, ra, rb⟩ := vals2 r1
  cases ra
  cases rb
  obtain ⟨its, rv, p1, _⟩ := I1.list hqx
  obtain ⟨its2, rv2, p2, _⟩ := I1.tuple hqy
  have la : @LT.lt Nat _ a s1.heap.objs.size := by obtain ⟨o, e, _⟩ := p1.isList; exact Heap.lt_size e
  have lb : @LT.lt Nat _ b s1.heap.objs.size := by obtain ⟨o, e, _⟩ := id p2; exact Heap.lt_size e
  refine zip_begins2 (begins_list a its.toArray) (begins_tuple b its2.toArray) p1.isList p2 fun h' hz hTI hTO h1 h2 hsz hk => wpAny_pyIter_zip hz ?_
  have sep := sepLT la lb
  have fp : ∀ c ∈ [s1.heap.objs.size + 4, s1.heap.objs.size + 2, s1.heap.objs.size + 3, s1.heap.objs.size, s1.heap.objs.size + 1], FpOk X pins H1 c := fun c hb => by
    have hle : s1.heap.objs.size ≤ c := by
      simp only [List.mem_cons, List.not_mem_nil, or_false] at hb
      omega
    exact I1.fpOk hle (I1.hok.fresh hle)
  exact ⟨s1.heap.objs.size + 4, _, _, _, H1, rfl, I1.kept (t' := s1.toks) hk, turn_LT sep (Nat.ne_of_lt la) (Nat.ne_of_lt (Nat.lt_succ_of_lt lb)), ⟨Nat.zero_le _, hz, hTI, ⟨_, _, hTO⟩, ⟨_, h1, rfl, rfl⟩, ⟨_, h2, rfl, rfl⟩⟩, fp, q⟩
theorem walk_LT {K : PySem.W.Frag} {a b : Addr} {xs ys : List V} : Walk (ItLT K a b xs ys) (min xs.length ys.length) (fun H => SqL K H a xs ∧ SqT K H b ys) (fun i H v H' => ∃ (T : Addr) (x y : V), v = .ref T ∧ H T = none ∧ xs[i]? = some x ∧ ys[i]? = some y ∧ H' = upd H T (.tup [x, y])) :=
  ⟨fun i _ hi g => ⟨hi, g⟩, fun _ g => ⟨Nat.le_refl _, g⟩, fun i H v H' _ _ y => y⟩
end Ow
end
section
set_option maxHeartbeats 4000000
/-! powers of ten, kept opaque. -/
namespace Ow
open PySem PySem.Spec PyProof.Rows L2
@[irreducible] def powC (k : Nat) : Int := 10 ^ k
theorem powC_lt {k : Nat} (h : k ≤ 41) : 0 ≤ powC k ∧ powC k < 2 ^ 139 := by
  unfold powC
  constructor
  · exact Int.pow_nonneg (by decide)
  · have h1 : (10 : Nat) ^ k ≤ 10 ^ 41 := Nat.pow_le_pow_right (by decide) h
    have h2 : (10 : Nat) ^ 41 < 2 ^ 139 := by decide +kernel
    have h3 : (10 : Nat) ^ k < 2 ^ 139 := Nat.lt_of_le_of_lt h1 h2
    exact_mod_cast h3
def rPowC : R2 := fun x y H Q => x = .int 10 ∧ ∃ k : Nat, y = .int (k : Nat) ∧ k ≤ 100 ∧ Q (.int (powC k)) H
theorem op_powC {X : Cx} : OpR X (binaryOp .Pow) rPowC := by
  intro pins s σ H x y v u Q I rx ry h
  obtain ⟨rfl, k, rfl, hk, q⟩ := h
  refine op_pow pins s σ H _ _ v u Q I rx ry ⟨_, _, rfl, rfl, ⟨by omega, by omega, by decide⟩, ?_⟩
  show Q (.int ((10 : Int) ^ ((k : Int).toNat))) H
  rw [Int.toNat_natCast]
  unfold powC at q
  exact q
def rPowK (k : Nat) : R2 := fun x y H Q => x = .int 10 ∧ y = .int (k : Nat) ∧ k ≤ 100 ∧ Q (.int (powC k)) H
theorem op_powK {X : Cx} (k : Nat) : OpR X (binaryOp .Pow) (rPowK k) := by
  intro pins s σ H x y v u Q I rx ry h
  obtain ⟨rfl, rfl, hk, q⟩ := h
  exact op_powC pins s σ H _ _ v u Q I rx ry ⟨rfl, k, rfl, hk, q⟩
section
variable {X : Cx} {CX : CXT} {n : Nat} {sp : Sp} {E : XK} {C g : Addr}
theorem op_cmpTK {K : PySem.W.Frag} {op : CmpOp} (hK : X.K = K) (hop : ∀ a b, compareOp op a b = richCompare op a b) (hs : PySem.W.findIn X.K (.ref C) (cmpInfo op).2.1 = some (some (.ref g))) (hf : PySem.W.isFn X.K (.ref g) = true)
    (F : FnR X.prog X.w X.K X.mg X.base CX n g sp) (hr : Room n X.A) (hx : Passes CX X E) : OpR X (compareOp op) (rBinT K C sp E) := by
  subst hK
  exact op_cmpT hop hs hf F hr hx
end
end Ow
end
section
set_option maxHeartbeats 4000000
/-! o.x(..): an own instance that lies in a field of another one, called. -/
namespace Ow
open PySem PySem.Spec PyProof.Rows L2 StX
section
variable {X : Cx} {CX : CXT} {k : Nat} {C g : Addr} {sp : Sp} {E : XK} {o e : Expr} {es : List Expr} {apos pos : Pos} {ta : TE} {t : TA} {m : Str}
def tFCall (K : PySem.W.Frag) (C : Addr) (m : Str) (sp : Sp) (E : XK) (ta : TE) (t : TA) : TE := fun σ H Q => ta σ H fun x H1 => ∃ (a C0 dx : Addr) (fs : List (Str × V)) (v : Addr), x = .ref a ∧ H1 a = some (.ins C0 dx fs) ∧ Cls K C0 ∧ NoAttr K C0 m ∧ fs.lookup m = some (.ref v) ∧ t σ H1 fun vs H2 => InsAt H2 v C ∧ sp (V.ref v :: vs) H2 Q E
theorem pe_fcall {pl : Sem Bool} (he : PE X o ta) (c : CallO X.K C g) (F : FnR X.prog X.w X.K X.mg X.base CX k g sp) (hr : Room k X.A) (hx : Passes CX X E) (ha : PA X (e :: es) t)
    (hst : starEach (e :: es) X.env = (false, eval e X.env) :: starEach es X.env := by rfl) (hpl : (backTo pos (starEach es X.env)).any (·.1) = false := by rfl)
    (ht : eval (.Call (.Attribute o m apos) (e :: es) [] pos) X.env = (do
      let ov ← eval o X.env
      standAt apos.atName
      let (f, first) ← holding [ov] (getMethod ov m pl)
      callWith pos f first (backTo pos (starEach (e :: es) X.env)) (backToKw pos (keywordEach [] X.env))) := by rfl) :
    PE X (.Call (.Attribute o m apos) (e :: es) [] pos) (tFCall X.K C m sp E ta t) := by
  refine ⟨fun pins s σ H Q I h => ?_⟩
  refine PySem.W.methodCall_KW (pl := pl) (thn (he.run pins s σ H _ I h) fun u s1 ⟨x, H1, I1, rx, a, C0, dx, fs, v, ex, ea, c0, n, l, q⟩ => ?_) ht
  subst ex
  obtain rfl : u = Value.ref a := rx
  obtain ⟨mA, O, r, _, _, _⟩ := ins_get I1.hok ea
  obtain ⟨od, J, hl⟩ := O.look
  refine PySem.W.method_usual (r := none) I1.kIn J (PySem.W.plainGet_of (c0.get m)).1 (PySem.W.plainGet_of (c0.get m)).2 n rfl ?_
  refine getattr_ok I1 ea c0 n l fun u' s2 I2 ru => ?_
  obtain rfl : u' = Value.ref v := ru
  refine callO_with (thn (ha.run pos pins s2 σ H1 _ I2 q) fun us s3 z => ?_) hst hpl
  obtain ⟨vs, H2, I3, r, ⟨dx, fs, hi⟩, q2⟩ := z
  have hc : InsC X H2 v C := .inr ⟨dx, fs, hi⟩
  obtain ⟨ox, od, J, hd⟩ := insC_at I3 hc
  exact ⟨⟨C, ox, od, J, hd⟩, run_callO c F hr hx I3 hc r q2⟩
end
end Ow
end
section
set_option maxHeartbeats 4000000
/-! == of two tuples whose items' own == may change the state. -/
namespace Ow
open PySem PySem.Spec PyProof.Rows L2 PySem.SeqAt
open PySem.AutoSeq1 (wpAny_loadPart')
/-- the items compared one pair behind the other, till one pair differs -/
def EqChain (prog : Program) (w : World) (A : Around) (E : Value → Shared → Prop) (R : Bool → Shared → Prop) : List (Value × Value) → Shared → Prop
  | [], s => R true s
  | p :: r, s => wpAny (model prog w) A.in1 (eqBool p.1 p.2) (fun v s' => if v = true then EqChain prog w A E R r s' else R false s') E s
section
variable {prog : Program} {w : World}
theorem tup_eqChain (la lb : Addr) (xs ys : Array Value) (m m2 : Nat) (da db : Option Addr) (ta tb : Array (Option Value)) :
    MeetsIn prog w (Builtin.«tuple.__eq__» ⟨[.ref la, .ref lb], []⟩) (fun A R s => s.heap.get? la = some ⟨.type "tuple", da, .seq xs m, ta⟩ ∧ s.heap.get? lb = some ⟨.type "tuple", db, .seq ys m2, tb⟩ ∧
      EqChain prog w A (fun er s' => R (.error er) s') (fun v s' => R (.ok (.ret (.bool (v && xs.size == ys.size)))) s') (xs.toList.zip ys.toList) s) :=
  .of_wp fun A R s h => by
    obtain ⟨hp, g, d, tk, os⟩ := s
    obtain ⟨ga, gb, hc⟩ := h
    have sub := AutoSeq1.sub_tuple_tuple
    wp_walk using wpAny_loadPart' ga, wpAny_loadPart' gb, wpAny_forIn_list _ (fun rest acc s' => acc.1 = none ∧ EqChain prog w A (fun er s' => R (.error er) s') (fun v s' => R (.ok (.ret (.bool (v && xs.size == ys.size)))) s') rest s') _
    case turn =>
      intro p rest acc s' hin
      obtain ⟨p1, p2⟩ := p
      obtain ⟨_, hch⟩ := hin
      refine wpAny_bind (wpAny_mono hch (fun v s2 hv => ?_) fun _ _ z => z)
      cases v with
      | true =>
        rw [if_pos rfl] at hv
        wp_walk
        exact ⟨rfl, hv⟩
      | false =>
        rw [if_neg (by decide)] at hv
        wp_walk
        exact ⟨_, rfl, by simpa using hv⟩
    case fin =>
      intro acc s' hin
      obtain ⟨a1, a2⟩ := acc
      obtain ⟨e1, hch⟩ := hin
      cases (show a1 = none from e1)
      wp_walk
      exact ⟨_, rfl, by simpa [Builtin.Tuple.tupleCompareSizes, EqChain] using hch⟩
    case h => exact ⟨rfl, hc⟩
theorem EqChain.mono {A : Around} {E E' : Value → Shared → Prop} {R R' : Bool → Shared → Prop} (he : ∀ er s', E er s' → E' er s') (hr : ∀ v s', R v s' → R' v s') : ∀ (ps : List (Value × Value)) (s : Shared), EqChain prog w A E R ps s → EqChain prog w A E' R' ps s
  | [], s, h => hr _ _ h
  | p :: r, s, h => wpAny_mono h (fun v s' q => by
      cases v with
      | true => rw [if_pos rfl] at q ⊢; exact EqChain.mono he hr r s' q
      | false => rw [if_neg (by decide)] at q ⊢; exact hr _ _ q) fun er s' q => he er s' q
theorem rc_tupChain {A : Around} {s : Shared} {E : Value → Shared → Prop} {Q : Value → Shared → Prop} {la lb : Addr} {xs ys : Array Value} (ga : s.heap.IsTuple la xs) (gb : s.heap.IsTuple lb ys) (hu : A.units < cLine)
    (h : EqChain prog w A E (fun v s' => Q (.bool (v && xs.size == ys.size)) s') (xs.toList.zip ys.toList) s) : wpAny (model prog w) A (richCompare .Eq (.ref la) (.ref lb)) Q E s := by
  obtain ⟨oa, h1, h2, m, h3⟩ := ga
  obtain ⟨ob, k1, k2, m2, k3⟩ := gb
  obtain ⟨ca, da, ea, ta⟩ := oa
  obtain ⟨cb, db, eb, tb⟩ := ob
  cases (show ca = _ from h2)
  cases (show cb = _ from k2)
  cases (show ea = _ from h3)
  cases (show eb = _ from k3)
  refine wpAny_richCompare_same_room (T := "tuple") (op := .Eq) ⟨_, h1, rfl⟩ ⟨_, k1, rfl⟩ F.slot_tuple_eq (call_meetsIn F.slot_tuple_eq ⟨_, h1, rfl⟩ F.entry_tuple_eq (F.args_tuple_eq_2 _ _) (tup_eqChain la lb xs ys m m2 da db ta tb) ⟨h1, k1, ?_⟩) hu
  exact EqChain.mono (fun _ _ q => q) (fun v s' q => ⟨(fun z => nomatch z), q⟩) _ _ h
end
end Ow
end
section
set_option maxHeartbeats 4000000
/-! == of two tuples of own instances that have an own ==. -/
namespace Ow
open PySem PySem.Spec PyProof.Rows L2 StX
/-- the pairs compared one behind the other: one instance with itself is alike without a call -/
def kEqs (C : Addr) (sp : Sp) (E : XK) (Q : Bool → Hp → Prop) : List (Addr × Addr) → Hp → Prop
  | [], H => Q true H
  | p :: r, H => (p.1 = p.2 ∧ kEqs C sp E Q r H) ∨ (p.1 ≠ p.2 ∧ InsAt H p.1 C ∧ InsAt H p.2 C ∧ sp [.ref p.1, .ref p.2] H (fun v H' => ∃ k, v = .bl k ∧ (k = true → kEqs C sp E Q r H') ∧ (k = false → Q false H')) E)
def rEqTO (C : Addr) (sp : Sp) (E : XK) : R2 := fun x y H Q => ∃ (ta tb : Addr) (as bs : List Addr), x = .ref ta ∧ y = .ref tb ∧ H ta = some (.tup (as.map V.ref)) ∧ H tb = some (.tup (bs.map V.ref)) ∧ as.length = bs.length ∧ kEqs C sp E (fun k H' => Q (.bl k) H') (as.zip bs) H
theorem vals_refsT : ∀ {as : List Addr} {us : List Value}, Vals (as.map V.ref) us → us = as.map Value.ref
  | [], _, .nil => rfl
  | a :: as, _, .cons h t => by
    cases (show _ = Value.ref a from h)
    rw [vals_refsT t]
    rfl
section
variable {X : Cx} {CX : CXT} {n : Nat} {C g : Addr} {sp : Sp} {E : XK}
theorem chain_own (hs : PySem.W.findIn X.K (.ref C) (cmpInfo .Eq).2.1 = some (some (.ref g))) (hf : PySem.W.isFn X.K (.ref g) = true) (hn : PySem.W.notFirst X.K C (.ref C) = true)
    (F : FnR X.prog X.w X.K X.mg X.base CX n g sp) (hr : Room (n + 1) X.A) (hx : Passes CX X E) {pins : List (Addr × Obj)} {σ : L2.St} {Q : Bool → Hp → Prop} :
    ∀ (ps : List (Addr × Addr)) (s : Shared) (H : Hp), Inv X pins σ H s → kEqs C sp E Q ps H →
      EqChain X.prog X.w X.A X.xe (fun k s' => ∃ H', Inv X pins σ H' s' ∧ Q k H') (ps.map fun p => (Value.ref p.1, Value.ref p.2)) s
  | [], s, H, I, h => ⟨H, I, h⟩
  | p :: r, s, H, I, h => by
    obtain ⟨a, b⟩ := p
    show wpAny _ _ (eqBool (.ref a) (.ref b)) _ _ s
    rcases h with ⟨e, h⟩ | ⟨ne, ha, hb, q⟩
    · cases (show a = b from e)
      refine PySem.SeqAt.EqAt.same _ X.prog X.w _ _ ?_
      rw [if_pos rfl]
      exact chain_own hs hf hn F hr hx r s H I h
    · have ne : a ≠ b := ne
      have ha : InsAt H a C := ha
      have hb : InsAt H b C := hb
      unfold eqBool
      refine wpAny_holding (wpAny_ite_split (fun hab => absurd (by have := eq_of_beq hab; injection this) ne) fun _ => wpAny_bind ?_)
      obtain ⟨ox, od, J⟩ := inst_of I ha
      obtain ⟨oy, od', J'⟩ := inst_of I hb
      obtain ⟨m, hF⟩ := I.fr
      refine PySem.W.cmp_K (op := .Eq) (tb := .ref C) hr.in1.units0 hF I.ok.mod.kin J J'.type hn hs hf ?_
      refine wpAny_mono (wpAny_call (run_fnRS (us := [.ref a, .ref b]) (vs := [.ref a, .ref b]) F hr.in1 rfl hx I (.cons rfl (.cons rfl .nil)) q)) (fun w s' z => ?_) fun _ _ x => x
      obtain ⟨z', H', I', rz, k, rfl, q1, q2⟩ := z
      refine cmpbackR rz ?_
      cases (show w = Value.bool k from rz)
      refine wpAny_truthy_bool ?_
      cases k with
      | true => rw [if_pos rfl]; exact chain_own hs hf hn F hr hx r s' H' I' (q1 rfl)
      | false => rw [if_neg (by decide)]; exact ⟨H', I', q2 rfl⟩
theorem op_eqTO (hs : PySem.W.findIn X.K (.ref C) (cmpInfo .Eq).2.1 = some (some (.ref g))) (hf : PySem.W.isFn X.K (.ref g) = true) (hn : PySem.W.notFirst X.K C (.ref C) = true)
    (F : FnR X.prog X.w X.K X.mg X.base CX n g sp) (hr : Room (n + 1) X.A) (hx : Passes CX X E) : OpR X (compareOp .Eq) (rEqTO C sp E) := by
  intro pins s σ H x y v u Q I rx ry h
  obtain ⟨ta, tb, as, bs, rfl, rfl, ga, gb, hl, q⟩ := h
  cases (show v = Value.ref ta from rx)
  cases (show u = Value.ref tb from ry)
  obtain ⟨xs, rva, pa, _⟩ := I.tuple (.inl (.inl ga))
  obtain ⟨ys, rvb, pb, _⟩ := I.tuple (.inl (.inl gb))
  cases vals_refsT rva
  cases vals_refsT rvb
  show wpAny _ _ (richCompare .Eq _ _) _ _ s
  refine rc_tupChain pa pb hr.units0 ?_
  have c := chain_own hs hf hn F hr hx (as.zip bs) s H I q
  have e : (as.zip bs).map (fun p => (Value.ref p.1, Value.ref p.2)) = (as.map Value.ref).zip (bs.map Value.ref) := by
    rw [List.zip_map]
    rfl
  rw [e] at c
  refine EqChain.mono (fun _ _ z => z) (fun k s' z => ?_) _ _ c
  obtain ⟨H', I', z⟩ := z
  refine ⟨.bl k, H', I', ?_, z⟩
  show Value.bool _ = Value.bool k
  simp [hl]
end
end Ow
end
section
set_option maxHeartbeats 4000000
/-! A static method called with nothing; one def with two readings. -/
namespace Ow
open PySem PySem.Spec PyProof.Rows L2 StX
section
variable {X : Cx} {CX : CXT} {k : Nat} {C p g : Addr} {mc : Value} {sp : Sp} {E : XK} {o : Expr} {m : Str} {pos apos : Pos} {ta : TE} {pl : Sem Bool}
theorem pe_smeth0 (he : PE X o ta) (r : ClX.CRead X.K C mc) (c : SMet X.K C mc m p g) (F : FnR X.prog X.w X.K X.mg X.base CX k g sp) (hr : Room k X.A) (hx : Passes CX X E)
    (ht : eval (.Call (.Attribute o m apos) [] [] pos) X.env = (do
      let ov ← eval o X.env
      standAt apos.atName
      let (f, first) ← holding [ov] (getMethod ov m pl)
      callWith pos f first (backTo pos (starEach [] X.env)) (backToKw pos (keywordEach [] X.env))) := by rfl) :
    PE X (.Call (.Attribute o m apos) [] [] pos) (tSMeth C sp E ta tNil) := by
  refine ⟨fun pins s σ H Q I h => ?_⟩
  refine PySem.W.methodCall_KW (pl := pl) (thn (he.run pins s σ H _ I h) fun u s1 ⟨x, H1, I1, rx, ex, q⟩ => ?_) ht
  subst ex
  obtain rfl : u = Value.ref C := rx
  refine getmethsm_ok I1 r c fun s2 I2 => ?_
  refine PySem.W.callWith_K0 I2.kIn c.kp ?_
  refine wpAny_mono (wpAny_call (run_fnR F hr hx I2 .nil q)) (fun w s' z => z) fun _ _ x => x
end
theorem FnR.or {P : Program} {w : World} {K : PySem.W.Frag} {mg : Str → Option Value} {base : Heap} {CX : CXT} {k : Nat} {g : Addr} {sp sp' : Sp} (F : FnR P w K mg base CX k g sp) (F' : FnR P w K mg base CX k g sp') : FnR P w K mg base CX k g fun vs H Q E => sp vs H Q E ∨ sp' vs H Q E := fun A outer s H us vs Q E hr e0 r h => by
  rcases h with h | h
  · exact F A outer s H us vs Q E hr e0 r h
  · exact F' A outer s H us vs Q E hr e0 r h
end Ow
end
section
set_option maxHeartbeats 4000000
/-! A comprehension whose elements make objects: what is known of each element is kept. -/
namespace Ow
open PySem PySem.Spec PyProof.Rows L2 StX
/-- the first j elements lie in the list at D, each as it should be -/
def LcOf (H1 : Hp) (Pv : Hp → Nat → V → Prop) (D : Addr) (j : Nat) (H' : Hp) : Prop := ∃ acc : List V, acc.length = j ∧ LcIn H1 H' D acc ∧ ∀ k v, acc[k]? = some v → Pv H' k v
/-- facts that stay when objects are made and when a list is changed -/
structure Stays (Pv : Hp → Nat → V → Prop) : Prop where
  same : ∀ {H H' : Hp} {k : Nat} {v : V}, Pv H k v → Same H H' → Pv H' k v
  put : ∀ {H : Hp} {D : Addr} {xs ys : List V} {k : Nat} {v : V}, Pv H k v → H D = some (.lst xs) → Pv (upd H D (.lst ys)) k v
theorem LcOf.add {H1 H H4 : Hp} {Pv : Hp → Nat → V → Prop} {D : Addr} {j : Nat} {y : V} (S : Stays Pv) (c : LcOf H1 Pv D j H) (s : Same H H4) (hj : j < sizeLine) (hy : Pv H4 j y) : kApp D (LcOf H1 Pv D (j + 1)) y H4 := by
  obtain ⟨acc, hl, c, hv⟩ := c
  have a4 := s _ _ c.at_
  refine ⟨acc, a4, by omega, acc ++ [y], by rw [List.length_append, hl]; rfl, ⟨fun b u e => ?_, upd_same, c.new⟩, fun k v hk => ?_⟩
  · rw [upd_ne (ne_of_none e c.new)]
    exact s _ _ (c.same _ _ e)
  · by_cases hi : k < acc.length
    · rw [List.getElem?_append_left hi] at hk
      exact S.put (S.same (hv k v hk) s) a4
    · rw [List.getElem?_append_right (by omega)] at hk
      have hi0 : k - acc.length = 0 := by
        match hz : k - acc.length with
        | 0 => rfl
        | m + 1 => rw [hz] at hk; cases hk
      rw [hi0] at hk
      cases hk
      have : k = j := by omega
      subst this
      exact S.put hy a4
theorem kLc.objs {J : It} {n : Nat} {G : Hp → Prop} {Y : Nat → Hp → V → Hp → Prop} (w : Walk J n G Y) {g : TG} {tt : TT} {te : TE} {vs : List Nat} {σ : L2.St} {Q : VK} {H1 : Hp} (Pv : Hp → Nat → V → Prop) (hG : ∀ H, Same H1 H → G H)
    (hs : ∀ D i x H H', i < n → LcOf H1 Pv D i H → Y i H x H' → g x (wipe σ vs) H' fun σ2 H2 => wipe σ2 vs = wipe σ vs ∧ tt σ2 H2 fun b H3 => if b = true then te σ2 H3 (kApp D (LcOf H1 Pv D (i + 1))) else LcOf H1 Pv D (i + 1) H3)
    (hd : ∀ D H' acc, acc.length = n → Fresh H1 H' D (.lst acc) → (∀ k v, acc[k]? = some v → Pv H' k v) → Q (.ref D) H') : kLc J g tt te vs σ Q H1 := fun D hD =>
  lc_it w (fun i H => LcOf H1 Pv D i H) ⟨[], rfl, ⟨(fresh_upd hD).same, upd_same, hD⟩, fun k v h => by cases k <;> cases h⟩ (fun i H _ c => hG H c.choose_spec.2.1.same) (fun i x H H' hi c y => hs D i x H H' hi c y) fun H c => by
    obtain ⟨acc, hl, c, hv⟩ := c
    exact hd D H acc hl ⟨c.same, c.at_, c.new⟩ hv
end Ow
end
section
/-! A guarded def called with nothing. -/
namespace Ow
open PySem PySem.Spec PyProof.Rows L2 StX
section
variable {X : Cx} {CX : CXT} {n : Nat} {sp : Sp} {E : XK}
theorem pe_callG0 {x : Str} {f : Addr} {p pos : Pos} (F : FnG X.prog X.w X.K X.mg X.base CX n f sp) (hr : Room n X.A) (gd : X.A.guards = some []) (hm : X.mg x = some (.ref f)) (hk : PySem.W.keepIn X.K (.ref f) = true) (hx : Passes CX X E)
    (hg : Gl X x := by rfl) (hdb : (x == ("__debug__" : Str)) = false := by decide) : PE X (.Call (.Name x p) [] [] pos) (tCallR sp E tNil) := by
  refine ⟨fun pins s σ H Q I h => ?_⟩
  refine wpAny_Call_Name_kw (ld_glob I hg hm ?_ hdb)
  refine PySem.W.callWith_K0 I.kIn hk ?_
  refine wpAny_call (codeAny_mono (F X.A X.stack s H [] [] Q E hr gd I.env0 .nil h) fun r s' hq => ?_)
  cases r with
  | error e => exact hx pins σ H s e s' I hq
  | ok fl =>
    cases fl with
    | ret u => exact I.after hq
    | next => exact False.elim hq
    | brk => exact False.elim hq
    | cont => exact False.elim hq
end
end Ow
end
section
set_option maxHeartbeats 4000000
/-! An own instance in an f-string; o.m( *y, e). -/
namespace Ow
open PySem PySem.Spec PyProof.Rows L2 StX
section
variable {X : Cx} {CX : CXT} {n : Nat} {C g : Addr} {sp : Sp} {E : XK} {e : Expr} {te : TE} {pos : Pos}
/-- {o}, o an instance of C that has a __str__ -/
def tFmtO (C : Addr) (sp : Sp) (E : XK) (te : TE) : TE := fun σ H Q => te σ H fun x H1 => ∃ a, x = .ref a ∧ InsAt H1 a C ∧ sp [.ref a] H1 (fun v H' => ∃ t, v = .str t ∧ Q (.str t) H') E
theorem pe_fmtO (he : PE X e te) (hfm : PySem.W.findIn X.K (.ref C) "__format__" = some (some (.builtin "object.__format__"))) (hm : PySem.W.mroIn X.K C (.type "object") = some true) (hs : PySem.W.findIn X.K (.ref C) "__str__" = some (some (.ref g))) (hf : PySem.W.isFn X.K (.ref g) = true)
    (F : FnR X.prog X.w X.K X.mg X.base CX n g sp) (hr : Room (n + 2) X.A) (hx : Passes CX X E) : PE X (.FormattedValue e (-1) none pos) (tFmtO C sp E te) := by
  refine ⟨fun pins s σ H Q I h => ?_⟩
  refine wpAny_FormattedValue_plain (thn (he.run pins s σ H _ I h) fun v s1 ⟨x, H1, I1, r1, a, ex, ha, q⟩ => ?_)
  subst ex
  obtain rfl : v = Value.ref a := r1
  obtain ⟨ox, od, J⟩ := inst_of I1 ha
  refine PySem.W.kfo_fieldS hr.in1.units0 I1.kIn J hfm hm hs hf ?_
  refine wpAny_mono (wpAny_call (run_fnRS (us := [.ref a]) (vs := [.ref a]) F (hr.in1.mono (Nat.le_succ n)) rfl hx (I1.tok _) (.cons rfl .nil) q)) (fun w s' z => ?_) fun _ _ x => x
  obtain ⟨z', H', I', rz, t, rfl, qz⟩ := z
  obtain ⟨tk, rfl⟩ := rz
  exact ⟨.str t, H', I', ⟨tk, rfl⟩, qz⟩
end
theorem starcallF_of {M : Model} {A : Around} {E : Value → Shared → Prop} {s : Shared} {env : Env} {o e1 e2 : Expr} {m : Str} {p apos pos : Pos} {Q : Value → Shared → Prop} (hbase : attributeBase o m env (eval o env) = eval o env)
    (hst : starEach [.Starred e1 p, e2] env = [(true, eval e1 env), (false, eval e2 env)])
    (h : wpAny M A (eval o env) (fun ov s₁ => wpAny M A (getAttr ov m true) (fun f s₂ => wpAny M A (callWith pos f [] (backTo pos [(true, eval e1 env), (false, eval e2 env)]) []) Q E s₂) E s₁) E s) :
    wpAny M A (eval (.Call (.Attribute o m apos) [.Starred e1 p, e2] [] pos) env) Q E s := by
  have k1 : backToKw pos (keywordEach [] env) = [] := rfl
  have k2 : methodCallForm ([Expr.Starred e1 p, e2].length + ([] : List Keyword).length) (backTo pos [(true, eval e1 env), (false, eval e2 env)]) [] = false := rfl
  have k3 : methodCallPos false o env apos pos = pure pos := rfl
  have k4 : ∀ ov, calleeOf false o env ov m = (getAttr ov m true >>= fun v => pure (v, [])) := fun _ => rfl
  rw [arm_eval_Call, hbase, hst, k1]
  refine wpAny_bind (wpAny_mono h (fun ov s₁ z => ?_) fun _ _ x => x)
  refine wpAny_bind (wpAny_standAt ?_)
  unfold methodCall
  rw [k2, k3, k4]
  refine wpAny_bind (wpAny_holding (wpAny_bind (wpAny_mono z (fun f s₂ y => wpAny_pure ?_) fun _ _ x => x)))
  exact wpAny_bind (wpAny_pure y)
theorem evalArgs_star {M : Model} {A : Around} {E : Value → Shared → Prop} {s : Shared} {f : Value} {x y : Sem Value} {b : Bool} {rest : List (Bool × Sem Value)} {Q : Args → Shared → Prop}
    (h : wpAny M A (spliced ((true, x) :: (b, y) :: rest)) (fun vs s' => Q ⟨vs, []⟩ s') E s) : wpAny M A (evalArgs f true ((true, x) :: (b, y) :: rest) []) Q E s := by
  unfold evalArgs
  show wpAny M A (spliced ((true, x) :: (b, y) :: rest) >>= _) Q E s
  refine wpAny_bind (wpAny_mono h (fun vs s' z => ?_) fun _ _ x => x)
  refine wpAny_holding ?_
  exact wpAny_bind (wpAny_pure (wpAny_bind (wpAny_pure (wpAny_pure z))))
/-- o.m( *y, e), o an instance of C -/
def tMethSF (K : PySem.W.Frag) (C : Addr) (m : Str) (g : Addr) (sp : Sp) (E : XK) (ta t1 t2 : TE) : TE := fun σ H Q => ta σ H fun x H1 => ∃ a dx fs, x = .ref a ∧ H1 a = some (.ins C dx fs) ∧ fs.lookup m = none ∧
  ∀ q, H1 q = none → t1 σ (upd H1 q (.met g a)) fun y1 H2 => ∃ b vs, y1 = .ref b ∧ (SqT K H2 b vs ∨ SqL K H2 b vs) ∧ t2 σ H2 fun y2 H3 => H3 q = some (.met g a) ∧ sp (.ref a :: (vs ++ [y2])) H3 Q E
theorem pe_methSF {X : Cx} {CX : CXT} {k : Nat} {C g : Addr} {m : Str} {sp : Sp} {E : XK} {o e1 e2 : Expr} {ta t1 t2 : TE} {p apos pos : Pos} (he : PE X o ta) (c : Cls X.K C) (b : BMeth X.K C m g) (F : FnR X.prog X.w X.K X.mg X.base CX k g sp) (hr : Room k X.A)
    (hx : Passes CX X E) (h1 : PE X e1 t1) (h2 : PE X e2 t2) (hbase : attributeBase o m X.env (eval o X.env) = eval o X.env := by rfl)
    (hst : starEach [.Starred e1 p, e2] X.env = [(true, eval e1 X.env), (false, eval e2 X.env)] := by rfl) : PE X (.Call (.Attribute o m apos) [.Starred e1 p, e2] [] pos) (tMethSF X.K C m g sp E ta t1 t2) := by
  refine ⟨fun pins s σ H Q I h => ?_⟩
  refine starcallF_of hbase hst (thn (he.run pins s σ H _ I h) fun u s1 ⟨x, H1, I1, rx, a, dx, fs, ex, ea, l, q⟩ => ?_)
  subst ex
  obtain rfl : u = Value.ref a := rx
  refine getbound_ok I1 ea c b l fun q1 s2 hq1 I2 => ?_
  refine PySem.W.ks_call (P := PySem.W.MethP X.K q1 g (.ref a)) rfl (PySem.W.keeps_M b.fi) (evalArgs_star (PySem.W.ks_spliced (thn (h1.run pins s2 σ _ _ I2 (q q1 hq1)) fun v1 s3 ⟨y1, H2, I3, ry1, t, vs, ey, ht, q2⟩ => ?_)))
  subst ey
  obtain rfl : v1 = Value.ref t := ry1
  refine StX.star_any I3 ht fun us s4 I4 rv => Calls.spliced_cons (thn (h2.run pins s4 σ H2 _ I4 q2) fun v2 s5 ⟨y2, H3, I5, ry2, hm, hsp⟩ => Calls.spliced_nil ?_)
  show PySem.W.MethP X.K q1 g (.ref a) s5.heap ∧ wpAny (model X.prog X.w) X.A (call (.ref q1) (us ++ [v2]) []) (EP X pins σ Q) X.xe s5
  exact ⟨met_P I5 hm, wpAny_call (PySem.W.method_call (met_P I5 hm).1 (run_fnR (us := Value.ref a :: (us ++ [v2])) (vs := V.ref a :: (vs ++ [y2])) F hr hx I5 (.cons rfl (rv.append (.cons ry2 .nil))) hsp))⟩
end Ow
namespace Ow
open PySem PySem.Spec PyProof.Rows L2 StX
/-- one expression read in two ways (a call of one class's method or of another's) -/
theorem pe_or {X : Cx} {e : Expr} {t u : TE} (h : PE X e t) (h' : PE X e u) : PE X e fun σ H Q => t σ H Q ∨ u σ H Q := ⟨fun pins s σ H Q I z => z.elim (h.run pins s σ H Q I) (h'.run pins s σ H Q I)⟩
theorem callR_or {X : Cx} {v : Value} {r r' : List V → Hp → VK → Prop} (h : CallR X v r) (h' : CallR X v r') : CallR X v fun xs H Q => r xs H Q ∨ r' xs H Q := fun pins s σ H xs us Q I rv z => z.elim (h pins s σ H xs us Q I rv) (h' pins s σ H xs us Q I rv)
end Ow
end
section
set_option maxHeartbeats 4000000
/-! An instance made by a local name that holds the class, of a starred tuple. -/
namespace Ow
open PySem PySem.Spec PyProof.Rows L2 StX ClX
section
variable {X : Cx} {CX : CXT} {n i : Nat} {C g : Addr} {sp : Sp} {E : XK} {x : Str} {p sp_ pos : Pos} {e : Expr} {te : TE}
/-- x(*e): slot i holds the class at C -/
def tMakeLS (K : PySem.W.Frag) (i : Nat) (C : Addr) (sp : Sp) (E : XK) (te : TE) : TE := fun σ H Q => σ[i]? = some (some (.ref C)) ∧ te σ H fun y H1 => ∃ a xs, y = V.ref a ∧ (SqT K H1 a xs ∨ SqL K H1 a xs) ∧ kMake C sp E Q xs H1
theorem pe_makeLS (M : Mk X.K C g) (F : FnR X.prog X.w X.K X.mg X.base CX n g sp) (hr : Room (n + 1) X.A) (hN : X.N[i]? = some x) (hv : Vis X.env.scope x) (hx : Passes CX X E) (he : PE X e te)
    (hdb : (x == ("__debug__" : Str)) = false := by decide) (hcd : (x == ("__classdict__" : Str)) = false := by decide)
    (hst : starEach [.Starred e sp_] X.env = [(true, eval e X.env)] := by rfl) : PE X (.Call (.Name x p) [.Starred e sp_] [] pos) (tMakeLS X.K i C sp E te) := by
  refine ⟨fun pins s σ H Q I h => ?_⟩
  obtain ⟨hs, ht⟩ := h
  refine wpAny_Call_Name_kw (thn ((pe_var (pos := p) hN hv hdb hcd).run pins s σ H (fun v H1 => v = .ref C ∧ H1 = H) I ⟨.ref C, hs, rfl, rfl⟩) fun u s1 ⟨v, H1, I1, r1, q1⟩ => ?_)
  obtain ⟨rfl, rfl⟩ := q1
  cases r1
  refine PySem.W.callWith_S (h₀ := X.base) I.ok.mod.kin M.kp (thn (he.run pins s1 σ _ _ I1 ht) fun v s2 ⟨y, H2, I2, ry, a, xs, ey, hxs, q⟩ => ?_) hst
  subst ey
  obtain rfl : v = Value.ref a := ry
  exact star_any I2 hxs fun us s3 I3 rv => ⟨I3.kIn, run_makeR M F hr hx I3 rv q⟩
end
end Ow
end
section
namespace Pf
open PySem PySem.Spec PyProof.Rows L2 Ow
def topS (i : Nat) : Stmt := PySem.Challenge.pw_heldfloods_k05_places_written_and_read.main.body.getD i (.Pass ⟨0, 0, 0, 0⟩)
abbrev s__law_bag : Stmt := topS 20
theorem sc__law_bag : FnScope ["_law_script", "_law_state", "_law_cell"] ["_law_script"] (defScope s__law_bag) := ⟨rfl, rfl, rfl, by decide +kernel, rfl, by decide +kernel, by decide +kernel⟩
abbrev s__law_draw : Stmt := topS 21
theorem sc__law_draw : FnScope ["_law_bag_here", "_law_limit", "_law_cell", "_law_mixed", "_law_found"] ["_law_bag_here", "_law_limit"] (defScope s__law_draw) := ⟨rfl, rfl, rfl, by decide +kernel, rfl, by decide +kernel, by decide +kernel⟩
abbrev s_BadText_init : Stmt := inClass (topS 4) 0
theorem sc_BadText_init : FnScope ["self", "line", "word"] ["self", "line", "word"] (defScope s_BadText_init) := ⟨rfl, rfl, rfl, by decide +kernel, rfl, by decide +kernel, by decide +kernel⟩
abbrev s_is_int : Stmt := topS 6
theorem sc_is_int : FnScope ["value"] ["value"] (defScope s_is_int) := ⟨rfl, rfl, rfl, by decide +kernel, rfl, by decide +kernel, by decide +kernel⟩
abbrev s_Place_init : Stmt := inClass (topS 11) 0
theorem sc_Place_init : FnScope ["self", "slope", "offset", "odd"] ["self", "slope", "offset", "odd"] (defScope s_Place_init) := ⟨rfl, rfl, rfl, by decide +kernel, rfl, by decide +kernel, by decide +kernel⟩
abbrev s_Place_slope : Stmt := inClass (topS 11) 1
theorem sc_Place_slope : FnScope ["self"] ["self"] (defScope s_Place_slope) := ⟨rfl, rfl, rfl, by decide +kernel, rfl, by decide +kernel, by decide +kernel⟩
abbrev s_Place_offset : Stmt := inClass (topS 11) 2
theorem sc_Place_offset : FnScope ["self"] ["self"] (defScope s_Place_offset) := ⟨rfl, rfl, rfl, by decide +kernel, rfl, by decide +kernel, by decide +kernel⟩
abbrev s_Place_odd : Stmt := inClass (topS 11) 3
theorem sc_Place_odd : FnScope ["self"] ["self"] (defScope s_Place_odd) := ⟨rfl, rfl, rfl, by decide +kernel, rfl, by decide +kernel, by decide +kernel⟩
abbrev s_Place_eq : Stmt := inClass (topS 11) 9
theorem sc_Place_eq : FnScope ["self", "other"] ["self", "other"] (defScope s_Place_eq) := ⟨rfl, rfl, rfl, by decide +kernel, rfl, by decide +kernel, by decide +kernel⟩
abbrev s_parts_of : Stmt := topS 13
theorem sc_parts_of : FnScope ["place"] ["place"] (defScope s_parts_of) := ⟨rfl, rfl, rfl, by decide +kernel, rfl, by decide +kernel, by decide +kernel⟩
abbrev s_place_words : Stmt := topS 15
theorem sc_place_words : FnScope ["slope", "offset", "odd"] ["slope", "offset", "odd"] (defScope s_place_words) := ⟨rfl, rfl, rfl, by decide +kernel, rfl, by decide +kernel, by decide +kernel⟩
abbrev s_Place_str : Stmt := inClass (topS 11) 14
theorem sc_Place_str : FnScope ["self"] ["self"] (defScope s_Place_str) := ⟨rfl, rfl, rfl, by decide +kernel, rfl, by decide +kernel, by decide +kernel⟩
abbrev s_is_number : Stmt := topS 18
theorem sc_is_number : FnScope ["word", "figures"] ["word"] (defScope s_is_number) := ⟨rfl, rfl, rfl, by decide +kernel, rfl, by decide +kernel, by decide +kernel⟩
abbrev s_named_parts : Stmt := topS 17
theorem sc_named_parts : FnScope ["name", "numbers"] ["name", "numbers"] (defScope s_named_parts) := ⟨rfl, rfl, rfl, by decide +kernel, rfl, by decide +kernel, by decide +kernel⟩
abbrev s_take_parts : Stmt := topS 16
theorem sc_take_parts : FnScope ["words", "at", "behind", "numbers", "k", "parts"] ["words", "at"] (defScope s_take_parts) := ⟨rfl, rfl, rfl, by decide +kernel, rfl, by decide +kernel, by decide +kernel⟩
abbrev s_Place_read : Stmt := inClass (topS 11) 15
theorem sc_Place_read : FnScope ["cls", "text", "words", "parts", "at"] ["cls", "text"] (defScope s_Place_read) := ⟨rfl, rfl, rfl, by decide +kernel, rfl, by decide +kernel, by decide +kernel⟩
abbrev s__law_parts : Stmt := topS 22
theorem sc__law_parts : FnScope ["_law_bag_here", "_law_kind", "_law_k"] ["_law_bag_here"] (defScope s__law_parts) := ⟨rfl, rfl, rfl, by decide +kernel, rfl, by decide +kernel, by decide +kernel⟩
abbrev s__law_place : Stmt := topS 24
theorem sc__law_place : FnScope ["_law_parts_here"] ["_law_parts_here"] (defScope s__law_place) := ⟨rfl, rfl, rfl, by decide +kernel, rfl, by decide +kernel, by decide +kernel⟩
abbrev s__law_heard : Stmt := topS 25
theorem sc__law_heard : FnScope ["_law_ask", "error"] ["_law_ask"] (defScope s__law_heard) := ⟨rfl, rfl, rfl, by decide +kernel, rfl, by decide +kernel, by decide +kernel⟩
abbrev s__law_written : Stmt := topS 26
theorem sc__law_written : FnScope ["_law_parts_here", "_law_part"] ["_law_parts_here"] (defScope s__law_written) := ⟨rfl, rfl, rfl, by decide +kernel, rfl, by decide +kernel, by decide +kernel⟩
abbrev s__law_is_number : Stmt := topS 27
theorem sc__law_is_number : FnScope ["_law_word", "_law_body", "_law_sign"] ["_law_word"] (defScope s__law_is_number) := ⟨rfl, rfl, rfl, by decide +kernel, rfl, by decide +kernel, by decide +kernel⟩
abbrev s__law_wrong : Stmt := topS 28
theorem sc__law_wrong : FnScope ["_law_words", "_law_many", "_law_at_here"] ["_law_words"] (defScope s__law_wrong) := ⟨rfl, rfl, rfl, by decide +kernel, rfl, by decide +kernel, by decide +kernel⟩
abbrev s__law_bent : Stmt := topS 29
theorem sc__law_bent : FnScope ["_law_bag_here", "_law_signs", "_law_words", "_law_odd", "_law_word", "_law_at_here", "_law_way"] ["_law_bag_here", "_law_signs"] (defScope s__law_bent) := ⟨rfl, rfl, rfl, by decide +kernel, rfl, by decide +kernel, by decide +kernel⟩
abbrev s_law : Stmt := topS 30
theorem sc_law : FnScope ["_law_script", "_law_bag_here", "_law_turn", "_law_far", "_law_parts_here", "_law_made", "_law_signs", "_law_again", "_law_found", "_law_wrong_here", "_law_odd", "_law_bent_here", "_law_value"] ["_law_script"] (defScope s_law) := ⟨rfl, rfl, rfl, by decide +kernel, rfl, by decide +kernel, by decide +kernel⟩
structure Adr where
  _law_bag : Addr
  _law_draw : Addr
  BadText_init : Addr
  is_int : Addr
  Place_init : Addr
  Place_slope : Addr
  Place_offset : Addr
  Place_odd : Addr
  Place_eq : Addr
  parts_of : Addr
  place_words : Addr
  Place_str : Addr
  is_number : Addr
  named_parts : Addr
  take_parts : Addr
  Place_read : Addr
  _law_parts : Addr
  _law_place : Addr
  _law_heard : Addr
  _law_written : Addr
  _law_is_number : Addr
  _law_wrong : Addr
  _law_bent : Addr
  law : Addr
  Place : Addr
  pr_Place_slope : Addr
  pr_Place_offset : Addr
  pr_Place_odd : Addr
  BadText : Addr
  HoldError : Addr
  cm_read : Addr
  FIGURESt : Addr
  NUMBERS : Addr
structure Txt (K : PySem.W.Frag) (mg : Str → Option Value) (a : Adr) : Prop where
  n_len : mg "len" = none
  n_int : mg "int" = none
  n_abs : mg "abs" = none
  n_list : mg "list" = none
  n_range : mg "range" = none
  n_str : mg "str" = none
  n_isinstance : mg "isinstance" = none
  n_bool : mg "bool" = none
  d__law_bag : FnT K "_law_bag" "_law_bag" s__law_bag [] a._law_bag
  m__law_bag : mg "_law_bag" = some (.ref a._law_bag)
  k__law_bag : PySem.W.keepIn K (.ref a._law_bag) = true
  d__law_draw : FnT K "_law_draw" "_law_draw" s__law_draw [] a._law_draw
  m__law_draw : mg "_law_draw" = some (.ref a._law_draw)
  k__law_draw : PySem.W.keepIn K (.ref a._law_draw) = true
  d_BadText_init : FnT K "__init__" "BadText.__init__" s_BadText_init [] a.BadText_init
  d_is_int : FnT K "is_int" "is_int" s_is_int [] a.is_int
  m_is_int : mg "is_int" = some (.ref a.is_int)
  k_is_int : PySem.W.keepIn K (.ref a.is_int) = true
  d_Place_init : FnT K "__init__" "Place.__init__" s_Place_init [.int 0] a.Place_init
  d_Place_slope : FnT K "slope" "Place.slope" s_Place_slope [] a.Place_slope
  d_Place_offset : FnT K "offset" "Place.offset" s_Place_offset [] a.Place_offset
  d_Place_odd : FnT K "odd" "Place.odd" s_Place_odd [] a.Place_odd
  d_Place_eq : FnT K "__eq__" "Place.__eq__" s_Place_eq [] a.Place_eq
  d_parts_of : FnT K "parts_of" "parts_of" s_parts_of [] a.parts_of
  m_parts_of : mg "parts_of" = some (.ref a.parts_of)
  k_parts_of : PySem.W.keepIn K (.ref a.parts_of) = true
  d_place_words : FnT K "place_words" "place_words" s_place_words [] a.place_words
  m_place_words : mg "place_words" = some (.ref a.place_words)
  k_place_words : PySem.W.keepIn K (.ref a.place_words) = true
  d_Place_str : FnT K "__str__" "Place.__str__" s_Place_str [] a.Place_str
  d_is_number : FnT K "is_number" "is_number" s_is_number [] a.is_number
  m_is_number : mg "is_number" = some (.ref a.is_number)
  k_is_number : PySem.W.keepIn K (.ref a.is_number) = true
  d_named_parts : FnT K "named_parts" "named_parts" s_named_parts [] a.named_parts
  m_named_parts : mg "named_parts" = some (.ref a.named_parts)
  k_named_parts : PySem.W.keepIn K (.ref a.named_parts) = true
  d_take_parts : FnT K "take_parts" "take_parts" s_take_parts [] a.take_parts
  m_take_parts : mg "take_parts" = some (.ref a.take_parts)
  k_take_parts : PySem.W.keepIn K (.ref a.take_parts) = true
  d_Place_read : FnT K "read" "Place.read" s_Place_read [] a.Place_read
  d__law_parts : FnT K "_law_parts" "_law_parts" s__law_parts [] a._law_parts
  m__law_parts : mg "_law_parts" = some (.ref a._law_parts)
  k__law_parts : PySem.W.keepIn K (.ref a._law_parts) = true
  d__law_place : FnT K "_law_place" "_law_place" s__law_place [] a._law_place
  m__law_place : mg "_law_place" = some (.ref a._law_place)
  k__law_place : PySem.W.keepIn K (.ref a._law_place) = true
  d__law_heard : FnT K "_law_heard" "_law_heard" s__law_heard [] a._law_heard
  m__law_heard : mg "_law_heard" = some (.ref a._law_heard)
  k__law_heard : PySem.W.keepIn K (.ref a._law_heard) = true
  d__law_written : FnT K "_law_written" "_law_written" s__law_written [] a._law_written
  m__law_written : mg "_law_written" = some (.ref a._law_written)
  k__law_written : PySem.W.keepIn K (.ref a._law_written) = true
  d__law_is_number : FnT K "_law_is_number" "_law_is_number" s__law_is_number [] a._law_is_number
  m__law_is_number : mg "_law_is_number" = some (.ref a._law_is_number)
  k__law_is_number : PySem.W.keepIn K (.ref a._law_is_number) = true
  d__law_wrong : FnT K "_law_wrong" "_law_wrong" s__law_wrong [] a._law_wrong
  m__law_wrong : mg "_law_wrong" = some (.ref a._law_wrong)
  k__law_wrong : PySem.W.keepIn K (.ref a._law_wrong) = true
  d__law_bent : FnT K "_law_bent" "_law_bent" s__law_bent [] a._law_bent
  m__law_bent : mg "_law_bent" = some (.ref a._law_bent)
  k__law_bent : PySem.W.keepIn K (.ref a._law_bent) = true
  d_law : FnT K "law" "law" s_law [] a.law
  m_law : mg "law" = some (.ref a.law)
  k_law : PySem.W.keepIn K (.ref a.law) = true
  m_Place : mg "Place" = some (.ref a.Place)
  c_Place : ClsF K a.Place
  M_Place : Mk K a.Place a.Place_init
  a_Place__slope : NoAttr K a.Place "_slope"
  a_Place__offset : NoAttr K a.Place "_offset"
  a_Place__odd : NoAttr K a.Place "_odd"
  p_Place_slope : PropR K a.Place "slope" a.pr_Place_slope a.Place_slope
  p_Place_offset : PropR K a.Place "offset" a.pr_Place_offset a.Place_offset
  p_Place_odd : PropR K a.Place "odd" a.pr_Place_odd a.Place_odd
  o_Place_eq : PySem.W.findIn K (.ref a.Place) "__eq__" = some (some (.ref a.Place_eq))
  f_Place_eq : PySem.W.isFn K (.ref a.Place_eq) = true
  o_Place_str : PySem.W.findIn K (.ref a.Place) "__str__" = some (some (.ref a.Place_str))
  f_Place_str : PySem.W.isFn K (.ref a.Place_str) = true
  cr_Place : ClX.CRead K a.Place (.type "type")
  s_Place_first : PySem.W.selfFirst K a.Place = true
  o_Place_ne : PySem.W.findIn K (.ref a.Place) "__ne__" = some (some (.builtin "object.__ne__"))
  s_Place_obj : PySem.W.subIn K (.ref a.Place) (.type "object") = some true
  cm_read : ClX.CMet K a.Place (.type "type") "read" a.cm_read a.Place_read
  m_HoldError : mg "HoldError" = some (.ref a.HoldError)
  xf_BadText : XfC K a.BadText
  xc_BadText : ExcC K a.BadText
  xi_BadText : (PySem.W.clsIn K a.BadText).isSome = true
  xt_BadText : PySem.W.typeIn K (.ref a.BadText) = some (.type "type")
  xm_BadText_HoldError : PySem.W.exmOne K (.ref a.BadText) (.ref a.HoldError) = some true
  xm_BadText_BadText : PySem.W.exmOne K (.ref a.BadText) (.ref a.BadText) = some true
  m_NUMBERS : mg "NUMBERS" = some (.ref a.NUMBERS)
  m_FIGURES : mg "FIGURES" = some (.int 60 a.FIGURESt)
  m_BadText : mg "BadText" = some (.ref a.BadText)
  e_BadText : ErrF K a.BadText a.BadText_init
  a_BadText_line : PySem.W.findIn K (.ref a.BadText) "line" = some none
  a_BadText_word : PySem.W.findIn K (.ref a.BadText) "word" = some none
/-! ### the bag of draws -/
/-- the pairs of a bag: its cells' list at c, where it stands, what rests, its state -/
def bagK (c : Addr) (i r st : Int) : List (Key × V) := [(Sum.inr "cells", V.ref c), (Sum.inr "at", V.int i), (Sum.inr "rest", V.int r), (Sum.inr "state", V.int st)]
theorem bagK_len (c : Addr) (i r st : Int) : (bagK c i r st).length < sizeLine := Nat.lt_of_le_of_lt (show 4 ≤ 4 from Nat.le_refl 4) (by decide +kernel)
theorem kAC : ¬ (("cells" : Str) = "at") := by decide +kernel
theorem kRC : ¬ (("cells" : Str) = "rest") := by decide +kernel
theorem kSC : ¬ (("cells" : Str) = "state") := by decide +kernel
theorem kAR : ¬ (("at" : Str) = "rest") := by decide +kernel
theorem kAS : ¬ (("at" : Str) = "state") := by decide +kernel
theorem kRS : ¬ (("rest" : Str) = "state") := by decide +kernel
theorem inr_ne {x y : Str} (h : ¬ x = y) : ¬ ((Sum.inr x : Key) = Sum.inr y) := fun e => h (Sum.inr.inj e)
theorem bag_cells (c : Addr) (i r st : Int) : valV (bagK c i r st) (Sum.inr "cells") = some (V.ref c) := valV_pos rfl
theorem bag_at (c : Addr) (i r st : Int) : valV (bagK c i r st) (Sum.inr "at") = some (V.int i) := (valV_neg (inr_ne kAC)).trans (valV_pos rfl)
theorem bag_rest (c : Addr) (i r st : Int) : valV (bagK c i r st) (Sum.inr "rest") = some (V.int r) := (valV_neg (inr_ne kRC)).trans ((valV_neg (inr_ne kAR)).trans (valV_pos rfl))
theorem bag_state (c : Addr) (i r st : Int) : valV (bagK c i r st) (Sum.inr "state") = some (V.int st) := (valV_neg (inr_ne kSC)).trans ((valV_neg (inr_ne kAS)).trans ((valV_neg (inr_ne kRS)).trans (valV_pos rfl)))
theorem put_at (c : Addr) (i r st j : Int) : putK (bagK c i r st) (Sum.inr "at") (V.int j) = bagK c j r st := by
  have e1 : ¬ ((Sum.inr ("cells" : Str) : Key) = Sum.inr ("at" : Str)) := inr_ne kAC
  have e2 : ¬ ((Sum.inr ("rest" : Str) : Key) = Sum.inr ("at" : Str)) := inr_ne fun z => kAR z.symm
  have e3 : ¬ ((Sum.inr ("state" : Str) : Key) = Sum.inr ("at" : Str)) := inr_ne fun z => kAS z.symm
  unfold putK bagK
  simp [e1, e2, e3]
theorem put_rest (c : Addr) (i r st j : Int) : putK (bagK c i r st) (Sum.inr "rest") (V.int j) = bagK c i j st := by
  have e1 : ¬ ((Sum.inr ("cells" : Str) : Key) = Sum.inr ("rest" : Str)) := inr_ne kRC
  have e2 : ¬ ((Sum.inr ("at" : Str) : Key) = Sum.inr ("rest" : Str)) := inr_ne kAR
  have e3 : ¬ ((Sum.inr ("state" : Str) : Key) = Sum.inr ("rest" : Str)) := inr_ne fun z => kRS z.symm
  unfold putK bagK
  simp [e1, e2, e3]
theorem put_state (c : Addr) (i r st j : Int) : putK (bagK c i r st) (Sum.inr "state") (V.int j) = bagK c i r j := by
  have e1 : ¬ ((Sum.inr ("cells" : Str) : Key) = Sum.inr ("state" : Str)) := inr_ne kSC
  have e2 : ¬ ((Sum.inr ("at" : Str) : Key) = Sum.inr ("state" : Str)) := inr_ne kAS
  have e3 : ¬ ((Sum.inr ("rest" : Str) : Key) = Sum.inr ("state" : Str)) := inr_ne kRS
  unfold putK bagK
  simp [e1, e2, e3]
theorem merge_bag (c : Addr) (i r st : Int) : mergeK [] (bagK c i r st) = bagK c i r st := by
  have e1 : ¬ ((Sum.inr ("cells" : Str) : Key) = Sum.inr ("at" : Str)) := inr_ne kAC
  have e2 : ¬ ((Sum.inr ("cells" : Str) : Key) = Sum.inr ("rest" : Str)) := inr_ne kRC
  have e3 : ¬ ((Sum.inr ("cells" : Str) : Key) = Sum.inr ("state" : Str)) := inr_ne kSC
  have e4 : ¬ ((Sum.inr ("at" : Str) : Key) = Sum.inr ("rest" : Str)) := inr_ne kAR
  have e5 : ¬ ((Sum.inr ("at" : Str) : Key) = Sum.inr ("state" : Str)) := inr_ne kAS
  have e6 : ¬ ((Sum.inr ("rest" : Str) : Key) = Sum.inr ("state" : Str)) := inr_ne kRS
  unfold mergeK bagK putK
  simp [e1, e2, e3, e4, e5, e6]
/-- what holds of a bag at d whose cells stand at c -/
structure BagN (c : Addr) (ns : List Int) (i : Nat) (r st : Int) : Prop where
  hi : i ≤ ns.length
  r0 : 0 ≤ r
  s0 : 0 ≤ st
  s1 : st < 2147483647
def BagIs (o : HO) (c : Addr) (ns : List Int) : Prop := ∃ (i : Nat) (r st : Int), o = .dK (bagK c i r st) ∧ BagN c ns i r st
/-- a bag stands at d -/
def Bag (H : Hp) (d : Addr) : Prop := ∃ (c : Addr) (ns : List Int) (o : HO), H d = some o ∧ BagIs o c ns ∧ H c = some (.lst (ns.map V.int)) ∧ ns.length ≤ 63
theorem Bag.ne {H : Hp} {d b : Addr} {o : HO} (B : Bag H d) (h : H b = some o) (n : ∀ kvs, o ≠ .dK kvs) : b ≠ d := by
  obtain ⟨c, ns, o', hd, ⟨i, r, st, e, _⟩, _⟩ := B
  subst e
  exact ne_of h hd (n _)
theorem Bag.same {H H' : Hp} {d : Addr} (B : Bag H d) (s : Same H H') : Bag H' d := by
  obtain ⟨c, ns, o, hd, bi, hc, hl⟩ := B
  exact ⟨c, ns, o, s _ _ hd, bi, s _ _ hc, hl⟩
theorem Bag.there {H : Hp} {d : Addr} (B : Bag H d) : ∃ o, H d = some o := by
  obtain ⟨c, ns, o, hd, _⟩ := B
  exact ⟨o, hd⟩
theorem upd_self {H : Hp} {a : Addr} {o : HO} (h : H a = some o) : upd H a o = H := by
  funext b
  by_cases e : b = a
  · subst e; rw [upd_same, h]
  · rw [upd_ne e]
/-- draw: an int below the limit, the bag goes on, nothing else is touched -/
def spDraw : Sp := fun vs H Q _ => ∃ (d : Addr) (n : Int), vs = [.ref d, .int n] ∧ Bag H d ∧ 0 < n ∧ n < 1073741824 ∧
  ∀ (z : Int) (o : HO), 0 ≤ z → z < n → Bag (upd H d o) d → Q (.int z) (upd H d o)
/-- the bag's cells stand at c -/
def CellsAt (H : Hp) (d c : Addr) : Prop := ∃ (i : Nat) (r st : Int), H d = some (.dK (bagK c i r st))
theorem cells_one {H : Hp} {d c c' : Addr} (h : CellsAt H d c) (h' : CellsAt H d c') : c = c' := by
  obtain ⟨i, r, st, e⟩ := h
  obtain ⟨i', r', st', e'⟩ := h'
  rw [e] at e'
  have q : bagK c i r st = bagK c' i' r' st' := by injection e' with q; injection q
  have a := bag_cells c i r st
  rw [q, bag_cells] at a
  injection a with a
  injection a with a
  exact a.symm
theorem CellsAt.same {H H' : Hp} {d c : Addr} (h : CellsAt H d c) (s : Same H H') : CellsAt H' d c := by
  obtain ⟨i, r, st, e⟩ := h
  exact ⟨i, r, st, s _ _ e⟩
/-- draw, told with the cells -/
def spDrawC : Sp := fun vs H Q _ => ∃ (d : Addr) (n : Int), vs = [.ref d, .int n] ∧ Bag H d ∧ 0 < n ∧ n < 1073741824 ∧
  ∀ (z : Int) (o : HO), 0 ≤ z → z < n → Bag (upd H d o) d → (∀ c, CellsAt H d c → CellsAt (upd H d o) d c) → Q (.int z) (upd H d o)
theorem dg_cells {H : Hp} {d c : Addr} {i r st : Int} (h : H d = some (.dK (bagK c i r st))) : DGet H d (.str "cells") (some (.ref c)) := .inl ⟨_, Sum.inr "cells", .inl h, rfl, (bag_cells c i r st).symm⟩
theorem dg_at {H : Hp} {d c : Addr} {i r st : Int} (h : H d = some (.dK (bagK c i r st))) : DGet H d (.str "at") (some (.int i)) := .inl ⟨_, Sum.inr "at", .inl h, rfl, (bag_at c i r st).symm⟩
theorem dg_rest {H : Hp} {d c : Addr} {i r st : Int} (h : H d = some (.dK (bagK c i r st))) : DGet H d (.str "rest") (some (.int r)) := .inl ⟨_, Sum.inr "rest", .inl h, rfl, (bag_rest c i r st).symm⟩
theorem dg_state {H : Hp} {d c : Addr} {i r st : Int} (h : H d = some (.dK (bagK c i r st))) : DGet H d (.str "state") (some (.int st)) := .inl ⟨_, Sum.inr "state", .inl h, rfl, (bag_state c i r st).symm⟩
theorem dp_at {H : Hp} {d c : Addr} {i r st : Int} (j : Int) (h : H d = some (.dK (bagK c i r st))) : DPut H d (.str "at") (.int j) (upd H d (.dK (bagK c j r st))) := by
  have := DPut.k (k := Sum.inr "at") (v := V.int j) h (bagK_len c i r st)
  rw [put_at] at this
  exact this
theorem dp_rest {H : Hp} {d c : Addr} {i r st : Int} (j : Int) (h : H d = some (.dK (bagK c i r st))) : DPut H d (.str "rest") (.int j) (upd H d (.dK (bagK c i j st))) := by
  have := DPut.k (k := Sum.inr "rest") (v := V.int j) h (bagK_len c i r st)
  rw [put_rest] at this
  exact this
theorem dp_state {H : Hp} {d c : Addr} {i r st : Int} (j : Int) (h : H d = some (.dK (bagK c i r st))) : DPut H d (.str "state") (.int j) (upd H d (.dK (bagK c i r j))) := by
  have := DPut.k (k := Sum.inr "state") (v := V.int j) h (bagK_len c i r st)
  rw [put_state] at this
  exact this
theorem while_inv {c : TT} {tb : TS} {D : Ends} {σ : L2.St} {H : Hp} (W : Nat → L2.St → Hp → Prop) (h0 : ∃ m, W m σ H) (hexit : ∀ m σ H, W m σ H → D.nx σ H)
    (hturn : (∀ m σ H, W m σ H → D.nx σ H) → ∀ m σ H, W m σ H → c σ H fun b H1 => if b = true then ∃ N : L2.St → Hp → Prop, (∀ σ' H', N σ' H' → ∃ m', m' < m ∧ W m' σ' H') ∧ tb { D with nx := N, ct := N, bk := D.nx } σ H1 else D.nx σ H1) : tWhile c tb D σ H :=
  ⟨W, h0, hturn hexit⟩
section
variable {P : Program} {w : World} {K : PySem.W.Frag} {mg : Str → Option Value} {base : Heap} {a : Adr}
set_option maxHeartbeats 4000000
theorem ok_drawC (T : Txt K mg a) : FnR P w K mg base CX0 1 a._law_draw spDrawC := by
  refine T.d__law_draw.ok sc__law_draw (fun _ _ _ _ _ _ us hl => match us, hl with | [_, _], _ => rfl) (fun vs H Q E h => ?_) (fun cdv A outer s H vs Q E hr h => ?_)
  · obtain ⟨d, n, rfl, _⟩ := h
    rfl
  · obtain ⟨d, n, rfl, B, hn, hn2, k⟩ := h
    have hu := hu_of hr
    have pos1 : (0 : Int) < 2147483647 := by decide
    have pos2 : (0 : Int) < 2147483629 := by decide
    refine ⟨_, (pss_cons (ps_while PassesOwn.never (PW.pt (pw_and (pt_cmpR op_lt (pe_dget hu (pv 0) pe_str (fun _ _ => rfl)) pe_int (nomark _)) (pw_and1 (pt_cmpR op_lt (pe_dget hu (pv 0) pe_str (fun _ _ => rfl)) (pe_callB call_len_seq (by rfl) T.n_len (by decide +kernel) (pa_cons (pe_dget hu (pv 0) pe_str (fun _ _ => rfl)) pa_nil)) (nomark _)))))
          (pss_cons (ps_set (i := 2) sc__law_draw.nd rfl (Or.inl rfl) (pe_callB call_abs (by rfl) T.n_abs (by decide +kernel) (pa_cons (pe_ix ix_list (pe_dget hu (pv 0) pe_str (fun _ _ => rfl)) (pe_dget hu (pv 0) pe_str (fun _ _ => rfl)) (fun _ _ => rfl)) pa_nil)))
          (pss_cons (ps_dput hu (pv 0) pe_str (pe_op op_add (pe_dget hu (pv 0) pe_str (fun _ _ => rfl)) pe_int) rfl)
          (pss_cons (ps_if (pt_cmpR op_lt (pv 2) (pe_op op_pow pe_int pe_int) (nomark _))
              (pss_cons (ps_set (i := 3) sc__law_draw.nd rfl (Or.inl rfl) (pe_op op_mod (pe_callTy call_int1 (by rfl) T.n_int (by decide +kernel) (pa_cons (pe_op op_add (pe_op op_pow (pe_op op_add (pv 2) pe_int) pe_int) (pe_op op_mul (pe_dget hu (pv 0) pe_str (fun _ _ => rfl)) (pe_op op_add (pe_dget hu (pv 0) pe_str (fun _ _ => rfl)) pe_int))) pa_nil)) pe_int))
              (pss_one (ps_ret (pe_op op_mod (pv 3) (pv 1)))))
              pss_nil)
          (pss_one (ps_dput hu (pv 0) pe_str (pv 2) rfl))))))
      (pss_cons (ps_if (pt_cmpR op_ge (pe_dget hu (pv 0) pe_str (fun _ _ => rfl)) pe_int (nomark _))
          (pss_cons (ps_set (i := 4) sc__law_draw.nd rfl (Or.inl rfl) (pe_op op_mod (pe_callTy call_int1 (by rfl) T.n_int (by decide +kernel) (pa_cons (pe_dget hu (pv 0) pe_str (fun _ _ => rfl)) pa_nil)) (pv 1)))
          (pss_cons (ps_dput hu (pv 0) pe_str (pe_op op_fdiv (pe_dget hu (pv 0) pe_str (fun _ _ => rfl)) (pv 1)) rfl)
          (pss_one (ps_ret (pv 4)))))
          pss_nil)
      (pss_cons (ps_dput hu (pv 0) pe_str (pe_op op_mod (pe_callTy call_int1 (by rfl) T.n_int (by decide +kernel) (pa_cons (pe_op op_add (pe_op op_mul (pe_dget hu (pv 0) pe_str (fun _ _ => rfl)) pe_int) pe_int) pa_nil)) pe_int) rfl)
      (pss_one (ps_ret (pe_op op_mod (pe_op op_mod (pe_callTy call_int1 (by rfl) T.n_int (by decide +kernel) (pa_cons (pe_op op_pow (pe_dget hu (pv 0) pe_str (fun _ _ => rfl)) pe_int) pa_nil)) pe_int) (pv 1))))))), ?_⟩
    obtain ⟨c, ns, o, hd, ⟨i0, r0, st0, eo, N0⟩, hc, hns⟩ := B
    subst eo
    have hcd : c ≠ d := ne_of hc hd (fun z => by cases z)
    have bagU : ∀ (i : Nat) (r st : Int), BagN c ns i r st → Bag (upd H d (.dK (bagK c i r st))) d := fun i r st N =>
      ⟨c, ns, _, upd_same, ⟨i, r, st, rfl, N⟩, by rw [upd_ne hcd]; exact hc, hns⟩
    have kk : ∀ (z : Int) (i : Nat) (r st : Int), 0 ≤ z → z < n → BagN c ns i r st → Q (.int z) (upd H d (.dK (bagK c i r st))) := fun z i r st h0 h1 N => k z _ h0 h1 (bagU i r st N) fun c' hc' => by
      rw [cells_one hc' ⟨i0, r0, st0, hd⟩]
      exact ⟨i, r, st, upd_same⟩
    refine while_inv (fun m σ H' => ∃ (i : Nat) (r st : Int) (v2 v3 v4 : Option V), m = ns.length - i ∧ σ = [some (.ref d), some (.int n), v2, v3, v4] ∧ H' = upd H d (.dK (bagK c i r st)) ∧ BagN c ns i r st)
      ⟨_, i0, r0, st0, _, _, _, rfl, rfl, (upd_self hd).symm, N0⟩ ?_ ?_
    · -- behind the loop
      rintro m σ H' ⟨i, r, st, v2, v3, v4, _, rfl, rfl, N⟩
      refine ⟨_, rfl, d, _, rfl, dg_rest upd_same, _, _, rfl, rfl, _, rfl, ?_⟩
      refine ite2 (fun hb => ?_) (fun hb => ?_)
      · have h2 : 2 ≤ r := of_decide_eq_true hb
        refine ⟨_, rfl, d, _, rfl, dg_rest upd_same, .inl ⟨_, rfl, _, rfl, _, _, rfl, rfl, hn, ?_⟩⟩
        refine ⟨_, rfl, d, _, rfl, dg_rest upd_same, _, rfl, _, _, rfl, rfl, ⟨hn, hn2⟩, _, rfl, d, _, rfl, dp_rest _ upd_same, ?_⟩
        rw [upd_upd]
        refine ⟨_, rfl, kk _ i _ st (Int.emod_nonneg _ (by omega)) (Int.emod_lt_of_pos _ hn) ⟨N.hi, Int.ediv_nonneg N.r0 (by omega), N.s0, N.s1⟩⟩
      · have s64 : (-(2 ^ 64) < st ∧ st < 2 ^ 64) := ⟨by have := N.s0; omega, by have := N.s1; omega⟩
        refine ⟨_, rfl, d, _, rfl, dg_state upd_same, _, _, rfl, rfl, .inl s64, _, _, rfl, rfl, .inl ⟨_, rfl, _, _, rfl, rfl, pos1, _, rfl, d, _, rfl, dp_state _ upd_same, ?_⟩⟩
        rw [upd_upd]
        have t0 : 0 ≤ (st * 48271 + 13) % 2147483647 := Int.emod_nonneg _ (by decide)
        have t1 : (st * 48271 + 13) % 2147483647 < 2147483647 := Int.emod_lt_of_pos _ (by decide)
        refine ⟨_, rfl, d, _, rfl, dg_state upd_same, _, _, rfl, rfl, ⟨by decide, by decide, by omega⟩, .inl ⟨_, rfl, _, _, rfl, rfl, pos2, _, rfl, _, _, rfl, rfl, hn, ?_⟩⟩
        exact kk _ i _ _ (Int.emod_nonneg _ (by omega)) (Int.emod_lt_of_pos _ hn) ⟨N.hi, N.r0, t0, t1⟩
    · rintro ex m σ H' ⟨i, r, st, v2, v3, v4, rfl, rfl, rfl, N⟩
      have hc' : ∀ o, (upd H d o) c = some (.lst (ns.map V.int)) := fun o => by rw [upd_ne hcd]; exact hc
      refine ⟨_, rfl, d, _, rfl, dg_rest upd_same, _, _, rfl, rfl, _, rfl, ?_⟩
      refine ite2 (fun hb => ?_) (fun hb => iteF (ex _ _ _ ⟨i, r, st, v2, v3, v4, rfl, rfl, rfl, N⟩))
      refine ⟨_, rfl, d, _, rfl, dg_at upd_same, _, rfl, d, _, rfl, dg_cells upd_same, c, _, rfl, .inl (SqL.of (hc' _)), _, _, rfl, rfl, _, rfl, ?_⟩
      refine ite2 (fun hb2 => ?_) (fun hb2 => ex _ _ _ ⟨i, r, st, v2, v3, v4, rfl, rfl, rfl, N⟩)
      have hil : i < ns.length := by
        have := of_decide_eq_true hb2
        rw [List.length_map] at this
        omega
      refine ⟨fun σ' H' => ∃ m', m' < ns.length - i ∧ ∃ (i : Nat) (r st : Int) (v2 v3 v4 : Option V), m' = ns.length - i ∧ σ' = [some (.ref d), some (.int n), v2, v3, v4] ∧ H' = upd H d (.dK (bagK c i r st)) ∧ BagN c ns i r st, fun _ _ h => h, ?_⟩
      -- cell = abs(cells[at]); at = at + 1
      have ei : (ns.map V.int)[i]? = some (V.int ns[i]) := by simp [hil]
      have s64 : (-(2 ^ 64) < st ∧ st < 2 ^ 64) := ⟨by have := N.s0; omega, by have := N.s1; omega⟩
      have ea : (i : Int) + 1 = ((i + 1 : Nat) : Int) := by omega
      refine ⟨_, rfl, d, _, rfl, dg_cells upd_same, _, rfl, d, _, rfl, dg_at upd_same, c, _, _, _, rfl, rfl, SqL.of (hc' _), atI_nat ei, _, rfl, ?_⟩
      have hc0 : 0 ≤ (if ns[i] < 0 then -ns[i] else ns[i]) := by split <;> omega
      generalize (if ns[i] < 0 then -ns[i] else ns[i]) = cell at hc0
      refine ⟨_, rfl, d, _, rfl, dg_at upd_same, _, _, rfl, rfl, _, rfl, d, _, rfl, dp_at _ upd_same, ?_⟩
      rw [upd_upd, ea]
      refine ⟨_, rfl, _, _, rfl, rfl, ⟨by decide, by decide, by decide⟩, _, _, rfl, rfl, _, rfl, ?_⟩
      refine ite2 (fun h18 => ?_) (fun h18 => ?_)
      · have h18' : cell < 10 ^ 18 := of_decide_eq_true h18
        have hq : (10 : Int) ^ 18 = 1000000000000000000 := by decide
        rw [hq] at h18'
        refine ⟨_, rfl, _, _, rfl, rfl, _, _, rfl, rfl, ⟨by decide, by decide, by omega⟩, _, rfl, d, _, rfl, dg_state upd_same, _, rfl, d, _, rfl, dg_at upd_same, _, _, rfl, rfl, _, _, rfl, rfl, .inl s64, _, _, rfl, rfl, .inl ⟨_, rfl, _, _, rfl, rfl, pos2, ?_⟩⟩
        refine ⟨_, rfl, _, rfl, _, _, rfl, rfl, hn, ?_⟩
        exact kk _ (i + 1) _ _ (Int.emod_nonneg _ (by omega)) (Int.emod_lt_of_pos _ hn) ⟨hil, N.r0, N.s0, N.s1⟩
      · refine ⟨_, rfl, _, rfl, d, _, rfl, dp_rest _ upd_same, ?_⟩
        rw [upd_upd]
        exact ⟨_, Nat.sub_lt_sub_left hil (Nat.lt_succ_self i), i + 1, cell, st, _, _, _, rfl, rfl, rfl, ⟨hil, hc0, N.s0, N.s1⟩⟩
theorem ok_draw (T : Txt K mg a) : FnR P w K mg base CX0 1 a._law_draw spDraw := (ok_drawC T).imp fun vs H Q E h => by
  obtain ⟨d, n, rfl, B, h1, h2, k⟩ := h
  exact ⟨d, n, rfl, B, h1, h2, fun z o a b c _ => k z o a b c⟩
/-- bag: a new bag of the script -/
def spBag (K : PySem.W.Frag) : Sp := fun vs H Q _ => ∃ (sa : Addr) (ns : List Int), vs = [.ref sa] ∧ SqL K H sa (ns.map V.int) ∧ ns.length ≤ 63 ∧
  ∀ (d : Addr) (H' : Hp), Same H H' → H d = none → Bag H' d → Q (.ref d) H'
theorem cut63 {ns : List Int} (h : ns.length ≤ 63) : cutV (ns.map V.int) none (some 63) = ns.map V.int := by
  have e1 : HT.sIx (ns.map V.int).length 0 none = 0 := rfl
  have e2 : (ns.map V.int).length ≤ HT.sIx (ns.map V.int).length (ns.map V.int).length (some 63) := by
    rw [List.length_map]
    unfold HT.sIx
    simp
    omega
  unfold cutV
  rw [e1, List.drop_zero, Nat.sub_zero]
  exact List.take_of_length_le e2
theorem ok_bag (T : Txt K mg a) : FnR P w K mg base CX0 1 a._law_bag (spBag K) := by
  refine T.d__law_bag.ok sc__law_bag (fun _ _ _ _ _ _ us hl => match us, hl with | [_], _ => rfl) (fun vs H Q E h => ?_) (fun cdv A outer s H vs Q E hr h => ?_)
  · obtain ⟨sa, ns, rfl, _⟩ := h
    rfl
  · obtain ⟨sa, ns, rfl, hS, hns, k⟩ := h
    have hu := hu_of hr
    have pos1 : (0 : Int) < 2147483647 := by decide
    have pos2 : (0 : Int) < 2147483629 := by decide
    refine ⟨_, (pss_cons (ps_set (i := 1) sc__law_bag.nd rfl (Or.inl rfl) pe_int)
      (pss_cons (ps_for PassesOwn.never rfl (pi_list (pe_slice sl_list (pv 0) po_none (po_some pe_int))) (pg_name (i := 2) sc__law_bag.nd rfl (Or.inl rfl))
          (pss_one (ps_set (i := 1) sc__law_bag.nd rfl (Or.inl rfl) (pe_op op_mod (pe_callTy call_int1 (by rfl) T.n_int (by decide +kernel) (pa_cons (pe_op op_add (pe_op op_add (pe_op op_mul (pv 1) pe_int) (pe_op op_mod (pe_callB call_abs (by rfl) T.n_abs (by decide +kernel) (pa_cons (pv 2) pa_nil)) pe_int)) pe_int) pa_nil)) pe_int))))
      (pss_one (ps_ret (pe_disp (pps_cons pe_str (pe_callTy call_list_of (by rfl) T.n_list (by decide +kernel) (pa_cons (pe_slice sl_list (pv 0) po_none (po_some pe_int)) pa_nil)) (pps_cons pe_str pe_int (pps_cons pe_str pe_int (pps_cons pe_str (pv 1) pps_nil)))) (by rfl) (by rfl) (fun z => by cases z) (by decide)))))), ?_⟩
    refine ⟨_, rfl, _, rfl, sa, _, rfl, hS, fun p hp => ?_⟩
    rw [cut63 hns]
    refine ⟨p, rfl, ⟨_, SqL.of upd_same⟩, for_list (K := K) (a := p) (xs := ns.map V.int) (fun i σ H' => ∃ (st : Int) (v : Option V), σ = [some (.ref sa), some (.int st), v] ∧ H' = upd H p (.lst (ns.map V.int)) ∧ 0 ≤ st ∧ st < 2147483647)
      ⟨7, none, rfl, rfl, by decide, by decide⟩ (fun i σ H' _ ⟨_, _, _, e, _⟩ => by rw [e]; exact SqL.of upd_same) ?_ ?_⟩
    · rintro i y σ H' hi ⟨st, v, rfl, rfl, s0, s1⟩
      obtain ⟨z, rfl⟩ : ∃ z, y = V.int z := by
        rw [List.getElem?_map] at hi
        cases e : ns[i]? with
        | none =>
          rw [e] at hi
          cases hi
        | some z =>
          rw [e] at hi
          exact ⟨z, (Option.some.inj hi).symm⟩
      have s64 : (-(2 ^ 64) < st ∧ st < 2 ^ 64) := ⟨by omega, by omega⟩
      refine ⟨_, rfl, _, _, rfl, rfl, .inl s64, _, rfl, _, rfl, _, _, rfl, rfl, pos2, _, _, rfl, rfl, _, _, rfl, rfl, .inl ⟨_, rfl, _, _, rfl, rfl, pos1, ?_⟩⟩
      exact ⟨_, _, rfl, rfl, Int.emod_nonneg _ (by decide), Int.emod_lt_of_pos _ pos1⟩
    · rintro σ H' ⟨st, v, rfl, rfl, s0, s1⟩
      have s1' : Same H (upd H p (.lst (ns.map V.int))) := fun b o e => by rw [upd_ne (ne_of_none e hp)]; exact e
      intro d hd
      have hdp : p ≠ d := ne_of_none (upd_same (H := H) (o := .lst (ns.map V.int))) hd
      have hd0 : H d = none := s1'.free hd
      have hS2 : SqL K (upd (upd H p (.lst (ns.map V.int))) d (.dK [])) sa (ns.map V.int) := by
        refine Same.seq (fun b o e => ?_) (s1'.seq hS)
        rw [upd_ne (ne_of_none e hd)]
        exact e
      refine ⟨_, rfl, _, rfl, sa, _, rfl, hS2, fun p2 hp2 => ?_⟩
      rw [cut63 hns]
      refine ⟨p2, _, rfl, .inl (SqL.of upd_same), fun l hl => ?_⟩
      have hpd : p2 ≠ d := fun e => by rw [e, upd_same] at hp2; cases hp2
      have hld : l ≠ d := fun e => by rw [e, upd_ne (fun z => hpd z.symm), upd_same] at hl; cases hl
      refine ⟨_, rfl, by rw [upd_ne (fun z => hld z.symm), upd_ne (fun z => hpd z.symm), upd_same], bagK l 0 0 st, rfl, (by show 4 ≤ 15; decide), ?_⟩
      rw [merge_bag]
      refine k d _ (fun b o e => ?_) hd0 ⟨l, ns, _, upd_same, ⟨0, 0, st, rfl, ⟨Nat.zero_le _, Int.le_refl _, s0, s1⟩⟩, by rw [upd_ne hld, upd_same], hns⟩
      have e1 := s1' _ _ e
      have nb : b ≠ d := ne_of_none e1 hd
      have e2 : (upd (upd H p (.lst (ns.map V.int))) d (.dK [])) b = some o := by rw [upd_ne nb]; exact e1
      have e3 : (upd (upd (upd H p (.lst (ns.map V.int))) d (.dK [])) p2 (.lst (ns.map V.int))) b = some o := by rw [upd_ne (ne_of_none e2 hp2)]; exact e2
      rw [upd_ne nb, upd_ne (ne_of_none e3 hl)]
      exact e3
end
end Pf
end
section
namespace Pf
open PySem PySem.Spec PyProof.Rows L2 Ow StX
open SX (S)
/-! ### numbers as they are written -/
def isDig (c : Nat) : Bool := decide (48 ≤ c) && decide (c ≤ 57)
theorem low_dig {c : Nat} (h : c < 128) : Unicode.isDigit c = isDig c := by
  have z : ∀ c : Fin 128, Unicode.isDigit c.val = isDig c.val := by decide +kernel
  exact z ⟨c, h⟩
def LowL (r : List Nat) : Prop := ∀ c ∈ r, c < 128
theorem low_ascii {r : List Nat} (h : LowL r) : Txt.isascii (S r) = true := by
  show ((S r).cps.all fun c => decide (c < 128)) = true
  rw [← Array.all_toList]
  exact List.all_eq_true.mpr fun c hc => decide_eq_true (h c hc)
theorem low_digit {r : List Nat} (h : LowL r) : Txt.isdigit (S r) = (decide (1 ≤ r.length) && r.all isDig) := by
  show (decide ((S r).length > 0) && (S r).cps.all fun c => Unicode.isDigit c) = _
  rw [SX.S_len, ← Array.all_toList]
  congr 1
  rw [Bool.eq_iff_iff, List.all_eq_true, List.all_eq_true]
  exact ⟨fun z c hc => by rw [← low_dig (h c hc)]; exact z c hc, fun z c hc => by rw [low_dig (h c hc)]; exact z c hc⟩
/-- a word without its sign -/
def bod : List Nat → List Nat
  | 45 :: t => t
  | w => w
theorem bod_neg (t : List Nat) : bod (45 :: t) = t := rfl
theorem bod_pos {w : List Nat} (h : w[0]? ≠ some 45) : bod w = w := by
  cases w with
  | nil => rfl
  | cons c t =>
    have hc : c ≠ 45 := fun z => h (by rw [z]; rfl)
    unfold bod
    split
    · rename_i e
      exact absurd (List.cons.inj e).1 hc
    · rfl
theorem bod_len (w : List Nat) : (bod w).length ≤ w.length := by
  unfold bod
  split
  · simp
  · omega
theorem bod_low {w : List Nat} (h : LowL w) : LowL (bod w) := by
  unfold bod
  split
  · exact fun c hc => h c (List.mem_cons_of_mem _ hc)
  · exact h
theorem bod_prefix (w : List Nat) : Txt.removeprefix (S w) (Str.ofString "-") = S (bod w) := by
  have e45 : Str.ofString "-" = S [45] := by decide +kernel
  rw [e45, StrLaws.removeprefix_eq]
  have e1 : (S [45]).length = 1 := rfl
  cases w with
  | nil =>
    rw [if_neg]
    · rfl
    · have : (S ([] : List Nat)).length = 0 := rfl
      rw [this, e1]
      decide
  | cons c t =>
    have sa : Builtin.Str.subAt (S (c :: t)) (S [45]) 0 = decide (c = 45) := by
      show ((S (c :: t)).cps.extract 0 (0 + 1) == (S [45]).cps) = _
      have : (S (c :: t)).cps.extract 0 (0 + 1) = #[c] := by
        apply Array.ext'
        simp
      rw [this, Bool.eq_iff_iff, beq_iff_eq, decide_eq_true_eq]
      constructor
      · intro h
        have := congrArg Array.toList h
        simpa using this
      · rintro rfl
        rfl
    have e2 : (S (c :: t)).length = t.length + 1 := SX.S_len _
    rw [sa, e1, e2]
    by_cases hc : c = 45
    · subst hc
      rw [if_pos (by simp)]
      show S ((t).take (t.length + 1 - 1)) = S t
      simp
    · rw [if_neg (by simp [hc]), bod_pos (by simpa using hc)]
/-- a number, as both the program and the law read one -/
def isNum (w : List Nat) : Bool := (decide (1 ≤ (bod w).length) && (bod w).all isDig) && decide ((bod w).length ≤ 60) && (decide (w = [48]) || !decide ((bod w)[0]? = some 48))
def numV (w : List Nat) : Int := if w[0]? = some 45 then -((NumText.digitsVal (bod w) : Nat) : Int) else ((NumText.digitsVal (bod w) : Nat) : Int)
theorem digs_of {r : List Nat} (h : r.all isDig = true) : NumText.AllDigits r := fun c hc => by
  have := List.all_eq_true.mp h c hc
  unfold isDig at this
  simpa using this
theorem int_of {w : List Nat} (h1 : 1 ≤ (bod w).length) (h2 : (bod w).all isDig = true) (h3 : (bod w).length ≤ 60) : intText? (S w) = some (numV w) ∧ (S w).length ≤ 640 := by
  have ne : bod w ≠ [] := fun e => by rw [e] at h1; exact absurd h1 (by decide)
  have hd := digs_of h2
  by_cases hw : w[0]? = some 45
  · cases w with
    | nil => cases hw
    | cons c t =>
      obtain rfl : c = 45 := by simpa using hw
      have hl : (S (45 :: t)).length ≤ 61 := by
        rw [SX.S_len]
        have h3 : t.length ≤ 60 := h3
        simp; omega
      refine ⟨?_, by omega⟩
      have := intText_neg (x := S (45 :: t)) (cs := t) rfl hd ne (by omega)
      rw [this]
      unfold numV
      rw [if_pos (by rfl)]
      rfl
  · have eb := bod_pos hw
    rw [eb] at h1 h2 h3 ne hd
    have hl : (S w).length ≤ 61 := by rw [SX.S_len]; omega
    refine ⟨?_, by omega⟩
    have := intText_digits (x := S w) hd ne (by omega)
    rw [this]
    unfold numV
    rw [if_neg hw, eb]
theorem val_snoc (l : List Nat) (c : Nat) : NumText.digitsVal (l ++ [c]) = NumText.digitsVal l * 10 + (c - 48) := by
  unfold NumText.digitsVal
  rw [List.foldl_append]
  rfl
theorem val_pos : ∀ (l : List Nat) (c : Nat), NumText.AllDigits (c :: l) → c ≠ 48 → 0 < NumText.digitsVal (c :: l) := by
  intro l c h hc
  have hh := h.head
  have key : ∀ (l : List Nat) (a : Nat), 0 < a → 0 < l.foldl (fun acc c => acc * 10 + (c - 48)) a := by
    intro l
    induction l with
    | nil => exact fun a h => h
    | cons d t ih => exact fun a h => ih _ (by show 0 < a * 10 + (d - 48); omega)
  refine key l _ ?_
  show 0 < 0 * 10 + (c - 48)
  omega
/-- a row of digits that does not begin with 0 is its number's writing -/
theorem numL_back : ∀ (n : Nat) (l : List Nat), l.length = n → NumText.AllDigits l → l ≠ [] → l[0]? ≠ some 48 → TL.numL (NumText.digitsVal l) = l := by
  intro n
  induction n with
  | zero => intro l hl _ ne; exact absurd (List.length_eq_zero_iff.mp hl) ne
  | succ n ih =>
    intro l hl hd ne h0
    obtain ⟨p, c, rfl⟩ : ∃ p c, l = p ++ [c] := ⟨l.dropLast, l.getLast ne, (List.dropLast_concat_getLast ne).symm⟩
    have hc := hd c (List.mem_append_right _ List.mem_cons_self)
    rw [val_snoc]
    cases p with
    | nil =>
      have e0 : NumText.digitsVal [] = 0 := rfl
      rw [e0, TL.numL_lt (by omega)]
      show [48 + (0 * 10 + (c - 48))] = [c]
      rw [show 48 + (0 * 10 + (c - 48)) = c from by omega]
    | cons d t =>
      have hp : NumText.AllDigits (d :: t) := fun x hx => hd x (List.mem_append_left _ hx)
      have hd0 : d ≠ 48 := fun z => h0 (by rw [z]; rfl)
      have vp := val_pos t d hp hd0
      have r := ih (d :: t) (by simp at hl ⊢; omega) hp (by simp) (by simpa using hd0)
      rw [TL.numL_step (by omega), show (NumText.digitsVal (d :: t) * 10 + (c - 48)) / 10 = NumText.digitsVal (d :: t) from by omega, show (NumText.digitsVal (d :: t) * 10 + (c - 48)) % 10 = c - 48 from by omega, r]
      rw [show 48 + (c - 48) = c from by omega]
theorem numL_head {n : Nat} (h : 0 < n) : (TL.numL n)[0]? ≠ some 48 := by
  induction n using Nat.strongRecOn with
  | _ n ih =>
    by_cases h1 : n < 10
    · rw [TL.numL_lt h1]
      intro z
      have : 48 + n = 48 := by simpa using z
      omega
    · rw [TL.numL_step (by omega)]
      have r := ih (n / 10) (by omega) (by omega)
      have ne := TL.numL_ne (n / 10)
      cases e : TL.numL (n / 10) with
      | nil => exact absurd e ne
      | cons a b => rw [e] at r; simpa using r
/-- the signs of an integer -/
def cds (n : Int) : List Nat := if 0 ≤ n then TL.numL n.toNat else 45 :: TL.numL (-n).toNat
theorem txt_cds (n : Int) : Str.ofString (toString n) = S (cds n) := by
  refine TL.ext_tl ?_
  unfold cds
  by_cases h : 0 ≤ n
  · obtain ⟨m, rfl⟩ := Int.eq_ofNat_of_zero_le h
    rw [if_pos h]
    exact TL.tl_num m
  · rw [if_neg h]
    obtain ⟨m, rfl⟩ : ∃ m : Nat, n = -((m : Int) + 1) := ⟨(-n - 1).toNat, by omega⟩
    have e : (-(-((m : Int) + 1))).toNat = m + 1 := by omega
    rw [e]
    have q := TL.tl_num (m + 1)
    rw [show (toString (((m + 1 : Nat) : Nat) : Int)) = Nat.repr (m + 1) from rfl] at q
    show (Str.ofString (toString (-((m : Int) + 1)))).cps.toList = 45 :: TL.numL (m + 1)
    rw [PyProof.Rows.signs_ofString]
    have e2 : toString (-((m : Int) + 1)) = "-" ++ Nat.repr (m + 1) := by
      rw [show -((m : Int) + 1) = Int.negSucc m from by omega]
      rfl
    rw [e2, String.toList_append, List.map_append]
    have q2 : (Nat.repr (m + 1)).toList.map Char.toNat = TL.numL (m + 1) := by
      rw [← q]
      exact (PyProof.Rows.signs_ofString _).symm
    rw [q2]
    rfl
theorem cds_low (n : Int) : LowL (cds n) := by
  unfold cds
  have d : ∀ m : Nat, LowL (TL.numL m) := fun m c hc => by have := TL.numL_digits m c hc; omega
  split
  · exact d _
  · intro c hc
    rcases List.mem_cons.mp hc with rfl | hc
    · decide
    · exact d _ c hc
theorem cds_free (n : Int) {s : Nat} (h : s < 45) : s ∉ cds n := fun hm => by
  unfold cds at hm
  split at hm
  · have := TL.numL_digits _ s hm; omega
  · rcases List.mem_cons.mp hm with rfl | hm
    · omega
    · have := TL.numL_digits _ s hm; omega
theorem cds_bod (n : Int) : bod (cds n) = TL.numL n.natAbs := by
  unfold cds
  by_cases h : 0 ≤ n
  · rw [if_pos h, show n.natAbs = n.toNat from by omega, bod_pos]
    intro z
    have := TL.numL_digits n.toNat 45 (List.mem_of_getElem? z)
    omega
  · rw [if_neg h, bod_neg, show (-n).toNat = n.natAbs from by omega]
theorem cds_val (n : Int) : numV (cds n) = n := by
  unfold numV
  rw [cds_bod, TL.numL_val]
  by_cases h : 0 ≤ n
  · rw [if_neg, show ((n.natAbs : Nat) : Int) = n from by omega]
    unfold cds
    rw [if_pos h]
    intro z
    have := TL.numL_digits n.toNat 45 (List.mem_of_getElem? z)
    omega
  · rw [if_pos, show -((n.natAbs : Nat) : Int) = n from by omega]
    unfold cds
    rw [if_neg h]
    rfl
theorem cds_num {n : Int} (h : n.natAbs < 10 ^ 60) : isNum (cds n) = true := by
  have hl : (TL.numL n.natAbs).length ≤ 60 := TL.numL_len (by decide) h
  have hp : 1 ≤ (TL.numL n.natAbs).length := List.length_pos_iff.mpr (TL.numL_ne _)
  have hd : (TL.numL n.natAbs).all isDig = true := List.all_eq_true.mpr fun c hc => by
    have := TL.numL_digits n.natAbs c hc
    unfold isDig
    simp; omega
  unfold isNum
  rw [cds_bod, hd, decide_eq_true hl, decide_eq_true hp]
  by_cases h0 : n = 0
  · subst h0
    have : cds 0 = [48] := rfl
    rw [this]
    rfl
  · have := numL_head (n := n.natAbs) (by omega)
    rw [decide_eq_false this]
    simp
/-- what str(int(w)) == w tells -/
theorem back_num {w : List Nat} (h1 : 1 ≤ (bod w).length) (h2 : (bod w).all isDig = true) : (Str.ofString (toString (numV w)) == S w) = (decide (w = [48]) || !decide ((bod w)[0]? = some 48)) := by
  have hd := digs_of h2
  have ne : bod w ≠ [] := fun e => by rw [e] at h1; exact absurd h1 (by decide)
  rw [txt_cds, SX.S_beq_eq, Bool.eq_iff_iff]
  simp only [decide_eq_true_eq, Bool.or_eq_true, Bool.not_eq_true', decide_eq_false_iff_not]
  constructor
  · intro e
    by_cases hz : (bod w)[0]? = some 48
    · left
      have eb : bod w = TL.numL (numV w).natAbs := by rw [← cds_bod, e]
      by_cases h0 : (numV w).natAbs = 0
      · have : numV w = 0 := by omega
        rw [← e, this]
        rfl
      · exact absurd (eb ▸ hz) (numL_head (by omega))
    · exact .inr hz
  · rintro (rfl | hz)
    · rfl
    · have r := numL_back _ (bod w) rfl hd ne hz
      have vp : 0 < NumText.digitsVal (bod w) := by
        cases e : bod w with
        | nil => exact absurd e ne
        | cons d t =>
          rw [e] at hd hz
          exact val_pos t d hd fun z => hz (by rw [z]; rfl)
      unfold cds numV
      by_cases hw : w[0]? = some 45
      · rw [if_pos hw, if_neg (by omega), show (-(-((NumText.digitsVal (bod w) : Nat) : Int))).toNat = NumText.digitsVal (bod w) from by omega, r]
        cases w with
        | nil => cases hw
        | cons c t =>
          obtain rfl : c = 45 := by simpa using hw
          rfl
      · rw [if_neg hw, if_pos (by omega), Int.toNat_natCast, r, bod_pos hw]
theorem num_cds {w : List Nat} (h : isNum w = true) : cds (numV w) = w := by
  unfold isNum at h
  simp only [Bool.and_eq_true, decide_eq_true_eq] at h
  obtain ⟨⟨⟨h1, h2⟩, h3⟩, h4⟩ := h
  have z := back_num h1 h2
  rw [h4, txt_cds, SX.S_beq_eq, decide_eq_true_eq] at z
  exact z
structure Pl where
  s : Int
  o : Int
  d : Int
deriving DecidableEq
def wordsP (q : Pl) : List Str := if q.s = 0 ∧ q.d = 0 then ["left", Str.ofString (toString q.o)] else if q.s = 2 ∧ q.d = 1 then ["right", Str.ofString (toString (-q.o))] else if q.s = 1 ∧ q.d = 0 then ["middle", Str.ofString (toString q.o)] else ["place", Str.ofString (toString q.s), Str.ofString (toString q.o), Str.ofString (toString q.d)]
def LogP (q : Pl) : Prop := q.s.natAbs.log2 < 1000 ∧ q.o.natAbs.log2 < 1000 ∧ q.d.natAbs.log2 < 1000
abbrev plT (q : Pl) : Str := Txt.join " " (wordsP q)
/-! ### the words of a text, a place read -/
abbrev wds (r : List Nat) : List (List Nat) := TL.spl [32] 0 [] r
theorem spl_mem : ∀ (r acc : List Nat), ∀ p ∈ TL.spl [32] 0 acc r, ∀ c ∈ p, c ∈ acc ∨ c ∈ r
  | [], acc, p, hp, c, hc => by
    rw [TL.spl_nil, List.mem_singleton] at hp
    subst hp
    exact .inl hc
  | d :: r, acc, p, hp, c, hc => by
    cases h : TL.pre [32] (d :: r) with
    | true =>
      rw [TL.spl_hit h] at hp
      rcases List.mem_cons.mp hp with rfl | hp
      · exact .inl hc
      · rcases spl_mem r [] p hp c hc with h | h
        · cases h
        · exact .inr (List.mem_cons_of_mem _ h)
    | false =>
      rw [TL.spl_miss h] at hp
      rcases spl_mem r (acc ++ [d]) p hp c hc with h | h
      · rcases List.mem_append.mp h with h | h
        · exact .inl h
        · rw [List.mem_singleton.mp h]
          exact .inr List.mem_cons_self
      · exact .inr (List.mem_cons_of_mem _ h)
theorem spS : Str.ofString " " = S [32] := by decide +kernel
theorem split_wds (r : List Nat) : Txt.split (S r) (Str.ofString " ") = (wds r).map S := by
  rw [spS]
  exact SX.split_S (by simp) (by decide)
theorem wds_low {r : List Nat} (h : LowL r) : ∀ p ∈ wds r, LowL p := fun p hp c hc => by
  rcases spl_mem r [] p hp c hc with z | z
  · cases z
  · exact h c z
theorem wds_len {r : List Nat} : (wds r).length ≤ r.length + 2 := by
  have h := split_le (S r) (Str.ofString " ")
  rw [split_wds, List.length_map, SX.S_len] at h
  exact h
theorem wds_pos {r : List Nat} : 1 ≤ (wds r).length := by
  have h := split_pos (S r) (Str.ofString " ")
  rw [split_wds, List.length_map] at h
  exact h
theorem wds_short {r p : List Nat} (h : p ∈ wds r) : p.length ≤ r.length := by
  have z := part_short (x := S r) (y := Str.ofString " ") (a := S p) (by rw [split_wds]; exact List.mem_map_of_mem h)
  rw [SX.S_len, SX.S_len] at z
  exact z
theorem join_wds (r : List Nat) : TL.joinL [32] (wds r) = r := by
  have h := StrLaws.join_split (S r) (Str.ofString " ")
  rw [split_wds, ← TL.join_eq, spS, SX.join_S] at h
  exact SX.S_inj h
theorem wds_join {rs : List (List Nat)} (h0 : rs ≠ []) (h : ∀ p ∈ rs, (32 : Nat) ∉ p) : wds (TL.joinL [32] rs) = rs := SX.spl_join h0 h
abbrev strsV (ws : List (List Nat)) : List V := ws.map fun w => V.str (S w)
theorem strsV_len (ws : List (List Nat)) : (strsV ws).length = ws.length := List.length_map ..
theorem strsV_at {ws : List (List Nat)} {k : Nat} {w : List Nat} (h : ws[k]? = some w) : (strsV ws)[k]? = some (.str (S w)) := by
  unfold strsV
  rw [List.getElem?_map, h]
  rfl
def cL : List Nat := (Str.ofString "left").cps.toList
def cR : List Nat := (Str.ofString "right").cps.toList
def cM : List Nat := (Str.ofString "middle").cps.toList
def cP : List Nat := (Str.ofString "place").cps.toList
/-- how many numbers follow a name -/
def many (w : List Nat) : Nat := if S w = Str.ofString "left" then 1 else if S w = Str.ofString "right" then 1 else if S w = Str.ofString "middle" then 1 else if S w = Str.ofString "place" then 3 else 0
def badAt (ws : List (List Nat)) (k : Nat) : Bool := match ws[k]? with | none => true | some w => !isNum w
/-- the first word from k on, among n, that is no number or lacks -/
def firstFrom (ws : List (List Nat)) : Nat → Nat → Option Nat
  | _, 0 => none
  | k, n + 1 => if badAt ws k = true then some k else firstFrom ws (k + 1) n
theorem first_succ {ws : List (List Nat)} {k n : Nat} : firstFrom ws k (n + 1) = if badAt ws k = true then some k else firstFrom ws (k + 1) n := rfl
theorem first_none {ws : List (List Nat)} : ∀ {n k : Nat}, firstFrom ws k n = none → ∀ j, j < n → badAt ws (k + j) = false
  | 0, _, _, j, h => absurd h (Nat.not_lt_zero _)
  | n + 1, k, e, j, hj => by
    unfold firstFrom at e
    by_cases hb : badAt ws k = true
    · rw [if_pos hb] at e; cases e
    · rw [if_neg hb] at e
      cases j with
      | zero => simpa using hb
      | succ j => have := first_none e j (by omega); rw [show k + (j + 1) = k + 1 + j from by omega]; exact this
theorem good_at {ws : List (List Nat)} {k : Nat} (h : badAt ws k = false) : ∃ w, ws[k]? = some w ∧ isNum w = true := by
  unfold badAt at h
  cases e : ws[k]? with
  | none => rw [e] at h; cases h
  | some w => rw [e] at h; exact ⟨w, rfl, by simpa using h⟩
def vAt (ws : List (List Nat)) (k : Nat) : Int := match ws[k]? with | some w => numV w | none => 0
theorem vAt_of {ws : List (List Nat)} {k : Nat} {w : List Nat} (h : ws[k]? = some w) : vAt ws k = numV w := by unfold vAt; rw [h]
def odd3 (a c : Int) : Bool := decide (a = 0 ∧ c = 0) || decide (a = 2 ∧ c = 1) || decide (a = 1 ∧ c = 0)
/-- where the name and its numbers are refused -/
def takeP (ws : List (List Nat)) : Option Nat :=
  if many (ws.headD []) = 0 then some 0 else match firstFrom ws 1 (many (ws.headD [])) with
    | some k => some k
    | none => if many (ws.headD []) = 3 ∧ odd3 (vAt ws 1) (vAt ws 3) = true then some 0 else none
def dueP (ws : List (List Nat)) : Option Nat := match takeP ws with
  | some k => some k
  | none => if ws.length > many (ws.headD []) + 1 then some (many (ws.headD []) + 1) else none
def partsW (ws : List (List Nat)) : Pl := if S (ws.headD []) = Str.ofString "left" then ⟨0, vAt ws 1, 0⟩ else if S (ws.headD []) = Str.ofString "right" then ⟨2, -vAt ws 1, 1⟩ else if S (ws.headD []) = Str.ofString "middle" then ⟨1, vAt ws 1, 0⟩ else ⟨vAt ws 1, vAt ws 2, vAt ws 3⟩
theorem sLR : ¬ (Str.ofString "left" = Str.ofString "right") := by decide +kernel
theorem sLM : ¬ (Str.ofString "left" = Str.ofString "middle") := by decide +kernel
theorem sLP : ¬ (Str.ofString "left" = Str.ofString "place") := by decide +kernel
theorem sRM : ¬ (Str.ofString "right" = Str.ofString "middle") := by decide +kernel
theorem sRP : ¬ (Str.ofString "right" = Str.ofString "place") := by decide +kernel
theorem sMP : ¬ (Str.ofString "middle" = Str.ofString "place") := by decide +kernel
theorem many_cases (w : List Nat) : (S w = Str.ofString "left" ∧ many w = 1) ∨ (S w = Str.ofString "right" ∧ many w = 1) ∨ (S w = Str.ofString "middle" ∧ many w = 1) ∨ (S w = Str.ofString "place" ∧ many w = 3) ∨ (S w ≠ Str.ofString "left" ∧ S w ≠ Str.ofString "right" ∧ S w ≠ Str.ofString "middle" ∧ S w ≠ Str.ofString "place" ∧ many w = 0) := by
  unfold many
  by_cases h1 : S w = Str.ofString "left"
  · exact .inl ⟨h1, if_pos h1⟩
  by_cases h2 : S w = Str.ofString "right"
  · exact .inr (.inl ⟨h2, by rw [if_neg h1, if_pos h2]⟩)
  by_cases h3 : S w = Str.ofString "middle"
  · exact .inr (.inr (.inl ⟨h3, by rw [if_neg h1, if_neg h2, if_pos h3]⟩))
  by_cases h4 : S w = Str.ofString "place"
  · exact .inr (.inr (.inr (.inl ⟨h4, by rw [if_neg h1, if_neg h2, if_neg h3, if_pos h4]⟩)))
  · exact .inr (.inr (.inr (.inr ⟨h1, h2, h3, h4, by rw [if_neg h1, if_neg h2, if_neg h3, if_neg h4]⟩)))
theorem digitsVal_lt : ∀ (n : Nat) (l : List Nat), l.length = n → NumText.AllDigits l → NumText.digitsVal l < 10 ^ n := by
  intro n
  induction n with
  | zero => intro l hl _; rw [List.length_eq_zero_iff.mp hl]; decide
  | succ n ih =>
    intro l hl hd
    have ne : l ≠ [] := fun e => by rw [e] at hl; cases hl
    obtain ⟨p, c, rfl⟩ : ∃ p c, l = p ++ [c] := ⟨l.dropLast, l.getLast ne, (List.dropLast_concat_getLast ne).symm⟩
    have hc := hd c (List.mem_append_right _ List.mem_cons_self)
    rw [val_snoc]
    have := ih p (by simp at hl; omega) fun x hx => hd x (List.mem_append_left _ hx)
    rw [Nat.pow_succ]
    omega
theorem num_lt0 {w : List Nat} (h2 : (bod w).all isDig = true) (h3 : (bod w).length ≤ 60) : (numV w).natAbs < 10 ^ 60 := by
  have z := digitsVal_lt _ (bod w) rfl (digs_of h2)
  have q : 10 ^ (bod w).length ≤ 10 ^ 60 := Nat.pow_le_pow_right (by decide) h3
  have e : (numV w).natAbs = NumText.digitsVal (bod w) := by
    unfold numV
    split <;> omega
  rw [e]
  exact Nat.lt_of_lt_of_le z q
theorem back_dec {w : List Nat} (h1 : 1 ≤ (bod w).length) (h2 : (bod w).all isDig = true) : decide (Str.ofString (toString (numV w)) = S w) = (decide (w = [48]) || !decide ((bod w)[0]? = some 48)) := by
  rw [← back_num h1 h2, txt_cds, SX.S_beq_eq]
  exact decide_eq_decide.mpr ⟨fun e => SX.S_inj e, fun e => congrArg S e⟩
theorem num_lt {w : List Nat} (h : isNum w = true) : (numV w).natAbs < 10 ^ 60 := by
  unfold isNum at h
  simp only [Bool.and_eq_true, decide_eq_true_eq] at h
  obtain ⟨⟨⟨h1, h2⟩, h3⟩, h4⟩ := h
  have z := digitsVal_lt _ (bod w) rfl (digs_of h2)
  have q : 10 ^ (bod w).length ≤ 10 ^ 60 := Nat.pow_le_pow_right (by decide) h3
  have e : (numV w).natAbs = NumText.digitsVal (bod w) := by
    unfold numV
    split <;> omega
  rw [e]
  exact Nat.lt_of_lt_of_le z q
theorem log60 {n : Nat} (h : n < 10 ^ 60) : n.log2 < 1000 := by
  by_cases h0 : n = 0
  · subst h0; decide
  · exact (Nat.log2_lt h0).mpr (Nat.lt_trans h (by decide))
theorem num_txt {w : List Nat} (h : isNum w = true) : Str.ofString (toString (numV w)) = S w := by rw [txt_cds, num_cds h]
theorem wordsP_left {q : Pl} (h : q.s = 0 ∧ q.d = 0) : wordsP q = [("left" : Str), Str.ofString (toString q.o)] := by unfold wordsP; rw [if_pos h]
theorem wordsP_right {q : Pl} (h : q.s = 2 ∧ q.d = 1) : wordsP q = [("right" : Str), Str.ofString (toString (-q.o))] := by unfold wordsP; rw [if_neg (by omega), if_pos h]
theorem wordsP_middle {q : Pl} (h : q.s = 1 ∧ q.d = 0) : wordsP q = [("middle" : Str), Str.ofString (toString q.o)] := by unfold wordsP; rw [if_neg (by omega), if_neg (by omega), if_pos h]
theorem wordsP_place {q : Pl} (h : odd3 q.s q.d = false) : wordsP q = [("place" : Str), Str.ofString (toString q.s), Str.ofString (toString q.o), Str.ofString (toString q.d)] := by
  unfold odd3 at h
  simp only [Bool.or_eq_false_iff, decide_eq_false_iff_not] at h
  unfold wordsP
  rw [if_neg h.1.1, if_neg h.1.2, if_neg h.2]
/-- what is read is what was written -/
theorem read_back {ws : List (List Nat)} (h0 : 1 ≤ ws.length) (h : dueP ws = none) : wordsP (partsW ws) = ws.map S ∧ LogP (partsW ws) := by
  obtain ⟨w0, t, rfl⟩ : ∃ w0 t, ws = w0 :: t := by
    cases ws with
    | nil => exact absurd h0 (by decide)
    | cons a b => exact ⟨_, _, rfl⟩
  have hd : (w0 :: t).headD [] = w0 := rfl
  unfold dueP takeP at h
  rw [hd] at h
  have e0 : S (((w0 :: t).headD [])) = S w0 := rfl
  by_cases m0 : many w0 = 0
  · rw [if_pos m0] at h; cases h
  rw [if_neg m0] at h
  cases ef : firstFrom (w0 :: t) 1 (many w0) with
  | some k => rw [ef] at h; cases h
  | none =>
    rw [ef] at h
    have good := first_none ef
    by_cases c3 : many w0 = 3 ∧ odd3 (vAt (w0 :: t) 1) (vAt (w0 :: t) 3) = true
    · simp only [if_pos c3] at h; cases h
    simp only [if_neg c3] at h
    have hl : ¬ (w0 :: t).length > many w0 + 1 := fun z => by rw [if_pos z] at h; cases h
    obtain ⟨w1, hw1, n1⟩ := good_at (good 0 (by omega))
    have v1 := vAt_of hw1
    have b1 := num_lt n1
    have two : many w0 = 1 → (w0 :: t).map S = [S w0, S w1] := fun m1 => by
      cases t with
      | nil => cases hw1
      | cons x u =>
        have hx : x = w1 := Option.some.inj hw1
        have hu : u = [] := by
          cases u with
          | nil => rfl
          | cons y z => exact absurd (show (w0 :: x :: y :: z).length > many w0 + 1 by rw [m1]; simp) hl
        rw [hx, hu]
        rfl
    rcases many_cases w0 with ⟨e, m⟩ | ⟨e, m⟩ | ⟨e, m⟩ | ⟨e, m⟩ | ⟨_, _, _, _, m⟩
    · have ep : partsW (w0 :: t) = ⟨0, numV w1, 0⟩ := by unfold partsW; rw [if_pos (by rw [e0]; exact e), v1]
      rw [ep, two m, e, ← num_txt n1]
      exact ⟨wordsP_left ⟨rfl, rfl⟩, (show (0 : Int).natAbs.log2 < 1000 by decide), log60 b1, (show (0 : Int).natAbs.log2 < 1000 by decide)⟩
    · have ep : partsW (w0 :: t) = ⟨2, -numV w1, 1⟩ := by unfold partsW; rw [if_neg (by rw [e0, e]; exact fun z => sLR z.symm), if_pos (by rw [e0]; exact e), v1]
      rw [ep, two m, e, ← num_txt n1]
      refine ⟨?_, (show (2 : Int).natAbs.log2 < 1000 by decide), (show (-numV w1).natAbs.log2 < 1000 by rw [Int.natAbs_neg]; exact log60 b1), (show (1 : Int).natAbs.log2 < 1000 by decide)⟩
      rw [wordsP_right ⟨rfl, rfl⟩]
      simp only [Int.neg_neg]
    · have ep : partsW (w0 :: t) = ⟨1, numV w1, 0⟩ := by unfold partsW; rw [if_neg (by rw [e0, e]; exact fun z => sLM z.symm), if_neg (by rw [e0, e]; exact fun z => sRM z.symm), if_pos (by rw [e0]; exact e), v1]
      rw [ep, two m, e, ← num_txt n1]
      exact ⟨wordsP_middle ⟨rfl, rfl⟩, (show (1 : Int).natAbs.log2 < 1000 by decide), log60 b1, (show (0 : Int).natAbs.log2 < 1000 by decide)⟩
    · obtain ⟨w2, hw2, n2⟩ := good_at (good 1 (by omega))
      obtain ⟨w3, hw3, n3⟩ := good_at (good 2 (by omega))
      have v2 := vAt_of hw2
      have v3 := vAt_of hw3
      have ep : partsW (w0 :: t) = ⟨numV w1, numV w2, numV w3⟩ := by
        unfold partsW
        rw [if_neg (by rw [e0, e]; exact fun z => sLP z.symm), if_neg (by rw [e0, e]; exact fun z => sRP z.symm), if_neg (by rw [e0, e]; exact fun z => sMP z.symm), v1, v2, v3]
      have four : (w0 :: t).map S = [S w0, S w1, S w2, S w3] := by
        rcases t with _ | ⟨x, _ | ⟨y, _ | ⟨z, _ | ⟨u, r⟩⟩⟩⟩
        · cases hw1
        · cases hw2
        · cases hw3
        · have hx : x = w1 := Option.some.inj hw1
          have hy : y = w2 := Option.some.inj hw2
          have hz : z = w3 := Option.some.inj hw3
          rw [hx, hy, hz]
          rfl
        · exact absurd (show (w0 :: x :: y :: z :: u :: r).length > many w0 + 1 by rw [m]; simp) hl
      rw [v1, v3] at c3
      have c4 : odd3 (numV w1) (numV w3) = false := by simpa using fun z => c3 ⟨m, z⟩
      rw [ep, four, e, ← num_txt n1, ← num_txt n2, ← num_txt n3]
      exact ⟨wordsP_place c4, log60 b1, log60 (num_lt n2), log60 (num_lt n3)⟩
    · exact absurd m m0
/-- the words' signs -/
def wordsC (q : Pl) : List (List Nat) := if q.s = 0 ∧ q.d = 0 then [cL, cds q.o] else if q.s = 2 ∧ q.d = 1 then [cR, cds (-q.o)] else if q.s = 1 ∧ q.d = 0 then [cM, cds q.o] else [cP, cds q.s, cds q.o, cds q.d]
theorem S_cL : S cL = Str.ofString "left" := SX.S_tl _
theorem S_cR : S cR = Str.ofString "right" := SX.S_tl _
theorem S_cM : S cM = Str.ofString "middle" := SX.S_tl _
theorem S_cP : S cP = Str.ofString "place" := SX.S_tl _
theorem names_ok : ([cL, cR, cM, cP].all fun l => l.all fun c => decide (c < 128) && decide (c ≠ 32)) = true := by decide +kernel
theorem name_ok {l : List Nat} (h : l ∈ [cL, cR, cM, cP]) : LowL l ∧ (32 : Nat) ∉ l := by
  have z := List.all_eq_true.mp names_ok l h
  have q : ∀ c ∈ l, c < 128 ∧ c ≠ 32 := fun c hc => by have := List.all_eq_true.mp z c hc; simpa using this
  exact ⟨fun c hc => (q c hc).1, fun hc => (q 32 hc).2 rfl⟩
theorem wordsC_S (q : Pl) : (wordsC q).map S = wordsP q := by
  unfold wordsC wordsP
  split
  · simp only [List.map_cons, List.map_nil, S_cL, txt_cds]
  split
  · simp only [List.map_cons, List.map_nil, S_cR, txt_cds]
  split
  · simp only [List.map_cons, List.map_nil, S_cM, txt_cds]
  · simp only [List.map_cons, List.map_nil, S_cP, txt_cds]
theorem wordsC_ok (q : Pl) : ∀ w ∈ wordsC q, LowL w ∧ (32 : Nat) ∉ w := by
  intro w hw
  have num : ∀ n : Int, w = cds n → LowL w ∧ (32 : Nat) ∉ w := fun n e => e ▸ ⟨cds_low n, cds_free n (by decide)⟩
  unfold wordsC at hw
  split at hw
  · simp only [List.mem_cons, List.not_mem_nil, or_false] at hw
    rcases hw with rfl | e
    · exact name_ok (by simp)
    · exact num _ e
  split at hw
  · simp only [List.mem_cons, List.not_mem_nil, or_false] at hw
    rcases hw with rfl | e
    · exact name_ok (by simp)
    · exact num _ e
  split at hw
  · simp only [List.mem_cons, List.not_mem_nil, or_false] at hw
    rcases hw with rfl | e
    · exact name_ok (by simp)
    · exact num _ e
  · simp only [List.mem_cons, List.not_mem_nil, or_false] at hw
    rcases hw with rfl | e | e | e
    · exact name_ok (by simp)
    · exact num _ e
    · exact num _ e
    · exact num _ e
theorem wordsC_ne (q : Pl) : wordsC q ≠ [] := by
  unfold wordsC
  split
  · simp
  split
  · simp
  split <;> simp
/-- the text of a place, by its signs -/
def txtC (q : Pl) : List Nat := TL.joinL [32] (wordsC q)
theorem plT_C (q : Pl) : plT q = S (txtC q) := by
  unfold plT txtC
  rw [← wordsC_S, ← SX.join_S]
  exact congrArg (fun x => Txt.join x _) spS
theorem wds_txt (q : Pl) : wds (txtC q) = wordsC q := wds_join (wordsC_ne q) fun w hw => (wordsC_ok q w hw).2
theorem joinL_mem : ∀ (rs : List (List Nat)) (c : Nat), c ∈ TL.joinL [32] rs → c = 32 ∨ ∃ r ∈ rs, c ∈ r
  | [], c, h => by cases h
  | [r], c, h => .inr ⟨r, List.mem_cons_self, h⟩
  | r :: q :: t, c, h => by
    have h : c ∈ r ++ ([32] ++ TL.joinL [32] (q :: t)) := h
    rcases List.mem_append.mp h with h | h
    · exact .inr ⟨r, List.mem_cons_self, h⟩
    · rcases List.mem_append.mp h with h | h
      · exact .inl (List.mem_singleton.mp h)
      · rcases joinL_mem (q :: t) c h with h | ⟨p, hp, hc⟩
        · exact .inl h
        · exact .inr ⟨p, List.mem_cons_of_mem _ hp, hc⟩
theorem joinL_low {rs : List (List Nat)} (h : ∀ r ∈ rs, LowL r) : LowL (TL.joinL [32] rs) := fun c hc => by
  rcases joinL_mem rs c hc with rfl | ⟨r, hr, hc⟩
  · decide
  · exact h r hr c hc
theorem txtC_low (q : Pl) : LowL (txtC q) := joinL_low fun w hw => (wordsC_ok q w hw).1
def Sm60 (q : Pl) : Prop := q.s.natAbs < 10 ^ 60 ∧ q.o.natAbs < 10 ^ 60 ∧ q.d.natAbs < 10 ^ 60
theorem Sm60.log {q : Pl} (h : Sm60 q) : LogP q := ⟨log60 h.1, log60 h.2.1, log60 h.2.2⟩
theorem good_not {ws : List (List Nat)} {k : Nat} {w : List Nat} (h : ws[k]? = some w) (n : isNum w = true) : badAt ws k = false := by
  unfold badAt
  rw [h]
  simp [n]
/-- what was written is read back -/
theorem write_back {q : Pl} (h : Sm60 q) : dueP (wordsC q) = none ∧ partsW (wordsC q) = q := by
  obtain ⟨s, o, d⟩ := q
  obtain ⟨h1, h2, h3⟩ := h
  have one : ∀ (w : List Nat) (n : Int), many w = 1 → n.natAbs < 10 ^ 60 → dueP [w, cds n] = none := fun w n m b => by
    unfold dueP takeP
    have hd : ([w, cds n] : List (List Nat)).headD [] = w := rfl
    rw [hd, m, if_neg (by decide)]
    have ef : firstFrom [w, cds n] 1 1 = none := by
      unfold firstFrom
      rw [if_neg (by rw [good_not (k := 1) (w := cds n) rfl (cds_num b)]; decide)]
      rfl
    rw [ef]
    simp
  unfold wordsC
  by_cases c1 : s = 0 ∧ d = 0
  · rw [if_pos c1]
    obtain ⟨rfl, rfl⟩ := c1
    refine ⟨one _ _ (by unfold many; rw [if_pos S_cL]) h2, ?_⟩
    unfold partsW
    rw [if_pos (by exact S_cL), vAt_of (k := 1) (w := cds o) rfl, cds_val]
  rw [if_neg c1]
  by_cases c2 : s = 2 ∧ d = 1
  · rw [if_pos c2]
    obtain ⟨rfl, rfl⟩ := c2
    refine ⟨one _ _ (by unfold many; rw [if_neg (by rw [S_cR]; exact fun z => sLR z.symm), if_pos S_cR]) (by rw [Int.natAbs_neg]; exact h2), ?_⟩
    unfold partsW
    rw [if_neg (by show ¬ (S cR = _); rw [S_cR]; exact fun z => sLR z.symm), if_pos (by exact S_cR), vAt_of (k := 1) (w := cds (-o)) rfl, cds_val, Int.neg_neg]
  rw [if_neg c2]
  by_cases c3 : s = 1 ∧ d = 0
  · rw [if_pos c3]
    obtain ⟨rfl, rfl⟩ := c3
    refine ⟨one _ _ (by unfold many; rw [if_neg (by rw [S_cM]; exact fun z => sLM z.symm), if_neg (by rw [S_cM]; exact fun z => sRM z.symm), if_pos S_cM]) h2, ?_⟩
    unfold partsW
    rw [if_neg (by show ¬ (S cM = _); rw [S_cM]; exact fun z => sLM z.symm), if_neg (by show ¬ (S cM = _); rw [S_cM]; exact fun z => sRM z.symm), if_pos (by exact S_cM), vAt_of (k := 1) (w := cds o) rfl, cds_val]
  rw [if_neg c3]
  have m : many cP = 3 := by unfold many; rw [if_neg (by rw [S_cP]; exact fun z => sLP z.symm), if_neg (by rw [S_cP]; exact fun z => sRP z.symm), if_neg (by rw [S_cP]; exact fun z => sMP z.symm), if_pos S_cP]
  have e1 : vAt [cP, cds s, cds o, cds d] 1 = s := by rw [vAt_of (k := 1) (w := cds s) rfl, cds_val]
  have e2 : vAt [cP, cds s, cds o, cds d] 2 = o := by rw [vAt_of (k := 2) (w := cds o) rfl, cds_val]
  have e3 : vAt [cP, cds s, cds o, cds d] 3 = d := by rw [vAt_of (k := 3) (w := cds d) rfl, cds_val]
  have od : odd3 s d = false := by
    unfold odd3
    rw [decide_eq_false c1, decide_eq_false c2, decide_eq_false c3]
    rfl
  have hd : ([cP, cds s, cds o, cds d] : List (List Nat)).headD [] = cP := rfl
  constructor
  · unfold dueP takeP
    rw [hd, m, if_neg (by decide)]
    have ef : firstFrom [cP, cds s, cds o, cds d] 1 3 = none := by
      unfold firstFrom
      rw [if_neg (by rw [good_not (k := 1) (w := cds s) rfl (cds_num h1)]; decide)]
      unfold firstFrom
      rw [if_neg (by rw [good_not (k := 1 + 1) (w := cds o) rfl (cds_num h2)]; decide)]
      unfold firstFrom
      rw [if_neg (by rw [good_not (k := 1 + 1 + 1) (w := cds d) rfl (cds_num h3)]; decide)]
      rfl
    rw [ef, e1, e3, od]
    simp
  · unfold partsW
    rw [hd, if_neg (by rw [S_cP]; exact fun z => sLP z.symm), if_neg (by rw [S_cP]; exact fun z => sRP z.symm), if_neg (by rw [S_cP]; exact fun z => sMP z.symm), e1, e2, e3]
/-- the text again -/
theorem txt_again {r : List Nat} (h : dueP (wds r) = none) : plT (partsW (wds r)) = S r ∧ LogP (partsW (wds r)) := by
  obtain ⟨e, lg⟩ := read_back wds_pos h
  refine ⟨?_, lg⟩
  unfold plT
  rw [e]
  have z : Txt.join (Str.ofString " ") ((wds r).map S) = S r := by
    rw [spS, SX.join_S, join_wds]
  exact z
end Pf
end
section
namespace Pf
open PySem PySem.Spec PyProof.Rows L2 Ow StX
open SX (S)
/-! ### places -/
theorem kSO : ¬ (("_slope" : Str) = "_offset") := by decide +kernel
theorem kSD : ¬ (("_slope" : Str) = "_odd") := by decide +kernel
theorem kOD : ¬ (("_offset" : Str) = "_odd") := by decide +kernel
def plF (s o d : Int) : List (Str × V) := putF "_odd" (.int d) (putF "_offset" (.int o) (putF "_slope" (.int s) []))
theorem plF_slope (s o d : Int) : (plF s o d).lookup ("_slope" : Str) = some (.int s) := by
  unfold plF
  rw [lookup_putF, if_neg kSD, lookup_putF, if_neg kSO, lookup_putF, if_pos rfl]
theorem plF_offset (s o d : Int) : (plF s o d).lookup ("_offset" : Str) = some (.int o) := by
  unfold plF
  rw [lookup_putF, if_neg kOD, lookup_putF, if_pos rfl]
theorem plF_odd (s o d : Int) : (plF s o d).lookup ("_odd" : Str) = some (.int d) := by
  unfold plF
  rw [lookup_putF, if_pos rfl]
theorem putF_le (f : Str) (v : V) : ∀ fs : List (Str × V), (putF f v fs).length ≤ fs.length + 1
  | [] => Nat.le_refl 1
  | p :: r => by
    show (if p.1 = f then (p.1, v) :: r else p :: putF f v r).length ≤ r.length + 1 + 1
    split
    · exact Nat.le_succ _
    · exact Nat.succ_le_succ (putF_le f v r)
theorem len2 (s o : Int) : (putF "_offset" (.int o) (putF "_slope" (.int s) [])).length ≤ 2 := Nat.le_trans (putF_le _ _ _) (Nat.succ_le_succ (putF_le _ _ _))
/-- the place s, o, d stands at p -/
def PlaceAt (H : Hp) (C p : Addr) (s o d : Int) : Prop := ∃ dx, H p = some (.ins C dx (plF s o d))
theorem PlaceAt.same {H H' : Hp} {C p : Addr} {s o d : Int} (h : PlaceAt H C p s o d) (e : Same H H') : PlaceAt H' C p s o d := h.elim fun dx z => ⟨dx, e _ _ z⟩
theorem PlaceAt.ins {H : Hp} {C p : Addr} {s o d : Int} (h : PlaceAt H C p s o d) : InsAt H p C := h.elim fun dx z => ⟨dx, _, z⟩
theorem PlaceAt.insC {X : Cx} {H : Hp} {C p : Addr} {s o d : Int} (h : PlaceAt H C p s o d) : StX.InsC X H p C := .inr (h.elim fun dx z => ⟨dx, _, z⟩)
/-- what follows a new place -/
def NewP (C : Addr) (H : Hp) (s o d : Int) (Q : VK) : Prop := ∀ x H', Same H H' → H x = none → PlaceAt H' C x s o d → Q (.ref x) H'
def spIntI : Sp := fun vs H Q _ => ∃ i : Int, vs = [.int i] ∧ Q (.bl true) H
def spSizeI : Sp := fun vs H Q _ => ∃ (i : Int) (part : Str), vs = [.int i, .str part] ∧ 1 ≤ i ∧ Q .non H
def spPInit (C : Addr) : Sp := fun vs H Q _ => ∃ (p dx : Addr) (s o d : Int), vs = [.ref p, .int s, .int o, .int d] ∧ H p = some (.ins C dx []) ∧ Q .non (upd H p (.ins C dx (plF s o d)))
def spPSlope (C : Addr) : Sp := fun vs H Q _ => ∃ (p : Addr) (s o d : Int), vs = [.ref p] ∧ PlaceAt H C p s o d ∧ Q (.int s) H
def spPOffset (C : Addr) : Sp := fun vs H Q _ => ∃ (p : Addr) (s o d : Int), vs = [.ref p] ∧ PlaceAt H C p s o d ∧ Q (.int o) H
def spPOdd (C : Addr) : Sp := fun vs H Q _ => ∃ (p : Addr) (s o d : Int), vs = [.ref p] ∧ PlaceAt H C p s o d ∧ Q (.int d) H
def valP (s o d n : Int) : Int := s * (n / 2) + o + d * (n % 2)
def spPCall (C : Addr) : Sp := fun vs H Q _ => ∃ (p : Addr) (s o d n : Int), vs = [.ref p, .int n] ∧ PlaceAt H C p s o d ∧ 1 ≤ n ∧ CMulW s (n / 2) ∧ CMulW d (n % 2) ∧ Q (.int (valP s o d n)) H
def spPParts (C : Addr) : Sp := fun vs H Q _ => ∃ (p : Addr) (s o d : Int), vs = [.ref p] ∧ PlaceAt H C p s o d ∧ ∀ t, H t = none → Q (.ref t) (upd H t (.tup [.int s, .int o, .int d]))
def spPAddP (C : Addr) (f : Int → Int → Int) : Sp := fun vs H Q _ => ∃ (p q : Addr) (s o d s' o' d' : Int), vs = [.ref p, .ref q] ∧ PlaceAt H C p s o d ∧ PlaceAt H C q s' o' d' ∧ NewP C H (f s s') (f o o') (f d d') Q
def spPAddI (C : Addr) (f : Int → Int → Int) : Sp := fun vs H Q _ => ∃ (p : Addr) (s o d i : Int), vs = [.ref p, .int i] ∧ PlaceAt H C p s o d ∧ NewP C H s (f o i) d Q
def spPInv (C : Addr) : Sp := fun vs H Q _ => ∃ (p : Addr) (s o d : Int), vs = [.ref p] ∧ PlaceAt H C p s o d ∧ NewP C H (2 - s) (-o) (1 - d) Q
def spPEq (C : Addr) : Sp := fun vs H Q _ => ∃ (p q : Addr) (s o d s' o' d' : Int), vs = [.ref p, .ref q] ∧ PlaceAt H C p s o d ∧ PlaceAt H C q s' o' d' ∧ ∀ H', Same H H' → Q (.bl (decide (s = s' ∧ o = o' ∧ d = d'))) H'
def spPOfI (C : Addr) (f : Int → Int × Int × Int) : Sp := fun vs H Q _ => ∃ i : Int, vs = [.int i] ∧ NewP C H (f i).1 (f i).2.1 (f i).2.2 Q
/-- a place made of three ints: what the making asks -/
theorem newP_make {C : Addr} {H : Hp} {s o d : Int} {Q : VK} {E : XK} (k : NewP C H s o d Q) : ∀ x dx, H x = none → H dx = none → dx ≠ x →
    spPInit C [.ref x, .int s, .int o, .int d] (upd (upd H dx (.own x)) x (.ins C dx [])) (fun v H2 => v = .non ∧ Q (.ref x) H2) E := by
  intro x dx nx ndx ne
  refine ⟨x, dx, s, o, d, rfl, upd_same, rfl, ?_⟩
  rw [upd_upd]
  refine k x _ (fun b u e => ?_) nx ⟨dx, upd_same⟩
  rw [upd_ne (ne_of_none e nx), upd_ne (ne_of_none e ndx)]
  exact e
abbrev PlA (H : Hp) (C p : Addr) (q : Pl) : Prop := PlaceAt H C p q.s q.o q.d
section
variable {P : Program} {w : World} {K : PySem.W.Frag} {mg : Str → Option Value} {base : Heap} {a : Adr}
set_option maxHeartbeats 4000000
theorem ok_is_int (T : Txt K mg a) : FnR P w K mg base CX0 1 a.is_int spIntI := by
  refine T.d_is_int.ok sc_is_int (fun _ _ _ _ _ _ us hl => match us, hl with | [_], _ => rfl) (fun vs H Q E h => ?_) (fun cdv A outer s H vs Q E hr h => ?_)
  · obtain ⟨i, rfl, _⟩ := h
    rfl
  · obtain ⟨i, rfl, k⟩ := h
    refine ⟨_, (pss_one (ps_ret (pe_and (pe_callB call_isi (by rfl) T.n_isinstance (by decide +kernel) (pa_cons (pv 0) (pa_cons (pe_bltn (v := .ty "int") (by rfl) T.n_int (by decide +kernel) rfl) pa_nil))) (pe_one (pe_not (pe_callB call_isi (by rfl) T.n_isinstance (by decide +kernel) (pa_cons (pv 0) (pa_cons (pe_bltn (v := .ty "bool") (by rfl) T.n_bool (by decide +kernel) rfl) pa_nil)))))))), ?_⟩
    exact ⟨_, rfl, _, _, _, _, _, rfl, .ty _, .base (.int _), kit_int_int, true, rfl, _, rfl, _, _, _, _, _, rfl, .ty _, .base (.int _), kit_int_bool, false, rfl, k⟩
theorem ok_p_init (T : Txt K mg a) : FnR P w K mg base CX0 2 a.Place_init (spPInit a.Place) := by
  have G_is_int : FnR P w K mg base CX0 1 a.is_int spIntI := ok_is_int T
  have F := T.d_Place_init.okD (P := P) (w := w) (mg := mg) (base := base) (k := 1) (n := 4) (j := 1) (sp := spPInit a.Place) sc_Place_init (by simp) rfl (fun T kV doc pm an cdv ct us its hu hi => match us, its, hu, hi with | [_, _, _, _], [_], _, _ => ⟨_, rfl, rfl⟩) (fun vs H Q E h => by obtain ⟨p, dx, s, o, d, rfl, _⟩ := h; rfl) (fun cdv A outer s H vs Q E hr h => ?_)
  · exact F.imp fun vs H Q E h => by
      show spPInit a.Place (vs ++ []) H Q E
      rw [List.append_nil]
      exact h
  · obtain ⟨p, dx, s, o, d, rfl, hp, k⟩ := h
    refine ⟨_, (pss_cons (ps_if (pt_not (pt_val (pe_callR G_is_int (hr.mono (by decide)) T.m_is_int T.k_is_int pass0 (pa_cons (pv 1) pa_nil))))
          (pss_one (ps_never))
          pss_nil)
      (pss_cons (ps_if (pt_not (pt_val (pe_callR G_is_int (hr.mono (by decide)) T.m_is_int T.k_is_int pass0 (pa_cons (pv 2) pa_nil))))
          (pss_one (ps_never))
          pss_nil)
      (pss_cons (ps_if (pt_not (pt_val (pe_callR G_is_int (hr.mono (by decide)) T.m_is_int T.k_is_int pass0 (pa_cons (pv 3) pa_nil))))
          (pss_one (ps_never))
          pss_nil)
      (pss_cons (ps_fld (pv 0) (pv 1) rfl)
      (pss_cons (ps_fld (pv 0) (pv 2) rfl)
      (pss_one (ps_fld (pv 0) (pv 3) rfl))))))), ?_⟩
    refine ⟨_, rfl, s, rfl, true, rfl, iteF ⟨_, rfl, o, rfl, true, rfl, iteF ⟨_, rfl, d, rfl, true, rfl, iteF ?_⟩⟩⟩
    refine ⟨_, rfl, _, rfl, p, _, dx, [], rfl, hp, T.c_Place.cl, T.a_Place__slope, (by show 0 < 1000; decide), ?_⟩
    refine ⟨_, rfl, _, rfl, p, _, dx, _, rfl, upd_same, T.c_Place.cl, T.a_Place__offset, (by show 1 < 1000; decide), ?_⟩
    rw [upd_upd]
    refine ⟨_, rfl, _, rfl, p, _, dx, _, rfl, upd_same, T.c_Place.cl, T.a_Place__odd, Nat.lt_of_le_of_lt (len2 s o) (by decide), ?_⟩
    rw [upd_upd]
    exact k
end
theorem kit_ty_own {K : PySem.W.Frag} {C : Addr} {T : String} {b : Bool} (c : ClsF K C) (h : PySem.W.subIn K (.type T) (.ref C) = some b) : PySem.W.kitOne K (.type T) (.ref C) = some b :=
  kit_own c h (Bool.eq_false_iff.mpr fun q => by cases beq_iff_eq.mp q)
theorem eqv3 (s o d s' o' d' : Int) : PyData.eqv (.tuple [.int s, .int o, .int d]) (.tuple [.int s', .int o', .int d']) = decide (s = s' ∧ o = o' ∧ d = d') := by
  rw [Bool.eq_iff_iff]
  simp [PyData.eqv, PyData.eqvAll]
section
variable {P : Program} {w : World} {K : PySem.W.Frag} {mg : Str → Option Value} {base : Heap} {a : Adr}
set_option maxHeartbeats 4000000
theorem ok_p_slope (T : Txt K mg a) : FnR P w K mg base CX0 1 a.Place_slope (spPSlope a.Place) := by
  refine T.d_Place_slope.ok sc_Place_slope (fun _ _ _ _ _ _ us hl => match us, hl with | [_], _ => rfl) (fun vs H Q E h => by obtain ⟨p, s, o, d, rfl, _⟩ := h; rfl) (fun cdv A outer s H vs Q E hr h => ?_)
  obtain ⟨p, s, o, d, rfl, ⟨dx, hp⟩, k⟩ := h
  exact ⟨_, (pss_one (ps_ret (pe_fld (pv 0) rfl))), _, rfl, p, _, dx, _, _, rfl, hp, T.c_Place.cl, T.a_Place__slope, plF_slope _ _ _, k⟩
theorem ok_p_offset (T : Txt K mg a) : FnR P w K mg base CX0 1 a.Place_offset (spPOffset a.Place) := by
  refine T.d_Place_offset.ok sc_Place_offset (fun _ _ _ _ _ _ us hl => match us, hl with | [_], _ => rfl) (fun vs H Q E h => by obtain ⟨p, s, o, d, rfl, _⟩ := h; rfl) (fun cdv A outer s H vs Q E hr h => ?_)
  obtain ⟨p, s, o, d, rfl, ⟨dx, hp⟩, k⟩ := h
  exact ⟨_, (pss_one (ps_ret (pe_fld (pv 0) rfl))), _, rfl, p, _, dx, _, _, rfl, hp, T.c_Place.cl, T.a_Place__offset, plF_offset _ _ _, k⟩
theorem ok_p_odd (T : Txt K mg a) : FnR P w K mg base CX0 1 a.Place_odd (spPOdd a.Place) := by
  refine T.d_Place_odd.ok sc_Place_odd (fun _ _ _ _ _ _ us hl => match us, hl with | [_], _ => rfl) (fun vs H Q E h => by obtain ⟨p, s, o, d, rfl, _⟩ := h; rfl) (fun cdv A outer s H vs Q E hr h => ?_)
  obtain ⟨p, s, o, d, rfl, ⟨dx, hp⟩, k⟩ := h
  exact ⟨_, (pss_one (ps_ret (pe_fld (pv 0) rfl))), _, rfl, p, _, dx, _, _, rfl, hp, T.c_Place.cl, T.a_Place__odd, plF_odd _ _ _, k⟩
theorem ok_parts (T : Txt K mg a) : FnR P w K mg base CX0 3 a.parts_of (spPParts a.Place) := by
  have G_Place_slope : FnR P w K mg base CX0 1 a.Place_slope (spPSlope a.Place) := ok_p_slope T
  have G_Place_offset : FnR P w K mg base CX0 1 a.Place_offset (spPOffset a.Place) := ok_p_offset T
  have G_Place_odd : FnR P w K mg base CX0 1 a.Place_odd (spPOdd a.Place) := ok_p_odd T
  refine T.d_parts_of.ok sc_parts_of (fun _ _ _ _ _ _ us hl => match us, hl with | [_], _ => rfl) (fun vs H Q E h => by obtain ⟨p, s, o, d, rfl, _⟩ := h; rfl) (fun cdv A outer s H vs Q E hr h => ?_)
  obtain ⟨p, s, o, d, rfl, ⟨dx, hp⟩, k⟩ := h
  refine ⟨_, (pss_one (ps_ret (pe_tup (pa_cons (pe_propR (pv 0) T.c_Place.cl T.p_Place_slope G_Place_slope (hr.mono (by decide))  pass0) (pa_cons (pe_propR (pv 0) T.c_Place.cl T.p_Place_offset G_Place_offset (hr.mono (by decide))  pass0) (pa_cons (pe_propR (pv 0) T.c_Place.cl T.p_Place_odd G_Place_odd (hr.mono (by decide))  pass0) pa_nil)))))), ?_⟩
  exact ⟨_, rfl, p, dx, _, rfl, hp, p, s, o, d, rfl, ⟨dx, hp⟩, _, rfl, p, dx, _, rfl, hp, p, s, o, d, rfl, ⟨dx, hp⟩, _, rfl, p, dx, _, rfl, hp, p, s, o, d, rfl, ⟨dx, hp⟩, (by show 3 ≤ sizeLine; decide), k⟩
theorem same_new0 {H : Hp} {p : Addr} {o : HO} (h : H p = none) : Same H (upd H p o) := fun b u e => by rw [upd_ne (ne_of_none e h)]; exact e
theorem NewP.grow {C : Addr} {H H' : Hp} {s o d : Int} {Q : VK} (k : NewP C H s o d Q) (e : Same H H') : NewP C H' s o d Q := fun x H2 s2 nx px => k x H2 (e.trans s2) (e.free nx) px
theorem ok_p_eq (T : Txt K mg a) : FnR P w K mg base CX0 4 a.Place_eq (spPEq a.Place) := by
  have G_parts_of : FnR P w K mg base CX0 3 a.parts_of (spPParts a.Place) := ok_parts T
  refine T.d_Place_eq.ok sc_Place_eq (fun _ _ _ _ _ _ us hl => match us, hl with | [_, _], _ => rfl) (fun vs H Q E h => by obtain ⟨p, q, s, o, d, s', o', d', rfl, _⟩ := h; rfl) (fun cdv A outer s H vs Q E hr h => ?_)
  obtain ⟨p, q, s, o, d, s', o', d', rfl, ⟨dx, hp⟩, ⟨dy, hq⟩, k⟩ := h
  refine ⟨_, (pss_one (ps_ret (pe_and (pe_callB call_isi (by rfl) T.n_isinstance (by decide +kernel) (pa_cons (pv 1) (pa_cons (pe_glob (v := .ref a.Place) rfl T.m_Place rfl) pa_nil))) (pe_one (pe_cmpR (op_eqD hr.units) (pe_callR G_parts_of (hr.mono (by decide)) T.m_parts_of T.k_parts_of pass0 (pa_cons (pv 0) pa_nil)) (pe_callR G_parts_of (hr.mono (by decide)) T.m_parts_of T.k_parts_of pass0 (pa_cons (pv 1) pa_nil)) (nomark _)))))), ?_⟩
  refine ⟨_, rfl, _, _, _, _, _, rfl, .own _, T.c_Place.tyOf hq, kit_self, true, rfl, iteT ?_⟩
  refine ⟨_, rfl, p, s, o, d, rfl, ⟨dx, hp⟩, fun t1 ht1 => ?_⟩
  have hq1 : (upd H t1 (.tup [.int s, .int o, .int d])) q = some (.ins a.Place dy (plF s' o' d')) := by rw [upd_ne (ne_of_none hq ht1)]; exact hq
  refine ⟨_, rfl, q, s', o', d', rfl, ⟨dy, hq1⟩, fun t2 ht2 => ?_⟩
  have h12 : t1 ≠ t2 := ne_of_none (upd_same (H := H) (o := .tup [.int s, .int o, .int d])) ht2
  refine ⟨.tuple [.int s, .int o, .int d], .tuple [.int s', .int o', .int d'], .tup (SqT.of (by rw [upd_ne h12]; exact upd_same)) (.cons (.int _) (.cons (.int _) (.cons (.int _) .nil))),
    .tup (SqT.of upd_same) (.cons (.int _) (.cons (.int _) (.cons (.int _) .nil))), rfl, rfl, ?_⟩
  rw [eqv3]
  refine k _ fun b u e => ?_
  have nb : b ≠ t1 := ne_of_none e ht1
  have e1 : (upd H t1 (.tup [.int s, .int o, .int d])) b = some u := by rw [upd_ne nb]; exact e
  rw [upd_ne (ne_of_none e1 ht2)]
  exact e1
end
/-- the words of a place -/
def spWords : Sp := fun vs H Q _ => ∃ q : Pl, vs = [.int q.s, .int q.o, .int q.d] ∧ q.s.natAbs.log2 < 1000 ∧ q.o.natAbs.log2 < 1000 ∧ q.d.natAbs.log2 < 1000 ∧ ∀ l H', Same H H' → H' l = some (.lst ((wordsP q).map V.str)) → Q (.ref l) H'
theorem eqv2 (s o s' o' : Int) : PyData.eqv (.tuple [.int s, .int o]) (.tuple [.int s', .int o']) = decide (s = s' ∧ o = o') := by
  rw [Bool.eq_iff_iff, decide_eq_true_eq]
  simp [PyData.eqv, PyData.eqvAll]
section
variable {P : Program} {w : World} {K : PySem.W.Frag} {mg : Str → Option Value} {base : Heap} {a : Adr}
set_option maxHeartbeats 4000000
theorem ok_words (T : Txt K mg a) : FnR P w K mg base CX0 1 a.place_words spWords := by
  refine T.d_place_words.ok sc_place_words (fun _ _ _ _ _ _ us hl => match us, hl with | [_, _, _], _ => rfl) (fun vs H Q E h => by obtain ⟨q, rfl, _⟩ := h; rfl) (fun cdv A outer s H vs Q E hr h => ?_)
  obtain ⟨⟨s0, o0, d0⟩, rfl, ls, lo, ld, k⟩ := h
  refine ⟨_, (pss_cons (ps_if (pt_cmpR (op_eqD hr.units) (pe_tup (pa_cons (pv 0) (pa_cons (pv 2) pa_nil))) (pe_tup (pa_cons pe_int (pa_cons pe_int pa_nil))) (nomark _))
          (pss_one (ps_ret (pe_lst (pa_cons pe_str (pa_cons (pe_callTy call_str_int (by rfl) T.n_str (by decide +kernel) (pa_cons (pv 1) pa_nil)) pa_nil)))))
          pss_nil)
      (pss_cons (ps_if (pt_cmpR (op_eqD hr.units) (pe_tup (pa_cons (pv 0) (pa_cons (pv 2) pa_nil))) (pe_tup (pa_cons pe_int (pa_cons pe_int pa_nil))) (nomark _))
          (pss_one (ps_ret (pe_lst (pa_cons pe_str (pa_cons (pe_callTy call_str_int (by rfl) T.n_str (by decide +kernel) (pa_cons (pe_un un_neg (pv 1)) pa_nil)) pa_nil)))))
          pss_nil)
      (pss_cons (ps_if (pt_cmpR (op_eqD hr.units) (pe_tup (pa_cons (pv 0) (pa_cons (pv 2) pa_nil))) (pe_tup (pa_cons pe_int (pa_cons pe_int pa_nil))) (nomark _))
          (pss_one (ps_ret (pe_lst (pa_cons pe_str (pa_cons (pe_callTy call_str_int (by rfl) T.n_str (by decide +kernel) (pa_cons (pv 1) pa_nil)) pa_nil)))))
          pss_nil)
      (pss_one (ps_ret (pe_lst (pa_cons pe_str (pa_cons (pe_callTy call_str_int (by rfl) T.n_str (by decide +kernel) (pa_cons (pv 0) pa_nil)) (pa_cons (pe_callTy call_str_int (by rfl) T.n_str (by decide +kernel) (pa_cons (pv 1) pa_nil)) (pa_cons (pe_callTy call_str_int (by rfl) T.n_str (by decide +kernel) (pa_cons (pv 2) pa_nil)) pa_nil)))))))))), ?_⟩
  simp only [tSeq, tIfS, tTest, tB, tAnd, tOr, tNot, tAndV, tOrV, tNotV, tIf, tOp, tUn, tChain, rEq, rNe, rI0, rI, rU, tCallR, tCons, tNil, tC, tVar, tRet, tRetN, tTup_k, tLst_k, tCB, tNext, tAsg, gName, gTup, gCons, gNil, tDrop, tPar, tFld, ClX.tCVal, tPropR, rBin, rBinT, rNeOwn, rSetL_k, gSub, tMakeK_k, tMethR, rInO, tDNewK_k, tYes, wipe, tMakeR_k, tSMeth, tSMethK, rMulS, decide_true, tNever, sFld, rIsiT, and_false, rListOf, rTupOf, rLenSeq, rIxL, rIxT, rIxS, rCat_k, rRep_k, rSlL_k, rSlS, rNewStrs_k, rAppend_k, tBM, tBM0, tM0, tM1, tSl, tNoPart, tPart, tLc_k, tFor_k, iList, iTup, iEnumT, iRng1, iRng2, iRng2L, iStr, L2.start, List.map, List.length_cons, List.length_nil, List.cons_append, List.nil_append, List.getElem?_cons_succ, List.getElem?_cons_zero, Option.some.injEq, V.int.injEq, V.bl.injEq, V.str.injEq, V.ref.injEq, exists_eq_left', exists_eq_left, and_assoc, exists_and_left, exists_eq, exists_eq', true_and, and_true, List.set_cons_zero, List.set_cons_succ, List.set, decide_eq_true_eq, Bool.not_eq_true', if_true, if_false, rIx, cx_K, nox_K, List.replicate_succ, List.replicate_zero, Nat.reduceSub, Bool.true_eq_false, Bool.false_eq_true, Nat.reduceAdd, List.cons.injEq, reduceCtorEq, false_and, false_or, or_false, tAug, rSetO, rJoin, tJs, rNewStrs_k, tMakeLS, rStrO, ClX.tCMeth, tCMethK, tDGet2, tPar3, rInD, rBinI, rBinT, rIxD, tOrT]
  refine kNew.mk (by show 2 ≤ sizeLine; decide) fun t1 H1 f1 => kNew.mk (by show 2 ≤ sizeLine; decide) fun t2 H2 f2 => ?_
  refine ⟨.tuple [.int s0, .int d0], .tuple [.int 0, .int 0], .tup (.inl (.inl (f2.get f1.at_))) (.cons (.int _) (.cons (.int _) .nil)), .tup (.inl (.inl f2.at_)) (.cons (.int _) (.cons (.int _) .nil)), rfl, rfl, ?_⟩
  have s2 := f1.same.trans f2.same
  refine ⟨_, rfl, ?_⟩
  rw [eqv2]
  by_cases c1 : s0 = 0 ∧ d0 = 0
  · rw [if_pos (decide_eq_true c1)]
    refine ⟨Nat.lt_trans lo (by decide), kNew.mk (by show 2 ≤ sizeLine; decide) fun l H9 f9 => k l H9 (s2.trans f9.same) ?_⟩
    rw [f9.at_]
    unfold wordsP
    rw [if_pos c1]
    rfl
  rw [if_neg (by rw [decide_eq_false c1]; decide)]
  refine kNew.mk (by show 2 ≤ sizeLine; decide) fun t3 H3 f3 => kNew.mk (by show 2 ≤ sizeLine; decide) fun t4 H4 f4 => ?_
  refine ⟨.tuple [.int s0, .int d0], .tuple [.int 2, .int 1], .tup (.inl (.inl (f4.get f3.at_))) (.cons (.int _) (.cons (.int _) .nil)), .tup (.inl (.inl f4.at_)) (.cons (.int _) (.cons (.int _) .nil)), rfl, rfl, ?_⟩
  have s4 := (s2.trans f3.same).trans f4.same
  refine ⟨_, rfl, ?_⟩
  rw [eqv2]
  by_cases c2 : s0 = 2 ∧ d0 = 1
  · rw [if_pos (decide_eq_true c2)]
    refine ⟨by rw [Int.natAbs_neg]; exact Nat.lt_trans lo (by decide), kNew.mk (by show 2 ≤ sizeLine; decide) fun l H9 f9 => k l H9 (s4.trans f9.same) ?_⟩
    rw [f9.at_]
    unfold wordsP
    rw [if_neg c1, if_pos c2]
    rfl
  rw [if_neg (by rw [decide_eq_false c2]; decide)]
  refine kNew.mk (by show 2 ≤ sizeLine; decide) fun t5 H5 f5 => kNew.mk (by show 2 ≤ sizeLine; decide) fun t6 H6 f6 => ?_
  refine ⟨.tuple [.int s0, .int d0], .tuple [.int 1, .int 0], .tup (.inl (.inl (f6.get f5.at_))) (.cons (.int _) (.cons (.int _) .nil)), .tup (.inl (.inl f6.at_)) (.cons (.int _) (.cons (.int _) .nil)), rfl, rfl, ?_⟩
  have s6 := (s4.trans f5.same).trans f6.same
  refine ⟨_, rfl, ?_⟩
  rw [eqv2]
  by_cases c3 : s0 = 1 ∧ d0 = 0
  · rw [if_pos (decide_eq_true c3)]
    refine ⟨Nat.lt_trans lo (by decide), kNew.mk (by show 2 ≤ sizeLine; decide) fun l H9 f9 => k l H9 (s6.trans f9.same) ?_⟩
    rw [f9.at_]
    unfold wordsP
    rw [if_neg c1, if_neg c2, if_pos c3]
    rfl
  rw [if_neg (by rw [decide_eq_false c3]; decide)]
  refine ⟨Nat.lt_trans ls (by decide), Nat.lt_trans lo (by decide), Nat.lt_trans ld (by decide), kNew.mk (by show 4 ≤ sizeLine; decide) fun l H9 f9 => k l H9 (s6.trans f9.same) ?_⟩
  rw [f9.at_]
  unfold wordsP
  rw [if_neg c1, if_neg c2, if_neg c3]
  rfl
end
def spPStr (C : Addr) : Sp := fun vs H Q _ => ∃ (p : Addr) (q : Pl), vs = [.ref p] ∧ PlA H C p q ∧ LogP q ∧ ∀ H', Same H H' → Q (.str (Txt.join " " (wordsP q))) H'
theorem int_txt {i : Int} (h : i.natAbs.log2 < 1000) : (Str.ofString (toString i)).length ≤ 1001 := by
  rw [PySem.ofString_length]
  exact int_text_length_le (k := 1000) (by decide) h
theorem words_len {q : Pl} (h : LogP q) : ((wordsP q).map fun x => x.length).sum + (wordsP q).length * ((" " : String) : Str).length ≤ 5000 := by
  have a1 := int_txt h.1
  have a2 := int_txt h.2.1
  have a3 := int_txt h.2.2
  have a4 := int_txt (i := -q.o) (by rw [Int.natAbs_neg]; exact h.2.1)
  have w1 : (("left" : String) : Str).length = 4 := by decide +kernel
  have w2 : (("right" : String) : Str).length = 5 := by decide +kernel
  have w3 : (("middle" : String) : Str).length = 6 := by decide +kernel
  have w4 : (("place" : String) : Str).length = 5 := by decide +kernel
  have w5 : ((" " : String) : Str).length = 1 := by decide +kernel
  unfold wordsP
  rw [w5]
  split
  · simp only [List.map_cons, List.map_nil, List.sum_cons, List.sum_nil, List.length_cons, List.length_nil, w1]
    omega
  split
  · simp only [List.map_cons, List.map_nil, List.sum_cons, List.sum_nil, List.length_cons, List.length_nil, w2]
    omega
  split
  · simp only [List.map_cons, List.map_nil, List.sum_cons, List.sum_nil, List.length_cons, List.length_nil, w3]
    omega
  · simp only [List.map_cons, List.map_nil, List.sum_cons, List.sum_nil, List.length_cons, List.length_nil, w4]
    omega
section
variable {P : Program} {w : World} {K : PySem.W.Frag} {mg : Str → Option Value} {base : Heap} {a : Adr}
set_option maxHeartbeats 4000000
theorem ok_pstr (T : Txt K mg a) : FnR P w K mg base CX0 2 a.Place_str (spPStr a.Place) := by
  have G_place_words : FnR P w K mg base CX0 1 a.place_words spWords := ok_words T
  refine T.d_Place_str.ok sc_Place_str (fun _ _ _ _ _ _ us hl => match us, hl with | [_], _ => rfl) (fun vs H Q E h => by obtain ⟨p, q, rfl, _⟩ := h; rfl) (fun cdv A outer s H vs Q E hr h => ?_)
  obtain ⟨p, q, rfl, ⟨dx, hp⟩, ⟨l1, l2, l3⟩, k⟩ := h
  refine ⟨_, (pss_one (ps_ret (pe_join pe_str (pe_callR G_place_words (hr.mono (by decide)) T.m_place_words T.k_place_words pass0 (pa_cons (pe_fld (pv 0) rfl) (pa_cons (pe_fld (pv 0) rfl) (pa_cons (pe_fld (pv 0) rfl) pa_nil))))))), ?_⟩
  simp only [tSeq, tIfS, tTest, tB, tAnd, tOr, tNot, tAndV, tOrV, tNotV, tIf, tOp, tUn, tChain, rEq, rNe, rI0, rI, rU, tCallR, tCons, tNil, tC, tVar, tRet, tRetN, tTup_k, tLst_k, tCB, tNext, tAsg, gName, gTup, gCons, gNil, tDrop, tPar, tFld, ClX.tCVal, tPropR, rBin, rBinT, rNeOwn, rSetL_k, gSub, tMakeK_k, tMethR, rInO, tDNewK_k, tYes, wipe, tMakeR_k, tSMeth, tSMethK, rMulS, decide_true, tNever, sFld, rIsiT, and_false, rListOf, rTupOf, rLenSeq, rIxL, rIxT, rIxS, rCat_k, rRep_k, rSlL_k, rSlS, rNewStrs_k, rAppend_k, tBM, tBM0, tM0, tM1, tSl, tNoPart, tPart, tLc_k, tFor_k, iList, iTup, iEnumT, iRng1, iRng2, iRng2L, iStr, L2.start, List.map, List.length_cons, List.length_nil, List.cons_append, List.nil_append, List.getElem?_cons_succ, List.getElem?_cons_zero, Option.some.injEq, V.int.injEq, V.bl.injEq, V.str.injEq, V.ref.injEq, exists_eq_left', exists_eq_left, and_assoc, exists_and_left, exists_eq, exists_eq', true_and, and_true, List.set_cons_zero, List.set_cons_succ, List.set, decide_eq_true_eq, Bool.not_eq_true', if_true, if_false, rIx, cx_K, nox_K, List.replicate_succ, List.replicate_zero, Nat.reduceSub, Bool.true_eq_false, Bool.false_eq_true, Nat.reduceAdd, List.cons.injEq, reduceCtorEq, false_and, false_or, or_false, tAug, rSetO, rJoin, tJs, rNewStrs_k, tMakeLS, rStrO, ClX.tCMeth, tCMethK, tDGet2, tPar3, rInD, rBinI, rBinT, rIxD, tOrT]
  exact ⟨_, _, _, hp, T.c_Place.cl, T.a_Place__slope, _, plF_slope .., _, _, _, hp, T.c_Place.cl, T.a_Place__offset, _, plF_offset .., _, _, _, hp, T.c_Place.cl, T.a_Place__odd, _, plF_odd .., q, rfl, l1, l2, l3, fun l H' s e => ⟨l, rfl, _, .inl (SqL.of e), Nat.le_trans (words_len ⟨l1, l2, l3⟩) (by decide), k H' s⟩⟩
end
end Pf
end
section
namespace Pf
open PySem PySem.Spec PyProof.Rows L2 Ow StX
open SX (S)
def manyS (z : Str) : Nat := if z = Str.ofString "left" then 1 else if z = Str.ofString "right" then 1 else if z = Str.ofString "middle" then 1 else if z = Str.ofString "place" then 3 else 0
/-- the dict of the names -/
def NumsOk (K : PySem.W.Frag) (w : World) (d : Addr) : Prop := ∃ (es : Array DictEntry) (n : Nat), KDict K w d es n ∧ ∀ z : Str, ∃ r, PySem.W.nsIn K d z = some r ∧ (r.isSome = !decide (manyS z = 0)) ∧ ∀ u, r = some u → RelV (.int (manyS z : Nat)) u
def spIsNum : Sp := fun vs H Q _ => ∃ w : List Nat, vs = [.str (S w)] ∧ LowL w ∧ w.length ≤ 20000 ∧ Q (.bl (isNum w)) H
def namedP (x : Str) (ns : List Int) : Option Pl := if x = Str.ofString "left" then ns[0]?.map (fun n => ⟨0, n, 0⟩) else if x = Str.ofString "right" then ns[0]?.map (fun n => ⟨2, -n, 1⟩) else if x = Str.ofString "middle" then ns[0]?.map (fun n => ⟨1, n, 0⟩) else match ns with | [a, b, c] => some ⟨a, b, c⟩ | _ => none
def spNamed : Sp := fun vs H Q _ => ∃ (x : Str) (l : Addr) (ns : List Int) (q : Pl), vs = [.str x, .ref l] ∧ H l = some (.lst (ns.map V.int)) ∧ namedP x ns = some q ∧ ∀ t H', Fresh H H' t (.tup [.int q.s, .int q.o, .int q.d]) → Q (.ref t) H'
def Wrds (ws : List (List Nat)) : Prop := 1 ≤ ws.length ∧ ws.length ≤ 20002 ∧ ∀ p ∈ ws, LowL p ∧ p.length ≤ 20000
def spTake : Sp := fun vs H Q _ => ∃ (l : Addr) (ws : List (List Nat)), vs = [.ref l, .int 0] ∧ H l = some (.lst (strsV ws)) ∧ Wrds ws ∧
  (∀ k t H', takeP ws = some k → Same H H' → H' t = some (.tup [.non, .int (k : Nat)]) → Q (.ref t) H') ∧
  (takeP ws = none → ∀ t t2 H', Same H H' → H' t = some (.tup [.ref t2, .int ((many (ws.headD []) + 1 : Nat) : Int)]) → H' t2 = some (.tup [.int (partsW ws).s, .int (partsW ws).o, .int (partsW ws).d]) → Q (.ref t) H')
theorem head_words {w0 : List Nat} {wt : List (List Nat)} (h : ¬ many w0 = 0) : ∃ z t, wordsP (partsW (w0 :: wt)) = z :: t ∧ (z = S w0 ↔ ¬ (many w0 = 3 ∧ odd3 (vAt (w0 :: wt) 1) (vAt (w0 :: wt) 3) = true)) := by
  have e0 : S (((w0 :: wt).headD [])) = S w0 := rfl
  rcases many_cases w0 with ⟨e, m⟩ | ⟨e, m⟩ | ⟨e, m⟩ | ⟨e, m⟩ | ⟨_, _, _, _, m⟩
  · have ep : partsW (w0 :: wt) = ⟨0, vAt (w0 :: wt) 1, 0⟩ := by unfold partsW; rw [if_pos (by rw [e0]; exact e)]
    rw [ep, wordsP_left ⟨rfl, rfl⟩]
    exact ⟨_, _, rfl, ⟨fun _ z => by rw [m] at z; exact absurd z.1 (by decide), fun _ => e.symm⟩⟩
  · have ep : partsW (w0 :: wt) = ⟨2, -vAt (w0 :: wt) 1, 1⟩ := by unfold partsW; rw [if_neg (by rw [e0, e]; exact fun z => sLR z.symm), if_pos (by rw [e0]; exact e)]
    rw [ep, wordsP_right ⟨rfl, rfl⟩]
    exact ⟨_, _, rfl, ⟨fun _ z => by rw [m] at z; exact absurd z.1 (by decide), fun _ => e.symm⟩⟩
  · have ep : partsW (w0 :: wt) = ⟨1, vAt (w0 :: wt) 1, 0⟩ := by unfold partsW; rw [if_neg (by rw [e0, e]; exact fun z => sLM z.symm), if_neg (by rw [e0, e]; exact fun z => sRM z.symm), if_pos (by rw [e0]; exact e)]
    rw [ep, wordsP_middle ⟨rfl, rfl⟩]
    exact ⟨_, _, rfl, ⟨fun _ z => by rw [m] at z; exact absurd z.1 (by decide), fun _ => e.symm⟩⟩
  · have ep : partsW (w0 :: wt) = ⟨vAt (w0 :: wt) 1, vAt (w0 :: wt) 2, vAt (w0 :: wt) 3⟩ := by
      unfold partsW
      rw [if_neg (by rw [e0, e]; exact fun z => sLP z.symm), if_neg (by rw [e0, e]; exact fun z => sRP z.symm), if_neg (by rw [e0, e]; exact fun z => sMP z.symm)]
    rw [ep]
    cases ho : odd3 (vAt (w0 :: wt) 1) (vAt (w0 :: wt) 3) with
    | false =>
      rw [wordsP_place ho]
      exact ⟨_, _, rfl, ⟨fun _ z => Bool.noConfusion z.2, fun _ => e.symm⟩⟩
    | true =>
      have ho' := ho
      unfold odd3 at ho'
      simp only [Bool.or_eq_true, decide_eq_true_eq] at ho'
      rcases ho' with (c | c) | c
      · rw [wordsP_left c]
        exact ⟨_, _, rfl, ⟨fun z => by rw [e] at z; exact absurd z sLP, fun z => absurd ⟨m, rfl⟩ z⟩⟩
      · rw [wordsP_right c]
        exact ⟨_, _, rfl, ⟨fun z => by rw [e] at z; exact absurd z sRP, fun z => absurd ⟨m, rfl⟩ z⟩⟩
      · rw [wordsP_middle c]
        exact ⟨_, _, rfl, ⟨fun z => by rw [e] at z; exact absurd z sMP, fun z => absurd ⟨m, rfl⟩ z⟩⟩
  · exact absurd m h
theorem named_words {w0 : List Nat} {wt : List (List Nat)} {ns : List Int} (h : ¬ many w0 = 0) (hl : ns.length = many w0) (ha : ∀ j, j < many w0 → ns[j]? = some (vAt (w0 :: wt) (1 + j))) : namedP (S w0) ns = some (partsW (w0 :: wt)) := by
  have e0 : S (((w0 :: wt).headD [])) = S w0 := rfl
  unfold namedP partsW
  rcases many_cases w0 with ⟨e, m⟩ | ⟨e, m⟩ | ⟨e, m⟩ | ⟨e, m⟩ | ⟨_, _, _, _, m⟩
  · rw [if_pos e, if_pos (by rw [e0]; exact e), ha 0 (by omega)]
    rfl
  · have n1 : ¬ S w0 = Str.ofString "left" := by rw [e]; exact fun z => sLR z.symm
    rw [if_neg n1, if_pos e, if_neg (by rw [e0]; exact n1), if_pos (by rw [e0]; exact e), ha 0 (by omega)]
    rfl
  · have n1 : ¬ S w0 = Str.ofString "left" := by rw [e]; exact fun z => sLM z.symm
    have n2 : ¬ S w0 = Str.ofString "right" := by rw [e]; exact fun z => sRM z.symm
    rw [if_neg n1, if_neg n2, if_pos e, if_neg (by rw [e0]; exact n1), if_neg (by rw [e0]; exact n2), if_pos (by rw [e0]; exact e), ha 0 (by omega)]
    rfl
  · have n1 : ¬ S w0 = Str.ofString "left" := by rw [e]; exact fun z => sLP z.symm
    have n2 : ¬ S w0 = Str.ofString "right" := by rw [e]; exact fun z => sRP z.symm
    have n3 : ¬ S w0 = Str.ofString "middle" := by rw [e]; exact fun z => sMP z.symm
    rw [if_neg n1, if_neg n2, if_neg n3, if_neg (by rw [e0]; exact n1), if_neg (by rw [e0]; exact n2), if_neg (by rw [e0]; exact n3)]
    have a0 := ha 0 (by omega)
    have a1 := ha 1 (by omega)
    have a2 := ha 2 (by omega)
    rcases ns with _ | ⟨n1, _ | ⟨n2, _ | ⟨n3, _ | ⟨n4, r⟩⟩⟩⟩
    · cases a0
    · cases a1
    · cases a2
    · cases a0; cases a1; cases a2; rfl
    · simp only [List.length_cons] at hl; omega
  · exact absurd m h
theorem parts_log {w0 : List Nat} {wt : List (List Nat)} (h : ¬ many w0 = 0) (ha : ∀ j, j < many w0 → badAt (w0 :: wt) (1 + j) = false) : LogP (partsW (w0 :: wt)) := by
  have e0 : S (((w0 :: wt).headD [])) = S w0 := rfl
  have lg : ∀ j, j < many w0 → (vAt (w0 :: wt) (1 + j)).natAbs.log2 < 1000 := fun j hj => by
    obtain ⟨p, hp, np⟩ := good_at (ha j hj)
    rw [vAt_of hp]
    exact log60 (num_lt np)
  unfold partsW
  rcases many_cases w0 with ⟨e, m⟩ | ⟨e, m⟩ | ⟨e, m⟩ | ⟨e, m⟩ | ⟨_, _, _, _, m⟩
  · rw [if_pos (by rw [e0]; exact e)]
    exact ⟨(show (0 : Int).natAbs.log2 < 1000 by decide), lg 0 (by omega), (show (0 : Int).natAbs.log2 < 1000 by decide)⟩
  · rw [if_neg (by rw [e0, e]; exact fun z => sLR z.symm), if_pos (by rw [e0]; exact e)]
    exact ⟨(show (2 : Int).natAbs.log2 < 1000 by decide), (show (-vAt (w0 :: wt) (1 + 0)).natAbs.log2 < 1000 by rw [Int.natAbs_neg]; exact lg 0 (by omega)), (show (1 : Int).natAbs.log2 < 1000 by decide)⟩
  · rw [if_neg (by rw [e0, e]; exact fun z => sLM z.symm), if_neg (by rw [e0, e]; exact fun z => sRM z.symm), if_pos (by rw [e0]; exact e)]
    exact ⟨(show (1 : Int).natAbs.log2 < 1000 by decide), lg 0 (by omega), (show (0 : Int).natAbs.log2 < 1000 by decide)⟩
  · rw [if_neg (by rw [e0, e]; exact fun z => sLP z.symm), if_neg (by rw [e0, e]; exact fun z => sRP z.symm), if_neg (by rw [e0, e]; exact fun z => sMP z.symm)]
    exact ⟨lg 0 (by omega), lg 1 (by omega), lg 2 (by omega)⟩
  · exact absurd m h
section
variable {P : Program} {w : World} {K : PySem.W.Frag} {mg : Str → Option Value} {base : Heap} {a : Adr}
set_option maxHeartbeats 4000000
theorem ok_isnum (T : Txt K mg a) : FnR P w K mg base CX0 1 a.is_number spIsNum := by
  refine T.d_is_number.ok sc_is_number (fun _ _ _ _ _ _ us hl => match us, hl with | [_], _ => rfl) (fun vs H Q E h => by obtain ⟨w, rfl, _⟩ := h; rfl) (fun cdv A outer s H vs Q E hr h => ?_)
  obtain ⟨w, rfl, lw, hw, k⟩ := h
  refine ⟨_, (pss_cons (ps_set (i := 1) sc_is_number.nd rfl (Or.inl rfl) (pe_m1 PySem.F.slot_str_removeprefix PySem.F.type_str_removeprefix mt_removeprefix (pv 0) pe_str))
      (pss_cons (ps_if (pt_not (PW.pt (pw_and (pt_val (pe_m0 PySem.F.slot_str_isascii PySem.F.type_str_isascii mt_isascii (pv 1))) (pw_and (pt_val (pe_m0 PySem.F.slot_str_isdigit PySem.F.type_str_isdigit mt_isdigit (pv 1))) (pw_and1 (pt_cmpR op_le (pe_callB call_len_str (by rfl) T.n_len (by decide +kernel) (pa_cons (pv 1) pa_nil)) (pe_glob (v := .int 60) rfl T.m_FIGURES ⟨_, rfl⟩) (nomark _)))))))
          (pss_one (ps_ret pe_bl))
          pss_nil)
      (pss_one (ps_ret (pe_cmpR op_eq (pe_callTy call_str_int (by rfl) T.n_str (by decide +kernel) (pa_cons (pe_callTy call_int_str (by rfl) T.n_int (by decide +kernel) (pa_cons (pv 0) pa_nil)) pa_nil)) (pv 0) (nomark _)))))), ?_⟩
  simp only [bod_prefix, tSeq, tIfS, tTest, tB, tAnd, tOr, tNot, tAndV, tOrV, tNotV, tIf, tOp, tUn, tChain, rEq, rNe, rI0, rI, rU, tCallR, tCons, tNil, tC, tVar, tRet, tRetN, tTup_k, tLst_k, tCB, tNext, tAsg, gName, gTup, gCons, gNil, tDrop, tPar, tFld, ClX.tCVal, tPropR, rBin, rBinT, rNeOwn, rSetL_k, gSub, tMakeK_k, tMethR, rInO, tDNewK_k, tYes, wipe, tMakeR_k, tSMeth, tSMethK, rMulS, decide_true, tNever, sFld, rIsiT, and_false, rListOf, rTupOf, rLenSeq, rIxL, rIxT, rIxS, rCat_k, rRep_k, rSlL_k, rSlS, rNewStrs_k, rAppend_k, tBM, tBM0, tM0, tM1, tSl, tNoPart, tPart, tLc_k, tFor_k, iList, iTup, iEnumT, iRng1, iRng2, iRng2L, iStr, L2.start, List.map, List.length_cons, List.length_nil, List.cons_append, List.nil_append, List.getElem?_cons_succ, List.getElem?_cons_zero, Option.some.injEq, V.int.injEq, V.bl.injEq, V.str.injEq, V.ref.injEq, exists_eq_left', exists_eq_left, and_assoc, exists_and_left, exists_eq, exists_eq', true_and, and_true, List.set_cons_zero, List.set_cons_succ, List.set, decide_eq_true_eq, Bool.not_eq_true', if_true, if_false, rIx, cx_K, nox_K, List.replicate_succ, List.replicate_zero, Nat.reduceSub, Bool.true_eq_false, Bool.false_eq_true, Nat.reduceAdd, List.cons.injEq, reduceCtorEq, false_and, false_or, or_false, tAug, rSetO, rJoin, tJs, rNewStrs_k, tMakeLS, rStrO, ClX.tCMeth, tCMethK, tDGet2, tPar3, rInD, rBinI, rBinT, rIxD, tOrT]
  have bl := bod_len w
  refine ⟨by rw [SX.S_len]; exact Nat.le_trans hw (by decide), ?_⟩
  rw [low_ascii (bod_low lw), if_pos rfl, low_digit (bod_low lw)]
  cases hd : (decide (1 ≤ (bod w).length) && (bod w).all isDig) with
  | false =>
    rw [if_neg (by decide)]
    have e : isNum w = false := by unfold isNum; rw [hd]; rfl
    rw [e] at k
    exact k
  | true =>
    rw [if_pos rfl]
    refine ⟨by rw [SX.S_len]; exact Nat.le_trans (Nat.le_trans bl hw) (by decide), ?_⟩
    rw [SX.S_len]
    simp only [Bool.and_eq_true, decide_eq_true_eq] at hd
    by_cases h3 : (bod w).length ≤ 60
    · rw [if_neg (by simp; omega)]
      obtain ⟨i1, i2⟩ := int_of hd.1 hd.2 h3
      have lt := num_lt0 hd.2 h3
      refine ⟨_, i1, i2, Nat.lt_trans (log60 lt) (by decide), rfl, ?_⟩
      rw [back_dec hd.1 hd.2]
      have e : isNum w = (decide (w = [48]) || !decide ((bod w)[0]? = some 48)) := by unfold isNum; rw [decide_eq_true hd.1, hd.2, decide_eq_true h3]; rfl
      rw [e] at k
      exact k
    · rw [if_pos (decide_eq_false (by omega))]
      have e : isNum w = false := by unfold isNum; rw [decide_eq_false h3]; simp
      rw [e] at k
      exact k
theorem ok_named (T : Txt K mg a) : FnR P w K mg base CX0 1 a.named_parts spNamed := by
  refine T.d_named_parts.ok sc_named_parts (fun _ _ _ _ _ _ us hl => match us, hl with | [_, _], _ => rfl) (fun vs H Q E h => by obtain ⟨x, l, ns, q, rfl, _⟩ := h; rfl) (fun cdv A outer s H vs Q E hr h => ?_)
  obtain ⟨x, l, ns, q, rfl, hl, hq, k⟩ := h
  refine ⟨_, (pss_cons (ps_if (pt_cmpR op_eq (pv 0) pe_str (nomark _))
          (pss_one (ps_ret (pe_tup (pa_cons pe_int (pa_cons (pe_ix ix_list (pv 1) pe_int (fun _ _ => rfl)) (pa_cons pe_int pa_nil))))))
          pss_nil)
      (pss_cons (ps_if (pt_cmpR op_eq (pv 0) pe_str (nomark _))
          (pss_one (ps_ret (pe_tup (pa_cons pe_int (pa_cons (pe_un un_neg (pe_ix ix_list (pv 1) pe_int (fun _ _ => rfl))) (pa_cons pe_int pa_nil))))))
          pss_nil)
      (pss_cons (ps_if (pt_cmpR op_eq (pv 0) pe_str (nomark _))
          (pss_one (ps_ret (pe_tup (pa_cons pe_int (pa_cons (pe_ix ix_list (pv 1) pe_int (fun _ _ => rfl)) (pa_cons pe_int pa_nil))))))
          pss_nil)
      (pss_one (ps_ret (pe_tup (pa_cons (pe_ix ix_list (pv 1) pe_int (fun _ _ => rfl)) (pa_cons (pe_ix ix_list (pv 1) pe_int (fun _ _ => rfl)) (pa_cons (pe_ix ix_list (pv 1) pe_int (fun _ _ => rfl)) pa_nil))))))))), ?_⟩
  simp only [tSeq, tIfS, tTest, tB, tAnd, tOr, tNot, tAndV, tOrV, tNotV, tIf, tOp, tUn, tChain, rEq, rNe, rI0, rI, rU, tCallR, tCons, tNil, tC, tVar, tRet, tRetN, tTup_k, tLst_k, tCB, tNext, tAsg, gName, gTup, gCons, gNil, tDrop, tPar, tFld, ClX.tCVal, tPropR, rBin, rBinT, rNeOwn, rSetL_k, gSub, tMakeK_k, tMethR, rInO, tDNewK_k, tYes, wipe, tMakeR_k, tSMeth, tSMethK, rMulS, decide_true, tNever, sFld, rIsiT, and_false, rListOf, rTupOf, rLenSeq, rIxL, rIxT, rIxS, rCat_k, rRep_k, rSlL_k, rSlS, rNewStrs_k, rAppend_k, tBM, tBM0, tM0, tM1, tSl, tNoPart, tPart, tLc_k, tFor_k, iList, iTup, iEnumT, iRng1, iRng2, iRng2L, iStr, L2.start, List.map, List.length_cons, List.length_nil, List.cons_append, List.nil_append, List.getElem?_cons_succ, List.getElem?_cons_zero, Option.some.injEq, V.int.injEq, V.bl.injEq, V.str.injEq, V.ref.injEq, exists_eq_left', exists_eq_left, and_assoc, exists_and_left, exists_eq, exists_eq', true_and, and_true, List.set_cons_zero, List.set_cons_succ, List.set, decide_eq_true_eq, Bool.not_eq_true', if_true, if_false, rIx, cx_K, nox_K, List.replicate_succ, List.replicate_zero, Nat.reduceSub, Bool.true_eq_false, Bool.false_eq_true, Nat.reduceAdd, List.cons.injEq, reduceCtorEq, false_and, false_or, or_false, tAug, rSetO, rJoin, tJs, rNewStrs_k, tMakeLS, rStrO, ClX.tCMeth, tCMethK, tDGet2, tPar3, rInD, rBinI, rBinT, rIxD, tOrT]
  unfold namedP at hq
  have at_ : ∀ (i : Nat) (n : Int), ns[i]? = some n → atI (ns.map V.int) (i : Int) = some (.int n) := fun i n h => atI_nat (by rw [List.getElem?_map, h]; rfl)
  refine ⟨rfl, ?_⟩
  by_cases h1 : x = Str.ofString "left"
  · rw [if_pos h1] at hq ⊢
    obtain ⟨n, hn, rfl⟩ := Option.map_eq_some_iff.mp hq
    exact ⟨_, SqL.of hl, _, at_ 0 n hn, kNew.mk (by show 3 ≤ sizeLine; decide) fun t H1 f1 => k t H1 f1⟩
  rw [if_neg h1] at hq ⊢
  refine ⟨rfl, ?_⟩
  by_cases h2 : x = Str.ofString "right"
  · rw [if_pos h2] at hq ⊢
    obtain ⟨n, hn, rfl⟩ := Option.map_eq_some_iff.mp hq
    exact ⟨_, SqL.of hl, _, at_ 0 n hn, _, rfl, kNew.mk (by show 3 ≤ sizeLine; decide) fun t H1 f1 => k t H1 f1⟩
  rw [if_neg h2] at hq ⊢
  refine ⟨rfl, ?_⟩
  by_cases h3 : x = Str.ofString "middle"
  · rw [if_pos h3] at hq ⊢
    obtain ⟨n, hn, rfl⟩ := Option.map_eq_some_iff.mp hq
    exact ⟨_, SqL.of hl, _, at_ 0 n hn, kNew.mk (by show 3 ≤ sizeLine; decide) fun t H1 f1 => k t H1 f1⟩
  rw [if_neg h3] at hq ⊢
  rcases ns with _ | ⟨n1, _ | ⟨n2, _ | ⟨n3, _ | ⟨n4, r⟩⟩⟩⟩ <;> cases hq
  exact ⟨_, SqL.of hl, _, at_ 0 n1 rfl, _, SqL.of hl, _, at_ 1 n2 rfl, _, SqL.of hl, _, at_ 2 n3 rfl, kNew.mk (by show 3 ≤ sizeLine; decide) fun t H1 f1 => k t H1 f1⟩
theorem ok_take (T : Txt K mg a) (ND : NumsOk K w a.NUMBERS) : FnR P w K mg base CX0 3 a.take_parts spTake := by
  obtain ⟨es, nn, KD, look⟩ := ND
  have G_is_number : FnR P w K mg base CX0 1 a.is_number spIsNum := ok_isnum T
  have G_named_parts : FnR P w K mg base CX0 1 a.named_parts spNamed := ok_named T
  have G_place_words : FnR P w K mg base CX0 1 a.place_words spWords := ok_words T
  refine T.d_take_parts.ok sc_take_parts (fun _ _ _ _ _ _ us hl => match us, hl with | [_, _], _ => rfl) (fun vs H Q E h => by obtain ⟨l, ws, rfl, _⟩ := h; rfl) (fun cdv A outer s H vs Q E hr h => ?_)
  obtain ⟨l, ws, rfl, hl, W, kb, kg⟩ := h
  refine ⟨_, (pss_cons (ps_if (PW.pt (pw_or (pt_cmpR op_ge (pv 1) (pe_callB call_len_seq (by rfl) T.n_len (by decide +kernel) (pa_cons (pv 0) pa_nil)) (nomark _)) (pw_or1 (pt_cmpR (op_notIn_kd KD) (pe_ix ix_list (pv 0) (pv 1) (fun _ _ => rfl)) (pe_glob (v := .ref a.NUMBERS) rfl T.m_NUMBERS rfl) (by rfl)))))
          (pss_one (ps_ret (pe_tup (pa_cons pe_non (pa_cons (pv 1) pa_nil)))))
          pss_nil)
      (pss_cons (ps_set (i := 2) sc_take_parts.nd rfl (Or.inl rfl) (pe_op op_add (pe_op op_add (pv 1) pe_int) (pe_ix ix_kdict (pe_glob (v := .ref a.NUMBERS) rfl T.m_NUMBERS rfl) (pe_ix ix_list (pv 0) (pv 1) (fun _ _ => rfl)) (fun _ _ => rfl))))
      (pss_cons (ps_set (i := 3) sc_take_parts.nd rfl (Or.inl rfl) (pe_lst pa_nil))
      (pss_cons (ps_for PassesOwn.never rfl (pi_range2 rfl T.n_range (pa_cons (pe_op op_add (pv 1) pe_int) (pa_cons (pv 2) pa_nil))) (pg_name (i := 4) sc_take_parts.nd rfl (Or.inl rfl))
          (pss_cons (ps_if (PW.pt (pw_or (pt_cmpR op_ge (pv 4) (pe_callB call_len_seq (by rfl) T.n_len (by decide +kernel) (pa_cons (pv 0) pa_nil)) (nomark _)) (pw_or1 (pt_not (pt_val (pe_callR G_is_number (hr.mono (by decide)) T.m_is_number T.k_is_number pass0 (pa_cons (pe_ix ix_list (pv 0) (pv 4) (fun _ _ => rfl)) pa_nil)))))))
              (pss_one (ps_ret (pe_tup (pa_cons pe_non (pa_cons (pv 4) pa_nil)))))
              pss_nil)
          (pss_one (ps_expr (pe_bm PySem.F.plainAttrs_list PySem.F.slot_list_append PySem.F.type_list_append mt_append (pv 3) (pa_cons (pe_callTy call_int_str (by rfl) T.n_int (by decide +kernel) (pa_cons (pe_ix ix_list (pv 0) (pv 4) (fun _ _ => rfl)) pa_nil)) pa_nil))))))
      (pss_cons (ps_set (i := 5) sc_take_parts.nd rfl (Or.inl rfl) (pe_callR G_named_parts (hr.mono (by decide)) T.m_named_parts T.k_named_parts pass0 (pa_cons (pe_ix ix_list (pv 0) (pv 1) (fun _ _ => rfl)) (pa_cons (pv 3) pa_nil))))
      (pss_cons (ps_if (pt_cmpR op_ne (pe_ix ix_list (pe_callS1 G_place_words (hr.mono (by decide)) T.k_place_words rfl T.m_place_words pass0 (pv 5)) pe_int (fun _ _ => rfl)) (pe_ix ix_list (pv 0) (pv 1) (fun _ _ => rfl)) (nomark _))
          (pss_one (ps_ret (pe_tup (pa_cons pe_non (pa_cons (pv 1) pa_nil)))))
          pss_nil)
      (pss_one (ps_ret (pe_tup (pa_cons (pv 5) (pa_cons (pv 2) pa_nil))))))))))), ?_⟩
  obtain ⟨w1, w2, w3⟩ := W
  obtain ⟨w0, wt, rfl⟩ : ∃ w0 wt, ws = w0 :: wt := by
    cases ws with
    | nil => exact absurd w1 (by decide)
    | cons a b => exact ⟨_, _, rfl⟩
  have hd : (w0 :: wt).headD [] = w0 := rfl
  simp only [tSeq, tIfS, tTest, tB, tAnd, tOr, tNot, tAndV, tOrV, tNotV, tIf, tOp, tUn, tChain, rEq, rNe, rI0, rI, rU, tCallR, tCons, tNil, tC, tVar, tRet, tRetN, tTup_k, tLst_k, tCB, tNext, tAsg, gName, gTup, gCons, gNil, tDrop, tPar, tFld, ClX.tCVal, tPropR, rBin, rBinT, rNeOwn, rSetL_k, gSub, tMakeK_k, tMethR, rInO, tDNewK_k, tYes, wipe, tMakeR_k, tSMeth, tSMethK, rMulS, decide_true, tNever, sFld, rIsiT, and_false, rListOf, rTupOf, rLenSeq, rIxL, rIxT, rIxS, rCat_k, rRep_k, rSlL_k, rSlS, rNewStrs_k, rAppend_k, tBM, tBM0, tM0, tM1, tSl, tNoPart, tPart, tLc_k, tFor_k, iList, iTup, iEnumT, iRng1, iRng2, iRng2L, iStr, L2.start, List.map, List.length_cons, List.length_nil, List.cons_append, List.nil_append, List.getElem?_cons_succ, List.getElem?_cons_zero, Option.some.injEq, V.int.injEq, V.bl.injEq, V.str.injEq, V.ref.injEq, exists_eq_left', exists_eq_left, and_assoc, exists_and_left, exists_eq, exists_eq', true_and, and_true, List.set_cons_zero, List.set_cons_succ, List.set, decide_eq_true_eq, Bool.not_eq_true', if_true, if_false, rIx, cx_K, nox_K, List.replicate_succ, List.replicate_zero, Nat.reduceSub, Bool.true_eq_false, Bool.false_eq_true, Nat.reduceAdd, List.cons.injEq, reduceCtorEq, false_and, false_or, or_false, tAug, rSetO, rJoin, tJs, rNewStrs_k, tMakeLS, rStrO, ClX.tCMeth, tCMethK, tDGet2, tPar3, rInD, rBinI, rBinT, rIxD, tOrT]
  have a0 : atI (strsV (w0 :: wt)) 0 = some (.str (S w0)) := atI_nat (j := 0) rfl
  obtain ⟨r, hr', hs, hv⟩ := look (S w0)
  have em : manyS (S w0) = many w0 := rfl
  refine ⟨_, .inl (SqL.of hl), ?_⟩
  rw [strsV_len, if_neg (by omega)]
  refine ⟨_, SqL.of hl, _, a0, _, rfl, r, hr', ?_⟩
  cases r with
  | none =>
    rw [if_pos (by rfl)]
    have m0 : many w0 = 0 := by rw [em] at hs; simpa using hs.symm
    have e : takeP (w0 :: wt) = some 0 := by unfold takeP; rw [hd, if_pos m0]
    exact kNew.mk (by show 2 ≤ sizeLine; decide) fun t H1 f1 => kb 0 t H1 e f1.same f1.at_
  | some u =>
    rw [if_neg (by simp)]
    have m0 : ¬ many w0 = 0 := by rw [em] at hs; simpa using hs.symm
    have m3 : many w0 ≤ 3 := by rcases many_cases w0 with ⟨_, m⟩ | ⟨_, m⟩ | ⟨_, m⟩ | ⟨_, m⟩ | ⟨_, _, _, _, m⟩ <;> omega
    refine ⟨_, SqL.of hl, _, a0, _, rfl, .int (many w0 : Nat), ⟨es, nn, u, KD.at_, KD.lit, hr', hv u rfl⟩, _, rfl, kNew.mk (by show 0 ≤ sizeLine; decide) fun nl H1 f1 => ⟨by decide, by decide, by omega, by omega, ?_⟩⟩
    have nn0 : H nl = none := f1.new
    generalize hm : many w0 = m at *
    refine kFor.it walk_range (fun i σ H' => (∀ b o, b ≠ nl → H b = some o → H' b = some o) ∧ (∃ ns : List Int, H' nl = some (.lst (ns.map V.int)) ∧ ns.length = i ∧ ∀ j, j < i → ns[j]? = some (vAt (w0 :: wt) (1 + j)) ∧ badAt (w0 :: wt) (1 + j) = false) ∧ firstFrom (w0 :: wt) 1 m = firstFrom (w0 :: wt) (1 + i) (m - i) ∧ ∃ x4 x5, σ = [some (.ref l), some (.int 0), some (.int (0 + 1 + (m : Int))), some (.ref nl), x4, x5]) ?h0 (fun _ _ _ _ _ => trivial) (fun i xv σ H2 H3 hi hP hY => ?body) fun σ H2 hP => ?fin
    case h0 => exact ⟨fun b o _ e => f1.same _ _ e, ⟨[], f1.at_, rfl, fun j h => absurd h (Nat.not_lt_zero _)⟩, rfl, _, _, rfl⟩
    case body =>
      obtain ⟨sb, ⟨ns, hns, ln, gd⟩, ff, x4, x5, rfl⟩ := hP
      obtain ⟨rfl, rfl⟩ := hY
      simp only [tSeq, tIfS, tTest, tB, tAnd, tOr, tNot, tAndV, tOrV, tNotV, tIf, tOp, tUn, tChain, rEq, rNe, rI0, rI, rU, tCallR, tCons, tNil, tC, tVar, tRet, tRetN, tTup_k, tLst_k, tCB, tNext, tAsg, gName, gTup, gCons, gNil, tDrop, tPar, tFld, ClX.tCVal, tPropR, rBin, rBinT, rNeOwn, rSetL_k, gSub, tMakeK_k, tMethR, rInO, tDNewK_k, tYes, wipe, tMakeR_k, tSMeth, tSMethK, rMulS, decide_true, tNever, sFld, rIsiT, and_false, rListOf, rTupOf, rLenSeq, rIxL, rIxT, rIxS, rCat_k, rRep_k, rSlL_k, rSlS, rNewStrs_k, rAppend_k, tBM, tBM0, tM0, tM1, tSl, tNoPart, tPart, tLc_k, tFor_k, iList, iTup, iEnumT, iRng1, iRng2, iRng2L, iStr, L2.start, List.map, List.length_cons, List.length_nil, List.cons_append, List.nil_append, List.getElem?_cons_succ, List.getElem?_cons_zero, Option.some.injEq, V.int.injEq, V.bl.injEq, V.str.injEq, V.ref.injEq, exists_eq_left', exists_eq_left, and_assoc, exists_and_left, exists_eq, exists_eq', true_and, and_true, List.set_cons_zero, List.set_cons_succ, List.set, decide_eq_true_eq, Bool.not_eq_true', if_true, if_false, rIx, cx_K, nox_K, List.replicate_succ, List.replicate_zero, Nat.reduceSub, Bool.true_eq_false, Bool.false_eq_true, Nat.reduceAdd, List.cons.injEq, reduceCtorEq, false_and, false_or, or_false, tAug, rSetO, rJoin, tJs, rNewStrs_k, tMakeLS, rStrO, ClX.tCMeth, tCMethK, tDGet2, tPar3, rInD, rBinI, rBinT, rIxD, tOrT]
      have hi : i < (0 + 1 + (m : Int) - (0 + 1)).toNat := hi
      have him : i < m := by omega
      have ln3 : l ≠ nl := f1.ne hl
      have l3 := sb l _ ln3 hl
      have sm : Same H H3 := fun b o e => sb b o (f1.ne e) e
      obtain ⟨mi, hmi⟩ : ∃ k, m - i = k + 1 := ⟨m - i - 1, by omega⟩
      have ek : (0 + 1 + (i : Int)) = ((1 + i : Nat) : Int) := by omega
      rw [hmi, first_succ] at ff
      have bad : badAt (w0 :: wt) (1 + i) = true → ∀ H4, Same H3 H4 → kNew HO.tup Q [V.non, V.int (0 + 1 + (i : Int))] H4 := fun hb H4 s4 => by
        rw [if_pos hb] at ff
        have e : takeP (w0 :: wt) = some (1 + i) := by unfold takeP; rw [hd, hm, if_neg m0, ff]
        rw [ek]
        exact kNew.mk (by show 2 ≤ sizeLine; decide) fun t H5 f5 => kb (1 + i) t H5 e ((sm.trans s4).trans f5.same) f5.at_
      refine ⟨_, .inl (SqL.of l3), ?_⟩
      rw [strsV_len]
      by_cases hk : (w0 :: wt).length ≤ 1 + i
      · rw [if_pos (by omega)]
        refine bad ?_ _ (Same.refl _)
        unfold badAt
        rw [List.getElem?_eq_none hk]
      · rw [if_neg (by omega)]
        obtain ⟨p, hp⟩ : ∃ p, (w0 :: wt)[1 + i]? = some p := ⟨_, List.getElem?_eq_getElem (by omega)⟩
        have atv : atI (strsV (w0 :: wt)) (0 + 1 + (i : Int)) = some (.str (S p)) := by
          rw [ek]
          exact atI_nat (strsV_at hp)
        obtain ⟨lp, pl⟩ := w3 p (List.mem_of_getElem? hp)
        refine ⟨_, SqL.of l3, _, atv, p, rfl, lp, pl, _, rfl, ?_⟩
        cases hn : isNum p with
        | false =>
          rw [if_pos rfl]
          refine bad ?_ _ (Same.refl _)
          unfold badAt
          rw [hp]
          simp [hn]
        | true =>
          rw [if_neg (by decide)]
          have hb := good_not hp hn
          rw [if_neg (by rw [hb]; decide)] at ff
          have hn' := hn
          unfold isNum at hn'
          simp only [Bool.and_eq_true, decide_eq_true_eq] at hn'
          obtain ⟨i1, i2⟩ := int_of hn'.1.1.1 hn'.1.1.2 hn'.1.2
          refine ⟨.inl ⟨rfl, _, SqL.of hns⟩, _, SqL.of l3, _, atv, _, rfl, _, i1, i2, _, hns, ?_, kPut.mk fun H4 f4 => ⟨fun b o nb e => f4.get nb (sb b o nb e), ⟨ns ++ [numV p], ?_, ?_, fun j hj => ?_⟩, ?_⟩⟩
          · rw [List.length_map, ln]
            exact Nat.lt_of_lt_of_le (show i < 3 by omega) (by decide)
          · rw [f4.at_, List.map_append]
            rfl
          · rw [List.length_append, ln]
            rfl
          · by_cases hj2 : j < i
            · obtain ⟨g1, g2⟩ := gd j hj2
              exact ⟨by rw [List.getElem?_append_left (by omega)]; exact g1, g2⟩
            · obtain rfl : j = i := by omega
              refine ⟨?_, hb⟩
              rw [List.getElem?_append_right (by omega), ln, Nat.sub_self, vAt_of hp]
              rfl
          · rw [ff, show m - (i + 1) = mi from by omega, show 1 + (i + 1) = 1 + i + 1 from by omega]
    case fin =>
      obtain ⟨sb, ⟨ns, hns, ln, gd⟩, ff, x4, x5, rfl⟩ := hP
      simp only [tSeq, tIfS, tTest, tB, tAnd, tOr, tNot, tAndV, tOrV, tNotV, tIf, tOp, tUn, tChain, rEq, rNe, rI0, rI, rU, tCallR, tCons, tNil, tC, tVar, tRet, tRetN, tTup_k, tLst_k, tCB, tNext, tAsg, gName, gTup, gCons, gNil, tDrop, tPar, tFld, ClX.tCVal, tPropR, rBin, rBinT, rNeOwn, rSetL_k, gSub, tMakeK_k, tMethR, rInO, tDNewK_k, tYes, wipe, tMakeR_k, tSMeth, tSMethK, rMulS, decide_true, tNever, sFld, rIsiT, and_false, rListOf, rTupOf, rLenSeq, rIxL, rIxT, rIxS, rCat_k, rRep_k, rSlL_k, rSlS, rNewStrs_k, rAppend_k, tBM, tBM0, tM0, tM1, tSl, tNoPart, tPart, tLc_k, tFor_k, iList, iTup, iEnumT, iRng1, iRng2, iRng2L, iStr, L2.start, List.map, List.length_cons, List.length_nil, List.cons_append, List.nil_append, List.getElem?_cons_succ, List.getElem?_cons_zero, Option.some.injEq, V.int.injEq, V.bl.injEq, V.str.injEq, V.ref.injEq, exists_eq_left', exists_eq_left, and_assoc, exists_and_left, exists_eq, exists_eq', true_and, and_true, List.set_cons_zero, List.set_cons_succ, List.set, decide_eq_true_eq, Bool.not_eq_true', if_true, if_false, rIx, cx_K, nox_K, List.replicate_succ, List.replicate_zero, Nat.reduceSub, Bool.true_eq_false, Bool.false_eq_true, Nat.reduceAdd, List.cons.injEq, reduceCtorEq, false_and, false_or, or_false, tAug, rSetO, rJoin, tJs, rNewStrs_k, tMakeLS, rStrO, ClX.tCMeth, tCMethK, tDGet2, tPar3, rInD, rBinI, rBinT, rIxD, tOrT]
      have en : (0 + 1 + (m : Int) - (0 + 1)).toNat = m := by omega
      rw [en] at gd ff ln
      rw [Nat.sub_self] at ff
      have ff : firstFrom (w0 :: wt) 1 m = none := ff
      have ln3 : l ≠ nl := f1.ne hl
      have l2 := sb l _ ln3 hl
      have sm : Same H H2 := fun b o e => sb b o (f1.ne e) e
      have m0' : ¬ many w0 = 0 := by rw [hm]; exact m0
      have nm : namedP (S w0) ns = some (partsW (w0 :: wt)) := named_words m0' (by rw [hm]; exact ln) (by rw [hm]; exact fun j hj => (gd j hj).1)
      obtain ⟨lg1, lg2, lg3⟩ := parts_log (wt := wt) m0' (by rw [hm]; exact fun j hj => (gd j hj).2)
      obtain ⟨z, zt, hz, hzi⟩ := head_words (wt := wt) m0'
      refine ⟨_, SqL.of l2, _, a0, S w0, nl, ns, _, rfl, hns, nm, fun tp H4 f4 => ⟨tp, rfl, _, .inl (SqT.of f4.at_), partsW (w0 :: wt), rfl, lg1, lg2, lg3, fun wl H5 s5 e5 => ⟨wl, rfl, _, SqL.of e5, .str z, atI_nat (j := 0) (by rw [hz]; rfl), _, SqL.of (s5 _ _ (f4.get l2)), _, a0, rfl, ?_⟩⟩⟩
      have s25 := sm.trans (f4.same.trans s5)
      by_cases ho : many w0 = 3 ∧ odd3 (vAt (w0 :: wt) 1) (vAt (w0 :: wt) 3) = true
      · rw [if_pos (decide_eq_false fun q => by cases q; exact (hzi.mp rfl) ho)]
        have e : takeP (w0 :: wt) = some 0 := by
          unfold takeP
          rw [hd, if_neg m0', hm, ff]
          exact if_pos (by rw [← hm]; exact ho)
        exact kNew.mk (by show 2 ≤ sizeLine; decide) fun t H6 f6 => kb 0 t H6 e (s25.trans f6.same) f6.at_
      · rw [if_neg (by rw [decide_eq_true (congrArg V.str (hzi.mpr ho))]; decide)]
        have e : takeP (w0 :: wt) = none := by
          unfold takeP
          rw [hd, if_neg m0', hm, ff]
          exact if_neg (by rw [← hm]; exact ho)
        refine kNew.mk (by show 2 ≤ sizeLine; decide) fun t H6 f6 => kg e t tp H6 (s25.trans f6.same) ?_ (f6.get (s5 _ _ f4.at_))
        rw [f6.at_, hd, hm, show (0 + 1 + (m : Int)) = ((m + 1 : Nat) : Int) from by omega]
end
end Pf
end
section
namespace Pf
open PySem PySem.Spec PyProof.Rows L2 Ow StX
open SX (S)
theorem cmet_mk {K : PySem.W.Frag} {C p g : Addr} {m : Str} {ta : Value} {rest : List Value}
    (h1 : PySem.W.findIn K (.ref C) m = some (some (.ref p)))
    (h2 : PySem.W.findIn K (.type "type") m = some none)
    (h3 : PySem.W.typeIn K (.ref p) = some ta)
    (h5 : PySem.W.specialIn K (.ref p) "__get__" = some (some (.builtin "classmethod.__get__")))
    (h6 : PySem.W.recIn K p "classmethod" = some (.ref g :: rest)) (h7 : PySem.W.fnIn K g = true) (h4 : PySem.W.bareKinds.contains ta = false) :
    ClX.CMet K C (.type "type") m p g := by
  refine ⟨?_, ⟨_, h6⟩, h7⟩
  unfold PySem.W.findCls
  simp only [h2, h1, h3, h4, h5, Option.bind, Builtin.heldUnderItsOwnName]
  rfl
def Out2 (B : Addr) (n m : Str) (H : Hp) (E : XK) (v u : V) : Prop := ∀ d, H d = none → E (.ref B) (some d) (upd H d (.xd [(m, u), (n, v)]))
def NoStrA (K : PySem.W.Frag) (H : Hp) (v : V) : Prop := ∃ t : Value, TyX K H v t ∧ PySem.W.kitOne K t (.type "str") = some false
theorem vals_rev {vs : List V} {us : List Value} (r : Vals vs us) : Vals vs.reverse us.reverse := by
  induction r with
  | nil => exact .nil
  | cons h t ih => rw [List.reverse_cons, List.reverse_cons]; exact ih.append (.cons h .nil)

def spRead (K : PySem.W.Frag) (C B : Addr) : Sp := fun vs H Q E => ∃ v : V, vs = [.ref C, v] ∧
  ((NoStrA K H v ∧ Out2 B "line" "word" H E (.int 0) (.int 0)) ∨ ∃ r : List Nat, v = .str (S r) ∧ LowL r ∧ r.length ≤ 10000 ∧
    ((dueP (wds r) = none ∧ ∀ x H', Same H H' → H x = none → PlA H' C x (partsW (wds r)) → Q (.ref x) H') ∨ ∃ d : Nat, dueP (wds r) = some d ∧ ∀ H', Same H H' → Out2 B "line" "word" H' E (.int 0) (.int (d : Nat))))
section
variable {P : Program} {w : World} {K : PySem.W.Frag} {mg : Str → Option Value} {base : Heap} {a : Adr}
set_option maxHeartbeats 4000000
theorem ok_badtext (T : Txt K mg a) : ∃ fd, FnOk P w K mg base CX0 1 a.BadText_init fd ["self", "line", "word"] (spErr2 a.BadText "line" "word") ∧ Binds K fd ["self", "line", "word"] [] := by
  refine T.d_BadText_init.okB sc_BadText_init (fun _ _ _ _ _ _ us hl => match us, hl with | [_, _, _], _ => rfl) (fun vs H Q E h => by obtain ⟨b, v, u, rfl, _⟩ := h; rfl) (fun cdv A outer s H vs Q E hr h => ?_)
  obtain ⟨b, v, u, rfl, hb, k⟩ := h
  refine ⟨_, (pss_cons (ps_ost (pv 0) (pv 1))
      (pss_one (ps_ost (pv 0) (pv 2)))), ?_⟩
  refine ⟨_, rfl, _, rfl, b, _, rfl, T.e_BadText.ox, T.a_BadText_line, .inl ⟨hb, fun d hd n => ?_⟩⟩
  refine ⟨_, rfl, _, rfl, b, _, rfl, T.e_BadText.ox, T.a_BadText_word, .inr ⟨d, [("line", v)], upd_same, by rw [upd_ne n]; exact upd_same, ?_⟩⟩
  refine ⟨by show 1 ≤ 900; decide, ?_⟩
  have e := k d hd n
  have z : upd (upd (upd H d (exd d [("line", v)])) b (exo b a.BadText (some d))) d (exd d [("word", u), ("line", v)]) = upd (upd H d (exd d [("word", u), ("line", v)])) b (exo b a.BadText (some d)) := by
    funext y
    by_cases e1 : y = d
    · subst e1
      rw [upd_same, upd_ne n, upd_same]
    · by_cases e2 : y = b
      · subst e2
        rw [upd_ne e1, upd_same, upd_same]
      · rw [upd_ne e1, upd_ne e2, upd_ne e1, upd_ne e2, upd_ne e1]
  exact z ▸ e

theorem read_body (T : Txt K mg a) (ND : NumsOk K w a.NUMBERS) {fd : FuncData} (F : FunD K "read" "Place.read" (defArgs s_Place_read) (defBody s_Place_read) (defScope s_Place_read) [] [] a.Place_read fd) : FnOk P w K mg base (CX P w) 6 a.Place_read fd ["cls", "text"] (spRead K a.Place a.BadText) := by
  have G_take_parts : FnR P w K mg base CX0 3 a.take_parts spTake := ok_take T ND
  have G_Place_init : FnR P w K mg base CX0 2 a.Place_init (spPInit a.Place) := ok_p_init T
  obtain ⟨_, O_BadText, B_BadText⟩ := ok_badtext (P := P) (w := w) (base := base) T
  refine F.ok sc_Place_read (fun vs H Q E h => by obtain ⟨v, rfl, _⟩ := h; rfl) (fun cdv A outer s H vs Q E hr h => ?_)
  obtain ⟨v, rfl, h⟩ := h
  refine ⟨_, (pss_cons (ps_if (pt_not (pt_val (pe_callB call_isi (by rfl) T.n_isinstance (by decide +kernel) (pa_cons (pv 1) (pa_cons (pe_bltn (v := .ty "str") (by rfl) T.n_str (by decide +kernel) rfl) pa_nil)))))
          (pss_one (ps_raise rfl (takes_of rfl rfl rfl rfl) (pmk_oex T.e_BadText.ox T.e_BadText.iC T.e_BadText.tI O_BadText (hr.mono (by decide)) B_BadText .nil pass0 rfl T.m_BadText (pa_cons pe_int (pa_cons pe_int pa_nil)))))
          pss_nil)
      (pss_cons (ps_set (i := 2) sc_Place_read.nd rfl (Or.inl rfl) (pe_split (pv 1) pe_str))
      (pss_cons (ps_asg (pe_callR G_take_parts (hr.mono (by decide)) T.m_take_parts T.k_take_parts pass0 (pa_cons (pv 2) (pa_cons pe_int pa_nil))) (pg_tup rfl (pgs_cons (pg_name (i := 3) sc_Place_read.nd rfl (Or.inl rfl)) (pgs_cons (pg_name (i := 4) sc_Place_read.nd rfl (Or.inl rfl)) pgs_nil))))
      (pss_cons (ps_if (PW.pt (pw_or (pt_cmpR op_isN (pv 3) pe_non (nomark _)) (pw_or1 (pt_cmpR op_lt (pv 4) (pe_callB call_len_seq (by rfl) T.n_len (by decide +kernel) (pa_cons (pv 2) pa_nil)) (nomark _)))))
          (pss_one (ps_raise rfl (takes_of rfl rfl rfl rfl) (pmk_oex T.e_BadText.ox T.e_BadText.iC T.e_BadText.tI O_BadText (hr.mono (by decide)) B_BadText .nil pass0 rfl T.m_BadText (pa_cons pe_int (pa_cons (pv 4) pa_nil)))))
          pss_nil)
      (pss_one (ps_ret (pe_makeLS T.M_Place G_Place_init (hr.mono (by decide)) (i := 0) rfl (Or.inl rfl) pass0 (pv 3)))))))), ?_⟩
  simp only [tSeq, tIfS, tTest, tB, tAnd, tOr, tNot, tAndV, tOrV, tNotV, tIf, tOp, tUn, tChain, rEq, rNe, rI0, rI, rU, tCallR, tCons, tNil, tC, tVar, tRet, tRetN, tTup_k, tLst_k, tCB, tNext, tAsg, gName, gTup, gCons, gNil, tDrop, tPar, tFld, ClX.tCVal, tPropR, rBin, rBinT, rNeOwn, rSetL_k, gSub, tMakeK_k, tMethR, rInO, tDNewK_k, tYes, wipe, tMakeR_k, tSMeth, tSMethK, rMulS, decide_true, tNever, sFld, rIsiT, and_false, rListOf, rTupOf, rLenSeq, rIxL, rIxT, rIxS, rCat_k, rRep_k, rSlL_k, rSlS, rNewStrs_k, rAppend_k, tBM, tBM0, tM0, tM1, tSl, tNoPart, tPart, tLc_k, tFor_k, iList, iTup, iEnumT, iRng1, iRng2, iRng2L, iStr, L2.start, List.map, List.length_cons, List.length_nil, List.cons_append, List.nil_append, List.getElem?_cons_succ, List.getElem?_cons_zero, Option.some.injEq, V.int.injEq, V.bl.injEq, V.str.injEq, V.ref.injEq, exists_eq_left', exists_eq_left, and_assoc, exists_and_left, exists_eq, exists_eq', true_and, and_true, List.set_cons_zero, List.set_cons_succ, List.set, decide_eq_true_eq, Bool.not_eq_true', if_true, if_false, rIx, cx_K, nox_K, List.replicate_succ, List.replicate_zero, Nat.reduceSub, Bool.true_eq_false, Bool.false_eq_true, Nat.reduceAdd, List.cons.injEq, reduceCtorEq, false_and, false_or, or_false, tAug, rSetO, rJoin, tJs, rNewStrs_k, tMakeLS, rStrO, ClX.tCMeth, tCMethK, tDGet2, tPar3, rInD, rBinI, rBinT, rIxD, tOrT]
  rcases h with ⟨⟨t, ht, hk⟩, k⟩ | ⟨r, rfl, lr, hr', h⟩
  · refine ⟨_, _, _, _, false, rfl, .ty _, ht, hk, _, rfl, ?_⟩
    rw [if_pos rfl]
    exact err2_made k
  · refine ⟨_, _, _, _, true, rfl, .ty _, .base (.str _), kit_self, _, rfl, ?_⟩
    rw [if_neg (by decide)]
    refine ⟨⟨_, rfl⟩, _, rfl, by decide +kernel, by rw [SX.S_len]; exact Nat.le_trans (show _ ≤ 20000 by omega) (by decide), ?_⟩
    rw [split_wds]
    refine kN.mk fun ll H1 f1 => ?_
    have l1 : H1 ll = some (.lst (strsV (wds r))) := by rw [f1.at_, List.map_map]; rfl
    have wl := wds_len (r := r)
    refine ⟨ll, wds r, rfl, l1, ⟨wds_pos, by omega, fun p hp => ⟨wds_low lr p hp, by have := wds_short hp; omega⟩⟩, fun k t H2 e s2 ht => ?_, fun e t tp H2 s2 ht htp => ?_⟩
    · have s02 := f1.same.trans s2
      refine ⟨t, rfl, _, SqT.of ht, rfl, _, _, rfl, _, _, rfl, rfl, ?_⟩
      rw [if_pos rfl]
      have ed : dueP (wds r) = some k := by unfold dueP; rw [e]
      rcases h with ⟨e2, _⟩ | ⟨d, e2, k2⟩
      · rw [ed] at e2; cases e2
      · rw [ed] at e2
        cases e2
        exact ⟨_, rfl, err2_made (k2 H2 s02)⟩
    · have s02 := f1.same.trans s2
      refine ⟨t, rfl, _, SqT.of ht, rfl, _, _, rfl, _, _, rfl, rfl, ?_⟩
      rw [if_neg (fun z => by cases z)]
      refine ⟨ll, rfl, _, .inl (SqL.of (s2 _ _ l1)), _, rfl, ?_⟩
      rw [strsV_len]
      by_cases hn : (wds r).length > many ((wds r).headD []) + 1
      · rw [if_pos (by omega)]
        have ed : dueP (wds r) = some (many ((wds r).headD []) + 1) := by
          unfold dueP
          rw [e]
          exact if_pos hn
        rcases h with ⟨e2, _⟩ | ⟨d, e2, k2⟩
        · rw [ed] at e2; cases e2
        · rw [ed] at e2
          cases e2
          exact ⟨_, rfl, err2_made (k2 H2 s02)⟩
      · rw [if_neg (by omega)]
        have ed : dueP (wds r) = none := by
          unfold dueP
          rw [e]
          exact if_neg hn
        rcases h with ⟨_, k2⟩ | ⟨d, e2, _⟩
        · refine ⟨tp, rfl, _, .inl (SqT.of htp), ?_⟩
          exact newP_make (fun x H' s3 n3 p3 => k2 x H' (s02.trans s3) (none_back s02 n3) p3)
        · rw [ed] at e2; cases e2
theorem ok_read (T : Txt K mg a) (ND : NumsOk K w a.NUMBERS) : FnR P w K mg base (CX P w) 6 a.Place_read (spRead K a.Place a.BadText) := by
  obtain ⟨fd, F⟩ := id T.d_Place_read
  exact ((read_body T ND F).raw (F.bindsN (fun _ _ _ _ _ _ us hl => match us, hl with | [_, _], _ => rfl)) .nil).imp fun vs H Q E h => by rw [List.append_nil]; exact h
theorem ok_readF (T : Txt K mg a) (ND : NumsOk K w a.NUMBERS) : ∃ fd, FnOk P w K mg base (CX P w) 6 a.Place_read fd ["cls", "text"] (spRead K a.Place a.BadText) ∧ KBn K fd ["cls", "text"] 1 ["text"] (fun us ws => us ++ ws.reverse) (fun vs zs => vs ++ zs.reverse) := by
  obtain ⟨fd, F⟩ := id T.d_Place_read
  exact ⟨fd, read_body T ND F, kbn0 F (fun r1 r2 => r1.append (vals_rev r2)) (fun kV doc pm an cdv ct us ws hu hw => match us, ws, hu, hw with | [_], [_], _, _ => rfl)⟩
end
end Pf
end
section
namespace Pf
open PySem PySem.Spec PyProof.Rows L2 Ow StX
open SX (S)
theorem plT_join (q : Pl) : plT q = Str.join " " (wordsP q) := eq_of_beq (join_plain_closes " " (wordsP q))
theorem sp_left : ("left" : Str) ++ (" " : Str) = "left " := by decide +kernel
theorem sp_right : ("right" : Str) ++ (" " : Str) = "right " := by decide +kernel
theorem sp_middle : ("middle" : Str) ++ (" " : Str) = "middle " := by decide +kernel
theorem sp_place : ("place" : Str) ++ (" " : Str) = "place " := by decide +kernel
theorem plT_left {q : Pl} (h : q.s = 0 ∧ q.d = 0) : plT q = "left " ++ Str.ofString (toString q.o) := by
  rw [plT_join]
  unfold wordsP
  rw [if_pos h, ← sp_left]
  rfl
theorem plT_right {q : Pl} (h : q.s = 2 ∧ q.d = 1) : plT q = "right " ++ Str.ofString (toString (0 - q.o)) := by
  rw [plT_join, Int.zero_sub]
  unfold wordsP
  rw [if_neg (by omega), if_pos h, ← sp_right]
  rfl
theorem plT_middle {q : Pl} (h : q.s = 1 ∧ q.d = 0) : plT q = "middle " ++ Str.ofString (toString q.o) := by
  rw [plT_join]
  unfold wordsP
  rw [if_neg (by omega), if_neg (by omega), if_pos h, ← sp_middle]
  rfl
theorem plT_place {q : Pl} (h1 : ¬ (q.s = 0 ∧ q.d = 0)) (h2 : ¬ (q.s = 2 ∧ q.d = 1)) (h3 : ¬ (q.s = 1 ∧ q.d = 0)) : plT q = "place " ++ Str.ofString (toString q.s) ++ " " ++ Str.ofString (toString q.o) ++ " " ++ Str.ofString (toString q.d) := by
  rw [plT_join]
  unfold wordsP
  rw [if_neg h1, if_neg h2, if_neg h3, ← sp_place]
  simp only [Str.join, Str.append_assoc]
theorem in_ten {c : Nat} : decide (c ∈ (Str.ofString "0123456789").cps.toList) = isDig c := by
  have e : (Str.ofString "0123456789").cps.toList = [48, 49, 50, 51, 52, 53, 54, 55, 56, 57] := by decide +kernel
  rw [e, Bool.eq_iff_iff]
  unfold isDig
  simp only [List.mem_cons, List.not_mem_nil, or_false, decide_eq_true_eq, Bool.and_eq_true]
  omega
theorem dp_signs {K : PySem.W.Frag} {H : Hp} : ∀ L : List Nat, DpAll K H (L.map fun c => V.str ⟨#[c]⟩) (L.map fun c => PyData.str ⟨#[c]⟩)
  | [] => .nil
  | c :: L => .cons (.str _) (dp_signs L)
theorem lay_signs : ∀ L : List Nat, (∀ c ∈ L, c < 128) → PyData.canLayAll0 (L.map fun c => PyData.str ⟨#[c]⟩) = true ∧ PyData.depthAll (L.map fun c => PyData.str ⟨#[c]⟩) = 0
  | [], _ => ⟨rfl, by simp [PyData.depthAll]⟩
  | c :: L, h => by
    obtain ⟨h1, h2⟩ := lay_signs L fun d hd => h d (List.mem_cons_of_mem _ hd)
    have hc := h c List.mem_cons_self
    have ok : PyData.strOk ⟨#[c]⟩ = true := by
      show (#[c].all fun c => decide (c < 0x110000)) = true
      rw [← Array.all_toList]
      simp
      omega
    refine ⟨by simp only [List.map_cons, PyData.canLayAll0, PyData.canLay0, h1, ok]; rfl, ?_⟩
    simp only [List.map_cons, PyData.depthAll, PyData.depth, h2]
    rfl
theorem cut_to {a : List Nat} {i : Nat} (h : i ≤ a.length) : cutS (S a) none (some (i : Int)) = S (a.take i) := by
  unfold cutS
  rw [HT.sIx_nat, HT.sIx_none, SX.S_len, Nat.min_eq_left h, List.drop_zero, Nat.sub_zero]
theorem cut_from {a : List Nat} {i : Nat} (h : i ≤ a.length) : cutS (S a) (some (i : Int)) none = S (a.drop i) := by
  unfold cutS
  rw [HT.sIx_nat, HT.sIx_none, SX.S_len, Nat.min_eq_left h]
  exact congrArg S (List.take_of_length_le (by rw [List.length_drop]; exact Nat.le_refl _))
/-! ### what the law does itself -/
def SameBut (d : Addr) (H H' : Hp) : Prop := ∀ b o, b ≠ d → H b = some o → H' b = some o
theorem SameBut.of {d : Addr} {H H' : Hp} (s : Same H H') : SameBut d H H' := fun b o _ e => s b o e
theorem SameBut.trans {d : Addr} {H H1 H2 : Hp} (x : SameBut d H H1) (y : SameBut d H1 H2) : SameBut d H H2 := fun b o n e => y b o n (x b o n e)
theorem SameBut.upd {d : Addr} {H : Hp} {o : HO} : SameBut d H (upd H d o) := fun b u n e => by rw [upd_ne n]; exact e
def spDrawS : Sp := fun vs H Q _ => ∃ (d : Addr) (n : Int), vs = [.ref d, .int n] ∧ Bag H d ∧ 0 < n ∧ n < 1073741824 ∧ ∀ (z : Int) H', 0 ≤ z → z < n → SameBut d H H' → Bag H' d → Q (.int z) H'
/-- the parts of a place, in a tuple -/
def TupP (H : Hp) (t : Addr) (q : Pl) : Prop := H t = some (.tup [.int q.s, .int q.o, .int q.d])
def Sm40 (q : Pl) : Prop := (-10 ≤ q.s ∧ q.s ≤ 10) ∧ q.o.natAbs ≤ 5 * 10 ^ 39 ∧ (-10 ≤ q.d ∧ q.d ≤ 10)
theorem Sm40.sm {q : Pl} (h : Sm40 q) : Sm60 q := by
  obtain ⟨⟨a, b⟩, c, d, e⟩ := h
  have big : 5 * 10 ^ 39 < 10 ^ 60 := by decide
  have ten : 10 < 10 ^ 60 := by decide
  exact ⟨by omega, by omega, by omega⟩
def spLParts : Sp := fun vs H Q _ => ∃ d : Addr, vs = [.ref d] ∧ Bag H d ∧ ∀ t q H', SameBut d H H' → Bag H' d → TupP H' t q → Sm40 q → Q (.ref t) H'
def LstP (H : Hp) (t : Addr) (q : Pl) : Prop := H t = some (.lst [.int q.s, .int q.o, .int q.d])
def spLPlace (C : Addr) : Sp := fun vs H Q _ => ∃ (t : Addr) (q : Pl), vs = [.ref t] ∧ LstP H t q ∧ ∀ x H', Same H H' → H x = none → PlA H' C x q → Q (.ref x) H'
def spWritten : Sp := fun vs H Q _ => ∃ (t : Addr) (q : Pl), vs = [.ref t] ∧ LstP H t q ∧ LogP q ∧ ∀ H', Same H H' → Q (.str (plT q)) H'
def spLIsNum : Sp := fun vs H Q _ => ∃ w : List Nat, vs = [.str (S w)] ∧ LowL w ∧ w.length ≤ 20000 ∧ ∀ H', Same H H' → Q (.bl (isNum w)) H'
def dueV (o : Option Nat) : V := match o with | some d => .int (d : Nat) | none => .non
def spWrong : Sp := fun vs H Q _ => ∃ (l : Addr) (ws : List (List Nat)), vs = [.ref l] ∧ H l = some (.lst (strsV ws)) ∧ Wrds ws ∧ ∀ H', Same H H' → Q (dueV (dueP ws)) H'
theorem small_o {o : Int} (h : -10 ≤ o ∧ o ≤ 10) : o.natAbs ≤ 5 * 10 ^ 39 := Nat.le_trans (show o.natAbs ≤ 10 by omega) (by decide)
/-- the dict of the names, as the law shows it -/
def kvsN : List (Key × V) := [(Sum.inr (Str.ofString "left"), .int 1), (Sum.inr (Str.ofString "right"), .int 1), (Sum.inr (Str.ofString "middle"), .int 1), (Sum.inr (Str.ofString "place"), .int 3)]
theorem merge_N : mergeK [] kvsN = kvsN := by
  have e1 : ¬ ((Sum.inr (Str.ofString "left") : Key) = Sum.inr (Str.ofString "right")) := inr_ne sLR
  have e2 : ¬ ((Sum.inr (Str.ofString "left") : Key) = Sum.inr (Str.ofString "middle")) := inr_ne sLM
  have e3 : ¬ ((Sum.inr (Str.ofString "left") : Key) = Sum.inr (Str.ofString "place")) := inr_ne sLP
  have e4 : ¬ ((Sum.inr (Str.ofString "right") : Key) = Sum.inr (Str.ofString "middle")) := inr_ne sRM
  have e5 : ¬ ((Sum.inr (Str.ofString "right") : Key) = Sum.inr (Str.ofString "place")) := inr_ne sRP
  have e6 : ¬ ((Sum.inr (Str.ofString "middle") : Key) = Sum.inr (Str.ofString "place")) := inr_ne sMP
  unfold mergeK kvsN putK
  simp [e1, e2, e3, e4, e5, e6]
theorem get_N (w : List Nat) : (valV kvsN (Sum.inr (S w))).getD (.int 0) = .int (many w : Nat) := by
  have ne : ∀ z : Str, S w ≠ z → ¬ ((Sum.inr z : Key) = Sum.inr (S w)) := fun z h => inr_ne fun e => h e.symm
  have no : valV ([] : List (Key × V)) (Sum.inr (S w)) = none := rfl
  unfold kvsN
  rcases many_cases w with ⟨e, m⟩ | ⟨e, m⟩ | ⟨e, m⟩ | ⟨e, m⟩ | ⟨h1, h2, h3, h4, m⟩
  · rw [m, valV_pos (by rw [e])]
    rfl
  · rw [m, valV_neg (ne _ (by rw [e]; exact fun z => sLR z.symm)), valV_pos (by rw [e])]
    rfl
  · rw [m, valV_neg (ne _ (by rw [e]; exact fun z => sLM z.symm)), valV_neg (ne _ (by rw [e]; exact fun z => sRM z.symm)), valV_pos (by rw [e])]
    rfl
  · rw [m, valV_neg (ne _ (by rw [e]; exact fun z => sLP z.symm)), valV_neg (ne _ (by rw [e]; exact fun z => sRP z.symm)), valV_neg (ne _ (by rw [e]; exact fun z => sMP z.symm)), valV_pos (by rw [e])]
    rfl
  · rw [m, valV_neg (ne _ h1), valV_neg (ne _ h2), valV_neg (ne _ h3), valV_neg (ne _ h4), no]
    rfl
theorem plT_placeJ {q : Pl} (h : odd3 q.s q.d = false) : plT q = Str.ofString "place " ++ Txt.join (Str.ofString " ") [Str.ofString (toString q.s), Str.ofString (toString q.o), Str.ofString (toString q.d)] := by
  unfold odd3 at h
  simp only [Bool.or_eq_false_iff, decide_eq_false_iff_not] at h
  rw [plT_C]
  unfold txtC wordsC
  rw [if_neg h.1.1, if_neg h.1.2, if_neg h.2, txt_cds, txt_cds, txt_cds]
  have e : Str.ofString "place " = S (cP ++ [32]) := by decide +kernel
  have j : Txt.join (S [32]) [S (cds q.s), S (cds q.o), S (cds q.d)] = S (TL.joinL [32] [cds q.s, cds q.o, cds q.d]) := SX.join_S [32] [cds q.s, cds q.o, cds q.d]
  rw [e, spS, j, SX.S_cat]
  refine congrArg S ?_
  show cP ++ ([32] ++ TL.joinL [32] [cds q.s, cds q.o, cds q.d]) = _
  rw [← List.append_assoc]
section
variable {P : Program} {w : World} {K : PySem.W.Frag} {mg : Str → Option Value} {base : Heap} {a : Adr}
set_option maxHeartbeats 4000000
theorem ok_drawS (T : Txt K mg a) : FnR P w K mg base CX0 1 a._law_draw spDrawS := (ok_draw T).imp fun vs H Q E h => by
  obtain ⟨d, n, rfl, B, h1, h2, k⟩ := h
  exact ⟨d, n, rfl, B, h1, h2, fun z o p q r => k z _ p q SameBut.upd r⟩
theorem ok_lparts (T : Txt K mg a) : FnR P w K mg base CX0 2 a._law_parts spLParts := by
  have G__law_draw : FnR P w K mg base CX0 1 a._law_draw spDrawS := ok_drawS T
  refine T.d__law_parts.ok sc__law_parts (fun _ _ _ _ _ _ us hl => match us, hl with | [_], _ => rfl) (fun vs H Q E h => by obtain ⟨d, rfl, _⟩ := h; rfl) (fun cdv A outer s H vs Q E hr h => ?_)
  obtain ⟨d, rfl, B, k⟩ := h
  refine ⟨_, (pss_cons (ps_par (i := 1) (j := 2) (by rfl) sc__law_parts.nd rfl rfl (by decide) rfl rfl (pa_cons (pe_callR G__law_draw (hr.mono (by decide)) T.m__law_draw T.k__law_draw pass0 (pa_cons (pv 0) (pa_cons pe_int pa_nil))) (pa_cons (pe_callR G__law_draw (hr.mono (by decide)) T.m__law_draw T.k__law_draw pass0 (pa_cons (pv 0) (pa_cons pe_int pa_nil))) pa_nil)) (by rfl))
      (pss_cons (ps_if (pt_cmpR op_lt (pv 1) pe_int (nomark _))
          (pss_one (ps_ret (pe_tup (pa_cons pe_int (pa_cons (pv 2) (pa_cons pe_int pa_nil))))))
          pss_nil)
      (pss_cons (ps_if (pt_cmpR op_lt (pv 1) pe_int (nomark _))
          (pss_one (ps_ret (pe_tup (pa_cons pe_int (pa_cons (pe_op op_sub pe_int (pv 2)) (pa_cons pe_int pa_nil))))))
          pss_nil)
      (pss_one (ps_ret (pe_tup (pa_cons pe_int (pa_cons (pe_op op_sub (pv 2) pe_int) (pa_cons pe_int pa_nil))))))))), ?_⟩
  simp only [tSeq, tIfS, tTest, tB, tAnd, tOr, tNot, tAndV, tOrV, tNotV, tIf, tOp, tUn, tChain, rEq, rNe, rI0, rI, rU, tCallR, tCons, tNil, tC, tVar, tRet, tRetN, tTup_k, tLst_k, tCB, tNext, tAsg, gName, gTup, gCons, gNil, tDrop, tPar, tFld, ClX.tCVal, tPropR, rBin, rBinT, rNeOwn, rSetL_k, gSub, tMakeK_k, tMethR, rInO, tDNewK_k, tYes, wipe, tMakeR_k, tSMeth, tSMethK, rMulS, decide_true, tNever, sFld, rIsiT, and_false, rListOf, rTupOf, rLenSeq, rIxL, rIxT, rIxS, rCat_k, rRep_k, rSlL_k, rSlS, rNewStrs_k, rAppend_k, tBM, tBM0, tM0, tM1, tSl, tNoPart, tPart, tLc_k, tFor_k, iList, iTup, iEnumT, iRng1, iRng2, iRng2L, iStr, L2.start, List.map, List.length_cons, List.length_nil, List.cons_append, List.nil_append, List.getElem?_cons_succ, List.getElem?_cons_zero, Option.some.injEq, V.int.injEq, V.bl.injEq, V.str.injEq, V.ref.injEq, exists_eq_left', exists_eq_left, and_assoc, exists_and_left, exists_eq, exists_eq', true_and, and_true, List.set_cons_zero, List.set_cons_succ, List.set, decide_eq_true_eq, Bool.not_eq_true', if_true, if_false, rIx, cx_K, nox_K, List.replicate_succ, List.replicate_zero, Nat.reduceSub, Bool.true_eq_false, Bool.false_eq_true, Nat.reduceAdd, List.cons.injEq, reduceCtorEq, false_and, false_or, or_false, tAug, rSetO, rJoin, tJs, rNewStrs_k, tMakeLS, rStrO, ClX.tCMeth, tCMethK, tDGet2, tPar3, rInD, rBinI, rBinT, rIxD, tOrT]
  refine ⟨d, 7, rfl, B, by decide, by decide, fun z H1 a0 a1 s1 B1 => ⟨d, 4, rfl, B1, by decide, by decide, fun u H2 b0 b1 s2 B2 => ⟨_, rfl, ?_⟩⟩⟩
  have s02 := s1.trans s2
  have fin : ∀ q : Pl, Sm40 q → kNew HO.tup Q [.int q.s, .int q.o, .int q.d] H2 := fun q hq => kNew.mk (by show 3 ≤ sizeLine; decide) fun t H3 f3 => k t q H3 (s02.trans (.of f3.same)) (B2.same f3.same) f3.at_ hq
  by_cases h3 : z < 3
  · rw [if_pos h3]
    exact fin ⟨0, u, 0⟩ ⟨⟨(by show (-10 : Int) ≤ 0; decide), (by show (0 : Int) ≤ 10; decide)⟩, small_o ⟨(by show -10 ≤ u; omega), (by show u ≤ 10; omega)⟩, (by show (-10 : Int) ≤ 0; decide), (by show (0 : Int) ≤ 10; decide)⟩
  rw [if_neg h3]
  refine ⟨_, rfl, ?_⟩
  by_cases h6 : z < 6
  · rw [if_pos h6]
    exact ⟨_, rfl, fin ⟨2, 0 - u, 1⟩ ⟨⟨(by show (-10 : Int) ≤ 2; decide), (by show (2 : Int) ≤ 10; decide)⟩, small_o ⟨(by show -10 ≤ 0 - u; omega), (by show 0 - u ≤ 10; omega)⟩, (by show (-10 : Int) ≤ 1; decide), (by show (1 : Int) ≤ 10; decide)⟩⟩
  rw [if_neg h6]
  exact ⟨_, rfl, fin ⟨1, u - 1, 0⟩ ⟨⟨(by show (-10 : Int) ≤ 1; decide), (by show (1 : Int) ≤ 10; decide)⟩, small_o ⟨(by show -10 ≤ u - 1; omega), (by show u - 1 ≤ 10; omega)⟩, (by show (-10 : Int) ≤ 0; decide), (by show (0 : Int) ≤ 10; decide)⟩⟩
theorem ok_lplace (T : Txt K mg a) : FnR P w K mg base CX0 4 a._law_place (spLPlace a.Place) := by
  have G_Place_init : FnR P w K mg base CX0 2 a.Place_init (spPInit a.Place) := ok_p_init T
  refine T.d__law_place.ok sc__law_place (fun _ _ _ _ _ _ us hl => match us, hl with | [_], _ => rfl) (fun vs H Q E h => by obtain ⟨t, q, rfl, _⟩ := h; rfl) (fun cdv A outer s H vs Q E hr h => ?_)
  obtain ⟨t, q, rfl, ht, k⟩ := h
  refine ⟨_, (pss_one (ps_ret (pe_makeRR T.M_Place G_Place_init (hr.mono (by decide)) T.m_Place pass0 (pa_cons (pe_ix ix_list (pv 0) pe_int (fun _ _ => rfl)) (pa_cons (pe_ix ix_list (pv 0) pe_int (fun _ _ => rfl)) (pa_cons (pe_ix ix_list (pv 0) pe_int (fun _ _ => rfl)) pa_nil)))))), ?_⟩
  simp only [tSeq, tIfS, tTest, tB, tAnd, tOr, tNot, tAndV, tOrV, tNotV, tIf, tOp, tUn, tChain, rEq, rNe, rI0, rI, rU, tCallR, tCons, tNil, tC, tVar, tRet, tRetN, tTup_k, tLst_k, tCB, tNext, tAsg, gName, gTup, gCons, gNil, tDrop, tPar, tFld, ClX.tCVal, tPropR, rBin, rBinT, rNeOwn, rSetL_k, gSub, tMakeK_k, tMethR, rInO, tDNewK_k, tYes, wipe, tMakeR_k, tSMeth, tSMethK, rMulS, decide_true, tNever, sFld, rIsiT, and_false, rListOf, rTupOf, rLenSeq, rIxL, rIxT, rIxS, rCat_k, rRep_k, rSlL_k, rSlS, rNewStrs_k, rAppend_k, tBM, tBM0, tM0, tM1, tSl, tNoPart, tPart, tLc_k, tFor_k, iList, iTup, iEnumT, iRng1, iRng2, iRng2L, iStr, L2.start, List.map, List.length_cons, List.length_nil, List.cons_append, List.nil_append, List.getElem?_cons_succ, List.getElem?_cons_zero, Option.some.injEq, V.int.injEq, V.bl.injEq, V.str.injEq, V.ref.injEq, exists_eq_left', exists_eq_left, and_assoc, exists_and_left, exists_eq, exists_eq', true_and, and_true, List.set_cons_zero, List.set_cons_succ, List.set, decide_eq_true_eq, Bool.not_eq_true', if_true, if_false, rIx, cx_K, nox_K, List.replicate_succ, List.replicate_zero, Nat.reduceSub, Bool.true_eq_false, Bool.false_eq_true, Nat.reduceAdd, List.cons.injEq, reduceCtorEq, false_and, false_or, or_false, tAug, rSetO, rJoin, tJs, rNewStrs_k, tMakeLS, rStrO, ClX.tCMeth, tCMethK, tDGet2, tPar3, rInD, rBinI, rBinT, rIxD, tOrT]
  have ht : H t = some (.lst [.int q.s, .int q.o, .int q.d]) := ht
  exact ⟨_, SqL.of ht, _, rfl, _, SqL.of ht, _, rfl, _, SqL.of ht, _, rfl, newP_make k⟩
theorem ok_written (T : Txt K mg a) : FnR P w K mg base CX0 1 a._law_written spWritten := by
  refine T.d__law_written.ok sc__law_written (fun _ _ _ _ _ _ us hl => match us, hl with | [_], _ => rfl) (fun vs H Q E h => by obtain ⟨t, q, rfl, _⟩ := h; rfl) (fun cdv A outer s H vs Q E hr h => ?_)
  obtain ⟨t, q, rfl, ht, lg, k⟩ := h
  have ht : H t = some (.lst [.int q.s, .int q.o, .int q.d]) := ht
  have sq := SqL.of (K := K) ht
  have lg1 := lg.1
  have lg2 := lg.2.1
  have lg3 := lg.2.2
  have z0 : Same H H := Same.refl _
  have big : 5000 ≤ sizeLine := by decide
  have lo : (0 - q.o).natAbs.log2 < 1000 := by
    have e : (0 - q.o).natAbs = q.o.natAbs := by omega
    rw [e]
    exact lg2
  have ln := int_txt lo
  have l1 := int_txt lg1
  have l2 := int_txt lg2
  have l3 := int_txt lg3
  have wd1 : (Str.ofString "left ").length = 5 := by decide +kernel
  have wd2 : (Str.ofString "right ").length = 6 := by decide +kernel
  have wd3 : (Str.ofString "middle ").length = 7 := by decide +kernel
  have wd4 : (Str.ofString "place ").length = 6 := by decide +kernel
  have wd5 : (Str.ofString " ").length = 1 := by decide +kernel
  have inj : ∀ x y : Int, x ≠ y → ¬ (V.int x = V.int y) := fun x y h e => h (by cases e; rfl)
  have T3 : ∃ tt, PSs (cxOf CX0 P w K mg base ["_law_parts_here", "_law_part"] "_law_written" (defScope s__law_written) a._law_written cdv A outer s H E).nox ((defBody s__law_written).drop 3) tt ∧ (odd3 q.s q.d = false → tt ({ nx := fun _ H' => Q .non H', rt := Q } : Ends) [some (.ref t), none] H) := by
    refine ⟨_, (pss_one (ps_ret (pe_op op_add_str pe_str (pe_join pe_str (pe_lc (own := [("_law_part", 1)]) (g := gName 1) (by rfl) sc__law_written.nd (pi_list (pv 0)) (blkOk_by (own := [("_law_part", 1)]) (N := ["_law_parts_here", "_law_part"]) (sc := defScope s__law_written) (by decide +kernel)) (fun _ _ _ _ _ => (pg_name (i := 1) sc__law_written.nd rfl (Or.inl rfl))) (fun _ _ _ _ _ => pts_nil) (fun _ _ _ _ _ => (pe_callTy call_str_int (by rfl) T.n_str (by decide +kernel) (pa_cons (pv 1) pa_nil)))))))), fun ho => ?_⟩
    simp only [tSeq, tIfS, tTest, tB, tAnd, tOr, tNot, tAndV, tOrV, tNotV, tIf, tOp, tUn, tChain, rEq, rNe, rI0, rI, rU, tCallR, tCons, tNil, tC, tVar, tRet, tRetN, tTup_k, tLst_k, tCB, tNext, tAsg, gName, gTup, gCons, gNil, tDrop, tPar, tFld, ClX.tCVal, tPropR, rBin, rBinT, rNeOwn, rSetL_k, gSub, tMakeK_k, tMethR, rInO, tDNewK_k, tYes, wipe, tMakeR_k, tSMeth, tSMethK, rMulS, decide_true, tNever, sFld, rIsiT, and_false, rListOf, rTupOf, rLenSeq, rIxL, rIxT, rIxS, rCat_k, rRep_k, rSlL_k, rSlS, rNewStrs_k, rAppend_k, tBM, tBM0, tM0, tM1, tSl, tNoPart, tPart, tLc_k, tFor_k, iList, iTup, iEnumT, iRng1, iRng2, iRng2L, iStr, L2.start, List.map, List.length_cons, List.length_nil, List.cons_append, List.nil_append, List.getElem?_cons_succ, List.getElem?_cons_zero, Option.some.injEq, V.int.injEq, V.bl.injEq, V.str.injEq, V.ref.injEq, exists_eq_left', exists_eq_left, and_assoc, exists_and_left, exists_eq, exists_eq', true_and, and_true, List.set_cons_zero, List.set_cons_succ, List.set, decide_eq_true_eq, Bool.not_eq_true', if_true, if_false, rIx, cx_K, nox_K, List.replicate_succ, List.replicate_zero, Nat.reduceSub, Bool.true_eq_false, Bool.false_eq_true, Nat.reduceAdd, List.cons.injEq, reduceCtorEq, false_and, false_or, or_false, tAug, rSetO, rJoin, tJs, rNewStrs_k, tMakeLS, rStrO, ClX.tCMeth, tCMethK, tDGet2, tPar3, rInD, rBinI, rBinT, rIxD, tOrT]
    have at_ : ∀ (j : Nat) (y : V), ([V.int q.s, V.int q.o, V.int q.d] : List V)[j]? = some y → ∃ n : Int, y = .int n ∧ n.natAbs.log2 < 1000 ∧ (([Str.ofString (toString q.s), Str.ofString (toString q.o), Str.ofString (toString q.d)] : List Str).map V.str)[j]? = some (.str (Str.ofString (toString n))) := fun j y e => by
      match j, e with
      | 0, e => cases e; exact ⟨_, rfl, lg1, rfl⟩
      | 1, e => cases e; exact ⟨_, rfl, lg2, rfl⟩
      | 2, e => cases e; exact ⟨_, rfl, lg3, rfl⟩
      | k + 3, e => simp at e
    refine ⟨⟨_, sq⟩, kLc.map (walk_list (xs := [V.int q.s, V.int q.o, V.int q.d])) (([Str.ofString (toString q.s), Str.ofString (toString q.o), Str.ofString (toString q.d)] : List Str).map V.str) rfl (fun H' s1 => Same.seq s1 sq) (fun D j y H1 H2 hj cl hY => ?_) fun D H1 f1 => ?_⟩
    · obtain ⟨rfl, hy⟩ := hY
      obtain ⟨n, rfl, hn, ho2⟩ := at_ j y hy
      simp only [tSeq, tIfS, tTest, tB, tAnd, tOr, tNot, tAndV, tOrV, tNotV, tIf, tOp, tUn, tChain, rEq, rNe, rI0, rI, rU, tCallR, tCons, tNil, tC, tVar, tRet, tRetN, tTup_k, tLst_k, tCB, tNext, tAsg, gName, gTup, gCons, gNil, tDrop, tPar, tFld, ClX.tCVal, tPropR, rBin, rBinT, rNeOwn, rSetL_k, gSub, tMakeK_k, tMethR, rInO, tDNewK_k, tYes, wipe, tMakeR_k, tSMeth, tSMethK, rMulS, decide_true, tNever, sFld, rIsiT, and_false, rListOf, rTupOf, rLenSeq, rIxL, rIxT, rIxS, rCat_k, rRep_k, rSlL_k, rSlS, rNewStrs_k, rAppend_k, tBM, tBM0, tM0, tM1, tSl, tNoPart, tPart, tLc_k, tFor_k, iList, iTup, iEnumT, iRng1, iRng2, iRng2L, iStr, L2.start, List.map, List.length_cons, List.length_nil, List.cons_append, List.nil_append, List.getElem?_cons_succ, List.getElem?_cons_zero, Option.some.injEq, V.int.injEq, V.bl.injEq, V.str.injEq, V.ref.injEq, exists_eq_left', exists_eq_left, and_assoc, exists_and_left, exists_eq, exists_eq', true_and, and_true, List.set_cons_zero, List.set_cons_succ, List.set, decide_eq_true_eq, Bool.not_eq_true', if_true, if_false, rIx, cx_K, nox_K, List.replicate_succ, List.replicate_zero, Nat.reduceSub, Bool.true_eq_false, Bool.false_eq_true, Nat.reduceAdd, List.cons.injEq, reduceCtorEq, false_and, false_or, or_false, tAug, rSetO, rJoin, tJs, rNewStrs_k, tMakeLS, rStrO, ClX.tCMeth, tCMethK, tDGet2, tPar3, rInD, rBinI, rBinT, rIxD, tOrT]
      exact ⟨Nat.lt_trans hn (by decide), kApp.at cl (Same.refl _) (by show 3 ≤ sizeLine; decide) ho2⟩
    · have z := k H1 f1.same
      rw [plT_placeJ ho] at z
      have sj := StrLaws.join_length_le (Str.ofString " ") [Str.ofString (toString q.s), Str.ofString (toString q.o), Str.ofString (toString q.d)]
      simp only [List.map_cons, List.map_nil, List.sum_cons, List.sum_nil, List.length_cons, List.length_nil, wd5] at sj
      refine ⟨D, rfl, _, .inl (SqL.of f1.at_), ?_, ?_, z⟩
      · simp only [List.map_cons, List.map_nil, List.sum_cons, List.sum_nil, List.length_cons, List.length_nil, wd5]
        omega
      · have ej : Txt.join (Str.ofString " ") [Str.ofString (toString q.s), Str.ofString (toString q.o), Str.ofString (toString q.d)] = Str.join (Str.ofString " ") [Str.ofString (toString q.s), Str.ofString (toString q.o), Str.ofString (toString q.d)] := TL.join_eq _ _
        rw [ej, wd4]
        exact Nat.le_trans (show _ ≤ 5000 by omega) big
  obtain ⟨t3, P3, h3⟩ := T3
  have T2 : ∃ tt, PSs (cxOf CX0 P w K mg base ["_law_parts_here", "_law_part"] "_law_written" (defScope s__law_written) a._law_written cdv A outer s H E).nox ((defBody s__law_written).drop 2) tt ∧ (¬ (q.s = 0 ∧ q.d = 0) → ¬ (q.s = 2 ∧ q.d = 1) → tt ({ nx := fun _ H' => Q .non H', rt := Q } : Ends) [some (.ref t), none] H) := by
    refine ⟨_, (pss_cons (ps_if (PW.pt (pw_and (pt_cmpR op_eq (pe_ix ix_list (pv 0) pe_int (fun _ _ => rfl)) pe_int (nomark _)) (pw_and1 (pt_cmpR op_eq (pe_ix ix_list (pv 0) pe_int (fun _ _ => rfl)) pe_int (nomark _)))))
          (pss_one (ps_ret (pe_op op_add_str pe_str (pe_callTy call_str_int (by rfl) T.n_str (by decide +kernel) (pa_cons (pe_ix ix_list (pv 0) pe_int (fun _ _ => rfl)) pa_nil)))))
          pss_nil)
      P3), fun c1 c2 => ?_⟩
    simp only [tSeq, tIfS, tTest, tB, tAnd, tOr, tNot, tAndV, tOrV, tNotV, tIf, tOp, tUn, tChain, rEq, rNe, rI0, rI, rU, tCallR, tCons, tNil, tC, tVar, tRet, tRetN, tTup_k, tLst_k, tCB, tNext, tAsg, gName, gTup, gCons, gNil, tDrop, tPar, tFld, ClX.tCVal, tPropR, rBin, rBinT, rNeOwn, rSetL_k, gSub, tMakeK_k, tMethR, rInO, tDNewK_k, tYes, wipe, tMakeR_k, tSMeth, tSMethK, rMulS, decide_true, tNever, sFld, rIsiT, and_false, rListOf, rTupOf, rLenSeq, rIxL, rIxT, rIxS, rCat_k, rRep_k, rSlL_k, rSlS, rNewStrs_k, rAppend_k, tBM, tBM0, tM0, tM1, tSl, tNoPart, tPart, tLc_k, tFor_k, iList, iTup, iEnumT, iRng1, iRng2, iRng2L, iStr, L2.start, List.map, List.length_cons, List.length_nil, List.cons_append, List.nil_append, List.getElem?_cons_succ, List.getElem?_cons_zero, Option.some.injEq, V.int.injEq, V.bl.injEq, V.str.injEq, V.ref.injEq, exists_eq_left', exists_eq_left, and_assoc, exists_and_left, exists_eq, exists_eq', true_and, and_true, List.set_cons_zero, List.set_cons_succ, List.set, decide_eq_true_eq, Bool.not_eq_true', if_true, if_false, rIx, cx_K, nox_K, List.replicate_succ, List.replicate_zero, Nat.reduceSub, Bool.true_eq_false, Bool.false_eq_true, Nat.reduceAdd, List.cons.injEq, reduceCtorEq, false_and, false_or, or_false, tAug, rSetO, rJoin, tJs, rNewStrs_k, tMakeLS, rStrO, ClX.tCMeth, tCMethK, tDGet2, tPar3, rInD, rBinI, rBinT, rIxD, tOrT]
    refine ⟨_, sq, _, rfl, rfl, ?_⟩
    by_cases hs : q.s = 1
    · rw [if_pos (by rw [hs])]
      refine ⟨_, sq, _, rfl, rfl, ?_⟩
      by_cases hd : q.d = 0
      · rw [if_pos (by rw [hd])]
        have z := k H z0
        rw [plT_middle ⟨hs, hd⟩] at z
        exact ⟨_, sq, _, rfl, _, rfl, Nat.lt_trans lg2 (by decide), by omega, z⟩
      · rw [if_neg (inj _ _ hd)]
        exact h3 (by unfold odd3; rw [decide_eq_false c1, decide_eq_false c2, decide_eq_false (fun z => hd z.2)]; rfl)
    · rw [if_neg (inj _ _ hs)]
      exact h3 (by unfold odd3; rw [decide_eq_false c1, decide_eq_false c2, decide_eq_false (fun z => hs z.1)]; rfl)
  obtain ⟨t2, P2, h2⟩ := T2
  have T1 : ∃ tt, PSs (cxOf CX0 P w K mg base ["_law_parts_here", "_law_part"] "_law_written" (defScope s__law_written) a._law_written cdv A outer s H E).nox ((defBody s__law_written).drop 1) tt ∧ (¬ (q.s = 0 ∧ q.d = 0) → tt ({ nx := fun _ H' => Q .non H', rt := Q } : Ends) [some (.ref t), none] H) := by
    refine ⟨_, (pss_cons (ps_if (PW.pt (pw_and (pt_cmpR op_eq (pe_ix ix_list (pv 0) pe_int (fun _ _ => rfl)) pe_int (nomark _)) (pw_and1 (pt_cmpR op_eq (pe_ix ix_list (pv 0) pe_int (fun _ _ => rfl)) pe_int (nomark _)))))
          (pss_one (ps_ret (pe_op op_add_str pe_str (pe_callTy call_str_int (by rfl) T.n_str (by decide +kernel) (pa_cons (pe_op op_sub pe_int (pe_ix ix_list (pv 0) pe_int (fun _ _ => rfl))) pa_nil)))))
          pss_nil)
      P2), fun c1 => ?_⟩
    simp only [tSeq, tIfS, tTest, tB, tAnd, tOr, tNot, tAndV, tOrV, tNotV, tIf, tOp, tUn, tChain, rEq, rNe, rI0, rI, rU, tCallR, tCons, tNil, tC, tVar, tRet, tRetN, tTup_k, tLst_k, tCB, tNext, tAsg, gName, gTup, gCons, gNil, tDrop, tPar, tFld, ClX.tCVal, tPropR, rBin, rBinT, rNeOwn, rSetL_k, gSub, tMakeK_k, tMethR, rInO, tDNewK_k, tYes, wipe, tMakeR_k, tSMeth, tSMethK, rMulS, decide_true, tNever, sFld, rIsiT, and_false, rListOf, rTupOf, rLenSeq, rIxL, rIxT, rIxS, rCat_k, rRep_k, rSlL_k, rSlS, rNewStrs_k, rAppend_k, tBM, tBM0, tM0, tM1, tSl, tNoPart, tPart, tLc_k, tFor_k, iList, iTup, iEnumT, iRng1, iRng2, iRng2L, iStr, L2.start, List.map, List.length_cons, List.length_nil, List.cons_append, List.nil_append, List.getElem?_cons_succ, List.getElem?_cons_zero, Option.some.injEq, V.int.injEq, V.bl.injEq, V.str.injEq, V.ref.injEq, exists_eq_left', exists_eq_left, and_assoc, exists_and_left, exists_eq, exists_eq', true_and, and_true, List.set_cons_zero, List.set_cons_succ, List.set, decide_eq_true_eq, Bool.not_eq_true', if_true, if_false, rIx, cx_K, nox_K, List.replicate_succ, List.replicate_zero, Nat.reduceSub, Bool.true_eq_false, Bool.false_eq_true, Nat.reduceAdd, List.cons.injEq, reduceCtorEq, false_and, false_or, or_false, tAug, rSetO, rJoin, tJs, rNewStrs_k, tMakeLS, rStrO, ClX.tCMeth, tCMethK, tDGet2, tPar3, rInD, rBinI, rBinT, rIxD, tOrT]
    refine ⟨_, sq, _, rfl, rfl, ?_⟩
    by_cases hs : q.s = 2
    · rw [if_pos (by rw [hs])]
      refine ⟨_, sq, _, rfl, rfl, ?_⟩
      by_cases hd : q.d = 1
      · rw [if_pos (by rw [hd])]
        have z := k H z0
        rw [plT_right ⟨hs, hd⟩] at z
        exact ⟨_, sq, _, rfl, _, rfl, Nat.lt_trans lo (by decide), by omega, z⟩
      · rw [if_neg (inj _ _ hd)]
        exact h2 c1 fun z => hd z.2
    · rw [if_neg (inj _ _ hs)]
      exact h2 c1 fun z => hs z.1
  obtain ⟨t1, P1, h1⟩ := T1
  refine ⟨_, (pss_cons (ps_if (PW.pt (pw_and (pt_cmpR op_eq (pe_ix ix_list (pv 0) pe_int (fun _ _ => rfl)) pe_int (nomark _)) (pw_and1 (pt_cmpR op_eq (pe_ix ix_list (pv 0) pe_int (fun _ _ => rfl)) pe_int (nomark _)))))
          (pss_one (ps_ret (pe_op op_add_str pe_str (pe_callTy call_str_int (by rfl) T.n_str (by decide +kernel) (pa_cons (pe_ix ix_list (pv 0) pe_int (fun _ _ => rfl)) pa_nil)))))
          pss_nil)
      P1), ?_⟩
  simp only [tSeq, tIfS, tTest, tB, tAnd, tOr, tNot, tAndV, tOrV, tNotV, tIf, tOp, tUn, tChain, rEq, rNe, rI0, rI, rU, tCallR, tCons, tNil, tC, tVar, tRet, tRetN, tTup_k, tLst_k, tCB, tNext, tAsg, gName, gTup, gCons, gNil, tDrop, tPar, tFld, ClX.tCVal, tPropR, rBin, rBinT, rNeOwn, rSetL_k, gSub, tMakeK_k, tMethR, rInO, tDNewK_k, tYes, wipe, tMakeR_k, tSMeth, tSMethK, rMulS, decide_true, tNever, sFld, rIsiT, and_false, rListOf, rTupOf, rLenSeq, rIxL, rIxT, rIxS, rCat_k, rRep_k, rSlL_k, rSlS, rNewStrs_k, rAppend_k, tBM, tBM0, tM0, tM1, tSl, tNoPart, tPart, tLc_k, tFor_k, iList, iTup, iEnumT, iRng1, iRng2, iRng2L, iStr, L2.start, List.map, List.length_cons, List.length_nil, List.cons_append, List.nil_append, List.getElem?_cons_succ, List.getElem?_cons_zero, Option.some.injEq, V.int.injEq, V.bl.injEq, V.str.injEq, V.ref.injEq, exists_eq_left', exists_eq_left, and_assoc, exists_and_left, exists_eq, exists_eq', true_and, and_true, List.set_cons_zero, List.set_cons_succ, List.set, decide_eq_true_eq, Bool.not_eq_true', if_true, if_false, rIx, cx_K, nox_K, List.replicate_succ, List.replicate_zero, Nat.reduceSub, Bool.true_eq_false, Bool.false_eq_true, Nat.reduceAdd, List.cons.injEq, reduceCtorEq, false_and, false_or, or_false, tAug, rSetO, rJoin, tJs, rNewStrs_k, tMakeLS, rStrO, ClX.tCMeth, tCMethK, tDGet2, tPar3, rInD, rBinI, rBinT, rIxD, tOrT]
  refine ⟨_, sq, _, rfl, rfl, ?_⟩
  by_cases hs : q.s = 0
  · rw [if_pos (by rw [hs])]
    refine ⟨_, sq, _, rfl, rfl, ?_⟩
    by_cases hd : q.d = 0
    · rw [if_pos (by rw [hd])]
      have z := k H z0
      rw [plT_left (q := q) ⟨hs, hd⟩] at z
      exact ⟨_, sq, _, rfl, _, rfl, Nat.lt_trans lg2 (by decide), by omega, z⟩
    · rw [if_neg (inj _ _ hd)]
      exact h1 fun z => hd z.2
  · rw [if_neg (inj _ _ hs)]
    exact h1 fun z => hs z.1
theorem ok_lisnum (T : Txt K mg a) : FnR P w K mg base CX0 2 a._law_is_number spLIsNum := by
  refine T.d__law_is_number.ok sc__law_is_number (fun _ _ _ _ _ _ us hl => match us, hl with | [_], _ => rfl) (fun vs H Q E h => by obtain ⟨r, rfl, _⟩ := h; rfl) (fun cdv A outer s H vs Q E hr h => ?_)
  obtain ⟨r, rfl, lw, hw, k⟩ := h
  have TAIL : ∃ tt, PSs (cxOf CX0 P w K mg base ["_law_word", "_law_body", "_law_sign"] "_law_is_number" (defScope s__law_is_number) a._law_is_number cdv A outer s H E).nox ((defBody s__law_is_number).drop 1) tt ∧ tt ({ nx := fun _ H' => Q .non H', rt := Q } : Ends) [some (.str (S r)), some (.str (S (bod r))), none] H := by
    refine ⟨_, (pss_cons (ps_if (PW.pt (pw_or (pt_cmpR op_eq (pv 1) pe_str (nomark _)) (pw_or (pt_cmpR op_gt (pe_callB call_len_str (by rfl) T.n_len (by decide +kernel) (pa_cons (pv 1) pa_nil)) pe_int (nomark _)) (pw_or1 (pt_cmpR (op_neD hr.units) (pe_lc (own := [("_law_sign", 2)]) (g := gName 2) (by rfl) sc__law_is_number.nd (pi_str (pv 1)) (blkOk_by (own := [("_law_sign", 2)]) (N := ["_law_word", "_law_body", "_law_sign"]) (sc := defScope s__law_is_number) (by decide +kernel)) (fun _ _ _ _ _ => (pg_name (i := 2) sc__law_is_number.nd rfl (Or.inl rfl))) (fun _ _ _ _ _ => (pts_one (pt_cmpR op_notIn_sign (pv 2) pe_str (by rfl)))) (fun _ _ _ _ _ => (pv 2))) (pe_lst pa_nil) (nomark _))))))
          (pss_one (ps_ret pe_bl))
          pss_nil)
      (pss_one (ps_ret (pe_or (pe_and (pe_cmpR op_eq (pv 1) pe_str (nomark _)) (pe_one (pe_cmpR op_eq (pv 0) pe_str (nomark _)))) (pe_one (pe_cmpR op_ne (pe_item_str (pv 1) pe_int (fun _ _ => rfl)) pe_str (nomark _))))))), ?_⟩
    simp only [tSeq, tIfS, tTest, tB, tAnd, tOr, tNot, tAndV, tOrV, tNotV, tIf, tOp, tUn, tChain, rEq, rNe, rI0, rI, rU, tCallR, tCons, tNil, tC, tVar, tRet, tRetN, tTup_k, tLst_k, tCB, tNext, tAsg, gName, gTup, gCons, gNil, tDrop, tPar, tFld, ClX.tCVal, tPropR, rBin, rBinT, rNeOwn, rSetL_k, gSub, tMakeK_k, tMethR, rInO, tDNewK_k, tYes, wipe, tMakeR_k, tSMeth, tSMethK, rMulS, decide_true, tNever, sFld, rIsiT, and_false, rListOf, rTupOf, rLenSeq, rIxL, rIxT, rIxS, rCat_k, rRep_k, rSlL_k, rSlS, rNewStrs_k, rAppend_k, tBM, tBM0, tM0, tM1, tSl, tNoPart, tPart, tLc_k, tFor_k, iList, iTup, iEnumT, iRng1, iRng2, iRng2L, iStr, L2.start, List.map, List.length_cons, List.length_nil, List.cons_append, List.nil_append, List.getElem?_cons_succ, List.getElem?_cons_zero, Option.some.injEq, V.int.injEq, V.bl.injEq, V.str.injEq, V.ref.injEq, exists_eq_left', exists_eq_left, and_assoc, exists_and_left, exists_eq, exists_eq', true_and, and_true, List.set_cons_zero, List.set_cons_succ, List.set, decide_eq_true_eq, Bool.not_eq_true', if_true, if_false, rIx, cx_K, nox_K, List.replicate_succ, List.replicate_zero, Nat.reduceSub, Bool.true_eq_false, Bool.false_eq_true, Nat.reduceAdd, List.cons.injEq, reduceCtorEq, false_and, false_or, or_false, tAug, rSetO, rJoin, tJs, rNewStrs_k, tMakeLS, rStrO, ClX.tCMeth, tCMethK, tDGet2, tPar3, rInD, rBinI, rBinT, rIxD, tOrT]
    have bl := bod_len r
    have sz : ∀ m : Nat, m ≤ 20000 → m ≤ sizeLine := fun m h => Nat.le_trans h (by decide +kernel)
    have eS : Str.ofString "" = S [] := by decide +kernel
    have e0 : Str.ofString "0" = S [48] := by decide +kernel
    have no : isNum r = false → Q (.bl false) H := fun e => by have z := k H (Same.refl _); rw [e] at z; exact z
    refine ⟨rfl, ?_⟩
    by_cases hb : bod r = []
    · rw [if_pos (by rw [hb, eS])]
      exact no (by unfold isNum; rw [hb]; rfl)
    rw [if_neg (fun e => hb (SX.S_inj (e.trans eS)))]
    have hp : 1 ≤ (bod r).length := List.length_pos_iff.mpr hb
    refine ⟨sz _ (by rw [SX.S_len]; omega), ?_⟩
    rw [SX.S_len]
    by_cases h6 : (bod r).length ≤ 60
    · rw [if_neg (by omega)]
      have lb := bod_low lw
      refine kLc.all walk_str (fun n => (((bod r).take n).filter fun c => !isDig c).map fun c => V.str ⟨#[c]⟩) rfl (fun _ _ => trivial) (fun D n x HA HB hn cl hY => ?_) fun D HA fA => ?_
      · obtain ⟨rfl, c, hc, rfl⟩ := hY
        have hc' : (bod r)[n]? = some c := by rw [← hc]; exact (Array.getElem?_toList (xs := (S (bod r)).cps)).symm ▸ rfl
        simp only [in_ten, tSeq, tIfS, tTest, tB, tAnd, tOr, tNot, tAndV, tOrV, tNotV, tIf, tOp, tUn, tChain, rEq, rNe, rI0, rI, rU, tCallR, tCons, tNil, tC, tVar, tRet, tRetN, tTup_k, tLst_k, tCB, tNext, tAsg, gName, gTup, gCons, gNil, tDrop, tPar, tFld, ClX.tCVal, tPropR, rBin, rBinT, rNeOwn, rSetL_k, gSub, tMakeK_k, tMethR, rInO, tDNewK_k, tYes, wipe, tMakeR_k, tSMeth, tSMethK, rMulS, decide_true, tNever, sFld, rIsiT, and_false, rListOf, rTupOf, rLenSeq, rIxL, rIxT, rIxS, rCat_k, rRep_k, rSlL_k, rSlS, rNewStrs_k, rAppend_k, tBM, tBM0, tM0, tM1, tSl, tNoPart, tPart, tLc_k, tFor_k, iList, iTup, iEnumT, iRng1, iRng2, iRng2L, iStr, L2.start, List.map, List.length_cons, List.length_nil, List.cons_append, List.nil_append, List.getElem?_cons_succ, List.getElem?_cons_zero, Option.some.injEq, V.int.injEq, V.bl.injEq, V.str.injEq, V.ref.injEq, exists_eq_left', exists_eq_left, and_assoc, exists_and_left, exists_eq, exists_eq', true_and, and_true, List.set_cons_zero, List.set_cons_succ, List.set, decide_eq_true_eq, Bool.not_eq_true', if_true, if_false, rIx, cx_K, nox_K, List.replicate_succ, List.replicate_zero, Nat.reduceSub, Bool.true_eq_false, Bool.false_eq_true, Nat.reduceAdd, List.cons.injEq, reduceCtorEq, false_and, false_or, or_false, tAug, rSetO, rJoin, tJs, rNewStrs_k, tMakeLS, rStrO, ClX.tCMeth, tCMethK, tDGet2, tPar3, rInD, rBinI, rBinT, rIxD, tOrT]
        have tk : (bod r).take (n + 1) = (bod r).take n ++ [c] := by rw [List.take_add_one, hc']; rfl
        refine ⟨_, rfl, ?_⟩
        rw [tk, List.filter_append, List.map_append]
        cases hd : isDig c with
        | true =>
          rw [if_neg (by decide)]
          have e2 : ([c] : List Nat).filter (fun c => !isDig c) = [] := by simp [hd]
          rw [e2, List.map_nil, List.append_nil]
          exact cl
        | false =>
          rw [if_pos (by decide)]
          have e2 : ([c] : List Nat).filter (fun c => !isDig c) = [c] := by simp [hd]
          rw [e2]
          refine kApp.mk cl (Same.refl _) ?_ rfl
          rw [List.length_map]
          exact Nat.lt_of_le_of_lt (Nat.le_trans (List.length_filter_le ..) (Nat.le_trans (List.length_take_le' ..) (show (bod r).length ≤ 20000 by omega))) (by decide)
      · have full : (bod r).take (S (bod r)).cps.size = bod r := List.take_of_length_le (Nat.le_refl _)
        rw [full] at fA
        refine kNew.mk (by show 0 ≤ sizeLine; decide) fun q0 HC fC => ?_
        obtain ⟨y1, y2⟩ := lay_signs ((bod r).filter fun c => !isDig c) fun c hc => lb c (List.mem_filter.mp hc).1
        have sC := fA.same.trans fC.same
        have e : PyData.eqv (.list (((bod r).filter fun c => !isDig c).map fun c => PyData.str ⟨#[c]⟩)) (.list []) = (bod r).all isDig := by
          cases hf : (bod r).filter (fun c => !isDig c) with
          | nil =>
            rw [List.filter_eq_nil_iff] at hf
            rw [List.all_eq_true.mpr fun c hc => by have := hf c hc; simpa using this]
            simp [PyData.eqv, PyData.eqvAll]
          | cons c t =>
            have hm : c ∈ (bod r).filter (fun c => !isDig c) := by rw [hf]; exact List.mem_cons_self
            have hm2 := List.mem_filter.mp hm
            have e3 : (bod r).all isDig = false := Bool.eq_false_iff.mpr fun h => by
              have q1 := List.all_eq_true.mp h c hm2.1
              have q2 := hm2.2
              rw [q1] at q2
              cases q2
            rw [e3]
            simp [PyData.eqv, PyData.eqvAll]
        refine ⟨_, .list [], .lst (SqL.of (fC.get fA.at_)) (dp_signs _), .lst (SqL.of fC.at_) .nil, Bool.and_eq_true_iff.mpr ⟨y1, decide_eq_true (by simp only [PyData.depth]; omega)⟩, by decide +kernel, ?_⟩
        rw [e]
        have go : ∀ b : Bool, isNum r = b → Q (.bl b) HC := fun b q => by have z := k HC sC; rw [q] at z; exact z
        refine ⟨_, rfl, ?_⟩
        cases ha : (bod r).all isDig with
        | false =>
          rw [if_pos (by decide)]
          exact go _ (by unfold isNum; rw [ha]; simp)
        | true =>
          rw [if_neg (by decide)]
          have en : isNum r = (decide (r = [48]) || !decide ((bod r)[0]? = some 48)) := by unfold isNum; rw [decide_eq_true hp, ha, decide_eq_true h6]; rfl
          obtain ⟨c, t, hct⟩ : ∃ c t, bod r = c :: t := by
            cases h : bod r with
            | nil => exact absurd h hb
            | cons c t => exact ⟨c, t, rfl⟩
          have hc0 : (bod r).toArray[Int.toNat 0]? = some c := by rw [hct]; rfl
          have last : r ≠ [48] → (0 : Int) ≤ 0 ∧ (0 : Int) < 2 ^ 63 ∧ (0 : Int) < ((S (bod r)).length : Nat) ∧ ∃ x, (bod r).toArray[Int.toNat 0]? = some x ∧ scal (V.str { cps := #[x] }) (V.str (Str.ofString "0")) = true ∧ Q (V.bl !decide (({ cps := #[x] } : Str) = Str.ofString "0")) HC := fun hr => by
            refine ⟨by decide, by decide, by rw [SX.S_len]; omega, c, hc0, rfl, go _ ?_⟩
            rw [en, decide_eq_false hr, Bool.false_or, hct, e0]
            have q : (({ cps := #[c] } : Str) = S [48]) ↔ ((c :: t)[0]? = some 48) := by
              constructor
              · intro h
                have := SX.S_inj (a := [c]) (b := [48]) h
                rw [List.cons.inj this |>.1]
                rfl
              · intro h
                have : c = 48 := by simpa using h
                rw [this]
            rw [decide_eq_decide.mpr q]
          refine ⟨rfl, ?_⟩
          by_cases h48 : bod r = [48]
          · rw [if_pos (by rw [h48, e0])]
            refine ⟨rfl, ?_⟩
            by_cases hr : r = [48]
            · rw [if_pos (by rw [hr, e0])]
              exact go _ (by rw [en, decide_eq_true hr]; rfl)
            · rw [if_neg (fun z => hr (SX.S_inj (z.trans e0)))]
              exact last hr
          · rw [if_neg (fun z => h48 (SX.S_inj (z.trans e0)))]
            exact last fun hr => h48 (by rw [hr]; rfl)
    · rw [if_pos (by omega)]
      exact no (by unfold isNum; rw [decide_eq_false h6]; simp)
  obtain ⟨tt, PT, hT⟩ := TAIL
  refine ⟨_, (pss_cons (ps_set (i := 1) sc__law_is_number.nd rfl (Or.inl rfl) (pe_ifExp (pt_cmpR op_eq (pe_slice sl_str (pv 0) po_none (po_some pe_int)) pe_str (nomark _)) (pe_slice sl_str (pv 0) (po_some pe_int) po_none) (pv 0)))
      PT), ?_⟩
  simp only [tSeq, tIfS, tTest, tB, tAnd, tOr, tNot, tAndV, tOrV, tNotV, tIf, tOp, tUn, tChain, rEq, rNe, rI0, rI, rU, tCallR, tCons, tNil, tC, tVar, tRet, tRetN, tTup_k, tLst_k, tCB, tNext, tAsg, gName, gTup, gCons, gNil, tDrop, tPar, tFld, ClX.tCVal, tPropR, rBin, rBinT, rNeOwn, rSetL_k, gSub, tMakeK_k, tMethR, rInO, tDNewK_k, tYes, wipe, tMakeR_k, tSMeth, tSMethK, rMulS, decide_true, tNever, sFld, rIsiT, and_false, rListOf, rTupOf, rLenSeq, rIxL, rIxT, rIxS, rCat_k, rRep_k, rSlL_k, rSlS, rNewStrs_k, rAppend_k, tBM, tBM0, tM0, tM1, tSl, tNoPart, tPart, tLc_k, tFor_k, iList, iTup, iEnumT, iRng1, iRng2, iRng2L, iStr, L2.start, List.map, List.length_cons, List.length_nil, List.cons_append, List.nil_append, List.getElem?_cons_succ, List.getElem?_cons_zero, Option.some.injEq, V.int.injEq, V.bl.injEq, V.str.injEq, V.ref.injEq, exists_eq_left', exists_eq_left, and_assoc, exists_and_left, exists_eq, exists_eq', true_and, and_true, List.set_cons_zero, List.set_cons_succ, List.set, decide_eq_true_eq, Bool.not_eq_true', if_true, if_false, rIx, cx_K, nox_K, List.replicate_succ, List.replicate_zero, Nat.reduceSub, Bool.true_eq_false, Bool.false_eq_true, Nat.reduceAdd, List.cons.injEq, reduceCtorEq, false_and, false_or, or_false, tAug, rSetO, rJoin, tJs, rNewStrs_k, tMakeLS, rStrO, ClX.tCMeth, tCMethK, tDGet2, tPar3, rInD, rBinI, rBinT, rIxD, tOrT]
  have sz : ∀ m : Nat, m ≤ 20000 → m ≤ sizeLine := fun m h => Nat.le_trans h (by decide +kernel)
  have e45 : Str.ofString "-" = S [45] := by decide +kernel
  refine ⟨sz _ (by rw [SX.S_len]; exact hw), rfl, ?_⟩
  cases r with
  | nil =>
    have e : cutS (S []) none (some 1) = S [] := by decide +kernel
    rw [e, if_neg (by rw [e45]; exact fun z => by cases SX.S_inj z)]
    exact hT
  | cons c t =>
    have e : cutS (S (c :: t)) none (some 1) = S [c] := cut_to (a := c :: t) (i := 1) (by simp)
    rw [e, e45]
    by_cases hc : c = 45
    · subst hc
      rw [if_pos rfl]
      have e2 : cutS (S (45 :: t)) (some 1) none = S t := cut_from (a := 45 :: t) (i := 1) (by simp)
      rw [e2]
      exact ⟨sz _ (by rw [SX.S_len]; exact hw), hT⟩
    · rw [if_neg (fun z => hc (List.cons.inj (SX.S_inj z)).1)]
      rw [bod_pos (w := c :: t) (by simpa using hc)] at hT
      exact hT
theorem ok_wrong (T : Txt K mg a) : FnR P w K mg base CX0 3 a._law_wrong spWrong := by
  have G__law_is_number : FnR P w K mg base CX0 2 a._law_is_number spLIsNum := ok_lisnum T
  refine T.d__law_wrong.ok sc__law_wrong (fun _ _ _ _ _ _ us hl => match us, hl with | [_], _ => rfl) (fun vs H Q E h => by obtain ⟨l, ws, rfl, _⟩ := h; rfl) (fun cdv A outer s H vs Q E hr h => ?_)
  obtain ⟨l, ws, rfl, hl, W, k⟩ := h
  refine ⟨_, (pss_cons (ps_set (i := 1) sc__law_wrong.nd rfl (Or.inl rfl) (pe_dget2 (hu_of hr) (pe_disp (pps_cons pe_str pe_int (pps_cons pe_str pe_int (pps_cons pe_str pe_int (pps_cons pe_str pe_int pps_nil)))) (by rfl) (by rfl) (fun z => by cases z) (by decide)) (pe_ix ix_list (pv 0) pe_int (fun _ _ => rfl)) pe_int ⟨rfl, rfl, rfl, rfl⟩))
      (pss_cons (ps_if (pt_cmpR op_eq (pv 1) pe_int (nomark _))
          (pss_one (ps_ret pe_int))
          pss_nil)
      (pss_cons (ps_for PassesOwn.never rfl (pi_range2 rfl T.n_range (pa_cons pe_int (pa_cons (pe_op op_add (pv 1) pe_int) pa_nil))) (pg_name (i := 2) sc__law_wrong.nd rfl (Or.inl rfl))
          (pss_cons (ps_if (pt_cmpR op_ge (pv 2) (pe_callB call_len_seq (by rfl) T.n_len (by decide +kernel) (pa_cons (pv 0) pa_nil)) (nomark _))
              (pss_one (ps_ret (pe_callB call_len_seq (by rfl) T.n_len (by decide +kernel) (pa_cons (pv 0) pa_nil))))
              pss_nil)
          (pss_one (ps_if (pt_not (pt_val (pe_callR G__law_is_number (hr.mono (by decide)) T.m__law_is_number T.k__law_is_number pass0 (pa_cons (pe_ix ix_list (pv 0) (pv 2) (fun _ _ => rfl)) pa_nil))))
              (pss_one (ps_ret (pv 2)))
              pss_nil))))
      (pss_cons (ps_if (PW.pt (pw_and (pt_cmpR op_eq (pv 1) pe_int (nomark _)) (pw_and1 (pt_cmpR (op_inD hr.in1.units) (pe_tup (pa_cons (pe_callTy call_int_str (by rfl) T.n_int (by decide +kernel) (pa_cons (pe_ix ix_list (pv 0) pe_int (fun _ _ => rfl)) pa_nil)) (pa_cons (pe_callTy call_int_str (by rfl) T.n_int (by decide +kernel) (pa_cons (pe_ix ix_list (pv 0) pe_int (fun _ _ => rfl)) pa_nil)) pa_nil))) (pe_lst (pa_cons (pe_tup (pa_cons pe_int (pa_cons pe_int pa_nil))) (pa_cons (pe_tup (pa_cons pe_int (pa_cons pe_int pa_nil))) (pa_cons (pe_tup (pa_cons pe_int (pa_cons pe_int pa_nil))) pa_nil)))) (by rfl)))))
          (pss_one (ps_ret pe_int))
          pss_nil)
      (pss_one (ps_ret (pe_ifExp (pt_cmpR op_gt (pe_callB call_len_seq (by rfl) T.n_len (by decide +kernel) (pa_cons (pv 0) pa_nil)) (pe_op op_add (pv 1) pe_int) (nomark _)) (pe_op op_add (pv 1) pe_int) pe_non))))))), ?_⟩
  obtain ⟨w1, w2, w3⟩ := W
  obtain ⟨w0, wt, rfl⟩ : ∃ w0 wt, ws = w0 :: wt := by
    cases ws with
    | nil => exact absurd w1 (by decide)
    | cons a b => exact ⟨_, _, rfl⟩
  have hd : (w0 :: wt).headD [] = w0 := rfl
  have a0 : atI (strsV (w0 :: wt)) 0 = some (.str (S w0)) := atI_nat (j := 0) rfl
  simp only [tDisp, tPairs, tSeq, tIfS, tTest, tB, tAnd, tOr, tNot, tAndV, tOrV, tNotV, tIf, tOp, tUn, tChain, rEq, rNe, rI0, rI, rU, tCallR, tCons, tNil, tC, tVar, tRet, tRetN, tTup_k, tLst_k, tCB, tNext, tAsg, gName, gTup, gCons, gNil, tDrop, tPar, tFld, ClX.tCVal, tPropR, rBin, rBinT, rNeOwn, rSetL_k, gSub, tMakeK_k, tMethR, rInO, tDNewK_k, tYes, wipe, tMakeR_k, tSMeth, tSMethK, rMulS, decide_true, tNever, sFld, rIsiT, and_false, rListOf, rTupOf, rLenSeq, rIxL, rIxT, rIxS, rCat_k, rRep_k, rSlL_k, rSlS, rNewStrs_k, rAppend_k, tBM, tBM0, tM0, tM1, tSl, tNoPart, tPart, tLc_k, tFor_k, iList, iTup, iEnumT, iRng1, iRng2, iRng2L, iStr, L2.start, List.map, List.length_cons, List.length_nil, List.cons_append, List.nil_append, List.getElem?_cons_succ, List.getElem?_cons_zero, Option.some.injEq, V.int.injEq, V.bl.injEq, V.str.injEq, V.ref.injEq, exists_eq_left', exists_eq_left, and_assoc, exists_and_left, exists_eq, exists_eq', true_and, and_true, List.set_cons_zero, List.set_cons_succ, List.set, decide_eq_true_eq, Bool.not_eq_true', if_true, if_false, rIx, cx_K, nox_K, List.replicate_succ, List.replicate_zero, Nat.reduceSub, Bool.true_eq_false, Bool.false_eq_true, Nat.reduceAdd, List.cons.injEq, reduceCtorEq, false_and, false_or, or_false, tAug, rSetO, rJoin, tJs, rNewStrs_k, tMakeLS, rStrO, ClX.tCMeth, tCMethK, tDGet2, tPar3, rInD, rBinI, rBinT, rIxD, tOrT]
  intro dd hdd
  refine ⟨upd_same, kvsN, rfl, by show 4 ≤ 15; decide, ?_⟩
  rw [merge_N, upd_upd]
  have sd : Same H (upd H dd (.dK kvsN)) := fun b o e => by rw [upd_ne (ne_of_none e hdd)]; exact e
  have ed : (upd H dd (.dK kvsN)) dd = some (.dK kvsN) := upd_same
  generalize upd H dd (.dK kvsN) = HD at *
  refine ⟨.inl ⟨_, .inl ed⟩, _, SqL.of (sd _ _ hl), _, a0, _, DGet.k (k := Sum.inr (S w0)) ed, ?_⟩
  rw [get_N]
  refine ⟨rfl, ?_⟩
  have back : ∀ H', Same HD H' → ∀ d, dueP (w0 :: wt) = d → Q (dueV d) H' := fun H' s d e => e ▸ k H' (sd.trans s)
  by_cases m0 : many w0 = 0
  · rw [if_pos (by rw [m0]; rfl)]
    exact back HD (Same.refl _) (some 0) (by unfold dueP takeP; rw [hd, if_pos m0])
  rw [if_neg (fun z => by have := (V.int.inj z); omega)]
  have m3 : many w0 ≤ 3 := by rcases many_cases w0 with ⟨_, m⟩ | ⟨_, m⟩ | ⟨_, m⟩ | ⟨_, m⟩ | ⟨_, _, _, _, m⟩ <;> omega
  refine ⟨_, rfl, by decide, by decide, by omega, by omega, ?_⟩
  generalize hm : many w0 = m at *
  refine kFor.it walk_range (fun i σ H' => Same HD H' ∧ firstFrom (w0 :: wt) 1 m = firstFrom (w0 :: wt) (1 + i) (m - i) ∧ (1 + i ≤ (w0 :: wt).length) ∧ (∀ j, j < i → badAt (w0 :: wt) (1 + j) = false) ∧ ∃ x2, σ = [some (.ref l), some (.int (m : Int)), x2]) ?h0 (fun _ _ _ _ _ => trivial) (fun i xv σ H2 H3 hi hP hY => ?body) fun σ H2 hP => ?fin
  case h0 => exact ⟨Same.refl _, rfl, by simp, fun j h => absurd h (Nat.not_lt_zero _), _, rfl⟩
  case body =>
    obtain ⟨sm, ff, ll, gd, x2, rfl⟩ := hP
    obtain ⟨rfl, rfl⟩ := hY
    simp only [tSeq, tIfS, tTest, tB, tAnd, tOr, tNot, tAndV, tOrV, tNotV, tIf, tOp, tUn, tChain, rEq, rNe, rI0, rI, rU, tCallR, tCons, tNil, tC, tVar, tRet, tRetN, tTup_k, tLst_k, tCB, tNext, tAsg, gName, gTup, gCons, gNil, tDrop, tPar, tFld, ClX.tCVal, tPropR, rBin, rBinT, rNeOwn, rSetL_k, gSub, tMakeK_k, tMethR, rInO, tDNewK_k, tYes, wipe, tMakeR_k, tSMeth, tSMethK, rMulS, decide_true, tNever, sFld, rIsiT, and_false, rListOf, rTupOf, rLenSeq, rIxL, rIxT, rIxS, rCat_k, rRep_k, rSlL_k, rSlS, rNewStrs_k, rAppend_k, tBM, tBM0, tM0, tM1, tSl, tNoPart, tPart, tLc_k, tFor_k, iList, iTup, iEnumT, iRng1, iRng2, iRng2L, iStr, L2.start, List.map, List.length_cons, List.length_nil, List.cons_append, List.nil_append, List.getElem?_cons_succ, List.getElem?_cons_zero, Option.some.injEq, V.int.injEq, V.bl.injEq, V.str.injEq, V.ref.injEq, exists_eq_left', exists_eq_left, and_assoc, exists_and_left, exists_eq, exists_eq', true_and, and_true, List.set_cons_zero, List.set_cons_succ, List.set, decide_eq_true_eq, Bool.not_eq_true', if_true, if_false, rIx, cx_K, nox_K, List.replicate_succ, List.replicate_zero, Nat.reduceSub, Bool.true_eq_false, Bool.false_eq_true, Nat.reduceAdd, List.cons.injEq, reduceCtorEq, false_and, false_or, or_false, tAug, rSetO, rJoin, tJs, rNewStrs_k, tMakeLS, rStrO, ClX.tCMeth, tCMethK, tDGet2, tPar3, rInD, rBinI, rBinT, rIxD, tOrT]
    have hi : i < (((m : Int) + 1) - 1).toNat := hi
    have him : i < m := by omega
    have l3 := sm _ _ (sd _ _ hl)
    obtain ⟨mi, hmi⟩ : ∃ k, m - i = k + 1 := ⟨m - i - 1, by omega⟩
    have ek : (1 + (i : Int)) = ((1 + i : Nat) : Int) := by omega
    rw [hmi, first_succ] at ff
    have bad : badAt (w0 :: wt) (1 + i) = true → dueP (w0 :: wt) = some (1 + i) := fun hb => by
      rw [if_pos hb] at ff
      unfold dueP takeP
      rw [hd, hm, if_neg m0, ff]
    refine ⟨_, .inl (SqL.of l3), ?_⟩
    rw [strsV_len]
    by_cases hk : (w0 :: wt).length ≤ 1 + i
    · rw [if_pos (by omega)]
      refine ⟨_, .inl (SqL.of l3), ?_⟩
      rw [strsV_len, show (w0 :: wt).length = 1 + i from by omega]
      refine back _ sm (some (1 + i)) (bad ?_)
      unfold badAt
      rw [List.getElem?_eq_none hk]
    · rw [if_neg (by omega)]
      obtain ⟨p, hp⟩ : ∃ p, (w0 :: wt)[1 + i]? = some p := ⟨_, List.getElem?_eq_getElem (by omega)⟩
      have atv : atI (strsV (w0 :: wt)) (1 + (i : Int)) = some (.str (S p)) := by
        rw [ek]
        exact atI_nat (strsV_at hp)
      obtain ⟨lp, pl⟩ := w3 p (List.mem_of_getElem? hp)
      refine ⟨_, SqL.of l3, _, atv, p, rfl, lp, pl, fun H4 s4 => ⟨_, rfl, ?_⟩⟩
      cases hn : isNum p with
      | false =>
        rw [if_pos rfl, ek]
        refine back _ (sm.trans s4) (some (1 + i)) (bad ?_)
        unfold badAt
        rw [hp]
        simp [hn]
      | true =>
        rw [if_neg (by decide)]
        have hb := good_not hp hn
        rw [if_neg (by rw [hb]; decide)] at ff
        refine ⟨sm.trans s4, ?_, ?_, fun j hj => ?_⟩
        · rw [ff, show m - (i + 1) = mi from by omega, show 1 + (i + 1) = 1 + i + 1 from by omega]
        · have : (w0 :: wt).length = wt.length + 1 := rfl
          omega
        · by_cases hj2 : j < i
          · exact gd j hj2
          · obtain rfl : j = i := by omega
            exact hb
  case fin =>
    obtain ⟨sm, ff, ll, gd, x2, rfl⟩ := hP
    simp only [tSeq, tIfS, tTest, tB, tAnd, tOr, tNot, tAndV, tOrV, tNotV, tIf, tOp, tUn, tChain, rEq, rNe, rI0, rI, rU, tCallR, tCons, tNil, tC, tVar, tRet, tRetN, tTup_k, tLst_k, tCB, tNext, tAsg, gName, gTup, gCons, gNil, tDrop, tPar, tFld, ClX.tCVal, tPropR, rBin, rBinT, rNeOwn, rSetL_k, gSub, tMakeK_k, tMethR, rInO, tDNewK_k, tYes, wipe, tMakeR_k, tSMeth, tSMethK, rMulS, decide_true, tNever, sFld, rIsiT, and_false, rListOf, rTupOf, rLenSeq, rIxL, rIxT, rIxS, rCat_k, rRep_k, rSlL_k, rSlS, rNewStrs_k, rAppend_k, tBM, tBM0, tM0, tM1, tSl, tNoPart, tPart, tLc_k, tFor_k, iList, iTup, iEnumT, iRng1, iRng2, iRng2L, iStr, L2.start, List.map, List.length_cons, List.length_nil, List.cons_append, List.nil_append, List.getElem?_cons_succ, List.getElem?_cons_zero, Option.some.injEq, V.int.injEq, V.bl.injEq, V.str.injEq, V.ref.injEq, exists_eq_left', exists_eq_left, and_assoc, exists_and_left, exists_eq, exists_eq', true_and, and_true, List.set_cons_zero, List.set_cons_succ, List.set, decide_eq_true_eq, Bool.not_eq_true', if_true, if_false, rIx, cx_K, nox_K, List.replicate_succ, List.replicate_zero, Nat.reduceSub, Bool.true_eq_false, Bool.false_eq_true, Nat.reduceAdd, List.cons.injEq, reduceCtorEq, false_and, false_or, or_false, tAug, rSetO, rJoin, tJs, rNewStrs_k, tMakeLS, rStrO, ClX.tCMeth, tCMethK, tDGet2, tPar3, rInD, rBinI, rBinT, rIxD, tOrT]
    have en : (((m : Int) + 1) - 1).toNat = m := by omega
    rw [en] at ff gd ll
    rw [Nat.sub_self] at ff
    have ff : firstFrom (w0 :: wt) 1 m = none := ff
    have l2 := sm _ _ (sd _ _ hl)
    have tail : ∀ H', Same HD H' → ¬ (m = 3 ∧ odd3 (vAt (w0 :: wt) 1) (vAt (w0 :: wt) 3) = true) → ∃ x, (SqL K H' l x ∨ SqT K H' l x) ∧ if (m : Int) + 1 < ((x.length : Nat) : Int) then Q (V.int ((m : Int) + 1)) H' else Q V.non H' := fun H' s hno => by
      refine ⟨_, .inl (SqL.of (s _ _ (sd _ _ hl))), ?_⟩
      rw [strsV_len]
      have et : takeP (w0 :: wt) = none := by
        unfold takeP
        rw [hd, hm, if_neg m0, ff]
        exact if_neg hno
      by_cases hn : (w0 :: wt).length > m + 1
      · rw [if_pos (by omega), show (m : Int) + 1 = ((m + 1 : Nat) : Int) from by omega]
        exact back _ s (some (m + 1)) (by unfold dueP; rw [et, hd, hm]; exact if_pos hn)
      · rw [if_neg (by omega)]
        exact back _ s none (by unfold dueP; rw [et, hd, hm]; exact if_neg hn)
    refine ⟨rfl, ?_⟩
    by_cases h3 : m = 3
    · subst h3
      rw [if_pos (by rfl)]
      obtain ⟨p1, hp1, n1⟩ := good_at (gd 0 (by decide))
      obtain ⟨p3, hp3, n3⟩ := good_at (gd 2 (by decide))
      have v1 := vAt_of hp1
      have v3 := vAt_of hp3
      have nm : ∀ p, isNum p = true → intText? (S p) = some (numV p) ∧ (S p).length ≤ 640 := fun p hn => by
        unfold isNum at hn
        simp only [Bool.and_eq_true, decide_eq_true_eq] at hn
        exact int_of hn.1.1.1 hn.1.1.2 hn.1.2
      obtain ⟨i1, i2⟩ := nm p1 n1
      obtain ⟨j1, j2⟩ := nm p3 n3
      refine ⟨_, SqL.of l2, _, atI_nat (j := 1) (strsV_at hp1), _, rfl, _, i1, i2, _, SqL.of l2, _, atI_nat (j := 3) (strsV_at hp3), _, rfl, _, j1, j2, ?_⟩
      refine kNew.mk (by show 2 ≤ sizeLine; decide) fun t0 H4 f4 => kNew.mk (by show 2 ≤ sizeLine; decide) fun t1 H5 f5 => kNew.mk (by show 2 ≤ sizeLine; decide) fun t2 H6 f6 => kNew.mk (by show 2 ≤ sizeLine; decide) fun t3 H7 f7 => kNew.mk (by show 3 ≤ sizeLine; decide) fun tl H8 f8 => ?_
      have s8 := ((((sm.trans f4.same).trans f5.same).trans f6.same).trans f7.same).trans f8.same
      have g0 : H8 t0 = some (.tup [.int (numV p1), .int (numV p3)]) := f8.get (f7.get (f6.get (f5.get f4.at_)))
      have g1 : H8 t1 = some (.tup [.int 0, .int 0]) := f8.get (f7.get (f6.get f5.at_))
      have g2 : H8 t2 = some (.tup [.int 2, .int 1]) := f8.get (f7.get f6.at_)
      have g3 : H8 t3 = some (.tup [.int 1, .int 0]) := f8.get f7.at_
      have tp : ∀ {t : Addr} {x y : Int}, H8 t = some (.tup [.int x, .int y]) → Dp K H8 (.ref t) (.tuple [.int x, .int y]) := fun h => .tup (.inl (.inl h)) (.cons (.int _) (.cons (.int _) .nil))
      refine ⟨.tuple [.int (numV p1), .int (numV p3)], tp g0, [.tuple [.int 0, .int 0], .tuple [.int 2, .int 1], .tuple [.int 1, .int 0]], .lst (SqL.of f8.at_) (.cons (tp g1) (.cons (tp g2) (.cons (tp g3) .nil))), rfl, rfl, ?_⟩
      have ea : ([PyData.tuple [.int 0, .int 0], .tuple [.int 2, .int 1], .tuple [.int 1, .int 0]].any fun z => PyData.eqv z (.tuple [.int (numV p1), .int (numV p3)])) = odd3 (numV p1) (numV p3) := by
        simp only [List.any_cons, List.any_nil, eqv2]
        unfold odd3
        rw [Bool.eq_iff_iff]
        simp only [Bool.or_eq_true, decide_eq_true_eq, Bool.or_false]
        omega
      rw [ea]
      cases ho : odd3 (numV p1) (numV p3) with
      | true =>
        rw [if_pos rfl]
        refine back _ s8 (some 0) ?_
        unfold dueP takeP
        rw [hd, hm, if_neg m0, ff, v1, v3]
        simp [ho]
      | false =>
        rw [if_neg (by decide)]
        exact tail _ s8 fun z => by rw [v1, v3, ho] at z; cases z.2
    · rw [if_neg (by omega)]
      exact tail _ sm fun z => h3 z.1
end
end Pf
end
section
namespace Pf
open PySem PySem.Spec PyProof.Rows L2 Ow StX
open SX (S)
theorem cutV_to {xs : List V} {n : Nat} : cutV xs none (some (n : Int)) = xs.take n := by
  unfold cutV
  rw [HT.sIx_nat, HT.sIx_none, List.drop_zero, Nat.sub_zero]
  by_cases h : n ≤ xs.length
  · rw [Nat.min_eq_left h]
  · rw [Nat.min_eq_right (by omega), List.take_of_length_le (Nat.le_refl _), List.take_of_length_le (by omega)]
theorem mulOk_few {x : Str} {n : Int} (h : 1 ≤ n) (h1 : n ≤ 1000) (hx : x.length ≤ 1000) : MulOk x n := by
  have hm : (x.length : Int) * n ≤ 1000 * 1000 := Int.mul_le_mul (by omega) h1 (by omega) (by omega)
  refine ⟨?_, fun _ _ => ?_, fun _ _ => ?_⟩
  · rw [Bool.or_eq_false_iff]
    exact ⟨decide_eq_false (by omega), decide_eq_false (by omega)⟩
  · have : (x.length : Int) ≤ (2 ^ 63 - 1) / n := Int.le_ediv_of_mul_le (by omega) (by omega)
    omega
  · have : x.length * n.toNat ≤ 1000 * 1000 := Nat.mul_le_mul hx (by omega)
    exact decide_eq_false (Nat.not_lt.mpr (Nat.le_trans this (by decide +kernel)))
theorem atI_any {xs : List V} {z : Int} (h0 : 0 ≤ z) (h1 : z < xs.length) : ∃ v, v ∈ xs ∧ atI xs z = some v := by
  obtain ⟨k, rfl⟩ : ∃ k : Nat, z = (k : Int) := ⟨z.toNat, by omega⟩
  have hk : k < xs.length := by omega
  exact ⟨xs[k], List.getElem_mem hk, atI_nat (List.getElem?_eq_getElem hk)⟩
theorem cutV_from {xs : List V} {n : Nat} : cutV xs (some (n : Int)) none = xs.drop n := by
  unfold cutV
  rw [HT.sIx_nat, HT.sIx_none]
  by_cases h : n ≤ xs.length
  · rw [Nat.min_eq_left h]
    exact List.take_of_length_le (by rw [List.length_drop]; exact Nat.le_refl _)
  · rw [Nat.min_eq_right (by omega), List.drop_of_length_le (Nat.le_refl _), List.drop_of_length_le (by omega), List.take_nil]
theorem cutV_rows_to {rs : List (List Nat)} {n : Nat} : cutV (strsV rs) none (some (n : Int)) = strsV (rs.take n) := by rw [cutV_to, ← List.map_take]
theorem cutV_rows_from {rs : List (List Nat)} {n : Nat} : cutV (strsV rs) (some (n : Int)) none = strsV (rs.drop n) := by rw [cutV_from, ← List.map_drop]
def tot : List (List Nat) → Nat
  | [] => 0
  | p :: t => p.length + 1 + tot t
theorem tot_app : ∀ a b : List (List Nat), tot (a ++ b) = tot a + tot b
  | [], b => by simp [tot]
  | p :: t, b => by
    show p.length + 1 + tot (t ++ b) = p.length + 1 + tot t + tot b
    rw [tot_app t b]
    omega
theorem tot_join : ∀ {ls : List (List Nat)}, ls ≠ [] → (TL.joinL [32] ls).length + 1 = tot ls
  | [], h => absurd rfl h
  | [p], _ => rfl
  | p :: q :: r, _ => by
    have := tot_join (ls := q :: r) (by simp)
    show (p ++ ([32] ++ TL.joinL [32] (q :: r))).length + 1 = p.length + 1 + tot (q :: r)
    rw [List.length_append, List.length_append, List.length_singleton]
    omega
theorem join_tot (ls : List (List Nat)) : (TL.joinL [32] ls).length ≤ tot ls := by
  cases ls with
  | nil => exact Nat.zero_le _
  | cons p t =>
    have := tot_join (ls := p :: t) (by simp)
    omega
theorem tot_split (ls : List (List Nat)) (k : Nat) : tot (ls.take k) + tot (ls.drop k) = tot ls := by
  rw [← tot_app, List.take_append_drop]
theorem tot_sum (ls : List (List Nat)) : ((ls.map S).map (·.length)).sum + (ls.map S).length * (Str.ofString " ").length = tot ls := by
  have h3 : (Str.ofString " ").length = 1 := by decide +kernel
  rw [h3, List.length_map, Nat.mul_one]
  induction ls with
  | nil => rfl
  | cons p t ih =>
    rw [List.map_cons, List.map_cons, List.sum_cons, SX.S_len, List.length_cons]
    show _ = p.length + 1 + tot t
    omega
theorem lns_tot (r : List Nat) : tot (wds r) = r.length + 1 := by
  have h := tot_join (ls := wds r) (fun e => by
    have := wds_pos (r := r)
    rw [e] at this
    exact absurd this (by decide))
  rw [join_wds] at h
  exact h.symm
theorem join_go {K : PySem.W.Frag} {H : Hp} {x : Addr} {ls : List (List Nat)} {Q : VK} (hx : H x = some (.lst (strsV ls))) (hs : tot ls ≤ 16777216) (k : Q (.str (S (TL.joinL [32] ls))) H) : ∃ p, V.ref x = V.ref p ∧ ∃ ys : List Str, (SqL K H p (ys.map V.str) ∨ SqT K H p (ys.map V.str)) ∧ (ys.map (·.length)).sum + ys.length * (Str.ofString " ").length ≤ 16777216 ∧ Q (.str (Txt.join (Str.ofString " ") ys)) H := by
  refine ⟨x, rfl, ls.map S, .inl (SqL.of (by rw [List.map_map]; exact hx)), by rw [tot_sum]; exact hs, ?_⟩
  rw [spS, SX.join_S]
  exact k
theorem LowL.app {a b : List Nat} (x : LowL a) (y : LowL b) : LowL (a ++ b) := fun c hc => (List.mem_append.mp hc).elim (x c) (y c)
theorem LowL.take {a : List Nat} {n : Nat} (x : LowL a) : LowL (a.take n) := fun c hc => x c (List.mem_of_mem_take hc)
theorem LowL.drop {a : List Nat} {n : Nat} (x : LowL a) : LowL (a.drop n) := fun c hc => x c (List.mem_of_mem_drop hc)

def spBent : Sp := fun vs H Q _ => ∃ (d : Addr) (r : List Nat), vs = [.ref d, .str (S r)] ∧ Bag H d ∧ LowL r ∧ r.length ≤ 9000 ∧ ∀ (r' : List Nat) H', LowL r' → r'.length ≤ r.length + 63 → SameBut d H H' → Bag H' d → Q (.str (S r')) H'
theorem tot_tail : ∀ ls : List (List Nat), tot ls.tail ≤ tot ls
  | [] => Nat.le_refl _
  | p :: t => by show tot t ≤ p.length + 1 + tot t; omega
/-- the words that are put in -/
def oddS : List Str := [Str.ofString "", Str.ofString "0", Str.ofString "-0", Str.ofString "01", Str.ofString "-1", Str.ofString "7", Str.ofString "x", Str.ofString "left", Str.ofString "place", Str.ofString "middle", Str.ofString "1.0", Str.ofString "+1", Txt.mul (Str.ofString "9") 60, Txt.mul (Str.ofString "9") 61, Str.ofString "2", Str.ofString "left\n", Str.ofString "-" ++ Txt.mul (Str.ofString "9") 60, Str.ofString "-" ++ Txt.mul (Str.ofString "9") 61]
theorem oddS_ok : oddS.all (fun x => x.cps.toList.all (fun c => decide (c < 128)) && decide (x.cps.toList.length ≤ 62)) = true := by decide +kernel
theorem odd_of {v : V} (h : v ∈ oddS.map V.str) : ∃ q, v = .str (S q) ∧ LowL q ∧ q.length ≤ 62 := by
  obtain ⟨s, hs, rfl⟩ := List.mem_map.mp h
  have z := List.all_eq_true.mp oddS_ok s hs
  rw [Bool.and_eq_true, decide_eq_true_eq, List.all_eq_true] at z
  exact ⟨s.cps.toList, by rw [SX.S_tl], fun c hc => of_decide_eq_true (z.1 c hc), z.2⟩
section
variable {P : Program} {w : World} {K : PySem.W.Frag} {mg : Str → Option Value} {base : Heap} {a : Adr}
set_option maxHeartbeats 4000000
theorem ok_bent (T : Txt K mg a) : FnR P w K mg base CX0 2 a._law_bent spBent := by
  have G__law_draw : FnR P w K mg base CX0 1 a._law_draw spDrawS := ok_drawS T
  refine T.d__law_bent.ok sc__law_bent (fun _ _ _ _ _ _ us hl => match us, hl with | [_, _], _ => rfl) (fun vs H Q E h => by obtain ⟨d, r, rfl, _⟩ := h; rfl) (fun cdv A outer s H vs Q E hr h => ?_)
  obtain ⟨d, r, rfl, B, lr, hr', k⟩ := h
  refine ⟨_, (pss_cons (ps_set (i := 2) sc__law_bent.nd rfl (Or.inl rfl) (pe_split (pv 1) pe_str))
      (pss_cons (ps_set (i := 3) sc__law_bent.nd rfl (Or.inl rfl) (pe_lst (pa_cons pe_str (pa_cons pe_str (pa_cons pe_str (pa_cons pe_str (pa_cons pe_str (pa_cons pe_str (pa_cons pe_str (pa_cons pe_str (pa_cons pe_str (pa_cons pe_str (pa_cons pe_str (pa_cons pe_str pa_nil))))))))))))))
      (pss_cons (ps_set (i := 3) sc__law_bent.nd rfl (Or.inl rfl) (pe_op op_cat (pv 3) (pe_lst (pa_cons (pe_op op_mulS pe_str pe_int) (pa_cons (pe_op op_mulS pe_str pe_int) (pa_cons pe_str (pa_cons pe_str (pa_cons (pe_op op_add_str pe_str (pe_op op_mulS pe_str pe_int)) (pa_cons (pe_op op_add_str pe_str (pe_op op_mulS pe_str pe_int)) pa_nil)))))))))
      (pss_cons (ps_par3 (i := 4) (j := 5) (l := 6) (by rfl) sc__law_bent.nd rfl rfl rfl (by decide) (by decide) (by decide) rfl rfl rfl (pa_cons (pe_ix ix_list (pv 3) (pe_callR G__law_draw (hr.mono (by decide)) T.m__law_draw T.k__law_draw pass0 (pa_cons (pv 0) (pa_cons (pe_callB call_len_seq (by rfl) T.n_len (by decide +kernel) (pa_cons (pv 3) pa_nil)) pa_nil))) (fun _ _ => rfl)) (pa_cons (pe_callR G__law_draw (hr.mono (by decide)) T.m__law_draw T.k__law_draw pass0 (pa_cons (pv 0) (pa_cons (pe_callB call_len_seq (by rfl) T.n_len (by decide +kernel) (pa_cons (pv 2) pa_nil)) pa_nil))) (pa_cons (pe_callR G__law_draw (hr.mono (by decide)) T.m__law_draw T.k__law_draw pass0 (pa_cons (pv 0) (pa_cons pe_int pa_nil))) pa_nil))) (by rfl))
      (pss_cons (ps_if (pt_cmpR op_eq (pv 6) pe_int (nomark _))
          (pss_one (ps_ret (pe_join pe_str (pe_op op_cat (pe_op op_cat (pe_slice sl_list (pv 2) po_none (po_some (pv 5))) (pe_lst (pa_cons (pv 4) pa_nil))) (pe_slice sl_list (pv 2) (po_some (pe_op op_add (pv 5) pe_int)) po_none)))))
          pss_nil)
      (pss_cons (ps_if (pt_cmpR op_eq (pv 6) pe_int (nomark _))
          (pss_one (ps_ret (pe_join pe_str (pe_op op_cat (pe_slice sl_list (pv 2) po_none (po_some (pv 5))) (pe_slice sl_list (pv 2) (po_some (pe_op op_add (pv 5) pe_int)) po_none)))))
          pss_nil)
      (pss_cons (ps_if (pt_cmpR op_eq (pv 6) pe_int (nomark _))
          (pss_one (ps_ret (pe_join pe_str (pe_op op_cat (pe_op op_cat (pe_slice sl_list (pv 2) po_none (po_some (pv 5))) (pe_lst (pa_cons (pv 4) pa_nil))) (pe_slice sl_list (pv 2) (po_some (pv 5)) po_none)))))
          pss_nil)
      (pss_one (ps_ret (pe_join pe_str (pe_op op_cat (pv 2) (pe_lst (pa_cons (pv 4) pa_nil))))))))))))), ?_⟩
  simp only [tSeq, tIfS, tTest, tB, tAnd, tOr, tNot, tAndV, tOrV, tNotV, tIf, tOp, tUn, tChain, rEq, rNe, rI0, rI, rU, tCallR, tCons, tNil, tC, tVar, tRet, tRetN, tTup_k, tLst_k, tCB, tNext, tAsg, gName, gTup, gCons, gNil, tDrop, tPar, tFld, ClX.tCVal, tPropR, rBin, rBinT, rNeOwn, rSetL_k, gSub, tMakeK_k, tMethR, rInO, tDNewK_k, tYes, wipe, tMakeR_k, tSMeth, tSMethK, rMulS, decide_true, tNever, sFld, rIsiT, and_false, rListOf, rTupOf, rLenSeq, rIxL, rIxT, rIxS, rCat_k, rRep_k, rSlL_k, rSlS, rNewStrs_k, rAppend_k, tBM, tBM0, tM0, tM1, tSl, tNoPart, tPart, tLc_k, tFor_k, iList, iTup, iEnumT, iRng1, iRng2, iRng2L, iStr, L2.start, List.map, List.length_cons, List.length_nil, List.cons_append, List.nil_append, List.getElem?_cons_succ, List.getElem?_cons_zero, Option.some.injEq, V.int.injEq, V.bl.injEq, V.str.injEq, V.ref.injEq, exists_eq_left', exists_eq_left, and_assoc, exists_and_left, exists_eq, exists_eq', true_and, and_true, List.set_cons_zero, List.set_cons_succ, List.set, decide_eq_true_eq, Bool.not_eq_true', if_true, if_false, rIx, cx_K, nox_K, List.replicate_succ, List.replicate_zero, Nat.reduceSub, Bool.true_eq_false, Bool.false_eq_true, Nat.reduceAdd, List.cons.injEq, reduceCtorEq, false_and, false_or, or_false, tAug, rSetO, rJoin, tJs, rNewStrs_k, tMakeLS, rStrO, ClX.tCMeth, tCMethK, tDGet2, tPar3, rInD, rBinI, rBinT, rIxD, tOrT]
  have sz : ∀ m : Nat, m ≤ 20000 → m ≤ sizeLine := fun m h => Nat.le_trans h (by decide +kernel)
  refine ⟨by decide +kernel, by rw [SX.S_len]; exact sz _ (by omega), ?_⟩
  rw [split_wds]
  refine kN.mk fun ll H1 f1 => kNew.mk (by show 12 ≤ sizeLine; decide) fun o1 H2 f2 => ⟨mulOk_few (by decide) (by decide) (by decide), mulOk_few (by decide) (by decide) (by decide), mulOk_few (by decide) (by decide) (by decide), sz _ (by decide +kernel), mulOk_few (by decide) (by decide) (by decide), sz _ (by decide +kernel), kNew.mk (by show 6 ≤ sizeLine; decide) fun o2 H3 f3 => ⟨o1, rfl, o2, rfl, _, f3.get f2.at_, _, f3.at_, (by show 18 ≤ sizeLine; decide), kN.mk fun o3 H4 f4 => ?_⟩⟩
  have l1 : H1 ll = some (.lst (strsV (wds r))) := by rw [f1.at_, List.map_map]; rfl
  have l4 := f4.get (f3.get (f2.get l1))
  have o4 : H4 o3 = some (.lst (oddS.map V.str)) := f4.at_
  have s04 := ((f1.same.trans f2.same).trans f3.same).trans f4.same
  have B4 := B.same s04
  have lp := wds_pos (r := r)
  have ln := wds_len (r := r)
  have lt := lns_tot r
  have low := wds_low lr
  clear f1 f2 f3 f4 l1
  simp only [tSeq, tIfS, tTest, tB, tAnd, tOr, tNot, tAndV, tOrV, tNotV, tIf, tOp, tUn, tChain, rEq, rNe, rI0, rI, rU, tCallR, tCons, tNil, tC, tVar, tRet, tRetN, tTup_k, tLst_k, tCB, tNext, tAsg, gName, gTup, gCons, gNil, tDrop, tPar, tFld, ClX.tCVal, tPropR, rBin, rBinT, rNeOwn, rSetL_k, gSub, tMakeK_k, tMethR, rInO, tDNewK_k, tYes, wipe, tMakeR_k, tSMeth, tSMethK, rMulS, decide_true, tNever, sFld, rIsiT, and_false, rListOf, rTupOf, rLenSeq, rIxL, rIxT, rIxS, rCat_k, rRep_k, rSlL_k, rSlS, rNewStrs_k, rAppend_k, tBM, tBM0, tM0, tM1, tSl, tNoPart, tPart, tLc_k, tFor_k, iList, iTup, iEnumT, iRng1, iRng2, iRng2L, iStr, L2.start, List.map, List.length_cons, List.length_nil, List.cons_append, List.nil_append, List.getElem?_cons_succ, List.getElem?_cons_zero, Option.some.injEq, V.int.injEq, V.bl.injEq, V.str.injEq, V.ref.injEq, exists_eq_left', exists_eq_left, and_assoc, exists_and_left, exists_eq, exists_eq', true_and, and_true, List.set_cons_zero, List.set_cons_succ, List.set, decide_eq_true_eq, Bool.not_eq_true', if_true, if_false, rIx, cx_K, nox_K, List.replicate_succ, List.replicate_zero, Nat.reduceSub, Bool.true_eq_false, Bool.false_eq_true, Nat.reduceAdd, List.cons.injEq, reduceCtorEq, false_and, false_or, or_false, tAug, rSetO, rJoin, tJs, rNewStrs_k, tMakeLS, rStrO, ClX.tCMeth, tCMethK, tDGet2, tPar3, rInD, rBinI, rBinT, rIxD, tOrT]
  refine ⟨_, .inl (SqL.of o4), d, _, rfl, B4, (by show (0 : Int) < 18; decide), (by show (18 : Int) < 1073741824; decide), fun z0 H5 a0 a1 s5 B5 => ?_⟩
  have o5 := s5 _ _ (B4.ne o4 fun _ z => by cases z) o4
  have l5 := s5 _ _ (B4.ne l4 fun _ z => by cases z) l4
  obtain ⟨v, hv, hat⟩ := atI_any (xs := oddS.map V.str) a0 a1
  obtain ⟨q, rfl, lq, nq⟩ := odd_of hv
  refine ⟨_, _, rfl, SqL.of o5, _, hat, _, .inl (SqL.of l5), ?_⟩
  rw [strsV_len]
  refine ⟨d, _, rfl, B5, by omega, by omega, fun z1 H6 b0 b1 s6 B6 => ⟨d, 4, rfl, B6, by decide, by decide, fun z2 H7 c0 c1 s7 B7 => ?_⟩⟩
  have l6 := s6 _ _ (B5.ne l5 fun _ z => by cases z) l5
  have l7 := s7 _ _ (B6.ne l6 fun _ z => by cases z) l6
  have s07 := (((SameBut.of s04).trans s5).trans s6).trans s7
  obtain ⟨i, rfl⟩ := Int.eq_ofNat_of_zero_le b0
  clear s04 s5 s6 s7 o4 o5 l4 l5 l6 B4 B5 B6 hv hat
  have e1 := tot_split (wds r) i
  have e2 := tot_split (wds r) (i + 1)
  have tq : tot [q] ≤ 63 := by show q.length + 1 + 0 ≤ 63; omega
  have lowq : ∀ z ∈ [q], LowL z := fun z hz => by rw [List.mem_singleton.mp hz]; exact lq
  have lowt : ∀ n, ∀ z ∈ (wds r).take n, LowL z := fun n z hz => low z (List.mem_of_mem_take hz)
  have lowd : ∀ n, ∀ z ∈ (wds r).drop n, LowL z := fun n z hz => low z (List.mem_of_mem_drop hz)
  have app : ∀ a b : List (List Nat), (∀ z ∈ a, LowL z) → (∀ z ∈ b, LowL z) → ∀ z ∈ a ++ b, LowL z := fun a b h1 h2 z hz => (List.mem_append.mp hz).elim (h1 z) (h2 z)
  have fin : ∀ (ls : List (List Nat)) H8, (∀ z ∈ ls, LowL z) → tot ls ≤ r.length + 64 → ls ≠ [] → Same H7 H8 → Q (.str (S (TL.joinL [32] ls))) H8 := fun ls H8 h1 h2 h3 s8 => by
    have := tot_join h3
    exact k _ _ (joinL_low h1) (by omega) (s07.trans (.of s8)) (B7.same s8)
  have fin0 : ∀ (ls : List (List Nat)) H8, (∀ z ∈ ls, LowL z) → tot ls ≤ r.length + 63 → Same H7 H8 → Q (.str (S (TL.joinL [32] ls))) H8 := fun ls H8 h1 h2 s8 => by
    have := join_tot ls
    exact k _ _ (joinL_low h1) (by omega) (s07.trans (.of s8)) (B7.same s8)
  have ct : cutV (strsV (wds r)) none (some (i : Int)) = strsV ((wds r).take i) := cutV_rows_to
  have cf : cutV (strsV (wds r)) (some (i : Int)) none = strsV ((wds r).drop i) := cutV_rows_from
  have cf1 : cutV (strsV (wds r)) (some ((i : Int) + 1)) none = strsV ((wds r).drop (i + 1)) := by rw [show ((i : Int) + 1) = ((i + 1 : Nat) : Int) from by omega]; exact cutV_rows_from
  have t1 : ((wds r).take i).length ≤ (wds r).length := by rw [List.length_take]; omega
  have t2 : ((wds r).drop i).length ≤ (wds r).length := by rw [List.length_drop]; omega
  have t3 : ((wds r).drop (i + 1)).length ≤ (wds r).length := by rw [List.length_drop]; omega
  have tt : tot ((wds r).drop (i + 1)) ≤ tot ((wds r).drop i) := by rw [← List.tail_drop]; exact tot_tail _
  refine ⟨rfl, ?_⟩
  by_cases h0 : z2 = 0
  · rw [if_pos (by rw [h0])]
    refine ⟨_, rfl, _, SqL.of l7, kN.mk fun x H8 f8 => kNew.mk (by show 1 ≤ sizeLine; decide) fun w1 H9 f9 => ⟨x, rfl, w1, rfl, _, f9.get f8.at_, _, f9.at_, ?_, kN.mk fun y Ha fa => ⟨_, rfl, _, SqL.of (fa.get (f9.get (f8.get l7))), kN.mk fun z Hb fb => ⟨y, rfl, z, rfl, _, fb.get fa.at_, _, fb.at_, ?_, kN.mk fun u Hc fc => ?_⟩⟩⟩⟩
    · rw [ct, strsV_len]
      exact sz _ (by show ((wds r).take i).length + 1 ≤ 20000; omega)
    · rw [ct, cf1, List.length_append, strsV_len, strsV_len]
      exact sz _ (by show ((wds r).take i).length + 1 + ((wds r).drop (i + 1)).length ≤ 20000; omega)
    · have uc := fc.at_
      rw [ct, cf1] at uc
      have uc : Hc u = some (.lst (strsV (((wds r).take i ++ [q]) ++ (wds r).drop (i + 1)))) := by rw [uc]; simp [strsV]
      have e3 := tot_app ((wds r).take i ++ [q]) ((wds r).drop (i + 1))
      have e4 := tot_app ((wds r).take i) [q]
      exact join_go uc (by omega) (fin _ _ (app _ _ (app _ _ (lowt _) lowq) (lowd _)) (by omega) (by simp) ((((f8.same.trans f9.same).trans fa.same).trans fb.same).trans fc.same))
  rw [if_neg (fun e => h0 (by cases e; rfl))]
  refine ⟨rfl, ?_⟩
  by_cases h1 : z2 = 1
  · rw [if_pos (by rw [h1])]
    refine ⟨_, rfl, _, SqL.of l7, kN.mk fun x H8 f8 => ⟨_, rfl, _, SqL.of (f8.get l7), kN.mk fun z Hb fb => ⟨x, rfl, z, rfl, _, fb.get f8.at_, _, fb.at_, ?_, kN.mk fun u Hc fc => ?_⟩⟩⟩
    · rw [ct, cf1, strsV_len, strsV_len]
      exact sz _ (by omega)
    · have uc := fc.at_
      rw [ct, cf1] at uc
      have uc : Hc u = some (.lst (strsV ((wds r).take i ++ (wds r).drop (i + 1)))) := by rw [uc]; simp [strsV]
      have e3 := tot_app ((wds r).take i) ((wds r).drop (i + 1))
      exact join_go uc (by omega) (fin0 _ _ (app _ _ (lowt _) (lowd _)) (by omega) ((f8.same.trans fb.same).trans fc.same))
  rw [if_neg (fun e => h1 (by cases e; rfl))]
  refine ⟨rfl, ?_⟩
  by_cases h2 : z2 = 2
  · rw [if_pos (by rw [h2])]
    refine ⟨_, rfl, _, SqL.of l7, kN.mk fun x H8 f8 => kNew.mk (by show 1 ≤ sizeLine; decide) fun w1 H9 f9 => ⟨x, rfl, w1, rfl, _, f9.get f8.at_, _, f9.at_, ?_, kN.mk fun y Ha fa => ⟨_, rfl, _, SqL.of (fa.get (f9.get (f8.get l7))), kN.mk fun z Hb fb => ⟨y, rfl, z, rfl, _, fb.get fa.at_, _, fb.at_, ?_, kN.mk fun u Hc fc => ?_⟩⟩⟩⟩
    · rw [ct, strsV_len]
      exact sz _ (by show ((wds r).take i).length + 1 ≤ 20000; omega)
    · rw [ct, cf, List.length_append, strsV_len, strsV_len]
      exact sz _ (by show ((wds r).take i).length + 1 + ((wds r).drop i).length ≤ 20000; omega)
    · have uc := fc.at_
      rw [ct, cf] at uc
      have uc : Hc u = some (.lst (strsV (((wds r).take i ++ [q]) ++ (wds r).drop i))) := by rw [uc]; simp [strsV]
      have e3 := tot_app ((wds r).take i ++ [q]) ((wds r).drop i)
      have e4 := tot_app ((wds r).take i) [q]
      exact join_go uc (by omega) (fin _ _ (app _ _ (app _ _ (lowt _) lowq) (lowd _)) (by omega) (by simp) ((((f8.same.trans f9.same).trans fa.same).trans fb.same).trans fc.same))
  rw [if_neg (fun e => h2 (by cases e; rfl))]
  refine kNew.mk (by show 1 ≤ sizeLine; decide) fun w1 H8 f8 => ?_
  refine ⟨w1, rfl, _, f8.get l7, _, f8.at_, ?_, kN.mk fun u Hc fc => ?_⟩
  · rw [strsV_len]
    exact sz _ (by show (wds r).length + 1 ≤ 20000; omega)
  · have uc : Hc u = some (.lst (strsV (wds r ++ [q]))) := by rw [fc.at_]; simp [strsV]
    have e3 := tot_app (wds r) [q]
    exact join_go uc (by omega) (fin _ _ (app _ _ low lowq) (by omega) (by simp) (f8.same.trans fc.same))
end
end Pf
end
section
namespace Pf
open PySem PySem.Spec PyProof.Rows L2 Ow StX
open SX (S)
/-! ### a lambda that is tried, the drawn values, what is due -/
/-- what `_law_heard` makes of what it asks -/
def TTh (BC : Addr) (tl : XK → Hp → VK → Prop) (H : Hp) (Q : VK) : Prop :=
  tl (fun cls d H1 => cls = .ref BC ∧ ∃ (dd : Addr) (fs : List (Str × V)) (v u : V), d = some dd ∧ H1 dd = some (.xd fs) ∧ fs.lookup ("line" : Str) = some v ∧ fs.lookup ("word" : Str) = some u ∧ kN (.tup [.str "text", v, u]) Q H1)
    H (fun v H1 => kNew .tup Q [.str "told", v] H1)
theorem heard_gives {X : Cx} {a : Adr} {g : Addr} {cdv : Value} {q : Str} (T : Txt X.K X.mg a) : LamX.GivesTo X ["_law_ask", "error"] "_law_heard" (defScope s__law_heard) g cdv (defBody s__law_heard) "_law_ask" q (TTh a.BadText) := by
  intro f c' s H Q tl act hc h
  refine ⟨_, pss_one (ps_try_as (i := 1) rfl rfl sc__law_heard.nd rfl rfl ⟨rfl, by decide, .inl T.m_HoldError⟩ LamX.takes0 (fun W pn xe tk _ => ret_told fun E hW => act W pn xe E _ _ tk hW) (fun b oe cls d pn hz hf => pss_len 2 (by rfl)
      (pss_one (ps_ret (pe_ifExp (pt_val (pe_callB (call_isEX hz hf) (by rfl) T.n_isinstance (by decide +kernel) (pa_cons (pv 1) (pa_cons (pe_glob (v := .ref a.BadText) (by rfl) T.m_BadText (by rfl)) pa_nil))))
        (pe_tup (pa_cons pe_str (pa_cons (pe_xf T.xf_BadText T.a_BadText_line hz hf (pv 1)) (pa_cons (pe_xf T.xf_BadText T.a_BadText_word hz hf (pv 1)) pa_nil))))
        (pe_tup (pa_cons pe_str (pa_cons pe_non pa_nil)))))))), ?_⟩
  refine ⟨_, fun cls d σ' H' hE => ?_, rfl, hc, h⟩
  obtain ⟨rfl, dd, fs, v, u, rfl, hdd, hv, hu, k⟩ := hE
  refine ⟨true, T.xm_BadText_HoldError, fun _ x hx hlen => ?_, fun z => by cases z⟩
  have hs : (σ'.set 1 (some (V.ref x)))[1]? = some (some (V.ref x)) := by
    rw [List.length_set] at hlen
    rw [List.getElem?_set_self (by rw [hlen]; decide)]
  refine ⟨_, hs, .ref a.BadText, .ref a.BadText, true, a.BadText, dd, fs, rfl, rfl, T.xc_BadText, T.xi_BadText, rfl, hdd, fun u r => by cases r; rfl, kit_self, _, rfl, iteT ?_⟩
  exact ⟨_, hs, rfl, rfl, dd, fs, v, rfl, hdd, hv, _, hs, rfl, rfl, dd, fs, u, rfl, hdd, hu, (by show 3 ≤ sizeLine; decide), k⟩
/-- _law_heard(lambda: body) -/
theorem pe_heard {X : Cx} {a : Adr} {c T : Addr} {k : Nat} {TL : List (Addr × Str)} {params : Arguments} {body : Expr} {scope : Scope} {t : XK → TE} {p lpos pos : Pos} (D : Txt X.K X.mg a) (hg : Gl X "_law_heard") (TB : LamX.TabB X.base X.mg c T) (hcode : X.env.code = .ref c) (hmT : (T, X.env.qual ++ Str.ofString "<lambda>") ∈ TL)
    (hu : ∀ p : Addr × Str, p ∈ TL → p.1 = T → p.2 = X.env.qual ++ Str.ofString "<lambda>") (hr : Room (k + 2) X.A) (L : LamX.LamS X.env.scope scope) (hdef : defaultsOf params X.env = ([], []))
    (hbind : ∀ (q : Str) (cl : List (Str × Addr)) (pm cv ctv : Value), bindArgs (PySem.W.kla_fn (Str.ofString "<lambda>") q params body scope cl pm cv ctv) ⟨[], []⟩ = pure [])
    (hbody : ∀ (A : Around) (outer : List Env) (s : Shared) (H : Hp) (E : XK) (f c' : Addr), Room k (A.deeper (LamX.lamEnv X scope s.heap.objs.size f c')) → PE (LamX.lamCx X A outer s H E scope f c') body (t E)) :
    PE X (.Call (.Name "_law_heard" p) [.Lambda params body scope lpos] [] pos) (LamX.tLam TL (TTh a.BadText) t) := by
  obtain ⟨fd, FD⟩ := id D.d__law_heard
  have hb : Binds X.K fd ["_law_ask"] [] := FD.bindsN (fun _ _ _ _ _ _ us hl => match us, hl with | [_], _ => rfl)
  obtain ⟨oc, od, dV, kV, doc, pm, an, cdv, ct, osl, rfl, lk, hcd, _, _⟩ := FD.ex
  exact LamX.pe_lamcall hg D.m__law_heard D.k__law_heard lk hcd hb sc__law_heard rfl (Or.inl rfl) (heard_gives D) TB hcode hmT hu hr L hdef hbind hbody
end Pf
end
section
namespace Pf
open PySem PySem.Spec PyProof.Rows L2 Ow StX
open SX (S)
/-! ### the law -/
theorem plT_len {q : Pl} (h : LogP q) : (plT q).length ≤ 5000 := by
  unfold plT
  rw [eq_of_beq (join_plain_closes " " (wordsP q))]
  exact Nat.le_trans (StrLaws.join_length_le _ _) (words_len h)
abbrev lamQ : Str := (Str.ofString "law" ++ Str.ofString ".<locals>.") ++ Str.ofString "<lambda>"
theorem tabs_but {TL : List (Addr × Str)} {H H' : Hp} {d : Addr} (t : LamX.Tabs TL H) (B : Bag H d) (s : SameBut d H H') : LamX.Tabs TL H' := fun p hp => by
  obtain ⟨ps, h1, h2, h3⟩ := t p hp
  refine ⟨ps, s _ _ (B.ne h1 fun _ z => by cases z) h1, h2, fun pos cv hc => ?_⟩
  obtain ⟨c, e1, e2⟩ := h3 pos cv hc
  exact ⟨c, e1, s _ _ (B.ne e2 fun _ z => by unfold LamX.CodeO at z; cases z) e2⟩
theorem bag_ext {H H' : Hp} {d : Addr} (B : Bag H d) (e : LamX.ExtN H H') : Bag H' d := by
  obtain ⟨c, ns, o, hd, ⟨i, r, st, eo, eq⟩, hc, hl⟩ := B
  exact ⟨c, ns, o, e _ _ hd (fun _ z => by rw [eo] at z; cases z), ⟨i, r, st, eo, eq⟩, e _ _ hc (fun _ z => by cases z), hl⟩
theorem rPowK_lit (k : Nat) {H : Hp} {Q : VK} (h : k ≤ 100) (q : Q (.int (powC k)) H) : rPowK k (.int 10) (.int (k : Nat)) H Q := ⟨rfl, rfl, h, q⟩

theorem SameBut.pla {d : Addr} {H H' : Hp} {C p : Addr} {q : Pl} (s : SameBut d H H') (B : Bag H d) (h : PlA H C p q) : PlA H' C p q := by
  obtain ⟨dx, e⟩ := h
  exact ⟨dx, s _ _ (B.ne e fun _ z => by cases z) e⟩
theorem ext_pla {H H' : Hp} {C p : Addr} {q : Pl} (e : LamX.ExtN H H') (h : PlA H C p q) : PlA H' C p q := by
  obtain ⟨dx, z⟩ := h
  exact ⟨dx, e _ _ z fun _ y => by cases y⟩
theorem lk_line (u v : V) : ([(Str.ofString "word", u), (Str.ofString "line", v)] : List (Str × V)).lookup (Str.ofString "line") = some v := by
  have h : (Str.ofString "line" == Str.ofString "word") = false := by decide +kernel
  simp [List.lookup, h]
theorem lk_word (u v : V) : ([(Str.ofString "word", u), (Str.ofString "line", v)] : List (Str × V)).lookup (Str.ofString "word") = some u := by simp [List.lookup]
def ttD (k : Int) : PyData := .tuple [.str (Str.ofString "text"), .int 0, .int k]
theorem ttD_ok (k : Int) : SeqAt.shaped (ttD k) = true := by
  have e : SeqAt.shaped (ttD k) = SeqAt.shaped (ttD 0) := rfl
  rw [e]
  decide +kernel
theorem ttD_eq (k : Int) : PyData.eqv (ttD k) (ttD k) = true := by simp [ttD, PyData.eqv, PyData.eqvAll]
theorem ttD_dp {K : PySem.W.Frag} {H : Hp} {t : Addr} {k : Int} (h : H t = some (.tup [.str (Str.ofString "text"), .int 0, .int k])) : Dp K H (.ref t) (ttD k) := .tup (.inl (.inl h)) (.cons (.str _) (.cons (.int _) (.cons (.int _) .nil)))
theorem ttD_all {K : PySem.W.Frag} {H : Hp} {k : Int} : ∀ ts : List Addr, (∀ t ∈ ts, H t = some (.tup [.str (Str.ofString "text"), .int 0, .int k])) → DpAll K H (ts.map V.ref) (List.replicate ts.length (ttD k))
  | [], _ => .nil
  | t :: r, h => .cons (ttD_dp (h t List.mem_cons_self)) (ttD_all r fun x hx => h x (List.mem_cons_of_mem _ hx))
/-- one rest behind two ways: told once -/
theorem with_key {A B D E : Type} {G : A → B → E → Prop} {C : A → B → D → E → Prop} {goal : Prop} (main : (∀ a b q c, C a b q c → G a b c) → goal) (key : ∀ a b q c, C a b q c → G a b c) : goal := main key
theorem with_key2 {A E : Type} {G C : A → E → Prop} {goal : Prop} (main : (∀ a c, C a c → G a c) → goal) (key : ∀ a c, C a c → G a c) : goal := main key
def spLaw (K : PySem.W.Frag) (Tb : Addr) : Sp := fun vs H Q _ => ∃ (sa : Addr) (ns : List Int), vs = [.ref sa] ∧ SqL K H sa (ns.map V.int) ∧ ns.length ≤ 63 ∧ H Tb = some (.tbl #[]) ∧ ∀ H', Q (.bl true) H'
section
variable {P : Program} {w : World} {K : PySem.W.Frag} {mg : Str → Option Value} {base : Heap} {a : Adr}
set_option maxHeartbeats 8000000
theorem ok_law (T : Txt K mg a) (ND : NumsOk K w a.NUMBERS) {c Tb : Addr} (FC : FnC K "law" "law" s_law a.law c) (TB : LamX.TabB base mg c Tb) : FnG P w K mg base CX0 15 a.law (spLaw K Tb) := by
  have G__law_draw : FnR P w K mg base CX0 1 a._law_draw spDrawS := ok_drawS T
  have G__law_bag : FnR P w K mg base CX0 1 a._law_bag (spBag K) := ok_bag T
  have G__law_parts : FnR P w K mg base CX0 2 a._law_parts spLParts := ok_lparts T
  have G__law_place : FnR P w K mg base CX0 4 a._law_place (spLPlace a.Place) := ok_lplace T
  have G__law_written : FnR P w K mg base CX0 1 a._law_written spWritten := ok_written T
  have G__law_bent : FnR P w K mg base CX0 2 a._law_bent spBent := ok_bent T
  have G__law_wrong : FnR P w K mg base CX0 3 a._law_wrong spWrong := ok_wrong T
  have G_str : FnR P w K mg base CX0 2 a.Place_str (spPStr a.Place) := ok_pstr T
  have G_eq : FnR P w K mg base CX0 4 a.Place_eq (spPEq a.Place) := ok_p_eq T
  have G_read : FnR P w K mg base (CX P w) 6 a.Place_read (spRead K a.Place a.BadText) := ok_read T ND
  obtain ⟨_, O_read, KBr⟩ := ok_readF (P := P) (w := w) (base := base) T ND
  refine FC.okG sc_law (fun _ _ _ _ _ _ us hl => match us, hl with | [_], _ => rfl) (fun vs H Q E h => by obtain ⟨sa, ns, rfl, _⟩ := h; rfl) (fun A outer s H vs Q E hr hg h => ?_)
  obtain ⟨sa, ns, rfl, hS, hns, hT, k⟩ := h
  refine ⟨_, (pss_cons (ps_set (i := 1) sc_law.nd rfl (Or.inl rfl) (pe_callR G__law_bag (hr.mono (by decide)) T.m__law_bag T.k__law_bag pass0 (pa_cons (pv 0) pa_nil)))
      (pss_cons (ps_for PassesOwn.never rfl (pi_range1 rfl T.n_range (pa_cons pe_int pa_nil)) (pg_name (i := 2) sc_law.nd rfl (Or.inl rfl))
          (pss_cons (ps_set (i := 3) sc_law.nd rfl (Or.inl rfl) (pe_ix ix_list (pe_lst (pa_cons pe_int (pa_cons pe_int (pa_cons (pe_op (op_powK 39) pe_int pe_int) pa_nil)))) (pe_callR G__law_draw (hr.mono (by decide)) T.m__law_draw T.k__law_draw pass0 (pa_cons (pv 1) (pa_cons pe_int pa_nil))) (fun _ _ => rfl)))
          (pss_cons (ps_set (i := 4) sc_law.nd rfl (Or.inl rfl) (pe_lst (pa_cons (pe_op op_sub (pe_callR G__law_draw (hr.mono (by decide)) T.m__law_draw T.k__law_draw pass0 (pa_cons (pv 1) (pa_cons pe_int pa_nil))) pe_int) (pa_cons (pe_op op_mulW (pe_op op_sub (pe_callR G__law_draw (hr.mono (by decide)) T.m__law_draw T.k__law_draw pass0 (pa_cons (pv 1) (pa_cons pe_int pa_nil))) pe_int) (pv 3)) (pa_cons (pe_callR G__law_draw (hr.mono (by decide)) T.m__law_draw T.k__law_draw pass0 (pa_cons (pv 1) (pa_cons pe_int pa_nil))) pa_nil)))))
          (pss_cons (ps_if (pt_cmpR op_gt (pe_callR G__law_draw (hr.mono (by decide)) T.m__law_draw T.k__law_draw pass0 (pa_cons (pv 1) (pa_cons pe_int pa_nil))) pe_int (nomark _))
              (pss_one (ps_set (i := 4) sc_law.nd rfl (Or.inl rfl) (pe_callTy call_listK (by rfl) T.n_list (by decide +kernel) (pa_cons (pe_callR G__law_parts (hr.mono (by decide)) T.m__law_parts T.k__law_parts pass0 (pa_cons (pv 1) pa_nil)) pa_nil))))
              pss_nil)
          (pss_cons (ps_set (i := 5) sc_law.nd rfl (Or.inl rfl) (pe_callR G__law_place (hr.mono (by decide)) T.m__law_place T.k__law_place pass0 (pa_cons (pv 4) pa_nil)))
          (pss_cons (ps_set (i := 6) sc_law.nd rfl (Or.inl rfl) (pe_callR G__law_written (hr.mono (by decide)) T.m__law_written T.k__law_written pass0 (pa_cons (pv 4) pa_nil)))
          (pss_cons (ps_if (PW.pt (pw_or (pt_cmpR op_ne (pe_callTy (call_strO T.o_Place_str T.f_Place_str G_str (hr.mono (by decide)) pass0) (by rfl) T.n_str (by decide +kernel) (pa_cons (pv 5) pa_nil)) (pv 6) (nomark _)) (pw_or (pt_cmpR (op_ne_own T.o_Place_ne T.o_Place_eq T.f_Place_eq T.s_Place_obj G_eq (hr.mono (by decide)) pass0) (ClX.pe_cmeth (pe_glob (v := .ref a.Place) rfl T.m_Place rfl) T.cr_Place T.cm_read G_read (hr.mono (by decide)) (passUp LamX.takes0)  (pa_cons (pv 6) pa_nil)) (pv 5) (nomark _)) (pw_or1 (pt_cmpR (op_ne_own T.o_Place_ne T.o_Place_eq T.f_Place_eq T.s_Place_obj G_eq (hr.mono (by decide)) pass0) (pe_cmethK (pe_glob (v := .ref a.Place) rfl T.m_Place rfl) T.cr_Place T.cm_read O_read (hr.mono (by decide)) KBr (passUp LamX.takes0) (pk_cons (pv 6) pk_nil)) (pv 5) (nomark _))))))
              (pss_one (ps_ret pe_bl))
              pss_nil)
          (pss_one (ps_for PassesOwn.never rfl (pi_range1 rfl T.n_range (pa_cons pe_int pa_nil)) (pg_name (i := 7) sc_law.nd rfl (Or.inl rfl))
              (pss_cons (ps_set (i := 11) sc_law.nd rfl (Or.inr rfl) (pe_callR G__law_bent (hr.mono (by decide)) T.m__law_bent T.k__law_bent pass0 (pa_cons (pv 1) (pa_cons (pv 6) pa_nil))))
              (pss_cons (ps_if (pt_cmpR op_eq (pe_callR G__law_draw (hr.mono (by decide)) T.m__law_draw T.k__law_draw pass0 (pa_cons (pv 1) (pa_cons pe_int pa_nil))) pe_int (nomark _))
                  (pss_one (ps_set (i := 11) sc_law.nd rfl (Or.inr rfl) (pe_callR G__law_bent (hr.mono (by decide)) T.m__law_bent T.k__law_bent pass0 (pa_cons (pv 1) (pa_cons (pv 11) pa_nil)))))
                  pss_nil)
              (pss_cons (ps_set (i := 8) sc_law.nd rfl (Or.inl rfl) (pe_heard (k := 10) (TL := [(Tb, lamQ)]) T rfl TB rfl (List.mem_singleton.mpr rfl) (fun p hp _ => by rw [List.mem_singleton.mp hp]; rfl) (hr.mono (by decide)) (LamX.lamS_by (sc := (defScope s_law)) (by decide +kernel)) rfl (fun _ _ _ _ _ => rfl) (fun A outer s H E f c' hr' => ClX.pe_cmeth (pe_glob (v := .ref a.Place) rfl T.m_Place rfl) T.cr_Place T.cm_read G_read (hr'.mono (by decide)) (passUp (takes_of rfl rfl rfl rfl))  (pa_cons (pv 11) pa_nil))))
              (pss_cons (ps_set (i := 9) sc_law.nd rfl (Or.inl rfl) (pe_callR G__law_wrong (hr.mono (by decide)) T.m__law_wrong T.k__law_wrong pass0 (pa_cons (pe_split (pv 11) pe_str) pa_nil)))
              (pss_cons (ps_if (PW.pt (pw_and (pt_cmpR op_notN (pv 9) pe_non (nomark _)) (pw_and1 (pt_cmpR (op_neD hr.units) (pv 8) (pe_tup (pa_cons pe_str (pa_cons pe_int (pa_cons (pv 9) pa_nil)))) (nomark _)))))
                  (pss_one (ps_ret pe_bl))
                  pss_nil)
              (pss_one (ps_if (PW.pt (pw_and (pt_cmpR op_isN (pv 9) pe_non (nomark _)) (pw_and1 (PW.pt (pw_or (pt_cmpR op_ne (pe_ix ix_tup (pv 8) pe_int (fun _ _ => rfl)) pe_str (nomark _)) (pw_or1 (pt_cmpR op_ne (pe_callTy (call_strO T.o_Place_str T.f_Place_str G_str (hr.mono (by decide)) pass0) (by rfl) T.n_str (by decide +kernel) (pa_cons (pe_ix ix_tup (pv 8) pe_int (fun _ _ => rfl)) pa_nil)) (pv 11) (nomark _))))))))
                  (pss_one (ps_ret pe_bl))
                  pss_nil))))))))))))))))
      (pss_cons (ps_set (i := 10) sc_law.nd rfl (Or.inl rfl) (pe_lst (pa_cons pe_non (pa_cons pe_int (pa_cons (pe_lst (pa_cons pe_str pa_nil)) (pa_cons pe_str (pa_cons pe_str (pa_cons pe_str pa_nil))))))))
      (pss_one (ps_ret (pe_cmpR (op_eqD hr.units) (pe_lc (own := [("_law_value", 12)]) (g := gName 12) (by rfl) sc_law.nd (pi_list (pv 10)) (blkOk_by (own := [("_law_value", 12)]) (N := ["_law_script", "_law_bag_here", "_law_turn", "_law_far", "_law_parts_here", "_law_made", "_law_signs", "_law_again", "_law_found", "_law_wrong_here", "_law_odd", "_law_bent_here", "_law_value"]) (sc := defScope s_law) (by decide +kernel)) (fun _ _ _ _ _ => (pg_name (i := 12) sc_law.nd rfl (Or.inr rfl))) (fun _ _ _ _ _ => pts_nil) (fun _ _ _ _ _ => (pe_heard (k := 10) (TL := [(Tb, lamQ)]) T rfl TB rfl (List.mem_singleton.mpr rfl) (fun p hp _ => by rw [List.mem_singleton.mp hp]; rfl) (hr.mono (by decide)) (LamX.lamS_by (by rfl)) rfl (fun _ _ _ _ _ => rfl) (fun A outer s H E f c' hr' => ClX.pe_cmeth (pe_glob (v := .ref a.Place) rfl T.m_Place rfl) T.cr_Place T.cm_read G_read (hr'.mono (by decide)) (passUp (takes_of rfl rfl rfl rfl))  (pa_cons (pv 12) pa_nil))))) (pe_op op_rep (pe_lst (pa_cons (pe_tup (pa_cons pe_str (pa_cons pe_int (pa_cons pe_int pa_nil)))) pa_nil)) pe_int) (nomark _))))))), ?_⟩
  simp only [tSeq, tIfS, tTest, tB, tAnd, tOr, tNot, tAndV, tOrV, tNotV, tIf, tOp, tUn, tChain, rEq, rNe, rI0, rI, rU, tCallR, tCons, tNil, tC, tVar, tRet, tRetN, tTup_k, tLst_k, tCB, tNext, tAsg, gName, gTup, gCons, gNil, tDrop, tPar, tFld, ClX.tCVal, tPropR, rBin, rBinT, rNeOwn, rSetL_k, gSub, tMakeK_k, tMethR, rInO, tDNewK_k, tYes, wipe, tMakeR_k, tSMeth, tSMethK, rMulS, decide_true, tNever, sFld, rIsiT, and_false, rListOf, rTupOf, rLenSeq, rIxL, rIxT, rIxS, rCat_k, rRep_k, rSlL_k, rSlS, rNewStrs_k, rAppend_k, tBM, tBM0, tM0, tM1, tSl, tNoPart, tPart, tLc_k, tFor_k, iList, iTup, iEnumT, iRng1, iRng2, iRng2L, iStr, L2.start, List.map, List.length_cons, List.length_nil, List.cons_append, List.nil_append, List.getElem?_cons_succ, List.getElem?_cons_zero, Option.some.injEq, V.int.injEq, V.bl.injEq, V.str.injEq, V.ref.injEq, exists_eq_left', exists_eq_left, and_assoc, exists_and_left, exists_eq, exists_eq', true_and, and_true, List.set_cons_zero, List.set_cons_succ, List.set, decide_eq_true_eq, Bool.not_eq_true', if_true, if_false, rIx, cx_K, nox_K, List.replicate_succ, List.replicate_zero, Nat.reduceSub, Bool.true_eq_false, Bool.false_eq_true, Nat.reduceAdd, List.cons.injEq, reduceCtorEq, false_and, false_or, or_false, tAug, rSetO, rJoin, tJs, rNewStrs_k, tMakeLS, rStrO, ClX.tCMeth, tCMethK, tDGet2, tPar3, rInD, rBinI, rBinT, rIxD, tOrT]
  refine ⟨sa, ns, rfl, hS, hns, fun d H0 sm0 hd0 B0 => ?_⟩
  have T0 : LamX.Tabs [(Tb, lamQ)] H0 := fun p hp => by
    rw [List.mem_singleton.mp hp]
    exact LamX.TabS.nil (sm0 _ _ hT)
  simp only [tSeq, tIfS, tTest, tB, tAnd, tOr, tNot, tAndV, tOrV, tNotV, tIf, tOp, tUn, tChain, rEq, rNe, rI0, rI, rU, tCallR, tCons, tNil, tC, tVar, tRet, tRetN, tTup_k, tLst_k, tCB, tNext, tAsg, gName, gTup, gCons, gNil, tDrop, tPar, tFld, ClX.tCVal, tPropR, rBin, rBinT, rNeOwn, rSetL_k, gSub, tMakeK_k, tMethR, rInO, tDNewK_k, tYes, wipe, tMakeR_k, tSMeth, tSMethK, rMulS, decide_true, tNever, sFld, rIsiT, and_false, rListOf, rTupOf, rLenSeq, rIxL, rIxT, rIxS, rCat_k, rRep_k, rSlL_k, rSlS, rNewStrs_k, rAppend_k, tBM, tBM0, tM0, tM1, tSl, tNoPart, tPart, tLc_k, tFor_k, iList, iTup, iEnumT, iRng1, iRng2, iRng2L, iStr, L2.start, List.map, List.length_cons, List.length_nil, List.cons_append, List.nil_append, List.getElem?_cons_succ, List.getElem?_cons_zero, Option.some.injEq, V.int.injEq, V.bl.injEq, V.str.injEq, V.ref.injEq, exists_eq_left', exists_eq_left, and_assoc, exists_and_left, exists_eq, exists_eq', true_and, and_true, List.set_cons_zero, List.set_cons_succ, List.set, decide_eq_true_eq, Bool.not_eq_true', if_true, if_false, rIx, cx_K, nox_K, List.replicate_succ, List.replicate_zero, Nat.reduceSub, Bool.true_eq_false, Bool.false_eq_true, Nat.reduceAdd, List.cons.injEq, reduceCtorEq, false_and, false_or, or_false, tAug, rSetO, rJoin, tJs, rNewStrs_k, tMakeLS, rStrO, ClX.tCMeth, tCMethK, tDGet2, tPar3, rInD, rBinI, rBinT, rIxD, tOrT]
  refine ⟨by decide, by decide, ?_⟩
  refine kFor.it walk_range (fun i σ H' => Bag H' d ∧ LamX.Tabs [(Tb, lamQ)] H' ∧ ∃ v2 v3 v4 v5 v6 v7 v8 v9 v10 v11 v12, σ = [some (.ref sa), some (.ref d), v2, v3, v4, v5, v6, v7, v8, v9, v10, v11, v12]) ⟨B0, T0, _, _, _, _, _, _, _, _, _, _, _, rfl⟩ (fun _ _ _ _ _ => trivial) (fun i xv σ H2 H3 hi hP hY => ?body) fun σ H2 hP => ?fin
  case body =>
    obtain ⟨B2, T2, v2, v3, v4, v5, v6, v7, v8, v9, v10, v11, v12, rfl⟩ := hP
    obtain ⟨rfl, rfl⟩ := hY
    simp only [tSeq, tIfS, tTest, tB, tAnd, tOr, tNot, tAndV, tOrV, tNotV, tIf, tOp, tUn, tChain, rEq, rNe, rI0, rI, rU, tCallR, tCons, tNil, tC, tVar, tRet, tRetN, tTup_k, tLst_k, tCB, tNext, tAsg, gName, gTup, gCons, gNil, tDrop, tPar, tFld, ClX.tCVal, tPropR, rBin, rBinT, rNeOwn, rSetL_k, gSub, tMakeK_k, tMethR, rInO, tDNewK_k, tYes, wipe, tMakeR_k, tSMeth, tSMethK, rMulS, decide_true, tNever, sFld, rIsiT, and_false, rListOf, rTupOf, rLenSeq, rIxL, rIxT, rIxS, rCat_k, rRep_k, rSlL_k, rSlS, rNewStrs_k, rAppend_k, tBM, tBM0, tM0, tM1, tSl, tNoPart, tPart, tLc_k, tFor_k, iList, iTup, iEnumT, iRng1, iRng2, iRng2L, iStr, L2.start, List.map, List.length_cons, List.length_nil, List.cons_append, List.nil_append, List.getElem?_cons_succ, List.getElem?_cons_zero, Option.some.injEq, V.int.injEq, V.bl.injEq, V.str.injEq, V.ref.injEq, exists_eq_left', exists_eq_left, and_assoc, exists_and_left, exists_eq, exists_eq', true_and, and_true, List.set_cons_zero, List.set_cons_succ, List.set, decide_eq_true_eq, Bool.not_eq_true', if_true, if_false, rIx, cx_K, nox_K, List.replicate_succ, List.replicate_zero, Nat.reduceSub, Bool.true_eq_false, Bool.false_eq_true, Nat.reduceAdd, List.cons.injEq, reduceCtorEq, false_and, false_or, or_false, tAug, rSetO, rJoin, tJs, rNewStrs_k, tMakeLS, rStrO, ClX.tCMeth, tCMethK, tDGet2, tPar3, rInD, rBinI, rBinT, rIxD, tOrT]
    apply with_key (C := fun (_ : Int) (tv : Addr) (q : Pl) (H' : Hp) => SameBut d H3 H' ∧ Bag H' d ∧ LstP H' tv q ∧ Sm40 q)
    case main =>
      intro key
      refine rPowK_lit 39 (by decide) (kNew.mk (by show 3 ≤ sizeLine; decide) fun l3 H4 f4 => ⟨d, 3, rfl, B2.same f4.same, by decide, by decide, fun z0 H5 a0 a1 s5 B5 => ⟨l3, rfl, ?_⟩⟩)
      have l5 := s5 _ _ ((B2.same f4.same).ne f4.at_ fun _ z => by cases z) f4.at_
      obtain ⟨v, hv, hat⟩ := atI_any (xs := [.int 1, .int 1, .int (powC 39)]) a0 a1
      obtain ⟨fr, rfl, hfr⟩ : ∃ f : Int, v = .int f ∧ f.natAbs ≤ 10 ^ 39 := by
        have p1 : (1 : Int).natAbs ≤ 10 ^ 39 := by decide
        have p2 : (powC 39).natAbs ≤ 10 ^ 39 := by
          have e : powC 39 = ((10 ^ 39 : Nat) : Int) := by unfold powC; decide
          rw [e, Int.natAbs_natCast]
          exact Nat.le_refl _
        simp only [List.mem_cons, List.not_mem_nil, or_false] at hv
        rcases hv with rfl | rfl | rfl
        · exact ⟨_, rfl, p1⟩
        · exact ⟨_, rfl, p1⟩
        · exact ⟨_, rfl, p2⟩
      refine ⟨_, _, rfl, SqL.of l5, _, hat, d, 5, rfl, B5, by decide, by decide, fun z1 H6 b0 b1 s6 B6 => ⟨_, rfl, d, 11, rfl, B6, by decide, by decide, fun z2 H7 c0 c1 s7 B7 => ⟨_, rfl, fr, rfl, ?_, d, 3, rfl, B7, by decide, by decide, fun z3 H8 d0 d1 s8 B8 => kNew.mk (by show 3 ≤ sizeLine; decide) fun tv H9 f9 => ⟨d, 3, rfl, B8.same f9.same, by decide, by decide, fun z4 Ha e0 e1 sa Ba => ⟨_, rfl, ?_⟩⟩⟩⟩⟩
      · have l1 : (z2 - 5).natAbs.log2 < 1000 := log60 (Nat.lt_of_le_of_lt (show (z2 - 5).natAbs ≤ 10 by omega) (by decide))
        have l2 : fr.natAbs.log2 < 1000 := log60 (Nat.lt_of_le_of_lt hfr (by decide))
        show (z2 - 5).natAbs.log2 + fr.natAbs.log2 < 1000000
        omega
      · have tv9 := f9.at_
        have tva := sa _ _ ((B8.same f9.same).ne tv9 fun _ z => by cases z) tv9
        have sall : SameBut d H3 Ha := ((((((SameBut.of f4.same).trans s5).trans s6).trans s7).trans s8).trans (.of f9.same)).trans sa
        have sm : Sm40 ⟨z1 - 1, (z2 - 5) * fr, z3⟩ := by
          refine ⟨⟨(by show -10 ≤ z1 - 1; omega), (by show z1 - 1 ≤ 10; omega)⟩, ?_, (by show -10 ≤ z3; omega), (by show z3 ≤ 10; omega)⟩
          show ((z2 - 5) * fr).natAbs ≤ 5 * 10 ^ 39
          rw [Int.natAbs_mul]
          exact Nat.mul_le_mul (by omega) hfr
        by_cases h4 : 0 < z4
        · rw [if_pos h4]
          exact ⟨d, rfl, Ba, fun tq q Hb sb Bb tp sm => ⟨tq, rfl, _, .inr (SqT.of tp), kN.mk fun tl Hc fc => key fr tl q Hc ⟨(sall.trans sb).trans (.of fc.same), Bb.same fc.same, fc.at_, sm⟩⟩⟩
        · rw [if_neg h4]
          exact key fr tv ⟨z1 - 1, (z2 - 5) * fr, z3⟩ Ha ⟨sall, Ba, tva, sm⟩
    case key =>
      intro fv tv q H4 hyp
      obtain ⟨s4, B4, ht, hq⟩ := hyp
      have T4 := tabs_but T2 B2 s4
      have lg := hq.sm.log
      have wb := write_back hq.sm
      have tlen : (txtC q).length ≤ 5000 := by
        have := plT_len lg
        rw [plT_C, SX.S_len] at this
        exact this
      have ht' : H4 tv = some (.lst [.int q.s, .int q.o, .int q.d]) := ht
      clear s4 B2 T2
      refine ⟨tv, q, rfl, ht, fun x H5 s5 nx px => ⟨tv, q, rfl, s5 _ _ ht', lg, fun H6 s6 => ⟨x, rfl, (px.same s6).ins, ⟨x, q, rfl, px.same s6, lg, fun H7 s7 => ⟨_, rfl, rfl, ?_⟩⟩⟩⟩⟩
      rw [if_neg (by simp)]
      rw [plT_C]
      have rd : ∀ (H' : Hp) (Q' : VK) (E' : XK), (∀ y H'', Same H' H'' → PlA H'' a.Place y q → Q' (.ref y) H'') → spRead K a.Place a.BadText [.ref a.Place, .str (S (txtC q))] H' Q' E' := fun H' Q' E' k2 =>
        ⟨_, rfl, .inr ⟨txtC q, rfl, txtC_low q, by omega, .inl ⟨by rw [wds_txt]; exact wb.1, fun y H'' s _ p => k2 y H'' s (by rw [wds_txt, wb.2] at p; exact p)⟩⟩⟩
      have px7 := (px.same s6).same s7
      refine rd _ _ _ fun y H8 s8 py => ⟨y, rfl, x, rfl, py.ins, (px7.same s8).ins, y, x, _, _, _, _, _, _, rfl, py, px7.same s8, fun H9 s9 => ⟨_, rfl, ?_⟩⟩
      rw [if_neg (by simp)]
      have px9 := (px7.same s8).same s9
      refine rd _ _ _ fun y2 Ha sa py2 => ⟨y2, rfl, x, rfl, py2.ins, (px9.same sa).ins, y2, x, _, _, _, _, _, _, rfl, py2, px9.same sa, fun Hb sb => ⟨_, rfl, ?_⟩⟩
      rw [if_neg (by simp)]
      have s4b := ((((((s5.trans s6).trans s7).trans s8).trans s9).trans sa).trans sb)
      have Bb := B4.same s4b
      have Tb4 := T4.ext s4b
      have low := txtC_low q
      clear rd px nx px7 px9 py py2 s4b s5 s6 s7 s8 s9 sa sb B4 T4 ht ht' lg wb
      generalize txtC q = r at *
      refine ⟨by decide, by decide, ?_⟩
      refine kFor.it walk_range (fun j σ H' => Bag H' d ∧ LamX.Tabs [(Tb, lamQ)] H' ∧ ∃ v7 v8 v9 v10 v11 v12, σ = [some (.ref sa), some (.ref d), some (.int (0 + (i : Int))), some (.int fv), some (.ref tv), some (.ref x), some (.str (S r)), v7, v8, v9, v10, v11, v12]) ⟨Bb, Tb4, _, _, _, _, _, _, rfl⟩ (fun _ _ _ _ _ => trivial) (fun j xv σ H5 H6 hj hP hY => ?inn) fun σ H5 hP => ?out
      case out =>
        obtain ⟨B5, T5, v7, v8, v9, v10, v11, v12, rfl⟩ := hP
        exact ⟨B5, T5, _, _, _, _, _, _, _, _, _, _, _, rfl⟩
      case inn =>
        obtain ⟨B5, T5, v7, v8, v9, v10, v11, v12, rfl⟩ := hP
        obtain ⟨rfl, rfl⟩ := hY
        simp only [tSeq, tIfS, tTest, tB, tAnd, tOr, tNot, tAndV, tOrV, tNotV, tIf, tOp, tUn, tChain, rEq, rNe, rI0, rI, rU, tCallR, tCons, tNil, tC, tVar, tRet, tRetN, tTup_k, tLst_k, tCB, tNext, tAsg, gName, gTup, gCons, gNil, tDrop, tPar, tFld, ClX.tCVal, tPropR, rBin, rBinT, rNeOwn, rSetL_k, gSub, tMakeK_k, tMethR, rInO, tDNewK_k, tYes, wipe, tMakeR_k, tSMeth, tSMethK, rMulS, decide_true, tNever, sFld, rIsiT, and_false, rListOf, rTupOf, rLenSeq, rIxL, rIxT, rIxS, rCat_k, rRep_k, rSlL_k, rSlS, rNewStrs_k, rAppend_k, tBM, tBM0, tM0, tM1, tSl, tNoPart, tPart, tLc_k, tFor_k, iList, iTup, iEnumT, iRng1, iRng2, iRng2L, iStr, L2.start, List.map, List.length_cons, List.length_nil, List.cons_append, List.nil_append, List.getElem?_cons_succ, List.getElem?_cons_zero, Option.some.injEq, V.int.injEq, V.bl.injEq, V.str.injEq, V.ref.injEq, exists_eq_left', exists_eq_left, and_assoc, exists_and_left, exists_eq, exists_eq', true_and, and_true, List.set_cons_zero, List.set_cons_succ, List.set, decide_eq_true_eq, Bool.not_eq_true', if_true, if_false, rIx, cx_K, nox_K, List.replicate_succ, List.replicate_zero, Nat.reduceSub, Bool.true_eq_false, Bool.false_eq_true, Nat.reduceAdd, List.cons.injEq, reduceCtorEq, false_and, false_or, or_false, tAug, rSetO, rJoin, tJs, rNewStrs_k, tMakeLS, rStrO, ClX.tCMeth, tCMethK, tDGet2, tPar3, rInD, rBinI, rBinT, rIxD, tOrT]
        refine ⟨d, r, rfl, B5, low, by omega, fun r1 H7 lr1 nr1 s7 B7 => ?_⟩
        have T7 := tabs_but T5 B5 s7
        apply with_key2 (C := fun (r2 : List Nat) (H' : Hp) => LowL r2 ∧ r2.length ≤ 9000 ∧ Bag H' d ∧ LamX.Tabs [(Tb, lamQ)] H')
        case main =>
          intro key
          refine ⟨d, 2, rfl, B7, by decide, by decide, fun z H8 z0 z1 s8 B8 => ⟨rfl, ?_⟩⟩
          have T8 := tabs_but T7 B7 s8
          by_cases hz : z = 0
          · rw [if_pos (by rw [hz])]
            exact ⟨d, r1, rfl, B8, lr1, by omega, fun r2 H9 lr2 nr2 s9 B9 => key r2 H9 ⟨lr2, by omega, B9, tabs_but T8 B8 s9⟩⟩
          · rw [if_neg (fun e => hz (by cases e; rfl))]
            exact key r1 H8 ⟨lr1, by omega, B8, T8⟩
        case key =>
          intro r2 H8 hyp
          obtain ⟨lr2, nr2, B8, T8⟩ := hyp
          have W2 : Wrds (wds r2) := ⟨wds_pos, by have := wds_len (r := r2); omega, fun p hp => ⟨wds_low lr2 p hp, by have := wds_short hp; omega⟩⟩
          have szr : (S r2).length + 2 ≤ sizeLine := by rw [SX.S_len]; exact Nat.le_trans (show r2.length + 2 ≤ 20000 by omega) (by decide)
          have spn : ((Str.ofString " ").length == 0) = false := by decide +kernel
          refine ⟨T8, fun H9 e9 T9 => ?_⟩
          have B9 := bag_ext B8 e9
          unfold TTh
          simp only [tSeq, tIfS, tTest, tB, tAnd, tOr, tNot, tAndV, tOrV, tNotV, tIf, tOp, tUn, tChain, rEq, rNe, rI0, rI, rU, tCallR, tCons, tNil, tC, tVar, tRet, tRetN, tTup_k, tLst_k, tCB, tNext, tAsg, gName, gTup, gCons, gNil, tDrop, tPar, tFld, ClX.tCVal, tPropR, rBin, rBinT, rNeOwn, rSetL_k, gSub, tMakeK_k, tMethR, rInO, tDNewK_k, tYes, wipe, tMakeR_k, tSMeth, tSMethK, rMulS, decide_true, tNever, sFld, rIsiT, and_false, rListOf, rTupOf, rLenSeq, rIxL, rIxT, rIxS, rCat_k, rRep_k, rSlL_k, rSlS, rNewStrs_k, rAppend_k, tBM, tBM0, tM0, tM1, tSl, tNoPart, tPart, tLc_k, tFor_k, iList, iTup, iEnumT, iRng1, iRng2, iRng2L, iStr, L2.start, List.map, List.length_cons, List.length_nil, List.cons_append, List.nil_append, List.getElem?_cons_succ, List.getElem?_cons_zero, Option.some.injEq, V.int.injEq, V.bl.injEq, V.str.injEq, V.ref.injEq, exists_eq_left', exists_eq_left, and_assoc, exists_and_left, exists_eq, exists_eq', true_and, and_true, List.set_cons_zero, List.set_cons_succ, List.set, decide_eq_true_eq, Bool.not_eq_true', if_true, if_false, rIx, cx_K, nox_K, List.replicate_succ, List.replicate_zero, Nat.reduceSub, Bool.true_eq_false, Bool.false_eq_true, Nat.reduceAdd, List.cons.injEq, reduceCtorEq, false_and, false_or, or_false, tAug, rSetO, rJoin, tJs, rNewStrs_k, tMakeLS, rStrO, ClX.tCMeth, tCMethK, tDGet2, tPar3, rInD, rBinI, rBinT, rIxD, tOrT]
          cases hd : dueP (wds r2) with
          | none =>
            refine ⟨_, rfl, .inr ⟨r2, rfl, lr2, by omega, .inl ⟨hd, fun y Ha sa ny py => kNew.mk (by show 2 ≤ sizeLine; decide) fun tf Hb fb => ?_⟩⟩⟩
            have sab := sa.trans fb.same
            refine ⟨spn, szr, ?_⟩
            rw [split_wds]
            refine kN.mk fun lw Hc fc => ?_
            have lc : Hc lw = some (.lst (strsV (wds r2))) := by rw [fc.at_, List.map_map]; rfl
            refine ⟨lw, wds r2, rfl, lc, W2, fun Hd sd => ?_⟩
            rw [hd]
            show (if decide (V.non = V.non) = false then _ else _)
            rw [if_neg (by simp)]
            show (if V.non = V.non then _ else _)
            rw [if_pos rfl]
            have td : Hd tf = some (.tup [.str (Str.ofString "told"), .ref y]) := sd _ _ (fc.get fb.at_)
            have sad := (sab.trans fc.same).trans sd
            have pyd := ((py.same fb.same).same fc.same).same sd
            obtain ⟨ea, lg⟩ := txt_again hd
            refine ⟨tf, rfl, _, SqT.of td, _, rfl, rfl, ?_⟩
            rw [if_neg (by simp)]
            refine ⟨tf, rfl, _, SqT.of td, _, rfl, y, rfl, pyd.ins, y, _, rfl, pyd, lg, fun He se => ⟨_, rfl, rfl, ?_⟩⟩
            rw [if_neg (by rw [decide_eq_true (p := Txt.join " " (wordsP (partsW (wds r2))) = S r2) ea]; decide)]
            exact ⟨B9.same (sad.trans se), T9.ext (sad.trans se)⟩
          | some k0 =>
            refine ⟨_, rfl, .inr ⟨r2, rfl, lr2, by omega, .inr ⟨k0, hd, fun Ha sa dd ndd => ?_⟩⟩⟩
            refine ⟨rfl, dd, rfl, _, upd_same, _, lk_line _ _, _, lk_word _ _, kN.mk fun tf Hb fb => ⟨spn, szr, ?_⟩⟩
            have sab : Same H9 Hb := (sa.trans fun b o e => by rw [upd_ne (ne_of_none e ndd)]; exact e).trans fb.same
            rw [split_wds]
            refine kN.mk fun lw Hc fc => ?_
            have lc : Hc lw = some (.lst (strsV (wds r2))) := by rw [fc.at_, List.map_map]; rfl
            refine ⟨lw, wds r2, rfl, lc, W2, fun Hd sd => ?_⟩
            rw [hd]
            show (if decide (V.int (k0 : Nat) = V.non) = false then _ else _)
            rw [if_pos (decide_eq_false fun z => by cases z)]
            have td : Hd tf = some (.tup [.str (Str.ofString "text"), .int 0, .int (k0 : Nat)]) := sd _ _ (fc.get fb.at_)
            have sad := (sab.trans fc.same).trans sd
            refine kNew.mk (by show 3 ≤ sizeLine; decide) fun tt He fe => ?_
            refine ⟨ttD (k0 : Nat), ttD (k0 : Nat), ttD_dp (fe.get td), ttD_dp fe.at_, ttD_ok _, ttD_ok _, ?_⟩
            rw [ttD_eq]
            refine ⟨_, rfl, ?_⟩
            rw [if_neg (by decide), if_neg (fun z => by cases z)]
            exact ⟨B9.same (sad.trans fe.same), T9.ext (sad.trans fe.same)⟩
  case fin =>
    obtain ⟨B2, T2, v2, v3, v4, v5, v6, v7, v8, v9, v10, v11, v12, rfl⟩ := hP
    simp only [tSeq, tIfS, tTest, tB, tAnd, tOr, tNot, tAndV, tOrV, tNotV, tIf, tOp, tUn, tChain, rEq, rNe, rI0, rI, rU, tCallR, tCons, tNil, tC, tVar, tRet, tRetN, tTup_k, tLst_k, tCB, tNext, tAsg, gName, gTup, gCons, gNil, tDrop, tPar, tFld, ClX.tCVal, tPropR, rBin, rBinT, rNeOwn, rSetL_k, gSub, tMakeK_k, tMethR, rInO, tDNewK_k, tYes, wipe, tMakeR_k, tSMeth, tSMethK, rMulS, decide_true, tNever, sFld, rIsiT, and_false, rListOf, rTupOf, rLenSeq, rIxL, rIxT, rIxS, rCat_k, rRep_k, rSlL_k, rSlS, rNewStrs_k, rAppend_k, tBM, tBM0, tM0, tM1, tSl, tNoPart, tPart, tLc_k, tFor_k, iList, iTup, iEnumT, iRng1, iRng2, iRng2L, iStr, L2.start, List.map, List.length_cons, List.length_nil, List.cons_append, List.nil_append, List.getElem?_cons_succ, List.getElem?_cons_zero, Option.some.injEq, V.int.injEq, V.bl.injEq, V.str.injEq, V.ref.injEq, exists_eq_left', exists_eq_left, and_assoc, exists_and_left, exists_eq, exists_eq', true_and, and_true, List.set_cons_zero, List.set_cons_succ, List.set, decide_eq_true_eq, Bool.not_eq_true', if_true, if_false, rIx, cx_K, nox_K, List.replicate_succ, List.replicate_zero, Nat.reduceSub, Bool.true_eq_false, Bool.false_eq_true, Nat.reduceAdd, List.cons.injEq, reduceCtorEq, false_and, false_or, or_false, tAug, rSetO, rJoin, tJs, rNewStrs_k, tMakeLS, rStrO, ClX.tCMeth, tCMethK, tDGet2, tPar3, rInD, rBinI, rBinT, rIxD, tOrT]
    refine kNew.mk (by show 1 ≤ sizeLine; decide) fun l0 H3 f3 => kNew.mk (by show 6 ≤ sizeLine; decide) fun lo H4 f4 => ⟨lo, rfl, ⟨_, SqL.of f4.at_⟩, ?_⟩
    have T4 := (T2.ext f3.same).ext f4.same
    have e0 := f4.get f3.at_
    have eo := f4.at_
    clear B2 T2 f3 f4
    have bad : ∀ (j : Nat) (v : V), ([.non, .int 0, .ref l0, .str (Str.ofString ""), .str (Str.ofString "place 0 5 0 7"), .str (Str.ofString "place 2 0 1 x")] : List V)[j]? = some v → ∀ H', H' l0 = some (.lst [.str (Str.ofString "left 0")]) → NoStrA K H' v ∨ ∃ r, v = .str (S r) ∧ LowL r ∧ r.length ≤ 10000 ∧ dueP (wds r) = some 0 := fun j v e H' h0 => by
      have tx : ∀ s : Str, (s.cps.toList.all fun c => decide (c < 128)) = true → s.cps.toList.length ≤ 10000 → dueP (wds s.cps.toList) = some 0 → ∃ r, V.str s = .str (S r) ∧ LowL r ∧ r.length ≤ 10000 ∧ dueP (wds r) = some 0 := fun s h1 h2 h3 =>
        ⟨s.cps.toList, by rw [SX.S_tl], fun c hc => of_decide_eq_true (List.all_eq_true.mp h1 c hc), h2, h3⟩
      match j, e with
      | 0, e => cases e; exact .inl ⟨_, .base .non, kit_ty (by decide +kernel)⟩
      | 1, e => cases e; exact .inl ⟨_, .base (.int _), kit_ty (by decide +kernel)⟩
      | 2, e => cases e; exact .inl ⟨_, .base (.lst h0), kit_ty (by decide +kernel)⟩
      | 3, e => cases e; exact .inr (tx _ (by decide +kernel) (by decide +kernel) (by decide +kernel))
      | 4, e => cases e; exact .inr (tx _ (by decide +kernel) (by decide +kernel) (by decide +kernel))
      | 5, e => cases e; exact .inr (tx _ (by decide +kernel) (by decide +kernel) (by decide +kernel))
      | k + 6, e => simp at e
    generalize hvs : ([.non, .int 0, .ref l0, .str (Str.ofString ""), .str (Str.ofString "place 0 5 0 7"), .str (Str.ofString "place 2 0 1 x")] : List V) = vals at *
    have hn : vals.length = 6 := by rw [← hvs]; rfl
    intro D hD
    have nlD : lo ≠ D := ne_of_none eo hD
    have n0D : l0 ≠ D := ne_of_none e0 hD
    refine lc_it (walk_list (xs := vals)) (fun i H' => LamX.Tabs [(Tb, lamQ)] H' ∧ H' lo = some (.lst vals) ∧ H' l0 = some (.lst [.str (Str.ofString "left 0")]) ∧ ∃ ts : List Addr, H' D = some (.lst (ts.map V.ref)) ∧ ts.length = i ∧ ∀ t ∈ ts, H' t = some (.tup [.str (Str.ofString "text"), .int 0, .int 0])) ⟨T4.ext (fun b o e => by rw [upd_ne (ne_of_none e hD)]; exact e), by rw [upd_ne nlD]; exact eo, by rw [upd_ne n0D]; exact e0, [], upd_same, rfl, fun t h => by cases h⟩ (fun i H' _ h => SqL.of h.2.1) (fun i xv H5 H6 hi hP hY => ?_) fun H5 hP => ?_
    · obtain ⟨rfl, hv⟩ := hY
      obtain ⟨T5, o5, l5, ts, hts, lts, ats⟩ := hP
      simp only [tSeq, tIfS, tTest, tB, tAnd, tOr, tNot, tAndV, tOrV, tNotV, tIf, tOp, tUn, tChain, rEq, rNe, rI0, rI, rU, tCallR, tCons, tNil, tC, tVar, tRet, tRetN, tTup_k, tLst_k, tCB, tNext, tAsg, gName, gTup, gCons, gNil, tDrop, tPar, tFld, ClX.tCVal, tPropR, rBin, rBinT, rNeOwn, rSetL_k, gSub, tMakeK_k, tMethR, rInO, tDNewK_k, tYes, wipe, tMakeR_k, tSMeth, tSMethK, rMulS, decide_true, tNever, sFld, rIsiT, and_false, rListOf, rTupOf, rLenSeq, rIxL, rIxT, rIxS, rCat_k, rRep_k, rSlL_k, rSlS, rNewStrs_k, rAppend_k, tBM, tBM0, tM0, tM1, tSl, tNoPart, tPart, tLc_k, tFor_k, iList, iTup, iEnumT, iRng1, iRng2, iRng2L, iStr, L2.start, List.map, List.length_cons, List.length_nil, List.cons_append, List.nil_append, List.getElem?_cons_succ, List.getElem?_cons_zero, Option.some.injEq, V.int.injEq, V.bl.injEq, V.str.injEq, V.ref.injEq, exists_eq_left', exists_eq_left, and_assoc, exists_and_left, exists_eq, exists_eq', true_and, and_true, List.set_cons_zero, List.set_cons_succ, List.set, decide_eq_true_eq, Bool.not_eq_true', if_true, if_false, rIx, cx_K, nox_K, List.replicate_succ, List.replicate_zero, Nat.reduceSub, Bool.true_eq_false, Bool.false_eq_true, Nat.reduceAdd, List.cons.injEq, reduceCtorEq, false_and, false_or, or_false, tAug, rSetO, rJoin, tJs, rNewStrs_k, tMakeLS, rStrO, ClX.tCMeth, tCMethK, tDGet2, tPar3, rInD, rBinI, rBinT, rIxD, tOrT]
      have hi : i < vals.length := hi
      refine ⟨T5, fun H7 e7 T7 => ?_⟩
      unfold TTh
      simp only [tSeq, tIfS, tTest, tB, tAnd, tOr, tNot, tAndV, tOrV, tNotV, tIf, tOp, tUn, tChain, rEq, rNe, rI0, rI, rU, tCallR, tCons, tNil, tC, tVar, tRet, tRetN, tTup_k, tLst_k, tCB, tNext, tAsg, gName, gTup, gCons, gNil, tDrop, tPar, tFld, ClX.tCVal, tPropR, rBin, rBinT, rNeOwn, rSetL_k, gSub, tMakeK_k, tMethR, rInO, tDNewK_k, tYes, wipe, tMakeR_k, tSMeth, tSMethK, rMulS, decide_true, tNever, sFld, rIsiT, and_false, rListOf, rTupOf, rLenSeq, rIxL, rIxT, rIxS, rCat_k, rRep_k, rSlL_k, rSlS, rNewStrs_k, rAppend_k, tBM, tBM0, tM0, tM1, tSl, tNoPart, tPart, tLc_k, tFor_k, iList, iTup, iEnumT, iRng1, iRng2, iRng2L, iStr, L2.start, List.map, List.length_cons, List.length_nil, List.cons_append, List.nil_append, List.getElem?_cons_succ, List.getElem?_cons_zero, Option.some.injEq, V.int.injEq, V.bl.injEq, V.str.injEq, V.ref.injEq, exists_eq_left', exists_eq_left, and_assoc, exists_and_left, exists_eq, exists_eq', true_and, and_true, List.set_cons_zero, List.set_cons_succ, List.set, decide_eq_true_eq, Bool.not_eq_true', if_true, if_false, rIx, cx_K, nox_K, List.replicate_succ, List.replicate_zero, Nat.reduceSub, Bool.true_eq_false, Bool.false_eq_true, Nat.reduceAdd, List.cons.injEq, reduceCtorEq, false_and, false_or, or_false, tAug, rSetO, rJoin, tJs, rNewStrs_k, tMakeLS, rStrO, ClX.tCMeth, tCMethK, tDGet2, tPar3, rInD, rBinI, rBinT, rIxD, tOrT]
      have nt : ∀ {b : Addr} {o : HO}, H6 b = some o → (∀ ps, o ≠ .tbl ps) → H7 b = some o := fun h n => e7 _ _ h n
      have D7 := nt hts fun _ z => by cases z
      have o7 := nt o5 fun _ z => by cases z
      have l7 := nt l5 fun _ z => by cases z
      have a7 : ∀ t ∈ ts, H7 t = some (.tup [.str (Str.ofString "text"), .int 0, .int 0]) := fun t h => nt (ats t h) fun _ z => by cases z
      have fin : ∀ (H8 : Hp), Same H7 H8 → ∀ tf H9, Fresh H8 H9 tf (.tup [.str (Str.ofString "text"), .int 0, .int 0]) → ∃ acc, H9 D = some (HO.lst acc) ∧ acc.length < sizeLine ∧ LamX.Tabs [(Tb, lamQ)] (upd H9 D (HO.lst (acc ++ [.ref tf]))) ∧ upd H9 D (HO.lst (acc ++ [.ref tf])) lo = some (HO.lst vals) ∧ upd H9 D (HO.lst (acc ++ [.ref tf])) l0 = some (HO.lst [V.str (Str.ofString "left 0")]) ∧ ∃ ts, upd H9 D (HO.lst (acc ++ [.ref tf])) D = some (HO.lst (List.map V.ref ts)) ∧ ts.length = i + 1 ∧ ∀ (t : Addr), t ∈ ts → upd H9 D (HO.lst (acc ++ [.ref tf])) t = some (HO.tup [V.str (Str.ofString "text"), V.int 0, V.int 0]) := fun H8 s8 tf H9 f9 => by
        have s9 := s8.trans f9.same
        have D9 := s9 _ _ D7
        have put : ∀ {b : Addr} {o : HO} {u : HO}, H9 b = some o → (∀ xs, o ≠ .lst xs) → upd H9 D u b = some o := fun {b o u} h n => by
          rw [upd_ne fun z => ?_]
          · exact h
          · rw [z, D9] at h
            exact n _ (Option.some.inj h).symm
        refine ⟨_, D9, ?_, ?_, by rw [upd_ne nlD]; exact s9 _ _ o7, by rw [upd_ne n0D]; exact s9 _ _ l7, ts ++ [tf], by rw [upd_same, List.map_append]; rfl, by rw [List.length_append, lts]; rfl, fun t ht => ?_⟩
        · rw [List.length_map, lts]
          exact Nat.lt_of_lt_of_le (show i < 6 by omega) (by decide)
        · have T9 := T7.ext s9
          intro p hp
          obtain ⟨ps, h1, h2, h3⟩ := T9 p hp
          refine ⟨ps, put h1 (fun _ z => by cases z), h2, fun pos cv hc => ?_⟩
          obtain ⟨c9, q1, q2⟩ := h3 pos cv hc
          exact ⟨c9, q1, put q2 fun _ z => by unfold LamX.CodeO at z; cases z⟩
        · rcases List.mem_append.mp ht with ht | ht
          · exact put (s9 _ _ (a7 t ht)) fun _ z => by cases z
          · rw [List.mem_singleton.mp ht]
            exact put f9.at_ fun _ z => by cases z
      rcases bad i xv hv H7 l7 with hb | ⟨r, rfl, lr, nr, dr⟩
      · refine ⟨xv, rfl, .inl ⟨hb, fun dd ndd => ?_⟩⟩
        exact ⟨rfl, dd, rfl, _, upd_same, _, lk_line _ _, _, lk_word _ _, kN.mk fun tf H9 f9 => fin _ (fun b o e => by rw [upd_ne (ne_of_none e ndd)]; exact e) tf H9 f9⟩
      · refine ⟨_, rfl, .inr ⟨r, rfl, lr, nr, .inr ⟨0, dr, fun Ha sa dd ndd => ?_⟩⟩⟩
        exact ⟨rfl, dd, rfl, _, upd_same, _, lk_line _ _, _, lk_word _ _, kN.mk fun tf H9 f9 => fin _ (sa.trans fun b o e => by rw [upd_ne (ne_of_none e ndd)]; exact e) tf H9 f9⟩
    · obtain ⟨T5, o5, l5, ts, hts, lts, ats⟩ := hP
      rw [hn] at lts
      refine kNew.mk (by show 3 ≤ sizeLine; decide) fun t1 H6 f6 => kNew.mk (by show 1 ≤ sizeLine; decide) fun l1 H7 f7 => ⟨l1, rfl, _, f7.at_, by decide, by decide, by show 1 * 6 ≤ sizeLine; decide, kN.mk fun l6 H8 f8 => ?_⟩
      have g1 := f8.get (f7.get f6.at_)
      have gD := f8.get (f7.get (f6.get hts))
      have gt : ∀ t ∈ ts, H8 t = some (.tup [.str (Str.ofString "text"), .int 0, .int 0]) := fun t h => f8.get (f7.get (f6.get (ats t h)))
      have d1 : Dp K H8 (.ref D) (.list (List.replicate 6 (ttD 0))) := .lst (SqL.of gD) (by have z := ttD_all (K := K) ts gt; rw [lts] at z; exact z)
      have d2 : Dp K H8 (.ref l6) (.list (List.replicate 6 (ttD 0))) := .lst (SqL.of f8.at_) (ttD_all (K := K) [t1, t1, t1, t1, t1, t1] fun t h => by
        simp only [List.mem_cons, List.not_mem_nil, or_false, or_self] at h
        rw [h]
        exact g1)
      refine ⟨_, _, d1, d2, by decide +kernel, by decide +kernel, ?_⟩
      have e : PyData.eqv (.list (List.replicate 6 (ttD 0))) (.list (List.replicate 6 (ttD 0))) = true := by decide +kernel
      rw [e]
      exact k _
end
end Pf
end
section
namespace Pf
open PySem PySem.Spec PyProof.Rows L2 Ow StX
theorem nums_mk {K : PySem.W.Frag} {w : World} {A : Addr} {h1 h2 h3 h4 : Int} {k1 k2 k3 k4 u1 u2 u3 u4 : Value} {n : Nat}
    (l : K.lookup A = some ⟨.type "dict", none, .dict #[⟨h1, k1, u1⟩, ⟨h2, k2, u2⟩, ⟨h3, k3, u3⟩, ⟨h4, k4, u4⟩] n, #[]⟩)
    (q1 : ∃ t, k1 = .str (Str.ofString "left") t ∧ h1 = PyData.keyHash w.params (Str.ofString "left")) (q2 : ∃ t, k2 = .str (Str.ofString "right") t ∧ h2 = PyData.keyHash w.params (Str.ofString "right"))
    (q3 : ∃ t, k3 = .str (Str.ofString "middle") t ∧ h3 = PyData.keyHash w.params (Str.ofString "middle")) (q4 : ∃ t, k4 = .str (Str.ofString "place") t ∧ h4 = PyData.keyHash w.params (Str.ofString "place"))
    (z : (A == sysModules) = false) (v1 : RelV (.int 1) u1) (v2 : RelV (.int 1) u2) (v3 : RelV (.int 1) u3) (v4 : RelV (.int 3) u4) : NumsOk K w A := by
  obtain ⟨t1, rfl, c1⟩ := q1
  obtain ⟨t2, rfl, c2⟩ := q2
  obtain ⟨t3, rfl, c3⟩ := q3
  obtain ⟨t4, rfl, c4⟩ := q4
  refine ⟨_, n, ⟨l, ⟨⟨_, _, rfl, c1⟩, ⟨_, _, rfl, c2⟩, ⟨_, _, rfl, c3⟩, ⟨_, _, rfl, c4⟩, True.intro⟩, z⟩, fun x => ?_⟩
  have is : ∀ (s : Str) (t : Tok), (Value.str s t).isStr x = decide (x = s) := fun s t => by
    show (s == x) = decide (x = s)
    rw [Bool.eq_iff_iff, beq_iff_eq, decide_eq_true_eq]
    exact eq_comm
  have look : PySem.W.nsIn K A x = some (if x = Str.ofString "left" then some u1 else if x = Str.ofString "right" then some u2 else if x = Str.ofString "middle" then some u3 else if x = Str.ofString "place" then some u4 else none) := by
    unfold PySem.W.nsIn
    rw [l]
    show (match List.find? (fun e : DictEntry => e.key.isStr x) [⟨h1, .str (Str.ofString "left") t1, u1⟩, ⟨h2, .str (Str.ofString "right") t2, u2⟩, ⟨h3, .str (Str.ofString "middle") t3, u3⟩, ⟨h4, .str (Str.ofString "place") t4, u4⟩] with
      | some e => some (some e.val)
      | none => some none) = _
    simp only [List.find?, is]
    by_cases e1 : x = Str.ofString "left"
    · rw [decide_eq_true e1, if_pos e1]
    rw [decide_eq_false e1, if_neg e1]
    by_cases e2 : x = Str.ofString "right"
    · rw [decide_eq_true e2, if_pos e2]
    rw [decide_eq_false e2, if_neg e2]
    by_cases e3 : x = Str.ofString "middle"
    · rw [decide_eq_true e3, if_pos e3]
    rw [decide_eq_false e3, if_neg e3]
    by_cases e4 : x = Str.ofString "place"
    · rw [decide_eq_true e4, if_pos e4]
    rw [decide_eq_false e4, if_neg e4]
  refine ⟨_, look, ?_, ?_⟩
  · unfold manyS
    by_cases e1 : x = Str.ofString "left"
    · rw [if_pos e1, if_pos e1]; rfl
    rw [if_neg e1, if_neg e1]
    by_cases e2 : x = Str.ofString "right"
    · rw [if_pos e2, if_pos e2]; rfl
    rw [if_neg e2, if_neg e2]
    by_cases e3 : x = Str.ofString "middle"
    · rw [if_pos e3, if_pos e3]; rfl
    rw [if_neg e3, if_neg e3]
    by_cases e4 : x = Str.ofString "place"
    · rw [if_pos e4, if_pos e4]; rfl
    rw [if_neg e4, if_neg e4]; rfl
  · unfold manyS
    intro u hu
    by_cases e1 : x = Str.ofString "left"
    · rw [if_pos e1] at hu ⊢; cases hu; exact v1
    rw [if_neg e1] at hu ⊢
    by_cases e2 : x = Str.ofString "right"
    · rw [if_pos e2] at hu ⊢; cases hu; exact v2
    rw [if_neg e2] at hu ⊢
    by_cases e3 : x = Str.ofString "middle"
    · rw [if_pos e3] at hu ⊢; cases hu; exact v3
    rw [if_neg e3] at hu ⊢
    by_cases e4 : x = Str.ofString "place"
    · rw [if_pos e4] at hu ⊢; cases hu; exact v4
    rw [if_neg e4] at hu
    cases hu

theorem fnt_mk {K : PySem.W.Frag} {x qual : Str} {st : Stmt} {f : Addr} {oc : Value} {od an : Option Addr} {osl : Array (Option Value)} {kV doc pm cdv ct : Value}
    (l : K.lookup f = some ⟨oc, od, .func (PySem.W.fnOf x qual (defArgs st) (defBody st) (defScope st) .none kV doc pm an cdv ct), osl⟩) (c : PySem.W.codeIn K cdv qual = true) (k : PySem.W.keepIn K (.ref f) = true) : FnT K x qual st [] f :=
  ⟨_, ⟨⟨oc, od, .none, kV, doc, pm, an, cdv, ct, osl, rfl, l, c, .inl ⟨rfl, rfl⟩, .inl rfl⟩, k⟩⟩
theorem fntD_mk {K : PySem.W.Frag} {x qual : Str} {st : Stmt} {f D : Addr} {oc : Value} {od an : Option Addr} {osl : Array (Option Value)} {kV doc pm cdv ct tc : Value} {td : Option Addr} {tn : Nat} {ts : Array (Option Value)} {its : List Value} {dvs : List V}
    (l : K.lookup f = some ⟨oc, od, .func (PySem.W.fnOf x qual (defArgs st) (defBody st) (defScope st) (.ref D) kV doc pm an cdv ct), osl⟩) (c : PySem.W.codeIn K cdv qual = true) (k : PySem.W.keepIn K (.ref f) = true)
    (t : K.lookup D = some ⟨tc, td, .seq its.toArray tn, ts⟩) (hd : dvs ≠ []) (v : Vals dvs its) : FnT K x qual st dvs f :=
  ⟨_, ⟨⟨oc, od, .ref D, kV, doc, pm, an, cdv, ct, osl, rfl, l, c, .inr ⟨hd, D, _, its, tn, rfl, t, rfl, v⟩, .inl rfl⟩, k⟩⟩
theorem fntD1_mk {K : PySem.W.Frag} {x qual : Str} {st : Stmt} {f D : Addr} {oc : Value} {od an : Option Addr} {osl : Array (Option Value)} {kV doc pm cdv ct tc u : Value} {td : Option Addr} {tn : Nat} {ts : Array (Option Value)} {dv : V}
    (l : K.lookup f = some ⟨oc, od, .func (PySem.W.fnOf x qual (defArgs st) (defBody st) (defScope st) (.ref D) kV doc pm an cdv ct), osl⟩) (c : PySem.W.codeIn K cdv qual = true) (k : PySem.W.keepIn K (.ref f) = true)
    (t : K.lookup D = some ⟨tc, td, .seq #[u] tn, ts⟩) (v : RelV dv u) : FnT K x qual st [dv] f := fntD_mk (its := [u]) l c k t (by simp) (.cons v .nil)
theorem propR_mk {K : PySem.W.Frag} {C p g : Addr} {f : Str} {rest : List Value} (h1 : PySem.W.findIn K (.ref C) f = some (some (.ref p))) (h2 : PySem.W.specialIn K (.ref p) "__get__" = some (some (.builtin "property.__get__")))
    (h3 : PySem.W.takesIn K (.ref p) = some true) (h4 : PySem.W.recIn K p "property" = some (.ref g :: rest)) : PropR K C f p g := ⟨h1, h2, h3, rest, h4⟩
theorem mro2_mk {K : PySem.W.Frag} {C : Addr} {cd : PySem.ClassData} (h : PySem.W.clsIn K C = some cd) (m : (cd.mro == [.ref C, .type "object"]) = true) : mro2 K C = true := by
  unfold mro2
  rw [h]
  exact m

theorem errF_mk {K : PySem.W.Frag} {C g : Addr} {nm q N bs bm sn sub ab col dd k0 k1 k2 k3 k5} (l : K.lookup C = some (excClassObj nm q C N bs bm true sn sub ab col dd k0 k1 k2 k3 k5 "ValueError.__new__")) (r : PySem.HandSPX.refsVE bm = true)
    (s : PySem.W.findIn K (.ref C) "__setattr__" = some (some (.builtin "object.__setattr__"))) (x : PySem.W.subIn K (.ref C) (.type "BaseException") = some true) (t : PySem.W.typeIn K (.ref C) = some (.type "type")) (k : PySem.W.keepIn K (.ref C) = true)
    (i : PySem.W.findIn K (.ref C) "__init__" = some (some (.ref g))) (f : PySem.W.typeIn K (.ref g) = some (.type "function")) : ErrF K C g := ⟨⟨⟨_, _, _, _, _, _, _, _, _, _, _, _, _, _, _, l, r⟩, s, x, t, k⟩, i, f⟩
theorem all_mk {l : PySem.W.OpenLaw} {w : World} {K : PySem.W.Frag} {h : Heap} {mg : Str → Option Value} {fa : Addr} (X : K.In h) (G : h.Ns mainGlobals mg) (hfa : mg "law" = some (.ref fa))
    {x__law_bag x__law_draw x_BadText_init x_is_int x_Place_init x_Place_slope x_Place_offset x_Place_odd x_Place_eq x_parts_of x_place_words x_Place_str x_is_number x_named_parts x_take_parts x_Place_read x__law_parts x__law_place x__law_heard x__law_written x__law_is_number x__law_wrong x__law_bent x_law x_Place x_pr_Place_slope x_pr_Place_offset x_pr_Place_odd x_BadText x_HoldError x_cm_read x_FIGURESt x_NUMBERS c Tb : Addr}
    (n_len : PySem.W.nsIn K mainGlobals "len" = some none)
    (n_int : PySem.W.nsIn K mainGlobals "int" = some none)
    (n_abs : PySem.W.nsIn K mainGlobals "abs" = some none)
    (n_list : PySem.W.nsIn K mainGlobals "list" = some none)
    (n_range : PySem.W.nsIn K mainGlobals "range" = some none)
    (n_str : PySem.W.nsIn K mainGlobals "str" = some none)
    (n_isinstance : PySem.W.nsIn K mainGlobals "isinstance" = some none)
    (n_bool : PySem.W.nsIn K mainGlobals "bool" = some none)
    (m__law_bag : PySem.W.nsIn K mainGlobals "_law_bag" = some (some (.ref x__law_bag)))
    (m__law_draw : PySem.W.nsIn K mainGlobals "_law_draw" = some (some (.ref x__law_draw)))
    (m_is_int : PySem.W.nsIn K mainGlobals "is_int" = some (some (.ref x_is_int)))
    (m_parts_of : PySem.W.nsIn K mainGlobals "parts_of" = some (some (.ref x_parts_of)))
    (m_place_words : PySem.W.nsIn K mainGlobals "place_words" = some (some (.ref x_place_words)))
    (m_is_number : PySem.W.nsIn K mainGlobals "is_number" = some (some (.ref x_is_number)))
    (m_named_parts : PySem.W.nsIn K mainGlobals "named_parts" = some (some (.ref x_named_parts)))
    (m_take_parts : PySem.W.nsIn K mainGlobals "take_parts" = some (some (.ref x_take_parts)))
    (m__law_parts : PySem.W.nsIn K mainGlobals "_law_parts" = some (some (.ref x__law_parts)))
    (m__law_place : PySem.W.nsIn K mainGlobals "_law_place" = some (some (.ref x__law_place)))
    (m__law_heard : PySem.W.nsIn K mainGlobals "_law_heard" = some (some (.ref x__law_heard)))
    (m__law_written : PySem.W.nsIn K mainGlobals "_law_written" = some (some (.ref x__law_written)))
    (m__law_is_number : PySem.W.nsIn K mainGlobals "_law_is_number" = some (some (.ref x__law_is_number)))
    (m__law_wrong : PySem.W.nsIn K mainGlobals "_law_wrong" = some (some (.ref x__law_wrong)))
    (m__law_bent : PySem.W.nsIn K mainGlobals "_law_bent" = some (some (.ref x__law_bent)))
    (m_law : PySem.W.nsIn K mainGlobals "law" = some (some (.ref x_law)))
    (m_Place : PySem.W.nsIn K mainGlobals "Place" = some (some (.ref x_Place)))
    (c_Place : ClsF K x_Place)
    (M_Place : Mk K x_Place x_Place_init)
    (a_Place__slope : PySem.W.findIn K (.ref x_Place) "_slope" = some none)
    (a_Place__offset : PySem.W.findIn K (.ref x_Place) "_offset" = some none)
    (a_Place__odd : PySem.W.findIn K (.ref x_Place) "_odd" = some none)
    (p_Place_slope : PropR K x_Place "slope" x_pr_Place_slope x_Place_slope)
    (p_Place_offset : PropR K x_Place "offset" x_pr_Place_offset x_Place_offset)
    (p_Place_odd : PropR K x_Place "odd" x_pr_Place_odd x_Place_odd)
    (o_Place_eq : PySem.W.findIn K (.ref x_Place) "__eq__" = some (some (.ref x_Place_eq)))
    (f_Place_eq : PySem.W.isFn K (.ref x_Place_eq) = true)
    (o_Place_str : PySem.W.findIn K (.ref x_Place) "__str__" = some (some (.ref x_Place_str)))
    (f_Place_str : PySem.W.isFn K (.ref x_Place_str) = true)
    (cr_Place : ClX.CRead K x_Place (.type "type"))
    (s_Place_first : PySem.W.selfFirst K x_Place = true)
    (o_Place_ne : PySem.W.findIn K (.ref x_Place) "__ne__" = some (some (.builtin "object.__ne__")))
    (s_Place_obj : PySem.W.subIn K (.ref x_Place) (.type "object") = some true)
    (cm_read : ClX.CMet K x_Place (.type "type") "read" x_cm_read x_Place_read)
    (m_BadText : PySem.W.nsIn K mainGlobals "BadText" = some (some (.ref x_BadText)))
    (e_BadText : ErrF K x_BadText x_BadText_init)
    (a_BadText_line : PySem.W.findIn K (.ref x_BadText) "line" = some none)
    (a_BadText_word : PySem.W.findIn K (.ref x_BadText) "word" = some none)
    (m_HoldError : PySem.W.nsIn K mainGlobals "HoldError" = some (some (.ref x_HoldError)))
    (xf_BadText : XfC K x_BadText)
    (xc_BadText : ExcC K x_BadText)
    (xi_BadText : PySem.W.isClsIn K x_BadText = true)
    (xt_BadText : PySem.W.typeIn K (.ref x_BadText) = some (.type "type"))
    (xm_BadText_HoldError : PySem.W.exmOne K (.ref x_BadText) (.ref x_HoldError) = some true)
    (xm_BadText_BadText : PySem.W.exmOne K (.ref x_BadText) (.ref x_BadText) = some true)
    (m_FIGURES : PySem.W.nsIn K mainGlobals "FIGURES" = some (some (.int 60 x_FIGURESt)))
    (m_NUMBERS : PySem.W.nsIn K mainGlobals "NUMBERS" = some (some (.ref x_NUMBERS)))
    (d__law_bag : FnT K "_law_bag" "_law_bag" s__law_bag [] x__law_bag)
    (k__law_bag : PySem.W.keepIn K (.ref x__law_bag) = true)
    (d__law_draw : FnT K "_law_draw" "_law_draw" s__law_draw [] x__law_draw)
    (k__law_draw : PySem.W.keepIn K (.ref x__law_draw) = true)
    (d_BadText_init : FnT K "__init__" "BadText.__init__" s_BadText_init [] x_BadText_init)
    (d_is_int : FnT K "is_int" "is_int" s_is_int [] x_is_int)
    (k_is_int : PySem.W.keepIn K (.ref x_is_int) = true)
    (d_Place_init : FnT K "__init__" "Place.__init__" s_Place_init [.int 0] x_Place_init)
    (d_Place_slope : FnT K "slope" "Place.slope" s_Place_slope [] x_Place_slope)
    (d_Place_offset : FnT K "offset" "Place.offset" s_Place_offset [] x_Place_offset)
    (d_Place_odd : FnT K "odd" "Place.odd" s_Place_odd [] x_Place_odd)
    (d_Place_eq : FnT K "__eq__" "Place.__eq__" s_Place_eq [] x_Place_eq)
    (d_parts_of : FnT K "parts_of" "parts_of" s_parts_of [] x_parts_of)
    (k_parts_of : PySem.W.keepIn K (.ref x_parts_of) = true)
    (d_place_words : FnT K "place_words" "place_words" s_place_words [] x_place_words)
    (k_place_words : PySem.W.keepIn K (.ref x_place_words) = true)
    (d_Place_str : FnT K "__str__" "Place.__str__" s_Place_str [] x_Place_str)
    (d_is_number : FnT K "is_number" "is_number" s_is_number [] x_is_number)
    (k_is_number : PySem.W.keepIn K (.ref x_is_number) = true)
    (d_named_parts : FnT K "named_parts" "named_parts" s_named_parts [] x_named_parts)
    (k_named_parts : PySem.W.keepIn K (.ref x_named_parts) = true)
    (d_take_parts : FnT K "take_parts" "take_parts" s_take_parts [] x_take_parts)
    (k_take_parts : PySem.W.keepIn K (.ref x_take_parts) = true)
    (d_Place_read : FnT K "read" "Place.read" s_Place_read [] x_Place_read)
    (d__law_parts : FnT K "_law_parts" "_law_parts" s__law_parts [] x__law_parts)
    (k__law_parts : PySem.W.keepIn K (.ref x__law_parts) = true)
    (d__law_place : FnT K "_law_place" "_law_place" s__law_place [] x__law_place)
    (k__law_place : PySem.W.keepIn K (.ref x__law_place) = true)
    (d__law_heard : FnT K "_law_heard" "_law_heard" s__law_heard [] x__law_heard)
    (k__law_heard : PySem.W.keepIn K (.ref x__law_heard) = true)
    (d__law_written : FnT K "_law_written" "_law_written" s__law_written [] x__law_written)
    (k__law_written : PySem.W.keepIn K (.ref x__law_written) = true)
    (d__law_is_number : FnT K "_law_is_number" "_law_is_number" s__law_is_number [] x__law_is_number)
    (k__law_is_number : PySem.W.keepIn K (.ref x__law_is_number) = true)
    (d__law_wrong : FnT K "_law_wrong" "_law_wrong" s__law_wrong [] x__law_wrong)
    (k__law_wrong : PySem.W.keepIn K (.ref x__law_wrong) = true)
    (d__law_bent : FnT K "_law_bent" "_law_bent" s__law_bent [] x__law_bent)
    (k__law_bent : PySem.W.keepIn K (.ref x__law_bent) = true)
    (d_law : FnT K "law" "law" s_law [] x_law)
    (k_law : PySem.W.keepIn K (.ref x_law) = true)
    (FC : FnC K "law" "law" s_law x_law c)
    (CT : PySem.W.CodeHd h c Tb)
    (nT : List.lookup Tb K = none)
    (eT : h.get? Tb = some { cls := .none, data := .fields #[] })
    (ND : NumsOk K w x_NUMBERS)
    : LawT l w K 15 63 mg fa h := by
  have e := hfa.symm.trans (PySem.W.mg_of X G m_law)
  have e2 : x_law = fa := by
    cases e
    rfl
  subst e2
  have T : Txt K mg ⟨x__law_bag, x__law_draw, x_BadText_init, x_is_int, x_Place_init, x_Place_slope, x_Place_offset, x_Place_odd, x_Place_eq, x_parts_of, x_place_words, x_Place_str, x_is_number, x_named_parts, x_take_parts, x_Place_read, x__law_parts, x__law_place, x__law_heard, x__law_written, x__law_is_number, x__law_wrong, x__law_bent, x_law, x_Place, x_pr_Place_slope, x_pr_Place_offset, x_pr_Place_odd, x_BadText, x_HoldError, x_cm_read, x_FIGURESt, x_NUMBERS⟩ :=
    { n_len := PySem.W.mg_none_of X G n_len,
      n_int := PySem.W.mg_none_of X G n_int,
      n_abs := PySem.W.mg_none_of X G n_abs,
      n_list := PySem.W.mg_none_of X G n_list,
      n_range := PySem.W.mg_none_of X G n_range,
      n_str := PySem.W.mg_none_of X G n_str,
      n_isinstance := PySem.W.mg_none_of X G n_isinstance,
      n_bool := PySem.W.mg_none_of X G n_bool,
      d__law_bag := d__law_bag,
      m__law_bag := PySem.W.mg_of X G m__law_bag,
      k__law_bag := k__law_bag,
      d__law_draw := d__law_draw,
      m__law_draw := PySem.W.mg_of X G m__law_draw,
      k__law_draw := k__law_draw,
      d_BadText_init := d_BadText_init,
      d_is_int := d_is_int,
      m_is_int := PySem.W.mg_of X G m_is_int,
      k_is_int := k_is_int,
      d_Place_init := d_Place_init,
      d_Place_slope := d_Place_slope,
      d_Place_offset := d_Place_offset,
      d_Place_odd := d_Place_odd,
      d_Place_eq := d_Place_eq,
      d_parts_of := d_parts_of,
      m_parts_of := PySem.W.mg_of X G m_parts_of,
      k_parts_of := k_parts_of,
      d_place_words := d_place_words,
      m_place_words := PySem.W.mg_of X G m_place_words,
      k_place_words := k_place_words,
      d_Place_str := d_Place_str,
      d_is_number := d_is_number,
      m_is_number := PySem.W.mg_of X G m_is_number,
      k_is_number := k_is_number,
      d_named_parts := d_named_parts,
      m_named_parts := PySem.W.mg_of X G m_named_parts,
      k_named_parts := k_named_parts,
      d_take_parts := d_take_parts,
      m_take_parts := PySem.W.mg_of X G m_take_parts,
      k_take_parts := k_take_parts,
      d_Place_read := d_Place_read,
      d__law_parts := d__law_parts,
      m__law_parts := PySem.W.mg_of X G m__law_parts,
      k__law_parts := k__law_parts,
      d__law_place := d__law_place,
      m__law_place := PySem.W.mg_of X G m__law_place,
      k__law_place := k__law_place,
      d__law_heard := d__law_heard,
      m__law_heard := PySem.W.mg_of X G m__law_heard,
      k__law_heard := k__law_heard,
      d__law_written := d__law_written,
      m__law_written := PySem.W.mg_of X G m__law_written,
      k__law_written := k__law_written,
      d__law_is_number := d__law_is_number,
      m__law_is_number := PySem.W.mg_of X G m__law_is_number,
      k__law_is_number := k__law_is_number,
      d__law_wrong := d__law_wrong,
      m__law_wrong := PySem.W.mg_of X G m__law_wrong,
      k__law_wrong := k__law_wrong,
      d__law_bent := d__law_bent,
      m__law_bent := PySem.W.mg_of X G m__law_bent,
      k__law_bent := k__law_bent,
      d_law := d_law,
      m_law := PySem.W.mg_of X G m_law,
      k_law := k_law,
      m_Place := PySem.W.mg_of X G m_Place,
      c_Place := c_Place,
      M_Place := M_Place,
      a_Place__slope := a_Place__slope,
      a_Place__offset := a_Place__offset,
      a_Place__odd := a_Place__odd,
      p_Place_slope := p_Place_slope,
      p_Place_offset := p_Place_offset,
      p_Place_odd := p_Place_odd,
      o_Place_eq := o_Place_eq,
      f_Place_eq := f_Place_eq,
      o_Place_str := o_Place_str,
      f_Place_str := f_Place_str,
      cr_Place := cr_Place,
      s_Place_first := s_Place_first,
      o_Place_ne := o_Place_ne,
      s_Place_obj := s_Place_obj,
      cm_read := cm_read,
      m_HoldError := PySem.W.mg_of X G m_HoldError,
      xf_BadText := xf_BadText,
      xc_BadText := xc_BadText,
      xi_BadText := xi_BadText,
      xt_BadText := xt_BadText,
      xm_BadText_HoldError := xm_BadText_HoldError,
      xm_BadText_BadText := xm_BadText_BadText,
      m_NUMBERS := PySem.W.mg_of X G m_NUMBERS,
      m_FIGURES := PySem.W.mg_of X G m_FIGURES,
      m_BadText := PySem.W.mg_of X G m_BadText,
      e_BadText := e_BadText,
      a_BadText_line := a_BadText_line,
      a_BadText_word := a_BadText_word }
  exact ⟨c, Tb, spLaw K Tb, eT, nT, CT, fun H a ns hl hT hS => ⟨a, ns, rfl, hS, hl, hT, fun _ => rfl⟩, fun base _ _ TB => ok_law T ND FC TB⟩
end Pf
end
open PySem PySem.W PyProof.Rows
set_option maxRecDepth 100000 in
set_option maxHeartbeats 0 in
theorem PySem.Challenge.cw_heldfloods_k05_places_written_and_read_holds : PySem.Challenge.rw_heldfloods_k05_places_written_and_read.Holds := by
  w_on; o_law; k_head; (case hw => w_witness2)
  k_fill
  refine Ow.walk_ofTG (l := PySem.Challenge.rw_heldfloods_k05_places_written_and_read) (k := 15) (n := 63) rfl (by decide) rfl ⟨rfl, by decide, by decide⟩ (fun w h Y => PySem.W.km_in_of Y) ?F
  case F =>
    intro w mg fa h Y KX G hmg
    refine' Pf.all_mk KX G hmg ?n_len ?n_int ?n_abs ?n_list ?n_range ?n_str ?n_isinstance ?n_bool ?m__law_bag ?m__law_draw ?m_is_int ?m_parts_of ?m_place_words ?m_is_number ?m_named_parts ?m_take_parts ?m__law_parts ?m__law_place ?m__law_heard ?m__law_written ?m__law_is_number ?m__law_wrong ?m__law_bent ?m_law ?m_Place ?c_Place ?M_Place ?a_Place__slope ?a_Place__offset ?a_Place__odd ?p_Place_slope ?p_Place_offset ?p_Place_odd ?o_Place_eq ?f_Place_eq ?o_Place_str ?f_Place_str ?cr_Place ?s_Place_first ?o_Place_ne ?s_Place_obj ?cm_read ?m_BadText ?e_BadText ?a_BadText_line ?a_BadText_word ?m_HoldError ?xf_BadText ?xc_BadText ?xi_BadText ?xt_BadText ?xm_BadText_HoldError ?xm_BadText_BadText ?m_FIGURES ?m_NUMBERS ?d__law_bag ?k__law_bag ?d__law_draw ?k__law_draw ?d_BadText_init ?d_is_int ?k_is_int ?d_Place_init ?d_Place_slope ?d_Place_offset ?d_Place_odd ?d_Place_eq ?d_parts_of ?k_parts_of ?d_place_words ?k_place_words ?d_Place_str ?d_is_number ?k_is_number ?d_named_parts ?k_named_parts ?d_take_parts ?k_take_parts ?d_Place_read ?d__law_parts ?k__law_parts ?d__law_place ?k__law_place ?d__law_heard ?k__law_heard ?d__law_written ?k__law_written ?d__law_is_number ?k__law_is_number ?d__law_wrong ?k__law_wrong ?d__law_bent ?k__law_bent ?d_law ?k_law ?FC ?CT ?nT ?eT ?ND
    (case n_len => k_is)
    (case n_int => k_is)
    (case n_abs => k_is)
    (case n_list => k_is)
    (case n_range => k_is)
    (case n_str => k_is)
    (case n_isinstance => k_is)
    (case n_bool => k_is)
    (case m__law_bag => k_is)
    (case m__law_draw => k_is)
    (case m_is_int => k_is)
    (case m_parts_of => k_is)
    (case m_place_words => k_is)
    (case m_is_number => k_is)
    (case m_named_parts => k_is)
    (case m_take_parts => k_is)
    (case m__law_parts => k_is)
    (case m__law_place => k_is)
    (case m__law_heard => k_is)
    (case m__law_written => k_is)
    (case m__law_is_number => k_is)
    (case m__law_wrong => k_is)
    (case m__law_bent => k_is)
    (case m_law => k_is)
    (case m_Place => k_is)
    (case c_Place => (refine' ⟨⟨?_, ?_, ?_, ?_⟩, ?_, ?_, ?_, ?_, ?_, ?_⟩ <;> k_is))
    (case M_Place => (refine' ⟨?a, ?b, ?c, ?d⟩; (case a => k_is); (case b => k_is); (case c => k_is); (case d => k_is)))
    (case a_Place__slope => k_is)
    (case a_Place__offset => k_is)
    (case a_Place__odd => k_is)
    (case p_Place_slope => (refine' Pf.propR_mk ?a ?b ?c ?d; (case a => k_is); (case b => k_is); (case c => k_is); (case d => k_is)))
    (case p_Place_offset => (refine' Pf.propR_mk ?a ?b ?c ?d; (case a => k_is); (case b => k_is); (case c => k_is); (case d => k_is)))
    (case p_Place_odd => (refine' Pf.propR_mk ?a ?b ?c ?d; (case a => k_is); (case b => k_is); (case c => k_is); (case d => k_is)))
    (case o_Place_eq => k_is)
    (case f_Place_eq => k_is)
    (case o_Place_str => k_is)
    (case f_Place_str => k_is)
    (case cr_Place => (refine' ⟨?a, ?b⟩; (case a => k_is); (case b => k_is)))
    (case s_Place_first => k_is)
    (case o_Place_ne => k_is)
    (case s_Place_obj => k_is)
    (case cm_read => (refine' Pf.cmet_mk ?a ?b ?c ?d ?e ?f ?g; (case a => k_is); (case b => k_is); (case c => k_is); (case d => k_is); (case e => k_is); (case f => k_is); (case g => first | rfl | decide)))
    (case m_BadText => k_is)
    (case e_BadText => (refine' Pf.errF_mk ?l ?r ?s ?x ?t ?k ?i ?f; (case l => k_is); (case r => rfl); (case s => k_is); (case x => k_is); (case t => k_is); (case k => k_is); (case i => k_is); (case f => k_is)))
    (case a_BadText_line => k_is)
    (case a_BadText_word => k_is)
    (case m_HoldError => k_is)
    (case xf_BadText => (refine' ⟨?a, ?b, ?c, ?d⟩; (case a => k_is); (case b => k_is); (case c => k_is); (case d => k_is)))
    (case xc_BadText => (refine' ⟨?a, ?b, ?c, ?d, ?e, ?f, ?g, ?h⟩; (case a => k_is); (case b => k_is); (case c => k_is); (case d => k_is); (case e => k_is); (case f => k_is); (case g => k_is); (case h => k_is)))
    (case xi_BadText => k_is)
    (case xt_BadText => k_is)
    (case xm_BadText_HoldError => (refine' PySem.W.exm_ref ?a ?b ?c ?d; (case a => k_is); (case b => k_is); (case c => k_is); (case d => k_is)))
    (case xm_BadText_BadText => (refine' PySem.W.exm_ref ?a ?b ?c ?d; (case a => k_is); (case b => k_is); (case c => k_is); (case d => k_is)))
    (case m_FIGURES => k_is)
    (case m_NUMBERS => k_is)
    (case d__law_bag => (refine' Pf.fnt_mk ?l ?c ?k; (case l => k_is); (case c => k_is); (case k => k_is)))
    (case k__law_bag => k_is)
    (case d__law_draw => (refine' Pf.fnt_mk ?l ?c ?k; (case l => k_is); (case c => k_is); (case k => k_is)))
    (case k__law_draw => k_is)
    (case d_BadText_init => (refine' Pf.fnt_mk ?l ?c ?k; (case l => k_is); (case c => k_is); (case k => k_is)))
    (case d_is_int => (refine' Pf.fnt_mk ?l ?c ?k; (case l => k_is); (case c => k_is); (case k => k_is)))
    (case k_is_int => k_is)
    (case d_Place_init => (refine' Pf.fntD1_mk ?l ?c ?k ?t ?v; (case l => k_is); (case c => k_is); (case k => k_is); (case t => k_is); (case v => first | exact ⟨_, rfl⟩ | rfl)))
    (case d_Place_slope => (refine' Pf.fnt_mk ?l ?c ?k; (case l => k_is); (case c => k_is); (case k => k_is)))
    (case d_Place_offset => (refine' Pf.fnt_mk ?l ?c ?k; (case l => k_is); (case c => k_is); (case k => k_is)))
    (case d_Place_odd => (refine' Pf.fnt_mk ?l ?c ?k; (case l => k_is); (case c => k_is); (case k => k_is)))
    (case d_Place_eq => (refine' Pf.fnt_mk ?l ?c ?k; (case l => k_is); (case c => k_is); (case k => k_is)))
    (case d_parts_of => (refine' Pf.fnt_mk ?l ?c ?k; (case l => k_is); (case c => k_is); (case k => k_is)))
    (case k_parts_of => k_is)
    (case d_place_words => (refine' Pf.fnt_mk ?l ?c ?k; (case l => k_is); (case c => k_is); (case k => k_is)))
    (case k_place_words => k_is)
    (case d_Place_str => (refine' Pf.fnt_mk ?l ?c ?k; (case l => k_is); (case c => k_is); (case k => k_is)))
    (case d_is_number => (refine' Pf.fnt_mk ?l ?c ?k; (case l => k_is); (case c => k_is); (case k => k_is)))
    (case k_is_number => k_is)
    (case d_named_parts => (refine' Pf.fnt_mk ?l ?c ?k; (case l => k_is); (case c => k_is); (case k => k_is)))
    (case k_named_parts => k_is)
    (case d_take_parts => (refine' Pf.fnt_mk ?l ?c ?k; (case l => k_is); (case c => k_is); (case k => k_is)))
    (case k_take_parts => k_is)
    (case d_Place_read => (refine' Pf.fnt_mk ?l ?c ?k; (case l => k_is); (case c => k_is); (case k => k_is)))
    (case d__law_parts => (refine' Pf.fnt_mk ?l ?c ?k; (case l => k_is); (case c => k_is); (case k => k_is)))
    (case k__law_parts => k_is)
    (case d__law_place => (refine' Pf.fnt_mk ?l ?c ?k; (case l => k_is); (case c => k_is); (case k => k_is)))
    (case k__law_place => k_is)
    (case d__law_heard => (refine' Pf.fnt_mk ?l ?c ?k; (case l => k_is); (case c => k_is); (case k => k_is)))
    (case k__law_heard => k_is)
    (case d__law_written => (refine' Pf.fnt_mk ?l ?c ?k; (case l => k_is); (case c => k_is); (case k => k_is)))
    (case k__law_written => k_is)
    (case d__law_is_number => (refine' Pf.fnt_mk ?l ?c ?k; (case l => k_is); (case c => k_is); (case k => k_is)))
    (case k__law_is_number => k_is)
    (case d__law_wrong => (refine' Pf.fnt_mk ?l ?c ?k; (case l => k_is); (case c => k_is); (case k => k_is)))
    (case k__law_wrong => k_is)
    (case d__law_bent => (refine' Pf.fnt_mk ?l ?c ?k; (case l => k_is); (case c => k_is); (case k => k_is)))
    (case k__law_bent => k_is)
    (case d_law => (refine' Pf.fnt_mk ?l ?c ?k; (case l => k_is); (case c => k_is); (case k => k_is)))
    (case k_law => k_is)
    (case FC => (refine' Ow.FnC.mk ?l ?c; (case l => k_is); (case c => k_is)))
    (case CT => (refine' Ow.codeHd_mk KX ?l ?e1 ?e2 ?e3 ?e4 ?e5 ?e6 ?ne; (case l => k_is); (case e1 => rfl); (case e2 => rfl); (case e3 => rfl); (case e4 => rfl); (case e5 => rfl); (case e6 => rfl); (case ne => decide)))
    (case nT => exact Ow.km_none Y (by decide +kernel))
    (case eT => exact PySem.W.km_tabs_of Y _ (by simp))
    (case ND => (refine' Pf.nums_mk ?l ?q1 ?q2 ?q3 ?q4 ?z ?v1 ?v2 ?v3 ?v4; (case l => k_is); (case q1 => exact ⟨_, rfl, rfl⟩); (case q2 => exact ⟨_, rfl, rfl⟩); (case q3 => exact ⟨_, rfl, rfl⟩); (case q4 => exact ⟨_, rfl, rfl⟩); (case z => first | rfl | decide); (case v1 => exact ⟨_, rfl⟩); (case v2 => exact ⟨_, rfl⟩); (case v3 => exact ⟨_, rfl⟩); (case v4 => exact ⟨_, rfl⟩)))
