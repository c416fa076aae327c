import PyProof.Rows.All
import Wide.All
import OpenK.AllK
import Wide.FinOn
import KE.KTypeName
import HandS.ForMost
import HandS.ForExc
import HandS.IsInst
import HandS.Zip
import HandS.TryMany
import HandS.Defaults
import HandS.Deep
import KE.KExcSuper
import HandS.ExcField
import HandS.TupAny
import HandS.Walk
import PySem.Challenge.RW_leaveorder_k02_texts_of_webs
import HandS.StrMore
import HandS.TupLe
import HandS.Style
import HandS.More
import KE.RegKSuper
set_option Elab.async false
set_option linter.all false
set_option maxRecDepth 100000
set_option maxHeartbeats 4000000
/-! What the laws of this program have in common: repr of data, the name of a value's class, calls by keywords alone. -/
namespace LV
open PySem PySem.Spec PyProof.Rows L2

/-! ### data stays data in a grown heap -/
theorem sameT {K : PySem.W.Frag} {H H' : Hp} {a : Addr} {xs : List V} (e : Same H H') (h : SqT K H a xs) : SqT K H' a xs := by
  rcases h with (h | ⟨o, h⟩) | h
  · exact .inl (.inl (e _ _ h))
  · exact .inl (.inr ⟨o, e _ _ h⟩)
  · exact .inr h
mutual
theorem dp_same {K : PySem.W.Frag} {H H' : Hp} (e : Same H H') : ∀ {v : V} {d : PyData}, Dp K H v d → Dp K H' v d
  | _, _, .non => .non
  | _, _, .bl b => .bl b
  | _, _, .int i => .int i
  | _, _, .str x => .str x
  | _, _, .lst h hs => .lst (e.seq h) (dps_same e hs)
  | _, _, .tup h hs => .tup (sameT e h) (dps_same e hs)
theorem dps_same {K : PySem.W.Frag} {H H' : Hp} (e : Same H H') : ∀ {vs : List V} {ds : List PyData}, DpAll K H vs ds → DpAll K H' vs ds
  | _, _, .nil => .nil
  | _, _, .cons h hs => .cons (dp_same e h) (dps_same e hs)
end
theorem same_new {H : Hp} {p : Addr} {o : HO} (h : H p = none) : Same H (upd H p o) := fun b x e => by
  rw [upd_ne (ne_of_none e h)]
  exact e

/-! ### value.__class__ and its name -/
section
variable {prog : Program} {w : World} {A : Around} {E : Value → Shared → Prop} {h : Heap} {g : Array GenState} {d : Drawn} {t : Nat} {os : OsState}
theorem cls_by_int {n : Int} {u : Tok} {tk : Tok} {Q : Value → Shared → Prop} (hq : Q (.type "int") ⟨h, g, d, t, os⟩) : wpAny (model prog w) A (getAttrBy (.int n u) (.str "__class__" tk) true true) Q E ⟨h, g, d, t, os⟩ := by
  have hT : (⟨h, g, d, t, os⟩ : Shared).TypeIs (.int n u) "int" := rfl
  have f2 := F.slot_int_getattribute.lookup
  have f3 := F.slot_int_getattribute.bind (.int n u)
  repeat (any_goals (first | assumption | wp_step))
  refine class_call_int ?_
  repeat (any_goals (first | assumption | wp_step))
theorem cls_by_bool {x : Bool} {tk : Tok} {Q : Value → Shared → Prop} (hq : Q (.type "bool") ⟨h, g, d, t, os⟩) : wpAny (model prog w) A (getAttrBy (.bool x) (.str "__class__" tk) true true) Q E ⟨h, g, d, t, os⟩ := by
  have hT : (⟨h, g, d, t, os⟩ : Shared).TypeIs (.bool x) "bool" := rfl
  have f2 := F.slot_bool_getattribute.lookup
  have f3 := F.slot_bool_getattribute.bind (.bool x)
  repeat (any_goals (first | assumption | wp_step))
  refine class_call_bool ?_
  repeat (any_goals (first | assumption | wp_step))
theorem cls_by_str {x : Str} {u : Tok} {tk : Tok} {Q : Value → Shared → Prop} (hq : Q (.type "str") ⟨h, g, d, t, os⟩) : wpAny (model prog w) A (getAttrBy (.str x u) (.str "__class__" tk) true true) Q E ⟨h, g, d, t, os⟩ := by
  have hT : (⟨h, g, d, t, os⟩ : Shared).TypeIs (.str x u) "str" := rfl
  have f2 := F.slot_str_getattribute.lookup
  have f3 := F.slot_str_getattribute.bind (.str x u)
  repeat (any_goals (first | assumption | wp_step))
  refine class_call_str ?_
  repeat (any_goals (first | assumption | wp_step))
theorem cls_by_tuple {a : Addr} {o : Obj} {tk : Tok} {Q : Value → Shared → Prop} (hx : h.get? a = some o) (hc : o.cls = .type "tuple") (hq : Q (.type "tuple") ⟨h, g, d, t, os⟩) : wpAny (model prog w) A (getAttrBy (.ref a) (.str "__class__" tk) true true) Q E ⟨h, g, d, t, os⟩ := by
  have hT : (⟨h, g, d, t, os⟩ : Shared).TypeIs (.ref a) "tuple" := ⟨_, hx, hc⟩
  have f2 := F.slot_tuple_getattribute.lookup
  have f3 := F.slot_tuple_getattribute.bind (.ref a)
  repeat (any_goals (first | assumption | wp_step))
  refine class_call_tuple hx hc ?_
  repeat (any_goals (first | assumption | wp_step))
end
/-- the built-in class of a value, by its name: those that the program asks for -/
inductive ClsN (K : PySem.W.Frag) (H : Hp) : V → String → Prop
  | int (i : Int) : ClsN K H (.int i) "int"
  | bl (b : Bool) : ClsN K H (.bl b) "bool"
  | str (x : Str) : ClsN K H (.str x) "str"
  | tup {a : Addr} {xs : List V} (h : SqT K H a xs) : ClsN K H (.ref a) "tuple"
def tClsName (K : PySem.W.Frag) (ta : TE) : TE := fun σ H Q => ta σ H fun x H1 => ∃ T, ClsN K H1 x T ∧ Q (.str (Str.ofString T)) H1
section
variable {X : Cx}
theorem ty4 {T : String} (hT : T = "int" ∨ T = "bool" ∨ T = "str" ∨ T = "tuple") : PySem.W.kitMeta T = true ∧ PySem.Manifest.isStub T = false ∧ (∀ K : PySem.W.Frag, PySem.W.findCls K (.type T) (.type "type") "__name__" = some (.get (.builtin "getset_descriptor.__get__") (.builtin "type.__name__") (.type T) (.type "type"))) ∧ PySem.W.ktynFast T = T ∧ (Str.ofString T).length ≤ sizeLine := by
  rcases hT with rfl | rfl | rfl | rfl
  · exact ⟨by decide +kernel, by decide +kernel, fun K => by kernel_rfl, by decide +kernel, by decide +kernel⟩
  · exact ⟨by decide +kernel, by decide +kernel, fun K => by kernel_rfl, by decide +kernel, by decide +kernel⟩
  · exact ⟨by decide +kernel, by decide +kernel, fun K => by kernel_rfl, by decide +kernel, by decide +kernel⟩
  · exact ⟨by decide +kernel, by decide +kernel, fun K => by kernel_rfl, by decide +kernel, by decide +kernel⟩
theorem name_of {pins : List (Addr × Obj)} {σ : L2.St} {H : Hp} {s : Shared} {T : String} {Q : VK} (I : Inv X pins σ H s) (hT : T = "int" ∨ T = "bool" ∨ T = "str" ∨ T = "tuple") (q : Q (.str (Str.ofString T)) H) :
    wpAny (model X.prog X.w) X.A (getAttr (.type T) "__name__" true) (EP X pins σ Q) X.xe s := by
  obtain ⟨m, hF⟩ := I.fr
  obtain ⟨f1, f2, f3, f4, f5⟩ := ty4 hT
  exact PySem.W.ktyn_attr (q := T) hF I.mod.kin f1 f2 (f3 _) f4 f5 fun tk u => ⟨.str (Str.ofString T), H, I.tok u, ⟨tk, rfl⟩, q⟩
theorem pe_clsName {e : Expr} {ta : TE} {p1 p2 : Pos} (he : PE X e ta) (hb : attributeBase e "__class__" X.env (eval e X.env) = eval e X.env := by rfl)
    (hb2 : attributeBase (.Attribute e "__class__" p1) "__name__" X.env (eval (.Attribute e "__class__" p1) X.env) = eval (.Attribute e "__class__" p1) X.env := by rfl) :
    PE X (.Attribute (.Attribute e "__class__" p1) "__name__" p2) (tClsName X.K ta) := by
  refine ⟨fun pins s σ H Q I h => ?_⟩
  refine attr_of hb2 (attr_of hb (thn (he.run pins s σ H _ I h) fun u s1 ⟨x, H1, I1, r1, T, hT, q⟩ => ?_))
  have go : ∀ (t : Nat) (hT : T = "int" ∨ T = "bool" ∨ T = "str" ∨ T = "tuple"), wpAny (model X.prog X.w) X.A (getAttr (.type T) "__name__" true) (EP X pins σ Q) X.xe { s1 with toks := t } := fun t hT => name_of (I1.tok t) hT q
  obtain ⟨hh, g, d, t, os⟩ := s1
  unfold getAttr
  refine wpAny_bind (wpAny_mkText ?_)
  cases hT with
  | int i => obtain ⟨tk, rfl⟩ := r1; exact cls_by_int (go _ (.inl rfl))
  | bl b => cases r1; exact cls_by_bool (go _ (.inr (.inl rfl)))
  | str y => obtain ⟨tk, rfl⟩ := r1; exact cls_by_str (go _ (.inr (.inr (.inl rfl))))
  | tup hs =>
    cases r1
    obtain ⟨its, rv, ⟨o, e1, e2, n, e3⟩, _⟩ := I1.tuple hs
    exact cls_by_tuple e1 e2 (go _ (.inr (.inr (.inr rfl))))

/-! ### repr of data, where no repr is under way -/
def rRepr (K : PySem.W.Frag) : List V → Hp → VK → Prop := fun xs H Q => ∃ x d, xs = [x] ∧ Dp K H x d ∧ d.showable = true ∧ d.hasDict = false ∧ d.depth ≤ 60 ∧ d.shown.length ≤ sizeLine ∧ Q (.str d.shown) H
theorem call_repr (hg : X.A.guards = some []) (hu : X.A.units + 64 < cLine) : CallR X (.builtin "repr") (rRepr X.K) := by
  intro pins s σ H xs us Q I r h
  obtain ⟨x, d, rfl, hd, hs, hn, hz, hl, q⟩ := h
  obtain ⟨u, rfl, r1⟩ := vals1 r
  obtain ⟨as, rd⟩ := Dp.reads I d x u hd r1
  have fin : ∀ h' t tk, (∀ b o, s.heap.get? b = some o → h'.get? b = some o) → EP X pins σ Q (.str d.shown t) { s with heap := h', toks := tk } := fun h' t tk k => ⟨.str d.shown, H, I.kept k, ⟨t, rfl⟩, q⟩
  cases hd with
  | non => cases r1; exact PySem.P.repr_of_none (fin s.heap _ _ fun _ _ e => e)
  | bl b =>
    cases r1
    exact PySem.P.repr_of_bool (fin s.heap _ _ fun _ _ e => e)
  | int i =>
    obtain ⟨t, rfl⟩ := r1
    exact PySem.P.repr_of_int (by simpa [PyData.showable] using hs) (fin s.heap _ _ fun _ _ e => e)
  | str y =>
    obtain ⟨t, rfl⟩ := r1
    exact PySem.P.repr_of_str (fin s.heap _ _ fun _ _ e => e) (by simpa only [PyData.shown] using hl)
  | lst h1 h2 =>
    cases r1
    exact repr_of_reads' rd hs (PyData.noDict_hsm hn) hg (by omega) (fun _ _ e => e) (fun h' t tk k => fin h' t tk k) hl
  | tup h1 h2 =>
    cases r1
    exact repr_of_reads' rd hs (PyData.noDict_hsm hn) hg (by omega) (fun _ _ e => e) (fun h' t tk k => fin h' t tk k) hl

/-! ### a call by keywords alone -/
def tCallKW (m : Nat) (sp : Sp) (gV : List V → List V → List V) (E : XK) (tk : TA) : TE := fun σ H Q => tk σ H fun zs H2 => zs.length = m ∧ sp (gV [] zs) H2 Q E
theorem pe_callKW {CX : CXT} {k : Nat} {f : Addr} {fd : FuncData} {ps ks : List Str} {sp : Sp} {E : XK} {x : Str} {p pos : Pos} {kws : List Keyword} {tk : TA} {g : List Value → List Value → List Value} {gV : List V → List V → List V}
    (F : FnOk X.prog X.w X.K X.mg X.base CX k f fd ps sp) (hr : Room k X.A) (hg : Gl X x) (hm : X.mg x = some (.ref f)) (hk : PySem.W.keepIn X.K (.ref f) = true) (hb : KBn X.K fd ps 0 ks g gV) (hx : Passes CX X E) (hkw : PK X kws tk)
    (hall : (backToKw pos (keywordEach kws X.env)).all (·.1.isSome) = true := by rfl) (hks : (backToKw pos (keywordEach kws X.env)).filterMap (·.1) = ks := by rfl) (hdb : (x == ("__debug__" : Str)) = false := by decide)
    (hpl : ((backTo pos (starEach [] X.env)).any (·.1) || (backToKw pos (keywordEach kws X.env)).any (·.1.isNone)) = false := by rfl) :
    PE X (.Call (.Name x p) [] kws pos) (tCallKW ks.length sp gV E tk) := by
  refine ⟨fun pins s σ H Q I h => ?_⟩
  refine wpAny_Call_Name_kw (ld_glob I hg hm ?_ hdb)
  refine PySem.W.callWith_KW0 (h₀ := X.base) I.ok.mod.kin hk hall ?_ hpl
  refine thn (hkw.run pos pins s σ H _ I h) fun ws s2 ⟨zs, H2, I2, rz, l2, q2⟩ => ⟨I2.kIn, ?_⟩
  rw [hks]
  exact run_fnN (us := []) (vs := []) F hr hb hx I2 .nil rz rfl l2 q2
end
end LV
/-! A def that shows values (repr), entered where no repr is under way: the law's own def. -/
namespace LV
open PySem PySem.Spec PyProof.Rows L2
section
variable {P : Program} {w : World} {K : PySem.W.Frag} {mg : Str → Option Value} {base : Heap}
/-- the promise of a def that is entered with no repr under way -/
def RunsG (P : Program) (w : World) (K : PySem.W.Frag) (mg : Str → Option Value) (base : Heap) (CX : CXT) (k : Nat) (f : Addr) (fd : FuncData) (ps : List Str) (sp : Sp) : Prop :=
  ∀ (A : Around) (outer : List Env) (s : Shared) (H : Hp) (args : Args) (us : List Value) (vs : List V) (Q : VK) (E : XK), A.guards = some [] → Room k A → Env0 P w K mg base A outer s H → BindsTo s fd args (ps.zip us) → Vals vs us → vs.length = ps.length → sp vs H Q E →
    codeAny (model P w) A (.call (.ref f) args) (CR CX outer P w H s Q E) s
theorem runsG {x qual : Str} {st : Stmt} {f : Addr} {fd : FuncData} {N ps : List Str} {k : Nat} {sp : Sp} {CX : CXT} (F : Fun K x qual st f fd) (S : FnScope N ps (defScope st))
    (B : ∀ (cdv : Value) (A : Around) (outer : List Env) (s : Shared) (H : Hp) (vs : List V) (Q : VK) (E : XK), (A.deeper (envOfC qual (defScope st) s.heap.objs.size f cdv)).guards = some [] → Room k (A.deeper (envOfC qual (defScope st) s.heap.objs.size f cdv)) → sp vs H Q E →
      ∃ t, PSs (cxOf CX P w K mg base N qual (defScope st) f cdv A outer s H E) (defBody st) t ∧ t { nx := fun _ H' => Q .non H', rt := Q } (start N vs) H) : RunsG P w K mg base CX (k + 1) f fd ps sp := by
  intro A outer s H args us vs Q E g0 rm e0 bd rv hl hs
  obtain ⟨oc, od, kV, doc, pm, an, cdv, ct, osl, rfl, lk, hcd⟩ := F.ex
  have kept : ∀ b o, base.get? b = some o → s.heap.get? b = some o := fun b o e => (e0.bs b o e).1
  have KX := e0.mod.kin.keeps kept
  obtain ⟨t, ht, hq⟩ := B cdv A outer s H vs Q E (by first | exact g0 | (simp [Around.deeper, g0])) (rm.deeper _) hs
  have par : ∀ y ∈ ps.zip us, (defScope st).names.lookup y.1 = some .local ∨ ((defScope st).names.lookup y.1 = some .cell ∧ ((cellsFrom (s.heap.objs.size + 1) (defScope st).names []).lookup y.1).isSome = true) := fun y hy =>
    (S.par y.1 (List.of_mem_zip (a := y.1) (b := y.2) hy).1).elim .inl fun q => .inr ⟨q, PySem.W.cellsFrom_some _ _ _ (.inl q)⟩
  refine codeAny_call_function rm.depth (KX _ _ lk) rfl S.co S.gen rfl (PySem.W.codeRec_of KX hcd) (bd _ _ _ _ (wpAny_newFunctionEnv_cells S.kind par fun env he s1 ic => ?_))
  subst he
  refine ⟨(e0.mod.nolimit.keeps kept).keeps ic.toInCall.keep, codeAny_func ?_⟩
  have I0 := inv_start (CX := CX) (E := E) S rm.hd e0 hl rv ic
  refine wpAny_mono (ht.run [] s1 (start N vs) H _ I0 hq) (fun fl s' z => ?_) fun _ _ z => z
  cases fl with
  | next => obtain ⟨_, H', J, q⟩ := z; exact ⟨.non, H', J.os, J.bare, J.base, J.hok, rfl, q⟩
  | ret u => obtain ⟨v, _, H', J, r, q⟩ := z; exact ⟨v, H', J.os, J.bare, J.base, J.hok, r, q⟩
  | brk => obtain ⟨_, _, _, q⟩ := z; exact q.elim
  | cont => obtain ⟨_, _, _, q⟩ := z; exact q.elim
end

/-! ### the law's own call -/
section
variable {P : Program} {w : World} {K : PySem.W.Frag} {mg mb : Str → Option Value} {CX : CXT} {k : Nat} {fa a : Addr} {fd : FuncData} {x : Str} {sp : Sp} {s₁ : Shared} {vs : List Value} {ns : List Int}
/-- the script's list at a, as it lies -/
abbrev scr (vs : List Value) : Obj := { cls := .type "list", data := .seq vs.toArray }
/-- what is tracked at the law's entry: the script, where it is none of the written objects -/
def H1 (K : PySem.W.Frag) (a : Addr) (vs : List Value) (ns : List Int) : Hp := fun b => if b = a ∧ K.lookup a = none then some (.frz (scr vs) (.lst (ns.map V.int))) else none
theorem H1_cases (K : PySem.W.Frag) (a : Addr) (vs : List Value) (ns : List Int) (b : Addr) : H1 K a vs ns b = none ∨ (b = a ∧ K.lookup a = none ∧ H1 K a vs ns b = some (.frz (scr vs) (.lst (ns.map V.int)))) := by
  by_cases c : b = a ∧ K.lookup a = none
  · exact .inr ⟨c.1, c.2, if_pos c⟩
  · exact .inl (if_neg c)
theorem law_in (KX : K.In s₁.heap) (gl : s₁.heap.Ns mainGlobals mg) (bl : s₁.heap.Ns builtinsNs mb) (boot : ∀ x : Str, x ≠ "__name__" → mb x = bootBuiltins x) (lim : s₁.heap.NoLimit) (gens : s₁.gens = #[])
    (ha : s₁.heap.get? a = some (scr vs)) (hi : IntsAre vs ns) (hl : ns.length ≤ sizeLine) (rm : Room k callerA)
    (F : ∀ base : Heap, K.In base → base.Ns mainGlobals mg → RunsG P w K mg base CX k fa fd [x] sp) (hbind : ∀ (s : Shared) (u : Value), BindsTo s fd ⟨[u], []⟩ [(x, u)])
    (hsp : ∀ H : Hp, Only H → SqL K H a (ns.map V.int) → sp [.ref a] H (fun v _ => v = .bl true) fun _ _ _ => False) (hCX : ∀ H e s', CX [] H s₁ (fun _ _ _ => False) e s' → False) :
    codeAny (model P w) callerA (.call (.ref fa) ⟨[.ref a], []⟩) (fun r s' => r = .ok (.ret (.bool true)) ∧ OldK s₁.heap s'.heap ∧ s'.os = s₁.os ∧ AllBare s'.gens) s₁ := by
  have rv := vals_ints hi
  have cs := H1_cases K a vs ns
  have only : Only (H1 K a vs ns) := fun b => (cs b).elim .inl fun z => .inr ⟨_, _, z.2.2⟩
  have seq : SqL K (H1 K a vs ns) a (ns.map V.int) := by
    cases q : K.lookup a with
    | none => exact .inl (.inr ⟨scr vs, if_pos ⟨rfl, q⟩⟩)
    | some o =>
      have z := (KX a o q).symm.trans ha
      cases z
      exact .inr ⟨_, vs.toArray, _, q, rfl, rfl, rfl, (by rw [List.size_toArray, hi.length]; exact hl), (by simpa using rv)⟩
  have hok : HOk P w (H1 K a vs ns) s₁.heap := fun b u e => by
    rcases cs b with z | ⟨rfl, _, z⟩
    · rw [z] at e; cases e
    · rw [z] at e; cases e
      exact ⟨ha, (by rw [List.length_map]; exact hl), vs, _, rv, ha⟩
  have free : ∀ {b : Addr} {o : Obj} {es : Array DictEntry} {ep : Nat}, s₁.heap.get? b = some o → o.data = .dict es ep → H1 K a vs ns b = none := fun {b o es ep} e d => (cs b).elim id fun z => by
    rw [z.1, ha] at e
    cases e
    exact nomatch (show Data.seq vs.toArray _ = Data.dict es ep from d)
  have ns_ : ∀ {b : Addr} {m : Str → Option Value}, s₁.heap.Ns b m → (hidT s₁.heap (H1 K a vs ns)).Ns b m := fun ⟨o, es, ep, e, d, r⟩ => ⟨o, es, ep, hidT_get e (free e d), d, r⟩
  have kb : K.In (hidT s₁.heap (H1 K a vs ns)) := fun b o e => hidT_get (KX b o e) ((cs b).elim id fun z => by rw [z.1, z.2.1] at e; cases e)
  have e0 : Env0 P w K mg (hidT s₁.heap (H1 K a vs ns)) callerA [] s₁ (H1 K a vs ns) :=
    ⟨rfl, ⟨kb, ns_ gl, ⟨mb, ns_ bl, boot⟩, (let ⟨mc, h1, h2⟩ := lim; ⟨mc, ns_ h1, h2⟩)⟩, fun b o e => of_hidT e, Nat.le_of_eq (hidT_size _ _), trivial, fun b hb => (nomatch (show b ∈ ([] : List Addr) from hb)), hok, .of_eq gens⟩
  refine codeAny_mono (F _ kb (ns_ gl) callerA [] s₁ _ ⟨[.ref a], []⟩ [.ref a] [.ref a] _ _ rfl rm e0 (hbind s₁ _) (.cons rfl .nil) rfl (hsp _ only seq)) fun r s' h => ?_
  cases r with
  | error e => exact (hCX _ e s' h).elim
  | ok fl =>
    cases fl with
    | ret u =>
      obtain ⟨v, H', os, bare, un, hok', r', q⟩ := h
      cases (show v = .bl true from q)
      cases (show u = Value.bool true from r')
      refine ⟨rfl, OldK.of_keep fun b o e => ?_, os, bare⟩
      rcases cs b with z | ⟨rfl, _, z⟩
      · exact un.keep b o e z (fun m => nomatch (show b ∈ ([] : List Addr) from m)) (fun m => nomatch m)
      · obtain ⟨e1, _⟩ := hok' _ _ (un.frzs _ _ _ z)
        exact e1.trans (ha.symm.trans e)
    | next => exact h.elim
    | brk => exact h.elim
    | cont => exact h.elim
end
theorem walk_ofG {l : PySem.W.OpenLaw} {n k : Nat} {q : Program} {loose : List Str} {XP : (Str → Option Value) → Heap → Prop} {YP : World → Heap → Prop} {d : DefRec} {K : Params → PySem.W.Frag} {CX : World → CXT} {sp : World → Sp} {x : Str}
    (hn : l.most = some n) (hn2 : n ≤ sizeLine) (hdf : d.params.defaults = []) (hr : Room k callerA) (hY : ∀ (w : World) (h : Heap), YP w h → (K w.params).In h)
    (F : ∀ (w : World) (mg : Str → Option Value) (fa : Addr) (h : Heap), (K w.params).In h → h.Ns mainGlobals mg → mg d.name = some (.ref fa) → ∃ fd : FuncData, (∀ (s : Shared) (u : Value), BindsTo s fd ⟨[u], []⟩ [(x, u)]) ∧
      ∀ base : Heap, (K w.params).In base → base.Ns mainGlobals mg → RunsG l.prog w (K w.params) mg base (CX w) k fa fd [x] (sp w))
    (hsp : ∀ (w : World) (H : Hp) (a : Addr) (ns : List Int), ns.length ≤ n → Only H → SqL (K w.params) H a (ns.map V.int) → sp w [.ref a] H (fun v _ => v = .bl true) fun _ _ _ => False)
    (hCX : ∀ (w : World) (H : Hp) (s : Shared) (e : Value) (s' : Shared), CX w [] H s (fun _ _ _ => False) e s' → False) :
    PySem.W.WalkO q loose XP YP l.row.toRowW d [] (fun f vs => PySem.call f vs) :=
  Att.attach_call hn hdf fun w s₀ s₁ mg mb fa o pm cd doc a vs ns G Y ho hd hcd hmg hobj hints hlen hg =>
    let ⟨_, hb, hF⟩ := F w mg fa _ (hY w _ Y) G.T.g hmg
    law_in (hY w _ Y) G.T.g G.T.b G.T.builtins G.T.nolimit hg hobj hints (Nat.le_trans hlen hn2) hr hF hb (fun H hO hS => hsp w H a ns hlen hO hS) fun H e s' => hCX w H s₁ e s'
end LV
/-! An error class of the program over LeaveError whose __init__ says super().__init__(f"..{field}..") and keeps the field: made, raised. -/
namespace PySem
namespace EIX
open PySem.W PySem.Calls PyProof.Rows PySem.HandSPX
/-! ### the text of __init__, its places left open -/
def eA (f : Str) (p1 p2 : Pos) : Arguments := { posonlyargs := [], args := [{ arg := "self", annotation := none, pos := p1 }, { arg := f, annotation := none, pos := p2 }], vararg := none, kwonlyargs := [], kw_defaults := [], kwarg := none, defaults := [] }
def eB (f : Str) (es : List Expr) (jp p0 p1 p2 p3 p4 q1 q2 q3 q4 : Pos) : List Stmt :=
  [.Expr (.Call (.Attribute (.Call (.Name "super" p0) [] [] p1) "__init__" p2) [.JoinedStr es jp] [] p3) p4, .Assign [.Attribute (.Name "self" q1) f q2] (.Name f q3) q4]
def eS (f : Str) : Scope := { kind := .function, names := [(PySem.Str.ofString "self", .local), (f, .local), (PySem.Str.ofString "__class__", .free), (PySem.Str.ofString "super", .globalImplicit)], isGenerator := false, isCoroutine := false, more := [] }
/-- what the written part says of the class at C and of its __init__ at fI; cc: the cell of __class__, cda: the code's record -/
structure ExTxt (prog : Program) (K : Frag) (mg : Str → Option Value) (x f : Str) (es : List Expr) (C fI : Addr) : Prop where
  gC : mg x = some (.ref C)
  cls : ∃ nm q N bs bm sn sub ab col dd k0 k1 k2 k3 k5, K.lookup C = some (excClassObj nm q C N bs bm true sn sub ab col dd k0 k1 k2 k3 k5 "ValueError.__new__") ∧ refsVE bm = true
  sa : findIn K (.ref C) "__setattr__" = some (some (.builtin "object.__setattr__"))
  noN : findIn K (.ref C) f = some none
  iC : findIn K (.ref C) "__init__" = some (some (.ref fI))
  tC : typeIn K (.ref fI) = some (.type "function")
  kC : keepIn K (.ref C) = true
  exC : subIn K (.ref C) (.type "BaseException") = some true
  tyC : typeIn K (.ref C) = some (.type "type")
  sup : ks_superIn K C C "__init__" = some (some (.builtin "ValueError.__init__"))
  subV : subIn K (.ref C) (.type "ValueError") = some true
  mroC : mroIn K C (.ref C) = some true
  thp : nsIn K cStatics "thirdparty.any" = some none
  mgS : mg "super" = none
  top : (prog.main.scope.names.lookup ("super" : Str)).isSome = false
  fn : ∃ (qual : Str) (oc doc pm ct cl ccl : Value) (an od cld cdd : Option Addr) (osl csl ccs : Array (Option Value)) (cc cda : Addr) (vs : Array Value) (file : Str) (tf : Tok) (p1 p2 jp s0 s1 s2 s3 s4 q1 q2 q3 q4 : Pos),
    K.lookup fI = some ⟨oc, od, .func (ksFn "__init__" qual (eA f p1 p2) (eB f es jp s0 s1 s2 s3 s4 q1 q2 q3 q4) (eS f) .none .none doc pm an (.ref cda) ct cc), osl⟩ ∧ codeIn K (.ref cda) qual = true ∧
    K.lookup cc = some ⟨cl, cld, .cell (some (.ref C)), csl⟩ ∧ K.lookup cda = some ⟨ccl, cdd, .fields vs, ccs⟩ ∧ vs[2]? = some (.str file tf) ∧ ((prog.main.file : Str) == file) = true ∧ (s2.endLine == s3.line) = true
/-- what __init__ leaves of a fresh exception at x -/
structure Left (h h' : Heap) (x C dx t1 : Addr) (f : Str) (v : Value) : Prop where
  keep : ∀ b o, b ≠ x → h.get? b = some o → h'.get? b = some o
  obj : h'.get? x = some { cls := .ref C, dict := some dx, data := .fields #[.ref t1, .none, .none, .none, .bool false, .none] }
  dbig : h.objs.size ≤ dx
  dne : dx ≠ x
  ns : h'.Ns1 dx (fun y => if y = f then some v else none)
theorem rest1 (v : Value) : [v].length ≤ sizeLine := by
  rw [sizeLine_eq]
  exact (by decide : 1 ≤ 16777216)
/-- the field's name is none of the others -/
structure FldOk (f : Str) : Prop where
  lkf : (eS f).names.lookup f = some .local
  lks : (eS f).names.lookup ("self" : Str) = some .local
  lkc : (eS f).names.lookup ("__class__" : Str) = some .free
  lku : (eS f).names.lookup ("super" : Str) = some .globalImplicit
  cel : ∀ y ∈ (eS f).names, y.2 ≠ .cell
  dbg : (f == ("__debug__" : Str)) = false
  ms : ∀ u v : Value, [(("self" : Str), u), (f, v)].reverse.lookup ("self" : Str) = some u
  mf : ∀ u v : Value, [(("self" : Str), u), (f, v)].reverse.lookup f = some v
  bnd : ∀ (qual : Str) (body : List Stmt) (doc pm ct : Value) (an : Option Addr) (cda cc : Addr) (p1 p2 : Pos) (u v : Value), bindArgs (ksFn "__init__" qual (eA f p1 p2) body (eS f) .none .none doc pm an (.ref cda) ct cc) ⟨[u, v], []⟩ = pure [(("self" : Str), u), (f, v)]
section
variable {prog : Program} {w : World} {A : Around} {R : Result → Shared → Prop} {s : Shared} {K : Frag} {mg mb : Str → Option Value} {x f : Str} {es : List Expr} {C fI : Addr}
theorem call_eq {o : Expr} {name : Str} {jp p2 p3 : Pos} {env : Env} (h : (p2.endLine == p3.line) = true) : eval (.Call (.Attribute o name p2) [.JoinedStr es jp] [] p3) env = (do
      let ov ← attributeBase o name env (eval o env)
      standAt p2.atName
      let (f, first) ← holding [ov] (getMethod ov name (do return (← importBound o env).getD true))
      callWith p3 f first (backTo p3 (starEach [.JoinedStr es jp] env)) []) := by
  rw [show eval (.Call (.Attribute o name p2) [.JoinedStr es jp] [] p3) env = (do
      let ov ← attributeBase o name env (eval o env)
      standAt p2.atName
      methodCall o name p2 p3 env ov 1 (backTo p3 (starEach [.JoinedStr es jp] env)) []) from rfl]
  unfold methodCall methodCallPos methodCallForm calleeOf
  simp [h, starEach, backTo]
/-- the bound __init__ called -/
theorem ex_bound {h : Heap} {g : Array GenState} {d : Drawn} {t : Nat} {os : OsState} {E : Value → Shared → Prop} {u a t0 : Addr} {v : Value} {Q : Value → Shared → Prop} (T : ExTxt prog K mg x f es C fI) (X : K.In h) (hu : h.get? u = some (kxs_mw "ValueError.__init__" a)) (hx : h.get? a = some (excO C t0))
    (hq : ∀ h' t1, (∀ b o, b ≠ a → h.get? b = some o → h'.get? b = some o) → h'.get? a = some (excO C t1) → Q .none ⟨h', g, d, t, os⟩) : wpAny (model prog w) A (call (.ref u) [v]) Q E ⟨h, g, d, t, os⟩ := by
  obtain ⟨nm, q, N, bs, bm, sn, sub, ab, col, dd, k0, k1, k2, k3, k5, hC, hbm⟩ := T.cls
  refine wpAny_call (codeAny_of_tree ?_)
  show wpAny _ A.in1 (callAny (.ref u) ⟨[v], []⟩) _ _ _
  simp only [callAny]
  refine wpAny_bind (wpAny_load hu ?_)
  simp only [kxs_mw, show (Value.type "method-wrapper" == Value.type "method" || Value.type "method-wrapper" == Value.type "builtin_function_or_method" || Value.type "method-wrapper" == Value.type "method-wrapper") = true by decide, if_true]
  refine KFB.if_so (by decide) ?_
  refine wpAny_bind (check_bound_init F.excBase_ValueError.toExcCallFacts (X _ _ hC) hx rfl ?_)
  refine wpAny_bind (wpAny_pure (wpAny_pure ?_))
  refine ⟨plainId_quiet F.excBase_ValueError.init.plain _, codeAny_builtin F.excBase_ValueError.initEntry ?_⟩
  exact exc_init_tree (cls := .ref C) (t0 := t0) (dv := none) (c2 := .none) (c3 := .none) (b4 := .bool false) hx (rest1 v) fun h' k e' _ => hq h' _ k e'
theorem ex_init (T : ExTxt prog K mg x f es C fI) (O : FldOk f) {a t0 : Addr} {v : Value} (X : K.In s.heap) (gl : s.heap.Ns mainGlobals mg) (bl : s.heap.Ns builtinsNs mb) (hb : mb "super" = some (.type "super")) (lim : s.heap.NoLimit) (hx : s.heap.get? a = some (excO C t0)) (hna : K.lookup a = none) (hroom : A.depth < recursionLimit)
    (he : ∀ (jp : Pos) (A : Around) (E : Value → Shared → Prop) (s' : Shared) (env : Env) (m : Str → Option Value) (Q : Value → Shared → Prop), env.scope = eS f → s'.heap.Ns env.locals m → m f = some v → (∀ u t, Q u { s' with toks := t }) → wpAny (model prog w) A (eval (.JoinedStr es jp) env) Q E s')
    (hq : ∀ h' tk dx t1, Left s.heap h' a C dx t1 f v → R (.ok (.ret .none)) { s with heap := h', toks := tk }) : codeAny (model prog w) A (.call (.ref fI) ⟨[.ref a, v], []⟩) R s := by
  obtain ⟨qual, oc, doc, pm, ct, cl, ccl, an, od, cld, cdd, osl, csl, ccs, cc, cda, vs, file, tf, p1, p2, jp, s0, s1, s2, s3, s4, q1, q2, q3, q4, ho, hcd, hcell, hcode, hvs, hfile, hline⟩ := T.fn
  obtain ⟨nm, q, N, bs, bm, sn, sub, ab, col, dd, k0, k1, k2, k3, k5, hC, hbm⟩ := T.cls
  have hcl : clsIn K C = some { name := nm, bases := bs, mro := .ref C :: bm, ns := N, qualname := q, hasDict := true, slotNames := sn, subclasses := sub, abstract := ab, collection := col, hasDel := false } := by unfold clsIn; rw [hC] <;> rfl
  obtain ⟨hp, g, d, tk, os⟩ := s
  refine ks_codeAny_call_defAt (fd := ksFn "__init__" qual (eA f p1 p2) (eB f es jp s0 s1 s2 s3 s4 q1 q2 q3 q4) (eS f) .none .none doc pm an (.ref cda) ct cc) (binds := [("self", .ref a), (f, v)]) hroom (X _ _ ho) rfl lim (codeRec_of X hcd) rfl (BindsTo.of_eq (O.bnd _ _ _ _ _ _ _ _ _ _ _ _)) O.cel (fun y hy => ?_) (fun h₁ hns k => ?_)
  · rcases List.mem_cons.mp hy with rfl | hy
    · exact O.lks
    · obtain rfl := List.mem_singleton.mp hy
      exact O.lkf
  generalize hL : hp.objs.size = L at *
  have xL : L ≠ a := fun z => by rw [← hL] at z; exact absurd (Heap.lt_size hx) (by rw [← z]; exact Nat.lt_irrefl _)
  have X₁ : K.In h₁ := X.keeps k
  have hx₁ := k _ _ hx
  -- super().__init__(..)
  refine ks_wpAt_execs_cons (ks_wpAt_Expr_any (ks_wpAt_MethodCall (ks_wpAt_super_base O.lku O.lkc (by decide) rfl (X₁ _ _ ho) rfl (ar := { arg := "self", annotation := none, pos := p1 }) rfl rfl (X₁ _ _ hcode) rfl hvs hfile T.top ?_) (call_eq hline)))
  refine ks_loadName_global rfl O.lku (loadGlobal_builtin (gl.keeps k) T.mgS (bl.keeps k) hb ⟨rfl, ?_⟩)
  refine wpAny_loadName_free rfl O.lkc rfl ⟨_, X₁ _ _ hcell, rfl⟩ ?_
  refine wpAny_loadName_local rfl O.lks hns (O.ms _ _) ?_
  have hC₁ := X₁ _ _ hC
  refine ks_wpAny_isType_cls hC₁ rfl ⟨rfl, ?_⟩
  refine ks_wpAny_call_super hC₁ rfl hx₁ rfl (fun c z => by cases z) (looks_mroIn X₁ T.mroC) fun h₂ e₂ k₂ => ?_
  have X₂ : K.In h₂ := X₁.keeps k₂
  have hx₂ := k₂ _ _ hx₁
  have I₂ : InstAt h₂ a (excO C t0) C none := ⟨hx₂, rfl, rfl, trivial⟩
  have hsup := T.sup
  unfold ks_superIn at hsup
  rw [hcl] at hsup
  refine kxs_getMethod kxs_ValueError e₂ (looks_opaque X₂ T.thp) (l₀ := .ref C :: bm) (fun A Q E s k q => wpAny_bind ((looks_clsIn X₂ hcl) A _ E s k (wpAny_pure q))) rfl X₂ hsup (I₂.type.andThen (looks_subIn X₂ T.subV)) (ks_ne X₂ I₂ hcl) (by decide) ?_
  generalize hU : h₂.objs.size = U at *
  have k₃ : ∀ b o, h₂.get? b = some o → (h₂.push (kxs_mw "ValueError.__init__" a)).get? b = some o := fun b o z => Heap.get?_push_of_some _ z
  have hU₃ : (h₂.push (kxs_mw "ValueError.__init__" a)).get? U = some (kxs_mw "ValueError.__init__" a) := by rw [← hU]; exact Heap.get?_push_at rfl rfl
  have hns₃ : (h₂.push (kxs_mw "ValueError.__init__" a)).Ns L (fun y => [(("self" : Str), Value.ref a), (f, v)].reverse.lookup y) := (hns.keeps k₂).keeps k₃
  refine kxs_callWith (i := "ValueError.__init__") (u := U) (x := a) (by rfl) (evalArgs_plain ?_)
  refine Calls.spliced_cons (he jp _ _ _ _ _ _ rfl hns₃ (O.mf _ _) fun u t => Calls.spliced_nil ⟨hU₃, ?_⟩)
  refine ex_bound T (X₂.keeps k₃) hU₃ (k₃ _ _ hx₂) fun h₄ t1 k₄ hx₄ => ?_
  have X₄ : K.In h₄ := fun b o z => k₄ b o (fun w => by rw [w, hna] at z; cases z) (X₂.keeps k₃ _ _ z)
  have hns₄ : h₄.Ns L (fun y => [(("self" : Str), Value.ref a), (f, v)].reverse.lookup y) := by
    obtain ⟨oL, es', ep, e1, e2, e3⟩ := hns₃
    exact ⟨oL, es', ep, k₄ _ _ xL e1, e2, e3⟩
  have hx4' : hp.objs.size ≤ h₄.objs.size := by
    obtain ⟨oL, es', ep, e1, e2, e3⟩ := hns₄
    rw [hL]
    exact Nat.le_of_lt (Heap.lt_size e1)
  -- self.field = field
  refine ks_wpAt_execs_cons (wpAt_of_wpAny (plainObj_wpAny_Assign_Attribute ?_))
  refine wpAny_Name (wpAny_loadName_local rfl O.lkf hns₄ (O.mf _ _) ?_) O.dbg
  refine wpAny_Name (wpAny_loadName_local rfl O.lks hns₄ (O.ms _ _) ?_) (by decide)
  refine set_plain X₄ (ox := excO C t1) (od := none) ⟨hx₄, rfl, rfl, trivial⟩ T.sa ?_
  refine exc_osa X₄ hx₄ hcl (show refsVE (.ref C :: bm) = true from hbm) rfl T.noN (fun h₅ tk₅ dx k₅ dn dne hx₅ hn₅ => ?_)
  refine wpAt_of_wpAny (wpAny_execs_nil (hq h₅ tk₅ dx t1 ⟨fun b o hb z => k₅ b o hb (k₄ b o hb (k₃ b o (k₂ b o (k b o z)))), hx₅, Nat.le_trans hx4' dn, dne, hn₅⟩))
/-- C(v): a made one -/
structure Made (h h' : Heap) (a C d : Addr) (f : Str) (v : Value) : Prop where
  keep : ∀ b o, h.get? b = some o → h'.get? b = some o
  new : h.objs.size ≤ a
  obj : ∃ oe vs, h'.get? a = some oe ∧ oe.cls = .ref C ∧ oe.dict = some d ∧ oe.data = .fields vs ∧ vs[1]? = some .none
  dbig : h.objs.size ≤ d
  dne : d ≠ a
  ns : h'.Ns1 d (fun y => if y = f then some v else none)
theorem ex_made (T : ExTxt prog K mg x f es C fI) (O : FldOk f) {v : Value} (X : K.In s.heap) (gl : s.heap.Ns mainGlobals mg) (bl : s.heap.Ns builtinsNs mb) (hb : mb "super" = some (.type "super")) (lim : s.heap.NoLimit) (hroom : A.depth + 1 < recursionLimit)
    (he : ∀ (jp : Pos) (A : Around) (E : Value → Shared → Prop) (s' : Shared) (env : Env) (m : Str → Option Value) (Q : Value → Shared → Prop), env.scope = eS f → s'.heap.Ns env.locals m → m f = some v → (∀ u t, Q u { s' with toks := t }) → wpAny (model prog w) A (eval (.JoinedStr es jp) env) Q E s')
    (hq : ∀ h' tk a d, Made s.heap h' a C d f v → R (.ok (.ret (.ref a))) { s with heap := h', toks := tk }) : codeAny (model prog w) A (.call (.ref C) ⟨[v], []⟩) R s := by
  obtain ⟨nm, q, N, bs, bm, sn, sub, ab, col, dd, k0, k1, k2, k3, k5, hC, hbm⟩ := T.cls
  obtain ⟨hp, g, dr, tk, os⟩ := s
  have k : ∀ b o, hp.get? b = some o → ((hp.push (kdv_tup [v])).push (excO C hp.objs.size)).get? b = some o := fun b o z => Heap.get?_push_of_some _ (Heap.get?_push_of_some _ z)
  have hget : ((hp.push (kdv_tup [v])).push (excO C hp.objs.size)).get? (hp.objs.size + 1) = some (excO C hp.objs.size) := by heap_get
  have hna : K.lookup (hp.objs.size + 1) = none := by
    cases z : K.lookup (hp.objs.size + 1) with
    | none => rfl
    | some o => exact absurd (Nat.lt_of_succ_lt (Heap.lt_size (show hp.get? (hp.objs.size + 1) = some o from X _ _ z))) (Nat.lt_irrefl _)
  refine call_own F.excBase_ValueError (fun X => refsVE_contains X bm hbm) (X _ _ hC) (looks_findIn X T.iC) (fun self => bind_fn X self T.tC) (rest1 v) ?_
  refine ex_init (s := ⟨(hp.push (kdv_tup [v])).push (excO C hp.objs.size), g, dr, tk, os⟩) T O (X.keeps k) (gl.keeps k) (bl.keeps k) hb (lim.keeps k) hget hna hroom he fun h' tk' dx t1 ⟨k', hx, dn, dne, hns⟩ => ?_
  have old : ∀ b o, hp.get? b = some o → h'.get? b = some o := fun b o z => k' b o (Nat.ne_of_lt (Nat.lt_succ_of_lt (Heap.lt_size z))) (k b o z)
  have z : hp.objs.size + 1 + 1 ≤ dx := by
    first | exact dn | (simpa only [Heap.size_push] using dn)
  exact ⟨rfl, hq h' tk' (hp.objs.size + 1) dx ⟨old, Nat.le_succ _, ⟨_, _, hx, rfl, rfl, rfl, rfl⟩, Nat.le_trans (Nat.le_trans (Nat.le_succ _) (Nat.le_succ _)) z, dne, hns⟩⟩
end
end EIX
end PySem

namespace LV
open PySem PySem.Spec PyProof.Rows L2
/-- the parts of the text that __init__ hands on: constants, and the field (an int) -/
def PartOk (f : Str) : Expr → Bool
  | .Constant (.str x) _ _ => decide (x.length ≤ 200)
  | .FormattedValue (.Name g _) (-1) none _ => g == f
  | _ => false
theorem small_int {i : Int} (h : i.natAbs.log2 < 1920) : (Str.ofString (toString i)).length ≤ 2000 := by
  have e := int_text_length_le (k := 1920) (by decide) h
  rw [PySem.ofString_length]
  omega
section
variable {prog : Program} {w : World} {A : Around} {E : Value → Shared → Prop} {f : Str} {env : Env}
/-- one part says some text -/
theorem part_says {e : Expr} (hp : PartOk f e = true) {i : Int} {ti : Tok} {m : Str → Option Value} (hi : i.natAbs.log2 < 1920) (hs : env.scope = EIX.eS f) (O : EIX.FldOk f) :
    ∃ y : Str, y.length ≤ 2000 ∧ ∀ (s : Shared) (Q : Value → Shared → Prop), s.heap.Ns env.locals m → m f = some (.int i ti) → (∀ tk u, Q (.str y tk) { s with toks := u }) → wpAny (model prog w) A (eval e env) Q E s := by
  have hk : env.scope.kind = .function := by rw [hs]; rfl
  have hl : env.kindOf f = some .local := by
    show env.scope.names.lookup f = _
    rw [hs]
    exact O.lkf
  unfold PartOk at hp
  split at hp
  · rename_i x j p
    refine ⟨x, Nat.le_trans (of_decide_eq_true hp) (by decide), fun s Q _ _ q => Calls.Constant_str (q _ _)⟩
  · rename_i g p p'
    have eg : g = f := by simpa using hp
    subst eg
    refine ⟨toString i, ?_, fun s Q hn hm q => wpAny_FormattedValue_plain (wpAny_Name (wpAny_loadName_local hk hl hn hm (wpAny_formatField_int hi (q _ _))) O.dbg)⟩
    exact small_int hi
  · cases hp
theorem joins_say {i : Int} {ti : Tok} {m : Str → Option Value} (hi : i.natAbs.log2 < 1920) (hs : env.scope = EIX.eS f) (O : EIX.FldOk f) : ∀ (es : List Expr), es.all (PartOk f) = true → ∀ (acc : Str) (s : Shared) (R : Str → Shared → Prop), acc.length + 2000 * es.length ≤ sizeLine → s.heap.Ns env.locals m → m f = some (.int i ti) →
    (∀ out u, out.length ≤ sizeLine → R out { s with toks := u }) → Joins (model prog w) A E (evalEach es env) acc R s := by
  intro es
  induction es with
  | nil =>
    intro _ acc s R hz hn hm q
    have e0 : evalEach [] env = [] := by first | rfl | simp [evalEach]
    rw [e0]
    exact q acc s.toks (by simpa using hz)
  | cons e r ih =>
    intro ha acc s R hz hn hm q
    rw [List.all_cons, Bool.and_eq_true] at ha
    have e0 : evalEach (e :: r) env = eval e env :: evalEach r env := by first | rfl | simp [evalEach]
    rw [e0]
    obtain ⟨y, hy, go⟩ := part_says (prog := prog) (w := w) (A := A) (E := E) ha.1 hi hs O
    rw [List.length_cons] at hz
    have hl : (acc ++ y).length = acc.length + y.length := by first | exact strLen_append _ _ | simp
    exact go s _ hn hm fun tk u => ⟨y, tk, rfl, by rw [hl]; omega, ih ha.2 (acc ++ y) { s with toks := u } R (by rw [hl]; omega) hn hm fun out u' ho => q out u' ho⟩
theorem joined_says {e1 e2 : Expr} {r : List Expr} (ha : (e1 :: e2 :: r).all (PartOk f) = true) (hn : r.length ≤ 10) {i : Int} {ti : Tok} (hi : i.natAbs.log2 < 1920) (O : EIX.FldOk f) (jp : Pos) (A : Around) (E : Value → Shared → Prop) (s : Shared) (env : Env) (m : Str → Option Value) (Q : Value → Shared → Prop)
    (hs : env.scope = EIX.eS f) (hns : s.heap.Ns env.locals m) (hm : m f = some (.int i ti)) (q : ∀ u t, Q u { s with toks := t }) : wpAny (model prog w) A (eval (.JoinedStr (e1 :: e2 :: r) jp) env) Q E s := by
  refine wpAny_JoinedStr (joins_say hi hs O _ ha Str.empty s _ ?_ hns hm fun out u ho => ⟨ho, q _ _⟩)
  have z : Str.empty.length = 0 := by first | rfl | decide
  rw [z, sizeLine_eq, List.length_cons, List.length_cons]
  omega
end
section
variable {X : Cx} {C fI : Addr} {x f : Str} {es : List Expr}
theorem relO_fld {v : V} {v' : Value} (r : RelV v v') (f g : Str) : RelO (List.lookup g [(f, v)]) (if g = f then some v' else none) := by
  by_cases h : g = f
  · subst h
    rw [if_pos rfl, show List.lookup g [(g, v)] = some v by simp [List.lookup]]
    exact r
  · rw [if_neg h, show List.lookup g [(f, v)] = none by simp [List.lookup, show (g == f) = false by simpa using h]]
    trivial
/-- C(a) of an int: the error and its own dict -/
def tMkEx (C : Addr) (f : Str) (ta : TA) : L2.St → Hp → XK → Prop := fun σ H Q => ta σ H fun vs H1 => ∃ i : Int, vs = [.int i] ∧ i.natAbs.log2 < 1920 ∧ ∀ d, H1 d = none → Q (.ref C) (some d) (upd H1 d (.xd [(f, .int i)]))
theorem pmk_ex {a : Expr} {ta : TA} {p pos : Pos} {k : Nat} {e1 e2 : Expr} {r : List Expr} (T : EIX.ExTxt X.prog X.K X.mg x f (e1 :: e2 :: r) C fI) (O : EIX.FldOk f) (hp : (e1 :: e2 :: r).all (PartOk f) = true) (hn : r.length ≤ 10) (hr : Room k X.A) (ha : PA X [a] ta) (hg : Gl X x)
    (hd : (x == ("__debug__" : Str)) = false := by decide) (he : starEach (a :: []) X.env = (false, eval a X.env) :: starEach [] X.env := by rfl) (hpl : (backTo pos (starEach [] X.env)).any (·.1) = false := by rfl) : PMk X (.Call (.Name x p) [a] [] pos) (tMkEx C f ta) := by
  intro pins s σ H Q I h
  refine wpAny_Call_Name_kw (ld_glob I hg T.gC ?_ hd)
  refine PySem.W.callWith_K (h₀ := X.base) I.ok.mod.kin T.kC (thn (ha.run pos pins s σ H _ I h) fun us s1 ⟨vs, H1, I1, r1, i, ev, hi, q1⟩ => ⟨I1.kIn, ?_⟩) he hpl
  subst ev
  cases r1 with
  | cons rv rn =>
    rename_i v' us'
    cases rn
    obtain ⟨ti, rfl⟩ := rv
    show wpAny _ _ (call (.ref C) [.int i ti]) _ _ _
    have hlim := I1.nolimit
    have gl := I1.mod.glob.keeps I1.bk
    obtain ⟨mb, b1, b2⟩ := I1.mod.blt
    have bl := b1.keeps I1.bk
    obtain ⟨hp', g, dr, tk, os⟩ := s1
    refine wpAny_call (EIX.ex_made T O I1.kIn gl bl ((b2 "super" (by decide)).trans (by first | rfl | decide +kernel | kernel_rfl)) hlim (by have := hr.dp; omega) (fun jp A E s' env m Q h1 h2 h3 h4 => joined_says hp hn hi O jp A E s' env m Q h1 h2 h3 h4) fun h' tk' e d M => ?_)
    show MkP X pins σ Q (.ref e) ⟨h', g, dr, tk', os⟩
    obtain ⟨oe, fv, hoe, hc, hd, hdat, h1⟩ := M.obj
    obtain ⟨G', g1, g2⟩ := restrict h' fun b => decide (b ≠ e)
    have gk : ∀ b, b ≠ e → G'.get? b = h'.get? b := fun b hb => g1 b (decide_eq_true hb)
    have ge : G'.get? e = none := g2 e (by simp)
    have old : ∀ b o, hp'.get? b = some o → G'.get? b = some o := fun b o q => (gk b (Nat.ne_of_lt (Nat.lt_of_lt_of_le (Heap.lt_size q) M.new))).trans (M.keep b o q)
    have ob : ObjOk X.prog X.w (upd H1 d (.xd [(f, .int i)])) G' d (.xd [(f, .int i)]) := ⟨_, M.ns.at (fun o q => (gk d M.dne).trans q), fun g => relO_fld (v := .int i) (v' := .int i ti) ⟨ti, rfl⟩ f g⟩
    refine ⟨e, oe, fv, ⟨G', g, dr, tk', os⟩, _, .ref C, some d, rfl, I1.laid (t' := tk') old M.dbig ob, fun b o q => ?_, ge, hoe, ⟨hc, hd⟩, hdat, h1, ?_, rfl, I1.bare, raises_own T.exC T.tyC, q1 d (I1.hok.fresh M.dbig)⟩
    · by_cases hb : b = e
      · rw [hb] at q; rw [ge] at q; cases q
      · exact (gk b hb).symm.trans q
    · rw [upd_ne (Ne.symm M.dne)]
      exact I1.hok.fresh M.new
/-- raise C(a) -/
theorem ps_raiseEx {a : Expr} {ta : TA} {W : WX} {p pos pos2 : Pos} {k : Nat} {e1 e2 : Expr} {r : List Expr} (hc : X.calm = true) (T : EIX.ExTxt X.prog X.K X.mg x f (e1 :: e2 :: r) C fI) (O : EIX.FldOk f) (hp : (e1 :: e2 :: r).all (PartOk f) = true) (hn : r.length ≤ 10) (hr : Room k X.A) (tk : Takes X W) (ha : PA X [a] ta) (hg : Gl X x)
    (hd : (x == ("__debug__" : Str)) = false := by decide) (he : starEach (a :: []) X.env = (false, eval a X.env) :: starEach [] X.env := by rfl) (hpl : (backTo pos (starEach [] X.env)).any (·.1) = false := by rfl) :
    PS X (.Raise (some (.Call (.Name x p) [a] [] pos)) none pos2) (fun _ σ H => tMkEx C f ta σ H fun cls d H' => W cls d σ H') := ps_raise hc tk (pmk_ex T O hp hn hr ha hg hd he hpl)
end
end LV
/-! try with several except clauses, each with a name or without. -/
namespace LV
open PySem PySem.Spec PyProof.Rows L2
/-- behind a suite whose exception had the name in slot i -/
def freed (D : Ends) (i : Nat) : Ends := { nx := fun σ H => D.nx (σ.set i none) H, rt := D.rt, bk := fun σ H => D.bk (σ.set i none) H, ct := fun σ H => D.ct (σ.set i none) H }
/-- one clause: its class, the slot of its name, its suite's reading -/
structure Clause where
  c : Value
  slot : Option Nat
  ts : Addr → Value → Option Addr → TS
/-- what the clauses wish of an exception -/
def wCl (K : PySem.W.Frag) (Wout : WX) (D : Ends) : List Clause → WX
  | [] => Wout
  | k :: r => fun cls d σ H => ∃ b, PySem.W.exmOne K cls k.c = some b ∧ (b = false → wCl K Wout D r cls d σ H) ∧
      (b = true → ∀ a, H a = none → match k.slot with
        | none => k.ts a cls d D σ H
        | some i => k.ts a cls d (freed D i) (σ.set i (some (.ref a))) H)
inductive ClOk (X : Cx) : List ExceptHandler → List Clause → Prop
  | nil : ClOk X [] []
  | bare {x : Str} {c : Value} {ts : Addr → Value → Option Addr → TS} {b0 : Stmt} {suite : List Stmt} {np hp : Pos} {hs : List ExceptHandler} {l : List Clause} (nm : Names X x c)
      (su : ∀ (a : Addr) (oe : Obj) (cls : Value) (d : Option Addr) (pn : List (Addr × Obj)), Zc cls d oe → (∃ vs, oe.data = .fields vs) → PSs (X.suite a ((a, oe) :: pn)) (b0 :: suite) (ts a cls d)) (r : ClOk X hs l) :
      ClOk X (.ExceptHandler (some (.Name x np)) none (b0 :: suite) hp :: hs) (⟨c, none, ts⟩ :: l)
  | named {x n : Str} {c : Value} {i : Nat} {ts : Addr → Value → Option Addr → TS} {b0 : Stmt} {suite : List Stmt} {np hp : Pos} {hs : List ExceptHandler} {l : List Clause} (hi : X.N[i]? = some n) (hl : X.env.kindOf n = some .local) (nm : Names X x c)
      (su : ∀ (a : Addr) (oe : Obj) (cls : Value) (d : Option Addr) (pn : List (Addr × Obj)), Zc cls d oe → (∃ vs, oe.data = .fields vs) → PSs (X.suite a ((a, oe) :: pn)) (b0 :: suite) (ts a cls d)) (r : ClOk X hs l) :
      ClOk X (.ExceptHandler (some (.Name x np)) (some n) (b0 :: suite) hp :: hs) (⟨c, some i, ts⟩ :: l)
section
variable {X : Cx} {Wout : WX}
/-- the exception, caught and standing on the ground -/
structure Held (X : Cx) (pins : List (Addr × Obj)) (σ : L2.St) (H : Hp) (cls : Value) (d : Option Addr) (a : Addr) (B : Heap) (sI s3 : Shared) : Prop where
  J : Inv X pins σ H sI
  nb : ∀ b o, sI.heap.get? b = some o → b ∉ frs X.stack → B.get? b = some o
  fl : HandSPX.FlyingZ B (X.env :: X.outer) a (Zc cls d) s3.heap
  up : sI.heap.UpToSlots s3.heap
  na : H a = none
  os : s3.os = sI.os
  ag : AllBare s3.gens
theorem Held.apart {pins : List (Addr × Obj)} {σ : L2.St} {H : Hp} {cls : Value} {d : Option Addr} {a : Addr} {B : Heap} {sI s3 : Shared} (Z : Held X pins σ H cls d a B sI s3) (hf : X.env.frame = some X.env.locals) : a ≠ X.env.locals ∧ a ∉ X.fs := by
  obtain ⟨oe, vs, he, _, hd⟩ := Z.fl.there
  have out : a ∉ frs (X.env :: X.outer) := fun hm => by
    obtain ⟨_, o, e, nf⟩ := Z.fl.2.2.1.mem hm
    cases he.symm.trans e
    exact nf _ hd
  refine ⟨fun z => out (List.mem_filterMap.mpr ⟨X.env, List.mem_cons_self, by rw [hf, z]⟩), fun hm => ?_⟩
  obtain ⟨e, he', q⟩ := List.mem_filterMap.mp hm
  exact out (List.mem_filterMap.mpr ⟨e, List.mem_cons_of_mem _ he', q⟩)
theorem Held.inv {pins : List (Addr × Obj)} {σ : L2.St} {H : Hp} {cls : Value} {d : Option Addr} {a : Addr} {B : Heap} {sI s3 : Shared} (Z : Held X pins σ H cls d a B sI s3) : Inv X pins σ H s3 := Z.J.landed Z.nb Z.fl.1 Z.up Z.os Z.ag
/-- a suite's end is the statement's -/
theorem suite_end {pins : List (Addr × Obj)} {D : Ends} {a : Addr} {oe : Obj} {f : Flow} {s : Shared} (ok : X.Ok) (h : SP (X.suite a ((a, oe) :: (X.pn ++ pins))) [] D f s) : SP X pins D f s := by
  cases f with
  | next => obtain ⟨σ, H, S, q⟩ := h; exact ⟨_, _, S.unsuite ok, q⟩
  | brk => obtain ⟨σ, H, S, q⟩ := h; exact ⟨_, _, S.unsuite ok, q⟩
  | cont => obtain ⟨σ, H, S, q⟩ := h; exact ⟨_, _, S.unsuite ok, q⟩
  | ret u => obtain ⟨v, σ, H, S, r, q⟩ := h; exact ⟨_, _, _, S.unsuite ok, r, q⟩
theorem clauses (hs : X.stack = X.env :: X.outer) (hf : X.env.frame = some X.env.locals) (hN : X.N.Nodup) (tk : Takes X Wout) {D : Ends} {pins : List (Addr × Obj)} {σ : L2.St} {H : Hp} {cls : Value} {d : Option Addr} {a : Addr} {B : Heap} {sI s3 : Shared}
    (Z : Held X pins σ H cls d a B sI s3) : ∀ {hds : List ExceptHandler} {l : List Clause}, ClOk X hds l → wCl X.K Wout D l cls d σ H → wpAny (model X.prog X.w) X.A (handleBy (.ref a) X.env hds) (SP X pins D) X.xe s3 := by
  have ok := Z.J.ok
  obtain ⟨nL, nF⟩ := Z.apart hf
  obtain ⟨oe3, vs3, he3, hz3, hd3⟩ := Z.fl.there
  have S3 := Z.inv.suite he3 hd3 Z.na nL nF
  have LT : PySem.W.Looks (model X.prog X.w) s3.heap (typeOf (.ref a)) cls := fun A Q E s k q => wpAny_typeOf_ref (k _ _ he3) (by rw [hz3.1]; exact q)
  have test : ∀ {x : Str} {c : Value} {np : Pos} {Q : Value → Shared → Prop} {E : Value → Shared → Prop}, Names X x c → Q c s3 → wpAny (model X.prog X.w) (X.A.mark (some (.ref a))) (eval (.Name x np) X.env) Q E s3 := fun nm q => by
    obtain ⟨g, db, m | ⟨m, bt, nn⟩⟩ := nm
    · exact ld_glob (X := X.suite a ((a, oe3) :: (X.pn ++ pins))) S3 g m q db
    · exact ld_blt (X := X.suite a ((a, oe3) :: (X.pn ++ pins))) S3 g m bt q nn db
  intro hds l h
  induction h with
  | nil =>
    intro w
    refine wpAny_handleBy_nil ?_
    obtain ⟨_, _, _, oe, vs, T, oT, ts', he, hz, hd, h1, hr⟩ := id Z.fl
    unfold PySem.passOn
    have out : wpAny (model X.prog X.w) X.A (setFlight (.ref a) X.env.frame) (fun _ s4 => wpAny (model X.prog X.w) X.A (throw (.ref a) : Sem Flow) (SP X pins D) X.xe s4) X.xe s3 := by
      rw [hf]
      exact HandSPX.setFlight_upZ Z.fl fun h4 hh4 up4 => wpAny_throw (tk _ _ ⟨a, B, sI, pins, σ, H, cls, d, rfl, Z.J, Z.nb, Z.up.trans up4, .inr (.inr (by rw [hs]; exact hh4)), Z.na, Z.os, Z.ag, w⟩)
    refine wpAny_bind (wpAny_field he hd h1 ?_)
    rw [if_neg (show ¬ ((Value.ref T == Value.none) = true) from by simp)]
    first | exact wpAny_bind (wpAny_pure (wpAny_bind out)) | exact wpAny_bind out
  | @bare x c ts b0 suite np hp hs' l' nm su r ih =>
    intro w
    obtain ⟨b, hb, no, yes⟩ := w
    refine wpAny_handleBy_cons (codeAny_handlers_test ?_) (by intro q; cases q)
    refine test nm ((PySem.W.exm_one (M := model X.prog X.w) Z.inv.kIn LT hb).here ?_)
    cases b with
    | false => exact ih (no rfl)
    | true =>
      refine codeAny_handlers_suite (HandSPX.lands_againZ Z.fl fun h4 fl4 up4 => ?_)
      obtain ⟨oe4, vs4, he4, hz4, hd4⟩ := fl4.there
      have S4 := (Z.J.landed (s' := { s3 with heap := h4 }) Z.nb fl4.1 (Z.up.trans up4) Z.os Z.ag).suite he4 hd4 Z.na nL nF
      exact wpAny_mono ((su a oe4 cls d (X.pn ++ pins) hz4 ⟨_, hd4⟩).run [] _ _ H _ S4 (yes rfl a Z.na)) (fun f s6 z => suite_end ok z) fun _ _ z => z.elim
  | @named x n c i ts b0 suite np hp hs' l' hi hl nm su r ih =>
    intro w
    obtain ⟨b, hb, no, yes⟩ := w
    refine wpAny_handleBy_cons (codeAny_handlers_test ?_) (by intro q; cases q)
    refine test nm ((PySem.W.exm_one (M := model X.prog X.w) Z.inv.kIn LT hb).here ?_)
    cases b with
    | false => exact ih (no rfl)
    | true =>
      refine codeAny_handlers_suite_as (HandSPX.lands_againZ Z.fl fun h4 fl4 up4 => ?_)
      obtain ⟨oe4, vs4, he4, hz4, hd4⟩ := fl4.there
      have S4 := (Z.J.landed (s' := { s3 with heap := h4 }) Z.nb fl4.1 (Z.up.trans up4) Z.os Z.ag).suite he4 hd4 Z.na nL nF
      refine store_ok (X := X.suite a ((a, oe4) :: (X.pn ++ pins))) (v := .ref a) S4 hN hi (.inl hl) rfl (fun s5 S5 => ?_) (.inr hl)
      refine wpAny_mono ((su a oe4 cls d (X.pn ++ pins) hz4 ⟨_, hd4⟩).run [] s5 _ H (freed D i) S5 (yes rfl a Z.na)) (fun f s6 z => ?_) fun _ _ z => z.elim
      cases f with
      | next => obtain ⟨_, _, S, q⟩ := z; exact gone_ok (S.unsuite ok) hN hi hl fun s7 J => ⟨_, _, J, q⟩
      | brk => obtain ⟨_, _, S, q⟩ := z; exact gone_ok (S.unsuite ok) hN hi hl fun s7 J => ⟨_, _, J, q⟩
      | cont => obtain ⟨_, _, S, q⟩ := z; exact gone_ok (S.unsuite ok) hN hi hl fun s7 J => ⟨_, _, J, q⟩
      | ret u => obtain ⟨_, _, _, S, rr, q⟩ := z; exact gone_ok (S.unsuite ok) hN hi hl fun s7 J => ⟨_, _, _, J, rr, q⟩
theorem ps_tryC {body : List Stmt} {h0 : ExceptHandler} {hds : List ExceptHandler} {l : List Clause} {pos : Pos} {tb : WX → TS} (hs : X.stack = X.env :: X.outer) (hf : X.env.frame = some X.env.locals) (hN : X.N.Nodup) (tk : Takes X Wout)
    (hb : ∀ (W : WX) (pn : List (Addr × Obj)) (xe : Value → Shared → Prop), Takes (X.tr pn xe) W → PassesOwn (model X.prog X.w) X.A X.env xe → PSs (X.tr pn xe) body (tb W)) (hh : ClOk X (h0 :: hds) l) :
    PS X (.Try body (h0 :: hds) [] [] pos) (fun D σ H => tb (wCl X.K Wout D l) D σ H) := by
  refine ⟨fun pins s σ H D I h => wpAny_Try_except ?_⟩
  have ok := I.ok
  have go := (hb (wCl X.K Wout D l) (X.pn ++ pins) (fun e s₁ => wpAny (model X.prog X.w) X.A (noteFrame e X.env) (fun _ s₂ => wpAny (model X.prog X.w) X.A (setFlight e none) (fun _ s₃ =>
    wpAny (model X.prog X.w) X.A (handleBy e X.env (h0 :: hds)) (SP X pins D) X.xe s₃) X.xe s₂) X.xe s₁) (fun u s' ⟨a, B, sI, pins', σ', H', cls, d, e, J', nb, up, sky, na, os, ag, w⟩ => ?_) PassesOwn.looking).run [] s σ H D (I.toTry _) h
  · refine wpAny_mono go (fun f s1 z => ?_) fun e s1 z => z
    cases f with
    | next => obtain ⟨σ', H', J, q⟩ := z; exact wpAny_execs_nil ⟨σ', H', J.ofTry ok, q⟩
    | brk => obtain ⟨σ', H', J, q⟩ := z; exact ⟨σ', H', J.ofTry ok, q⟩
    | cont => obtain ⟨σ', H', J, q⟩ := z; exact ⟨σ', H', J.ofTry ok, q⟩
    | ret u => obtain ⟨v, σ', H', J, r, q⟩ := z; exact ⟨v, σ', H', J.ofTry ok, r, q⟩
  · subst e
    rw [hs] at sky
    exact Sky.land Zc.steady (by rw [ok.frames, hs]) hf sky fun h3 fl3 up3 => clauses hs hf hN tk (s3 := { s' with heap := h3 }) ⟨J'.ofTry ok, nb, fl3, up.trans up3, na, os, ag⟩ hh w
end
end LV
/-! Short words: a def that stands in the text, its promise by its name; data, its kinds. -/
namespace LV
open PySem PySem.Spec PyProof.Rows L2
/-- all parameters given by their names, in their order -/
def KwB (K : PySem.W.Frag) (fd : FuncData) (ps : List Str) : Prop := ∀ (s : Shared) (us : List Value), K.In s.heap → us.length = ps.length → BindsTo s fd ⟨[], ps.zip us⟩ (ps.zip us)
/-- the def x keeps its promise sp (no defaults) -/
def Ok (P : Program) (w : World) (K : PySem.W.Frag) (mg : Str → Option Value) (base : Heap) (CX : CXT) (k : Nat) (x : Str) (ps : List Str) (sp : Sp) : Prop :=
  ∃ f fd, FnOk P w K mg base CX k f fd ps sp ∧ mg x = some (.ref f) ∧ PySem.W.keepIn K (.ref f) = true ∧ Binds K fd ps [] ∧ KwB K fd ps
/-- the def x of the text stands in the module -/
def Dn (K : PySem.W.Frag) (mg : Str → Option Value) (x : Str) (st : Stmt) (ps : List Str) : Prop := ∃ f fd, Fun K x x st f fd ∧ mg x = some (.ref f) ∧ Binds K fd ps [] ∧ KwB K fd ps
section
variable {P : Program} {w : World} {K : PySem.W.Frag} {mg : Str → Option Value} {base : Heap}
theorem Dn.ok {x : Str} {st : Stmt} {N ps : List Str} {k : Nat} {sp : Sp} (D : Dn K mg x st ps) (S : FnScope N ps (defScope st)) (len : ∀ vs H Q E, sp vs H Q E → vs.length = ps.length)
    (hbody : ∀ (f : Addr) (cdv : Value) (A : Around) (outer : List Env) (s : Shared) (H : Hp) (vs : List V) (Q : VK) (E : XK), Room k (A.deeper (envOfC x (defScope st) s.heap.objs.size f cdv)) → sp vs H Q E →
      ∃ t, PSs (cxOf CX0 P w K mg base N x (defScope st) f cdv A outer s H E).nox (defBody st) t ∧ t { nx := fun _ H' => Q .non H', rt := Q } (start N vs) H) : Ok P w K mg base CX0 (k + 1) x ps sp := by
  obtain ⟨f, fd, F, g, b, kb⟩ := D
  exact ⟨f, fd, F.ok S len (hbody f), g, F.kp, b, kb⟩
theorem Dn.okX {x : Str} {st : Stmt} {N ps : List Str} {k : Nat} {sp : Sp} (D : Dn K mg x st ps) (S : FnScope N ps (defScope st)) (len : ∀ vs H Q E, sp vs H Q E → vs.length = ps.length)
    (hbody : ∀ (f : Addr) (cdv : Value) (A : Around) (outer : List Env) (s : Shared) (H : Hp) (vs : List V) (Q : VK) (E : XK), Room k (A.deeper (envOfC x (defScope st) s.heap.objs.size f cdv)) → sp vs H Q E →
      ∃ t, PSs (cxOf (L2.CX P w) P w K mg base N x (defScope st) f cdv A outer s H E) (defBody st) t ∧ t { nx := fun _ H' => Q .non H', rt := Q } (start N vs) H) : Ok P w K mg base (L2.CX P w) (k + 1) x ps sp := by
  obtain ⟨f, fd, F, g, b, kb⟩ := D
  exact ⟨f, fd, F.okX S len (hbody f), g, F.kp, b, kb⟩
end
section
variable {X : Cx}
/-- a call of it by positions -/
theorem pe_ok {CX : CXT} {k j : Nat} {x : Str} {ps : List Str} {sp : Sp} {E : XK} {e : Expr} {es : List Expr} {t : TA} {p pos : Pos} (O : Ok X.prog X.w X.K X.mg X.base CX k x ps sp) (hr : Room j X.A) (hx : Passes CX X E) (ha : PA X (e :: es) t) (hj : k ≤ j := by decide) (hg : Gl X x := by rfl)
    (hd : (x == ("__debug__" : Str)) = false := by decide) (he : starEach (e :: es) X.env = (false, eval e X.env) :: starEach es X.env := by rfl) (hpl : (backTo pos (starEach es X.env)).any (·.1) = false := by rfl) :
    PE X (.Call (.Name x p) (e :: es) [] pos) (tCall sp [] E t) := by
  obtain ⟨f, fd, F, g, kp, b, _⟩ := O
  exact pe_call F (hr.mono hj) hg g kp b .nil hx ha hd he hpl
theorem pe_okS {CX : CXT} {k j : Nat} {x : Str} {ps : List Str} {sp : Sp} {E : L2.St → XK} {e : Expr} {es : List Expr} {t : TA} {p pos : Pos} (O : Ok X.prog X.w X.K X.mg X.base CX k x ps sp) (hr : Room j X.A) (hx : ∀ σ, PassesAt CX X σ (E σ)) (ha : PA X (e :: es) t) (hj : k ≤ j := by decide) (hg : Gl X x := by rfl)
    (hd : (x == ("__debug__" : Str)) = false := by decide) (he : starEach (e :: es) X.env = (false, eval e X.env) :: starEach es X.env := by rfl) (hpl : (backTo pos (starEach es X.env)).any (·.1) = false := by rfl) :
    PE X (.Call (.Name x p) (e :: es) [] pos) (tCallS sp E t) := by
  obtain ⟨f, fd, F, g, kp, b, _⟩ := O
  exact pe_callS F (hr.mono hj) hg g kp b hx ha hd he hpl
/-- a call of it, its one argument by the name -/
def tKw1 (sp : Sp) (E : L2.St → XK) (tk : TA) : TE := fun σ H Q => tk σ H fun zs H2 => zs.length = 1 ∧ sp zs H2 Q (E σ)
theorem pe_kw1 {CX : CXT} {k j : Nat} {x q : Str} {sp : Sp} {E : L2.St → XK} {kws : List Keyword} {tk : TA} {p pos : Pos} (O : Ok X.prog X.w X.K X.mg X.base CX k x [q] sp) (hr : Room j X.A) (hx : ∀ σ, PassesAt CX X σ (E σ)) (hkw : PK X kws tk) (hj : k ≤ j := by decide) (hg : Gl X x := by rfl)
    (hall : (backToKw pos (keywordEach kws X.env)).all (·.1.isSome) = true := by rfl) (hks : (backToKw pos (keywordEach kws X.env)).filterMap (·.1) = [q] := by rfl) (hdb : (x == ("__debug__" : Str)) = false := by decide)
    (hpl : ((backTo pos (starEach [] X.env)).any (·.1) || (backToKw pos (keywordEach kws X.env)).any (·.1.isNone)) = false := by rfl) : PE X (.Call (.Name x p) [] kws pos) (tKw1 sp E tk) := by
  obtain ⟨f, fd, F, g, kp, _, kb⟩ := O
  refine ⟨fun pins s σ H Q I h => wpAny_Call_Name_kw (ld_glob I hg g ?_ hdb)⟩
  refine PySem.W.callWith_KW0 (h₀ := X.base) I.ok.mod.kin kp hall (thn (hkw.run pos pins s σ H _ I h) ?_) hpl
  rintro ws s2 ⟨zs, H2, I2, rz, l2, q2⟩
  refine ⟨I2.kIn, ?_⟩
  rw [hks]
  have lw : ws.length = [q].length := rz.length.symm.trans l2
  refine wpAny_call (codeAny_mono ((F.mono hj).run X.A X.stack s2 H2 ⟨[], [q].zip ws⟩ ws zs Q (E σ) hr I2.env0 (kb s2 ws I2.kIn lw) rz q2) fun r s' hq => ?_)
  cases r with
  | error e => exact hx σ pins H2 s2 e s' I2 hq
  | ok fl =>
    cases fl with
    | ret u => exact I2.after hq
    | next => exact hq.elim
    | brk => exact hq.elim
    | cont => exact hq.elim
/-- built-in functions and classes by their names -/
theorem pe_b {id : String} {x : Str} {r : List V → Hp → VK → Prop} {e : Expr} {es : List Expr} {t : TA} {p pos : Pos} (hm : X.mg x = none) (hc : CallR X (.builtin id) r) (ha : PA X (e :: es) t) (hg : Gl X x := by rfl) (hv : bootBuiltins x = some (.builtin id) := by decide +kernel)
    (hn : x ≠ "__name__" := by decide) (hd : (x == ("__debug__" : Str)) = false := by decide) (he : starEach (e :: es) X.env = (false, eval e X.env) :: starEach es X.env := by rfl) (hpl : (backTo pos (starEach es X.env)).any (·.1) = false := by rfl) :
    PE X (.Call (.Name x p) (e :: es) [] pos) (tCB r t) := pe_callB hc hg hm hv ha hn hd he hpl
theorem pe_ty {T : String} {x : Str} {r : List V → Hp → VK → Prop} {e : Expr} {es : List Expr} {t : TA} {p pos : Pos} (hm : X.mg x = none) (hc : CallR X (.type T) r) (ha : PA X (e :: es) t) (hg : Gl X x := by rfl) (hv : bootBuiltins x = some (.type T) := by decide +kernel)
    (hn : x ≠ "__name__" := by decide) (hd : (x == ("__debug__" : Str)) = false := by decide) (he : starEach (e :: es) X.env = (false, eval e X.env) :: starEach es X.env := by rfl) (hpl : (backTo pos (starEach es X.env)).any (·.1) = false := by rfl) :
    PE X (.Call (.Name x p) (e :: es) [] pos) (tCB r t) := pe_callTy hc hg hm hv ha hn hd he hpl
theorem pe_cls {T : String} {x : Str} {pos : Pos} (hm : X.mg x = none) (hg : Gl X x := by rfl) (hv : bootBuiltins x = some (.type T) := by decide +kernel) (hn : x ≠ "__name__" := by decide) (hd : (x == ("__debug__" : Str)) = false := by decide) : PE X (.Name x pos) (tC (.ty T)) :=
  pe_bltn hg hm hv rfl hn hd
end

/-! ### data -/
def tyName : PyData → String
  | .none => "NoneType"
  | .bool _ => "bool"
  | .int _ => "int"
  | .str _ => "str"
  | .list _ => "list"
  | .tuple _ => "tuple"
  | .dict _ => "dict"
theorem tyx_of {K : PySem.W.Frag} {H : Hp} {v : V} {d : PyData} (h : Dp K H v d) : TyX K H v (.type (tyName d)) := by
  cases h with
  | non => exact .base .non
  | bl b => exact .base (.bl b)
  | int i => exact .base (.int i)
  | str x => exact .base (.str x)
  | lst h _ =>
    rcases h with (h | ⟨o, h⟩) | ⟨o, its, n, hk, hc, _⟩
    · exact .base (.lst h)
    · exact .base (.frz h)
    · exact .kList hk hc
  | tup h _ =>
    rcases h with (h | ⟨o, h⟩) | ⟨o, its, n, hk, hc, _⟩
    · exact .base (.tup h)
    · exact .fTuple h
    · exact .kTuple hk hc
def isInt : PyData → Bool
  | .int _ => true
  | _ => false
def isText : PyData → Bool
  | .str _ => true
  | _ => false
def isTup : PyData → Bool
  | .tuple _ => true
  | _ => false
def isIntB : PyData → Bool
  | .int _ => true
  | .bool _ => true
  | _ => false
/-- what isinstance(d, T) says, T one of the three built-in classes -/
theorem isi_of (K : PySem.W.Frag) (d : PyData) (hd : ∀ kvs, d ≠ .dict kvs) : PySem.W.kitOne K (.type (tyName d)) (.type "int") = some (isIntB d) ∧
    PySem.W.kitOne K (.type (tyName d)) (.type "str") = some (isText d) ∧ PySem.W.kitOne K (.type (tyName d)) (.type "tuple") = some (isTup d) := by
  cases d with
  | dict kvs => exact absurd rfl (hd kvs)
  | none => exact ⟨show PySem.W.kitOne K (.type "NoneType") (.type "int") = some false from kit_ty (by decide +kernel), show PySem.W.kitOne K (.type "NoneType") (.type "str") = some false from kit_ty (by decide +kernel), show PySem.W.kitOne K (.type "NoneType") (.type "tuple") = some false from kit_ty (by decide +kernel)⟩
  | bool b => exact ⟨show PySem.W.kitOne K (.type "bool") (.type "int") = some true from kit_ty (by decide +kernel), show PySem.W.kitOne K (.type "bool") (.type "str") = some false from kit_ty (by decide +kernel), show PySem.W.kitOne K (.type "bool") (.type "tuple") = some false from kit_ty (by decide +kernel)⟩
  | int i => exact ⟨show PySem.W.kitOne K (.type "int") (.type "int") = some true from kit_ty (by decide +kernel), show PySem.W.kitOne K (.type "int") (.type "str") = some false from kit_ty (by decide +kernel), show PySem.W.kitOne K (.type "int") (.type "tuple") = some false from kit_ty (by decide +kernel)⟩
  | str x => exact ⟨show PySem.W.kitOne K (.type "str") (.type "int") = some false from kit_ty (by decide +kernel), show PySem.W.kitOne K (.type "str") (.type "str") = some true from kit_ty (by decide +kernel), show PySem.W.kitOne K (.type "str") (.type "tuple") = some false from kit_ty (by decide +kernel)⟩
  | list xs => exact ⟨show PySem.W.kitOne K (.type "list") (.type "int") = some false from kit_ty (by decide +kernel), show PySem.W.kitOne K (.type "list") (.type "str") = some false from kit_ty (by decide +kernel), show PySem.W.kitOne K (.type "list") (.type "tuple") = some false from kit_ty (by decide +kernel)⟩
  | tuple xs => exact ⟨show PySem.W.kitOne K (.type "tuple") (.type "int") = some false from kit_ty (by decide +kernel), show PySem.W.kitOne K (.type "tuple") (.type "str") = some false from kit_ty (by decide +kernel), show PySem.W.kitOne K (.type "tuple") (.type "tuple") = some true from kit_ty (by decide +kernel)⟩
theorem not_dict {K : PySem.W.Frag} {H : Hp} {v : V} {d : PyData} (h : Dp K H v d) : ∀ kvs, d ≠ .dict kvs := by
  rintro kvs rfl
  cases h

/-! ### walks -/
theorem walk_zipT {K : PySem.W.Frag} {a b : Addr} {xs ys : List V} {n : Nat} (hn : n = min xs.length ys.length) : Walk (RZ.ItzT K a b) n (fun H => SqT K H a xs ∧ SqT K H b ys) (YPair (fun i => xs[i]?) (fun i => ys[i]?)) := by
  subst hn
  refine ⟨fun i _ hi q => ?_, fun _ q => ⟨xs, ys, q.1, q.2, by omega⟩, fun i H v H' _ q ⟨T, x, z, h1, h2, h3, h4, h5⟩ => ⟨T, x, z, h1, h2, h3, h4 xs q.1, h5 ys q.2⟩⟩
  have h1 : i < xs.length := by omega
  have h2 : i < ys.length := by omega
  exact ⟨xs, ys, xs[i], ys[i], q.1, q.2, by simp [h1], by simp [h2]⟩
/-- a walk's item lays nothing over what stood -/
def Lays (Y : Nat → Hp → V → Hp → Prop) : Prop := ∀ i H x H', Y i H x H' → Same H H'
theorem lays_at (xs : List V) : Lays (YAt xs) := fun _ _ _ _ y => by rw [y.1]; exact Same.refl _
theorem lays_fn (f : Nat → V) : Lays (YFn f) := fun _ _ _ _ y => by rw [y.1]; exact Same.refl _
theorem lays_pair (xs ys : Nat → Option V) : Lays (YPair xs ys) := fun _ _ _ _ ⟨_, _, _, _, h2, h3, _⟩ => by rw [h3]; exact same_new h2
/-- the items that a comprehension has kept from its first i turns -/
def kept (ys : Nat → Option V) (i : Nat) : List V := (List.range i).filterMap ys
theorem kept_succ (ys : Nat → Option V) (i : Nat) : kept ys (i + 1) = kept ys i ++ (ys i).toList := by
  unfold kept
  rw [List.range_succ, List.filterMap_append]
  cases h : ys i with
  | none => simp [h]
  | some y => simp [h]
theorem kept_le (ys : Nat → Option V) (i : Nat) : (kept ys i).length ≤ i := by
  have := List.length_filterMap_le ys (List.range i)
  rw [List.length_range] at this
  exact this
/-- a comprehension that changes nothing but its own list: ys i what turn i puts in -/
theorem lc_fm {J : It} {n : Nat} {G : Hp → Prop} {Y : Nat → Hp → V → Hp → Prop} (w : Walk J n G Y) (ly : Lays Y) {g : TG} {tt : TT} {te : TE} {vs : List Nat} {σ : L2.St} {H1 : Hp} {D : Addr} {Qd : Hp → Prop} (ys : Nat → Option V) (hn : n ≤ sizeLine) (hD : H1 D = none) (hG : ∀ H, Same H1 H → G H)
    (turn : ∀ i x H H' (Qe : VK) (Nx : Hp → Prop), i < n → Same H1 H → Same H1 H' → Y i H x H' → (∀ y, ys i = some y → ∀ H4, Same H' H4 → Qe y H4) → (ys i = none → ∀ H4, Same H' H4 → Nx H4) →
      g x (wipe σ vs) H' fun σ2 H2 => wipe σ2 vs = wipe σ vs ∧ tt σ2 H2 fun b H3 => if b = true then te σ2 H3 Qe else Nx H3)
    (done : ∀ H, Same H1 H → H D = some (.lst (kept ys n)) → Qd H) :
    ∃ W : Nat → Nat → Hp → Prop, (∃ m, W 0 m (upd H1 D (.lst []))) ∧ ∀ i m H, W i m H →
      (J.stop i H ∧ Qd H) ∨ (J.go i H ∧ ∃ Nx : Hp → Prop, (∀ H', Nx H' → ∃ m', m' < m ∧ W (i + 1) m' H') ∧ ∀ x H', J.yld i H x H' → g x (wipe σ vs) H' fun σ2 H2 => wipe σ2 vs = wipe σ vs ∧ tt σ2 H2 fun b H3 =>
        if b = true then te σ2 H3 fun y H4 => ∃ acc, H4 D = some (.lst acc) ∧ acc.length < sizeLine ∧ Nx (upd H4 D (.lst (acc ++ [y]))) else Nx H3) := by
  refine lc_it w (fun i H => Same H1 H ∧ H D = some (.lst (kept ys i))) ⟨same_new hD, upd_same⟩ (fun i H _ p => hG H p.1) (fun i x H H' hi p y => ?_) fun H p => done H p.1 p.2
  have s' := ly i H x H' y
  refine turn i x H H' _ _ hi p.1 (p.1.trans s') y (fun z hz H4 s4 => ?_) fun hz H4 s4 => ?_
  · refine ⟨kept ys i, s4 _ _ (s' _ _ p.2), Nat.lt_of_le_of_lt (kept_le ys i) (Nat.lt_of_lt_of_le hi hn), fun b o e => ?_, ?_⟩
    · rw [upd_ne (ne_of_none e hD)]
      exact s4 _ _ (s' _ _ (p.1 _ _ e))
    · rw [upd_same, kept_succ, hz]
      rfl
  · refine ⟨p.1.trans (s'.trans s4), ?_⟩
    rw [s4 _ _ (s' _ _ p.2), kept_succ, hz]
    simp
/-- a comprehension without a test keeps each item -/
theorem yes_go {te : TE} {σ : L2.St} {H : Hp} {Qe : VK} {Nx : Hp → Prop} (h : te σ H Qe) : tYes σ H fun b H3 => if b = true then te σ H3 Qe else Nx H3 := by
  show (if true = true then te σ H Qe else Nx H)
  rw [if_pos rfl]
  exact h

/-! ### data of small size -/
mutual
def sm : PyData → Bool
  | .none | .bool _ | .int _ | .str _ => true
  | .list xs | .tuple xs => decide (xs.length ≤ 100000) && smAll xs
  | .dict _ => false
def smAll : List PyData → Bool
  | [] => true
  | x :: xs => sm x && smAll xs
end
theorem smAll_get : ∀ {xs : List PyData} {i : Nat} {x : PyData}, smAll xs = true → xs[i]? = some x → sm x = true
  | [], _, _, _, e => by simp at e
  | y :: r, 0, x, h, e => by
    simp at e
    subst e
    simp only [smAll, Bool.and_eq_true] at h
    exact h.1
  | y :: r, i + 1, x, h, e => by
    simp only [smAll, Bool.and_eq_true] at h
    exact smAll_get (i := i) h.2 (by simpa using e)
theorem sm_tuple {xs : List PyData} (h : sm (.tuple xs) = true) : xs.length ≤ 100000 ∧ smAll xs = true := by
  simpa [sm, Bool.and_eq_true] using h
theorem line_100000 {n : Nat} (h : n ≤ 100000) : n ≤ sizeLine := by rw [sizeLine_eq]; omega
theorem dps_len {K : PySem.W.Frag} {H : Hp} : ∀ {vs : List V} {ds : List PyData}, DpAll K H vs ds → vs.length = ds.length
  | _, _, .nil => rfl
  | _, _, .cons _ hs => congrArg Nat.succ (dps_len hs)
theorem dps_get {K : PySem.W.Frag} {H : Hp} : ∀ {vs : List V} {ds : List PyData} {i : Nat} {v : V}, DpAll K H vs ds → vs[i]? = some v → ∃ d, ds[i]? = some d ∧ Dp K H v d
  | _, _, _, _, .nil, e => by simp at e
  | _, _, 0, v, .cons h _, e => by
    simp at e
    subst e
    exact ⟨_, rfl, h⟩
  | _, _, i + 1, v, .cons _ hs, e => by
    obtain ⟨d, e1, e2⟩ := dps_get (i := i) hs (by simpa using e)
    exact ⟨d, by simpa using e1, e2⟩
end LV
namespace Lk02
open PySem PySem.Spec PyProof.Rows L2 LV
def topS (i : Nat) : Stmt := PySem.Challenge.pw_leaveorder_k02_texts_of_webs.main.body.getD i (.Pass ⟨0, 0, 0, 0⟩)
abbrev s_is_int : Stmt := topS 6
abbrev n_is_int : List Str := ["value"]
theorem sc_is_int : FnScope n_is_int ["value"] (defScope s_is_int) := ⟨rfl, rfl, rfl, by decide +kernel, rfl, by decide +kernel, by decide +kernel⟩
abbrev s_is_text : Stmt := topS 7
abbrev n_is_text : List Str := ["value"]
theorem sc_is_text : FnScope n_is_text ["value"] (defScope s_is_text) := ⟨rfl, rfl, rfl, by decide +kernel, rfl, by decide +kernel, by decide +kernel⟩
abbrev s_is_tuple : Stmt := topS 8
abbrev n_is_tuple : List Str := ["value"]
theorem sc_is_tuple : FnScope n_is_tuple ["value"] (defScope s_is_tuple) := ⟨rfl, rfl, rfl, by decide +kernel, rfl, by decide +kernel, by decide +kernel⟩
abbrev s_is_within : Stmt := topS 9
abbrev n_is_within : List Str := ["value", "low", "high"]
theorem sc_is_within : FnScope n_is_within ["value", "low", "high"] (defScope s_is_within) := ⟨rfl, rfl, rfl, by decide +kernel, rfl, by decide +kernel, by decide +kernel⟩
abbrev s_is_ascending : Stmt := topS 10
abbrev n_is_ascending : List Str := ["values", "value", "behind"]
theorem sc_is_ascending : FnScope n_is_ascending ["values"] (defScope s_is_ascending) := ⟨rfl, rfl, rfl, by decide +kernel, rfl, by decide +kernel, by decide +kernel⟩
abbrev s_is_places : Stmt := topS 11
abbrev n_is_places : List Str := ["count", "value", "place"]
theorem sc_is_places : FnScope n_is_places ["count", "value"] (defScope s_is_places) := ⟨rfl, rfl, rfl, by decide +kernel, rfl, by decide +kernel, by decide +kernel⟩
abbrev s_is_lot_form : Stmt := topS 12
abbrev n_is_lot_form : List Str := ["count", "value"]
theorem sc_is_lot_form : FnScope n_is_lot_form ["count", "value"] (defScope s_is_lot_form) := ⟨rfl, rfl, rfl, by decide +kernel, rfl, by decide +kernel, by decide +kernel⟩
abbrev s_is_pair_form : Stmt := topS 13
abbrev n_is_pair_form : List Str := ["count", "value"]
theorem sc_is_pair_form : FnScope n_is_pair_form ["count", "value"] (defScope s_is_pair_form) := ⟨rfl, rfl, rfl, by decide +kernel, rfl, by decide +kernel, by decide +kernel⟩
abbrev s_is_web_form : Stmt := topS 14
abbrev n_is_web_form : List Str := ["value", "count", "ties", "tie"]
theorem sc_is_web_form : FnScope n_is_web_form ["value"] (defScope s_is_web_form) := ⟨rfl, rfl, rfl, by decide +kernel, rfl, by decide +kernel, by decide +kernel⟩
abbrev s_check_web : Stmt := topS 16
abbrev n_check_web : List Str := ["web"]
theorem sc_check_web : FnScope n_check_web ["web"] (defScope s_check_web) := ⟨rfl, rfl, rfl, by decide +kernel, rfl, by decide +kernel, by decide +kernel⟩
abbrev s_web_text : Stmt := topS 19
abbrev n_web_text : List Str := ["web", "x", "y"]
theorem sc_web_text : FnScope n_web_text ["web"] (defScope s_web_text) := ⟨rfl, rfl, rfl, by decide +kernel, rfl, by decide +kernel, by decide +kernel⟩
abbrev s_web_told : Stmt := topS 20
abbrev n_web_told : List Str := ["text", "web", "at"]
theorem sc_web_told : FnScope n_web_told ["text"] (defScope s_web_told) := ⟨rfl, rfl, rfl, by decide +kernel, rfl, by decide +kernel, by decide +kernel⟩
abbrev s_web_told_at : Stmt := topS 21
abbrev n_web_told_at : List Str := ["text", "at", "least", "found", "count", "ties"]
theorem sc_web_told_at : FnScope n_web_told_at ["text", "at", "least"] (defScope s_web_told_at) := ⟨rfl, rfl, rfl, by decide +kernel, rfl, by decide +kernel, by decide +kernel⟩
abbrev s_pairs_told : Stmt := topS 22
abbrev n_pairs_told : List Str := ["text", "at", "count", "pairs", "left", "pair"]
theorem sc_pairs_told : FnScope n_pairs_told ["text", "at", "count"] (defScope s_pairs_told) := ⟨rfl, rfl, rfl, by decide +kernel, rfl, by decide +kernel, by decide +kernel⟩
abbrev s_tie_told : Stmt := topS 23
abbrev n_tie_told : List Str := ["text", "at", "left", "begun", "tie"]
theorem sc_tie_told : FnScope n_tie_told ["text", "at", "left"] (defScope s_tie_told) := ⟨rfl, rfl, rfl, by decide +kernel, rfl, by decide +kernel, by decide +kernel⟩
abbrev s_all_pairs : Stmt := topS 24
abbrev n_all_pairs : List Str := ["count", "x", "y"]
theorem sc_all_pairs : FnScope n_all_pairs ["count"] (defScope s_all_pairs) := ⟨rfl, rfl, rfl, by decide +kernel, rfl, by decide +kernel, by decide +kernel⟩
abbrev s__law_cup : Stmt := topS 26
abbrev n__law_cup : List Str := ["_law_cell"]
theorem sc__law_cup : FnScope n__law_cup ["_law_cell"] (defScope s__law_cup) := ⟨rfl, rfl, rfl, by decide +kernel, rfl, by decide +kernel, by decide +kernel⟩
abbrev s__law_sip : Stmt := topS 27
abbrev n__law_sip : List Str := ["_law_cup_here", "_law_many", "_law_drop"]
theorem sc__law_sip : FnScope n__law_sip ["_law_cup_here", "_law_many"] (defScope s__law_sip) := ⟨rfl, rfl, rfl, by decide +kernel, rfl, by decide +kernel, by decide +kernel⟩
abbrev s__law_row : Stmt := topS 28
abbrev n__law_row : List Str := ["_law_cup_here", "_law_many", "_law_left", "_law_row_here"]
theorem sc__law_row : FnScope n__law_row ["_law_cup_here", "_law_many"] (defScope s__law_row) := ⟨rfl, rfl, rfl, by decide +kernel, rfl, by decide +kernel, by decide +kernel⟩
abbrev s__law_web : Stmt := topS 29
abbrev n__law_web : List Str := ["_law_cup_here", "_law_many", "_law_dense", "_law_ties", "_law_x", "_law_y"]
theorem sc__law_web : FnScope n__law_web ["_law_cup_here", "_law_many"] (defScope s__law_web) := ⟨rfl, rfl, rfl, by decide +kernel, rfl, by decide +kernel, by decide +kernel⟩
abbrev s__law_bad_web : Stmt := topS 30
abbrev n__law_bad_web : List Str := ["_law_cup_here", "_law_web_here", "_law_many", "_law_ties", "_law_way", "_law_odd", "_law_at", "_law_x", "_law_y"]
theorem sc__law_bad_web : FnScope n__law_bad_web ["_law_cup_here", "_law_web_here"] (defScope s__law_bad_web) := ⟨rfl, rfl, rfl, by decide +kernel, rfl, by decide +kernel, by decide +kernel⟩
abbrev s__law_ahead : Stmt := topS 31
abbrev n__law_ahead : List Str := ["_law_many", "_law_ties", "_law_first", "_law_found", "_law_x", "_law_y"]
theorem sc__law_ahead : FnScope n__law_ahead ["_law_many", "_law_ties", "_law_first"] (defScope s__law_ahead) := ⟨rfl, rfl, rfl, by decide +kernel, rfl, by decide +kernel, by decide +kernel⟩
abbrev s__law_read : Stmt := topS 32
abbrev n__law_read : List Str := ["_law_text", "_law_letters", "_law_ties", "_law_first", "_law_stand", "_law_many", "_law_at", "_law_place"]
theorem sc__law_read : FnScope n__law_read ["_law_text"] (defScope s__law_read) := ⟨rfl, rfl, rfl, by decide +kernel, rfl, by decide +kernel, by decide +kernel⟩
abbrev s__law_written : Stmt := topS 33
abbrev n__law_written : List Str := ["_law_web_here", "_law_letters", "_law_x", "_law_y"]
theorem sc__law_written : FnScope n__law_written ["_law_web_here"] (defScope s__law_written) := ⟨rfl, rfl, rfl, by decide +kernel, rfl, by decide +kernel, by decide +kernel⟩
abbrev s__law_bent : Stmt := topS 34
abbrev n__law_bent : List Str := ["_law_cup_here", "_law_text", "_law_turn", "_law_at", "_law_sign", "_law_way"]
theorem sc__law_bent : FnScope n__law_bent ["_law_cup_here", "_law_text"] (defScope s__law_bent) := ⟨rfl, rfl, rfl, by decide +kernel, rfl, by decide +kernel, by decide +kernel⟩
abbrev s__law_told : Stmt := topS 35
abbrev n__law_told : List Str := ["_law_value", "_law_found", "e"]
theorem sc__law_told : FnScope n__law_told ["_law_value"] (defScope s__law_told) := ⟨rfl, rfl, rfl, by decide +kernel, rfl, by decide +kernel, by decide +kernel⟩
abbrev s__law_refused : Stmt := topS 36
abbrev n__law_refused : List Str := ["_law_value", "_law_found"]
theorem sc__law_refused : FnScope n__law_refused ["_law_value"] (defScope s__law_refused) := ⟨rfl, rfl, rfl, by decide +kernel, rfl, by decide +kernel, by decide +kernel⟩
abbrev s_law : Stmt := topS 37
abbrev n_law : List Str := ["_law_script", "_law_cell", "_law_cup_here", "_law_web_here", "_law_text", "_law_odd", "_law_value"]
theorem sc_law : FnScope n_law ["_law_script"] (defScope s_law) := ⟨rfl, rfl, rfl, by decide +kernel, rfl, by decide +kernel, by decide +kernel⟩
end Lk02
/-! The forms: of which kind a value is. -/
namespace Lk02
open PySem PySem.Spec PyProof.Rows L2 LV
/-- a def of one value of data that leaves the heap and tells b d -/
def sp1 (K : PySem.W.Frag) (b : PyData → Bool) : Sp := fun vs H Q _ => ∃ v d, vs = [v] ∧ Dp K H v d ∧ Q (.bl (b d)) H
section
variable {P : Program} {w : World} {K : PySem.W.Frag} {mg : Str → Option Value} {base : Heap}
theorem ok_is_int (D : Dn K mg "is_int" s_is_int ["value"]) (m1 : mg "isinstance" = none) (m2 : mg "int" = none) : Ok P w K mg base CX0 1 "is_int" ["value"] (sp1 K isInt) := by
  refine D.ok sc_is_int (fun vs H Q E h => ?_) fun f cdv A outer s H vs Q E hr h => ?_
  · obtain ⟨v, d, rfl, _⟩ := h
    rfl
  · obtain ⟨v, d, rfl, hd, q⟩ := h
    refine ⟨_, pss_one (ps_ret (pe_and (pe_b m1 call_isi (pa_cons (pv 0) (pa_cons (pe_cls (T := "int") m2) pa_nil))) (pe_one (pe_cmpR op_eq (pe_clsName (pv 0)) pe_str (nomark _))))), ?_⟩
    refine ⟨v, rfl, v, .ty "int", _, _, _, rfl, .ty _, tyx_of hd, (isi_of K d (not_dict hd)).1, _, rfl, ?_⟩
    cases hd with
    | non => exact iteF q
    | bl b =>
      refine iteT ⟨.bl b, rfl, "bool", .bl b, rfl, ?_⟩
      exact q
    | int i =>
      refine iteT ⟨.int i, rfl, "int", .int i, rfl, ?_⟩
      exact q
    | str x => exact iteF q
    | lst h1 h2 => exact iteF q
    | tup h1 h2 => exact iteF q
theorem ok_is_text (D : Dn K mg "is_text" s_is_text ["value"]) (m1 : mg "isinstance" = none) (m2 : mg "str" = none) : Ok P w K mg base CX0 1 "is_text" ["value"] (sp1 K isText) := by
  refine D.ok sc_is_text (fun vs H Q E h => ?_) fun f cdv A outer s H vs Q E hr h => ?_
  · obtain ⟨v, d, rfl, _⟩ := h
    rfl
  · obtain ⟨v, d, rfl, hd, q⟩ := h
    refine ⟨_, pss_one (ps_ret (pe_and (pe_b m1 call_isi (pa_cons (pv 0) (pa_cons (pe_cls (T := "str") m2) pa_nil))) (pe_one (pe_cmpR op_eq (pe_clsName (pv 0)) pe_str (nomark _))))), ?_⟩
    refine ⟨v, rfl, v, .ty "str", _, _, _, rfl, .ty _, tyx_of hd, (isi_of K d (not_dict hd)).2.1, _, rfl, ?_⟩
    cases hd with
    | str x => exact iteT ⟨.str x, rfl, "str", .str x, rfl, q⟩
    | _ => exact iteF q
theorem ok_is_tuple (D : Dn K mg "is_tuple" s_is_tuple ["value"]) (m1 : mg "isinstance" = none) (m2 : mg "tuple" = none) : Ok P w K mg base CX0 1 "is_tuple" ["value"] (sp1 K isTup) := by
  refine D.ok sc_is_tuple (fun vs H Q E h => ?_) fun f cdv A outer s H vs Q E hr h => ?_
  · obtain ⟨v, d, rfl, _⟩ := h
    rfl
  · obtain ⟨v, d, rfl, hd, q⟩ := h
    refine ⟨_, pss_one (ps_ret (pe_and (pe_b m1 call_isi (pa_cons (pv 0) (pa_cons (pe_cls (T := "tuple") m2) pa_nil))) (pe_one (pe_cmpR op_eq (pe_clsName (pv 0)) pe_str (nomark _))))), ?_⟩
    refine ⟨v, rfl, v, .ty "tuple", _, _, _, rfl, .ty _, tyx_of hd, (isi_of K d (not_dict hd)).2.2, _, rfl, ?_⟩
    cases hd with
    | tup h1 h2 => exact iteT ⟨_, rfl, "tuple", .tup h1, rfl, q⟩
    | _ => exact iteF q
/-- an int from lo to hi -/
def inR (lo hi : Int) : PyData → Bool
  | .int i => decide (lo ≤ i) && decide (i ≤ hi)
  | _ => false
def spWithin (K : PySem.W.Frag) : Sp := fun vs H Q _ => ∃ v d lo hi, vs = [v, .int lo, .int hi] ∧ Dp K H v d ∧ Q (.bl (inR lo hi d)) H
theorem ok_is_within (D : Dn K mg "is_within" s_is_within ["value", "low", "high"]) (O : Ok P w K mg base CX0 1 "is_int" ["value"] (sp1 K isInt)) : Ok P w K mg base CX0 2 "is_within" ["value", "low", "high"] (spWithin K) := by
  refine D.ok sc_is_within (fun vs H Q E h => ?_) fun f cdv A outer s H vs Q E hr h => ?_
  · obtain ⟨v, d, lo, hi, rfl, _⟩ := h
    rfl
  · obtain ⟨v, d, lo, hi, rfl, hd, q⟩ := h
    refine ⟨_, pss_one (ps_ret (pe_and (pe_ok O hr pass0 (pa_cons (pv 0) pa_nil)) (pe_one (pe_chain op_le op_le (pv 1) (pv 0) (pv 2))))), ?_⟩
    refine ⟨v, rfl, v, d, rfl, hd, _, rfl, ?_⟩
    cases hd with
    | int i =>
      refine iteT ⟨.int lo, rfl, .int i, rfl, lo, i, rfl, rfl, _, rfl, ?_⟩
      by_cases h1 : lo ≤ i
      · rw [decide_eq_true h1]
        refine iteT ⟨.int hi, rfl, i, hi, rfl, rfl, ?_⟩
        simpa [inR, h1] using q
      · rw [decide_eq_false h1]
        refine iteF ?_
        simpa [inR, h1] using q
    | _ => exact iteF q
end
end Lk02
/-! The forms, further: places, lots, pairs, webs. -/
namespace Lk02
open PySem PySem.Spec PyProof.Rows L2 LV
theorem cut_tail (xs : List V) : cutV xs (some 1) none = xs.drop 1 := by
  unfold cutV
  rw [show HT.sIx xs.length 0 (some 1) = min 1 xs.length from HT.sIx_nat xs.length 0 1, HT.sIx_none]
  cases xs with
  | nil => rfl
  | cons x r =>
    rw [show min 1 (x :: r).length = 1 by rw [List.length_cons]; omega]
    exact List.take_of_length_le (by simp)
/-- x < y of two values that the program compares: ints, or tuples of ints -/
def CmpV (K : PySem.W.Frag) (H : Hp) (x y : V) (b : Bool) : Prop :=
  (∃ m n : Int, x = .int m ∧ y = .int n ∧ decide (m < n) = b) ∨ ∃ a c ns ms, x = .ref a ∧ y = .ref c ∧ SqT K H a (ns.map V.int) ∧ SqT K H c (ms.map V.int) ∧ HT.lexLt ns ms = b
def spAsc (K : PySem.W.Frag) : Sp := fun vs H Q _ => ∃ (a : Addr) (xs : List V) (b : Nat → Bool), vs = [.ref a] ∧ SqT K H a xs ∧ xs.length ≤ sizeLine ∧ (∀ i x y, xs[i]? = some x → xs[i + 1]? = some y → CmpV K H x y (b i)) ∧
  ∀ H', Same H H' → Q (.bl ((List.range (xs.length - 1)).all b)) H'
theorem kept_some (f : Nat → V) (n : Nat) : kept (fun i => some (f i)) n = (List.range n).map f := by
  unfold kept
  rw [List.filterMap_eq_map']
section
variable {P : Program} {w : World} {K : PySem.W.Frag} {mg : Str → Option Value} {base : Heap}
theorem cmp_go {H H' : Hp} {x y : V} {b : Bool} {Q : VK} (h : CmpV K H x y b) (s : Same H H') (q : Q (.bl b) H') : (rI0 (fun i j => .bl (decide (i < j))) x y H' Q) ∨ rLtT K x y H' Q := by
  rcases h with ⟨m, n, rfl, rfl, rfl⟩ | ⟨a, c, ns, ms, rfl, rfl, h1, h2, rfl⟩
  · exact .inl ⟨m, n, rfl, rfl, q⟩
  · exact .inr ⟨a, c, ns, ms, rfl, rfl, sameT s h1, sameT s h2, q⟩
theorem ok_is_ascending (D : Dn K mg "is_ascending" s_is_ascending ["values"]) (m1 : mg "all" = none) (m2 : mg "zip" = none) : Ok P w K mg base CX0 1 "is_ascending" ["values"] (spAsc K) := by
  refine D.ok sc_is_ascending (fun vs H Q E h => ?_) fun f cdv A outer s H vs Q E hr h => ?_
  · obtain ⟨a, xs, b, rfl, _⟩ := h
    rfl
  · obtain ⟨a, xs, b, rfl, hx, hz, hc, q⟩ := h
    refine ⟨_, pss_one (ps_ret (pe_b m1 (cr_all rfl) (pa_cons (pe_lc (own := [("value", 1), ("behind", 2)]) (g := gTup K 2 (gCons (gName 1) (gCons (gName 2) gNil))) (tt := tYes) (te := tOp (fun x y H Q => rI0 (fun i j => .bl (decide (i < j))) x y H Q ∨ rLtT K x y H Q) (tVar 1) (tVar 2)) (by rfl) sc_is_ascending.nd
      (RZ.pi_zipA (by rfl) m2 (pa_cons (pv 0) (pa_cons (pe_slice sl_tupA (pv 0) (po_some pe_int) po_none) pa_nil))) (blkOk_by (N := n_is_ascending) (sc := defScope s_is_ascending) (by decide +kernel))
      (fun _ _ _ _ _ => pg_tup rfl (pgs_cons (pg_name (i := 1) sc_is_ascending.nd rfl (.inl rfl)) (pgs_cons (pg_name (i := 2) sc_is_ascending.nd rfl (.inl rfl)) pgs_nil))) (fun _ _ _ _ _ => pts_nil)
      (fun _ _ _ _ _ => by exact pe_cmpR (OpR.or op_lt (op_ltT hr.units0)) (pv 1) (pv 2) (nomark _))) pa_nil))), ?_⟩
    refine ⟨.ref a, rfl, .ref a, rfl, 1, rfl, a, xs, rfl, hx, fun hw => ?_, fun hw p hp => ?_⟩
    · -- the empty tuple: its tail is itself
      have e0 : xs = [] := by
        have e := hw.1
        rw [show HT.sIx xs.length 0 (some 1) = min 1 xs.length from HT.sIx_nat xs.length 0 1] at e
        cases xs with
        | nil => rfl
        | cons x r => rw [List.length_cons] at e; omega
      subst e0
      refine ⟨a, a, [], [], rfl, .inr ⟨hx, hx, fun D hD => ?_⟩⟩
      refine lc_fm (walk_zipT (K := K) (a := a) (b := a) (xs := []) (ys := []) rfl) (lays_pair _ _) (fun _ => none) (Nat.zero_le _) hD (fun H' s' => ⟨sameT s' hx, sameT s' hx⟩) (fun i x H H' Qe Nx hi => absurd hi (Nat.not_lt_zero _)) fun H' s' hd => ?_
      refine ⟨D, [], rfl, .inl (.inl hd), ?_⟩
      exact q H' s'
    · have hne : xs ≠ [] := fun e => hw (by subst e; exact ⟨rfl, rfl⟩)
      have s1 := same_new (o := .tup (cutV xs (some 1) none)) hp
      rw [cut_tail] at s1 ⊢
      have hp2 : SqT K (upd H p (.tup (xs.drop 1))) p (xs.drop 1) := .inl (.inl upd_same)
      refine ⟨a, p, xs, xs.drop 1, rfl, .inr ⟨sameT s1 hx, hp2, fun D hD => ?_⟩⟩
      refine lc_fm (walk_zipT (K := K) (a := a) (b := p) (xs := xs) (ys := xs.drop 1) (n := xs.length - 1) (by rw [List.length_drop]; omega)) (lays_pair _ _) (fun i => some (.bl (b i))) (by omega) hD (fun H' s' => ⟨sameT s' (sameT s1 hx), sameT s' hp2⟩)
        (fun i v H2 H3 Qe Nx hi s2 s3 y hy hn => ?_) fun H' s' hd => ?_
      · obtain ⟨T, x, y', rfl, hT, rfl, e1, e2⟩ := y
        dsimp only at e1 e2
        rw [List.getElem?_drop, Nat.add_comm] at e2
        refine ⟨T, [x, y'], rfl, .inl (.inl upd_same), rfl, x, [y'], rfl, y', [], rfl, rfl, rfl, yes_go ⟨x, rfl, y', rfl, ?_⟩⟩
        exact cmp_go (hc i x y' e1 e2) (s1.trans s3) (hy _ rfl _ (Same.refl _))
      · rw [kept_some] at hd
        refine ⟨D, (List.range (xs.length - 1)).map b, rfl, .inl (.inl (by rw [List.map_map]; exact hd)), ?_⟩
        have e : ((List.range (xs.length - 1)).map b).all id = (List.range (xs.length - 1)).all b := by rw [List.all_map]; rfl
        rw [e]
        exact q H' (s1.trans s')
end
/-! ### the forms, of data -/
def isPlaces (n : Int) : PyData → Bool
  | .tuple xs => xs.all (inR 0 (n - 1))
  | _ => false
def intOf : PyData → Int
  | .int i => i
  | _ => 0
def itemsOf : PyData → List PyData
  | .tuple xs => xs
  | .list xs => xs
  | _ => []
def intsOf (d : PyData) : List Int := (itemsOf d).map intOf
def ascI (ns : List Int) : Bool := (List.range (ns.length - 1)).all fun i => decide (ns.getD i 0 < ns.getD (i + 1) 0)
def ascP (ps : List (List Int)) : Bool := (List.range (ps.length - 1)).all fun i => HT.lexLt (ps.getD i []) (ps.getD (i + 1) [])
def isLot (n : Int) (d : PyData) : Bool := isPlaces n d && ascI (intsOf d)
def isPair (n : Int) (d : PyData) : Bool := isLot n d && decide ((itemsOf d).length = 2)
def isTies (n : Int) (d : PyData) : Bool := (itemsOf d).all (isPair n) && ascP ((itemsOf d).map intsOf)
def isWeb : PyData → Bool
  | .tuple [c, t] => inR 1 12 c && (isTup t && isTies (intOf c) t)
  | _ => false
theorem inR_int {lo hi : Int} {d : PyData} (h : inR lo hi d = true) : ∃ i, d = .int i ∧ lo ≤ i ∧ i ≤ hi := by
  cases d with
  | int i => exact ⟨i, rfl, by simpa [inR] using h⟩
  | _ => simp [inR] at h
/-- a tuple of places, as the heap has it -/
theorem places_at {K : PySem.W.Frag} {H : Hp} {v : V} {d : PyData} {n : Int} (hd : Dp K H v d) (h : isPlaces n d = true) : ∃ a, v = .ref a ∧ SqT K H a ((intsOf d).map V.int) ∧ isTup d = true := by
  cases hd with
  | @tup a xs ds hs ha =>
    refine ⟨a, rfl, ?_, rfl⟩
    have e : xs = (intsOf (.tuple ds)).map V.int := by
      have g : ∀ (ds : List PyData) (xs : List V), DpAll K H xs ds → ds.all (inR 0 (n - 1)) = true → xs = (ds.map intOf).map V.int := by
        intro ds
        induction ds with
        | nil => intro xs h _; cases h; rfl
        | cons d r ih =>
          intro xs h hh
          cases h with
          | cons h1 h2 =>
            rw [List.all_cons, Bool.and_eq_true] at hh
            obtain ⟨i, rfl, _⟩ := inR_int hh.1
            cases h1
            rw [List.map_cons, List.map_cons, ← ih _ h2 hh.2]
            rfl
      exact g ds xs ha h
    rw [← e]
    exact hs
  | _ => simp [isPlaces] at h
def spPlaces (K : PySem.W.Frag) (b : Int → PyData → Bool) : Sp := fun vs H Q _ => ∃ n v d, vs = [.int n, v] ∧ Dp K H v d ∧ sm d = true ∧ ∀ H', Same H H' → Q (.bl (b n d)) H'
section
variable {P : Program} {w : World} {K : PySem.W.Frag} {mg : Str → Option Value} {base : Heap}
theorem ok_is_places (D : Dn K mg "is_places" s_is_places ["count", "value"]) (m1 : mg "all" = none) (O1 : Ok P w K mg base CX0 1 "is_tuple" ["value"] (sp1 K isTup)) (O2 : Ok P w K mg base CX0 2 "is_within" ["value", "low", "high"] (spWithin K)) :
    Ok P w K mg base CX0 3 "is_places" ["count", "value"] (spPlaces K isPlaces) := by
  refine D.ok sc_is_places (fun vs H Q E h => ?_) fun f cdv A outer s H vs Q E hr h => ?_
  · obtain ⟨n, v, d, rfl, _⟩ := h
    rfl
  · obtain ⟨n, v, d, rfl, hd, hm, q⟩ := h
    refine ⟨_, pss_one (ps_ret (pe_and (pe_ok O1 hr pass0 (pa_cons (pv 1) pa_nil)) (pe_one (pe_b m1 (cr_all rfl) (pa_cons (pe_lc (own := [("place", 2)]) (g := gName 2) (tt := tYes) (by rfl) sc_is_places.nd
      (pi_tup (pv 1)) (blkOk_by (N := n_is_places) (sc := defScope s_is_places) (by decide +kernel)) (fun _ _ _ _ _ => pg_name (i := 2) sc_is_places.nd rfl (Or.inl rfl)) (fun _ _ _ _ _ => pts_nil)
      (fun _ _ _ _ _ => by exact pe_ok O2 hr pass0 (pa_cons (pv 2) (pa_cons pe_int (pa_cons (pe_op op_sub (pv 0) pe_int) pa_nil))))) pa_nil))))), ?_⟩
    refine ⟨v, rfl, v, d, rfl, hd, _, rfl, ?_⟩
    cases hd with
    | @tup a xs ds hs ha =>
      obtain ⟨hl, hall⟩ := sm_tuple hm
      refine iteT ⟨.ref a, rfl, a, rfl, ⟨xs, hs⟩, fun D hD => ?_⟩
      have el := dps_len ha
      refine lc_fm (walk_tup (K := K) (a := a) (xs := xs)) (lays_at xs) (fun i => some (.bl (inR 0 (n - 1) (ds.getD i .none)))) (by rw [el]; exact line_100000 hl) hD (fun H' s' => sameT s' hs)
        (fun i x H2 H3 Qe Nx hi s2 s3 y hy hn => ⟨rfl, yes_go ?_⟩) fun H' s' hd => ?_
      · obtain ⟨rfl, ex⟩ := y
        obtain ⟨d, ed, hd'⟩ := dps_get ha ex
        have eg : ds.getD i .none = d := by rw [List.getD_eq_getElem?_getD, ed]; rfl
        refine ⟨x, rfl, .int n, rfl, n, 1, rfl, rfl, x, d, 0, n - 1, rfl, dp_same s3 hd', ?_⟩
        exact hy _ (by rw [eg]) _ (Same.refl _)
      · rw [kept_some] at hd
        refine ⟨D, (List.range xs.length).map fun i => inR 0 (n - 1) (ds.getD i .none), rfl, .inl (.inl (by rw [List.map_map]; exact hd)), ?_⟩
        have e : ((List.range xs.length).map fun i => inR 0 (n - 1) (ds.getD i .none)).all id = isPlaces n (.tuple ds) := by
          rw [el, List.all_map]
          show (List.range ds.length).all (fun i => inR 0 (n - 1) (ds.getD i .none)) = ds.all (inR 0 (n - 1))
          rw [Bool.eq_iff_iff, List.all_eq_true, List.all_eq_true]
          refine ⟨fun h x hx => ?_, fun h i hi => ?_⟩
          · obtain ⟨i, hi, e⟩ := List.getElem_of_mem hx
            have := h i (List.mem_range.mpr hi)
            rwa [List.getD_eq_getElem?_getD, List.getElem?_eq_getElem hi, Option.getD_some, e] at this
          · have hi := List.mem_range.mp hi
            rw [List.getD_eq_getElem?_getD, List.getElem?_eq_getElem hi, Option.getD_some]
            exact h _ (List.getElem_mem hi)
        rw [e]
        exact q H' s'
    | _ => exact iteF (q H (Same.refl H))
end
end Lk02
/-! Lots, pairs, webs; the check of a web. -/
namespace Lk02
open PySem PySem.Spec PyProof.Rows L2 LV
theorem getD_map {α β : Type} (f : α → β) (l : List α) (i : Nat) (d : β) (x : β) (h : (l.map f)[i]? = some x) : (l.map f).getD i d = x := by
  rw [List.getD_eq_getElem?_getD, h]
  rfl
theorem ints_cmp {K : PySem.W.Frag} {H : Hp} {ns : List Int} {i : Nat} {x y : V} (h1 : (ns.map V.int)[i]? = some x) (h2 : (ns.map V.int)[i + 1]? = some y) : CmpV K H x y (decide (ns.getD i 0 < ns.getD (i + 1) 0)) := by
  rw [List.getElem?_map] at h1 h2
  obtain ⟨m, e1, rfl⟩ := Option.map_eq_some_iff.mp h1
  obtain ⟨n, e2, rfl⟩ := Option.map_eq_some_iff.mp h2
  refine .inl ⟨m, n, rfl, rfl, ?_⟩
  rw [List.getD_eq_getElem?_getD, List.getD_eq_getElem?_getD, e1, e2]
  rfl
section
variable {P : Program} {w : World} {K : PySem.W.Frag} {mg : Str → Option Value} {base : Heap}
theorem ok_is_lot_form (D : Dn K mg "is_lot_form" s_is_lot_form ["count", "value"]) (O1 : Ok P w K mg base CX0 3 "is_places" ["count", "value"] (spPlaces K isPlaces)) (O2 : Ok P w K mg base CX0 1 "is_ascending" ["values"] (spAsc K)) :
    Ok P w K mg base CX0 4 "is_lot_form" ["count", "value"] (spPlaces K isLot) := by
  refine D.ok sc_is_lot_form (fun vs H Q E h => ?_) fun f cdv A outer s H vs Q E hr h => ?_
  · obtain ⟨n, v, d, rfl, _⟩ := h
    rfl
  · obtain ⟨n, v, d, rfl, hd, hm, q⟩ := h
    refine ⟨_, pss_one (ps_ret (pe_and (pe_ok O1 hr pass0 (pa_cons (pv 0) (pa_cons (pv 1) pa_nil))) (pe_one (pe_ok O2 hr pass0 (pa_cons (pv 1) pa_nil))))), ?_⟩
    refine ⟨.int n, rfl, v, rfl, n, v, d, rfl, hd, hm, fun H1 s1 => ⟨_, rfl, ?_⟩⟩
    cases hp : isPlaces n d with
    | false =>
      refine iteF ?_
      have e : isLot n d = false := by unfold isLot; rw [hp]; rfl
      rw [e] at q
      exact q H1 s1
    | true =>
      obtain ⟨a, rfl, hs, ht⟩ := places_at hd hp
      refine iteT ⟨.ref a, rfl, a, (intsOf d).map V.int, fun i => decide ((intsOf d).getD i 0 < (intsOf d).getD (i + 1) 0), rfl, sameT s1 hs, ?_, fun i x y h1 h2 => ints_cmp h1 h2, fun H2 s2 => ?_⟩
      · cases d with
        | tuple ds =>
          rw [List.length_map]
          show ((itemsOf (.tuple ds)).map intOf).length ≤ _
          rw [List.length_map]
          exact line_100000 (sm_tuple hm).1
        | _ => simp [isTup] at ht
      · have e : (List.range (((intsOf d).map V.int).length - 1)).all (fun i => decide ((intsOf d).getD i 0 < (intsOf d).getD (i + 1) 0)) = isLot n d := by
          unfold isLot ascI
          rw [hp, List.length_map, Bool.true_and]
        rw [e]
        exact q H2 (s1.trans s2)
theorem ok_is_pair_form (D : Dn K mg "is_pair_form" s_is_pair_form ["count", "value"]) (m1 : mg "len" = none) (O1 : Ok P w K mg base CX0 4 "is_lot_form" ["count", "value"] (spPlaces K isLot)) :
    Ok P w K mg base CX0 5 "is_pair_form" ["count", "value"] (spPlaces K isPair) := by
  refine D.ok sc_is_pair_form (fun vs H Q E h => ?_) fun f cdv A outer s H vs Q E hr h => ?_
  · obtain ⟨n, v, d, rfl, _⟩ := h
    rfl
  · obtain ⟨n, v, d, rfl, hd, hm, q⟩ := h
    refine ⟨_, pss_one (ps_ret (pe_and (pe_ok O1 hr pass0 (pa_cons (pv 0) (pa_cons (pv 1) pa_nil))) (pe_one (pe_cmpR op_eq (pe_b m1 call_len_seq (pa_cons (pv 1) pa_nil)) pe_int (nomark _))))), ?_⟩
    refine ⟨.int n, rfl, v, rfl, n, v, d, rfl, hd, hm, fun H1 s1 => ⟨_, rfl, ?_⟩⟩
    cases hp : isLot n d with
    | false =>
      refine iteF ?_
      have e : isPair n d = false := by unfold isPair; rw [hp]; rfl
      rw [e] at q
      exact q H1 s1
    | true =>
      have hp' : isPlaces n d = true := by
        unfold isLot at hp
        exact (Bool.and_eq_true _ _ ▸ hp).1
      obtain ⟨a, rfl, hs, ht⟩ := places_at hd hp'
      refine iteT ⟨.ref a, rfl, a, _, rfl, .inr (sameT s1 hs), rfl, ?_⟩
      have e : decide (V.int (((intsOf d).map V.int).length : Nat) = V.int 2) = isPair n d := by
        unfold isPair
        rw [hp, Bool.true_and]
        have l : ((intsOf d).map V.int).length = (itemsOf d).length := by
          rw [List.length_map]
          exact List.length_map ..
        rw [l]
        refine decide_eq_decide.mpr ⟨fun z => ?_, fun z => by rw [z]; rfl⟩
        have := V.int.inj z
        omega
      rw [e]
      exact q H1 s1
end
theorem all_range {α : Type} (p : α → Bool) (l : List α) (d : α) : ((List.range l.length).map fun i => p (l.getD i d)).all id = l.all p := by
  rw [List.all_map, Bool.eq_iff_iff, List.all_eq_true, List.all_eq_true]
  refine ⟨fun h x hx => ?_, fun h i hi => ?_⟩
  · obtain ⟨i, hi, e⟩ := List.getElem_of_mem hx
    have := h i (List.mem_range.mpr hi)
    simpa [List.getD_eq_getElem?_getD, List.getElem?_eq_getElem hi, e] using this
  · have hi := List.mem_range.mp hi
    show p (l.getD i d) = true
    rw [List.getD_eq_getElem?_getD, List.getElem?_eq_getElem hi, Option.getD_some]
    exact h _ (List.getElem_mem hi)
/-- ties that are pairs: each two of them next to one another can be compared -/
theorem ties_cmp {K : PySem.W.Frag} {H H' : Hp} {n : Int} {xs : List V} {ts : List PyData} (ha : DpAll K H xs ts) (hp : ts.all (isPair n) = true) (s : Same H H') {i : Nat} {x y : V} (h1 : xs[i]? = some x) (h2 : xs[i + 1]? = some y) :
    CmpV K H' x y (HT.lexLt ((ts.map intsOf).getD i []) ((ts.map intsOf).getD (i + 1) [])) := by
  have one : ∀ (j : Nat) (z : V), xs[j]? = some z → ∃ a, z = .ref a ∧ SqT K H' a (((ts.map intsOf).getD j []).map V.int) := fun j z hz => by
    obtain ⟨d, ed, hd⟩ := dps_get ha hz
    have hpd : isPair n d = true := List.all_eq_true.mp hp d (List.mem_of_getElem? ed)
    have hpp : isPlaces n d = true := by
      unfold isPair isLot at hpd
      rw [Bool.and_eq_true, Bool.and_eq_true] at hpd
      exact hpd.1.1
    obtain ⟨a, rfl, hs, _⟩ := places_at hd hpp
    refine ⟨a, rfl, ?_⟩
    have e : (ts.map intsOf).getD j [] = intsOf d := getD_map _ _ _ _ _ (by rw [List.getElem?_map, ed]; rfl)
    rw [e]
    exact sameT s hs
  obtain ⟨a, rfl, ha'⟩ := one i x h1
  obtain ⟨c, rfl, hc'⟩ := one (i + 1) y h2
  exact .inr ⟨a, c, _, _, rfl, rfl, ha', hc', rfl⟩
def spWeb (K : PySem.W.Frag) : Sp := fun vs H Q _ => ∃ v d, vs = [v] ∧ Dp K H v d ∧ sm d = true ∧ ∀ H', Same H H' → Q (.bl (isWeb d)) H'
section
variable {P : Program} {w : World} {K : PySem.W.Frag} {mg : Str → Option Value} {base : Heap}
theorem ok_is_web_form (D : Dn K mg "is_web_form" s_is_web_form ["value"]) (m1 : mg "len" = none) (m2 : mg "all" = none) {tk : Tok} (mM : mg "MOST_PLACES" = some (.int 12 tk)) (O1 : Ok P w K mg base CX0 1 "is_tuple" ["value"] (sp1 K isTup)) (O2 : Ok P w K mg base CX0 2 "is_within" ["value", "low", "high"] (spWithin K))
    (O3 : Ok P w K mg base CX0 5 "is_pair_form" ["count", "value"] (spPlaces K isPair)) (O4 : Ok P w K mg base CX0 1 "is_ascending" ["values"] (spAsc K)) : Ok P w K mg base CX0 6 "is_web_form" ["value"] (spWeb K) := by
  refine D.ok sc_is_web_form (fun vs H Q E h => ?_) fun f cdv A outer s H vs Q E hr h => ?_
  · obtain ⟨v, d, rfl, _⟩ := h
    rfl
  · obtain ⟨v, d, rfl, hd, hm, q⟩ := h
    refine ⟨_, pss_cons (ps_if (PW.pt (pw_or (pt_not (pt_val (pe_ok O1 hr pass0 (pa_cons (pv 0) pa_nil)))) (pw_or1 (pt_cmpR op_ne (pe_b m1 call_len_seq (pa_cons (pv 0) pa_nil)) pe_int (nomark _))))) (pss_one (ps_ret pe_bl)) pss_nil)
      (pss_cons (ps_asg (pv 0) (pg_tup rfl (pgs_cons (pg_name (i := 1) sc_is_web_form.nd rfl (.inr rfl)) (pgs_cons (pg_name (i := 2) sc_is_web_form.nd rfl (.inl rfl)) pgs_nil))))
      (pss_cons (ps_if (PW.pt (pw_or (pt_not (pt_val (pe_ok O2 hr pass0 (pa_cons (pv 1) (pa_cons pe_int (pa_cons (pe_glob (v := .int 12) rfl mM ⟨_, rfl⟩) pa_nil)))))) (pw_or1 (pt_not (pt_val (pe_ok O1 hr pass0 (pa_cons (pv 2) pa_nil))))))) (pss_one (ps_ret pe_bl)) pss_nil)
      (pss_one (ps_ret (pe_and (pe_b m2 (cr_all rfl) (pa_cons (pe_lc (own := [("tie", 3)]) (g := gName 3) (tt := tYes) (by rfl) sc_is_web_form.nd (pi_tup (pv 2)) (blkOk_by (N := n_is_web_form) (sc := defScope s_is_web_form) (by decide +kernel))
        (fun _ _ _ _ _ => pg_name (i := 3) sc_is_web_form.nd rfl (Or.inl rfl)) (fun _ _ _ _ _ => pts_nil) (fun _ _ _ _ _ => by exact pe_ok O3 hr pass0 (pa_cons (pv 1) (pa_cons (pv 3) pa_nil)))) pa_nil)) (pe_one (pe_ok O4 hr pass0 (pa_cons (pv 2) pa_nil)))))))), ?_⟩
    have no : isWeb d = false → Q (.bl false) H := fun e => by rw [e] at q; exact q H (Same.refl H)
    refine ⟨v, rfl, v, d, rfl, hd, _, rfl, ?_⟩
    cases hd with
    | @tup a xs ds hs ha =>
      have el := dps_len ha
      refine iteF ⟨.ref a, rfl, a, xs, rfl, .inr hs, rfl, _, rfl, ?_⟩
      by_cases h2 : xs.length = 2
      · have e2 : (!decide (V.int (xs.length : Nat) = V.int 2)) = false := by rw [h2]; rfl
        rw [e2]
        refine iteF ⟨.ref a, rfl, a, xs, rfl, hs, h2, ?_⟩
        cases ha with
        | nil => simp at h2
        | @cons c xr dc dr hc hr' =>
          cases hr' with
          | nil => simp at h2
          | @cons t xr' dt dr' ht hn =>
            cases hn with
            | cons _ _ => simp at h2
            | nil =>
              obtain ⟨hl, hall⟩ := sm_tuple hm
              have smt : sm dt = true := smAll_get (i := 1) hall rfl
              have ew : isWeb (.tuple [dc, dt]) = (inR 1 12 dc && (isTup dt && isTies (intOf dc) dt)) := rfl
              refine ⟨c, [t], rfl, t, [], rfl, rfl, c, rfl, c, dc, 1, 12, rfl, hc, _, rfl, ?_⟩
              cases h3 : inR 1 12 dc with
              | false => exact iteT (no (by rw [ew, h3]; rfl))
              | true =>
                obtain ⟨n, rfl, _⟩ := inR_int h3
                cases hc
                refine iteF ⟨t, rfl, t, dt, rfl, ht, _, rfl, ?_⟩
                cases ht with
                | @tup b ys ts hb hts =>
                  have et := dps_len hts
                  obtain ⟨hlt, hallt⟩ := sm_tuple smt
                  refine iteF ⟨.ref b, rfl, b, rfl, ⟨ys, hb⟩, fun D hD => ?_⟩
                  refine lc_fm (walk_tup (K := K) (a := b) (xs := ys)) (lays_at ys) (fun i => some (.bl (isPair n (ts.getD i .none)))) (by rw [et]; exact line_100000 hlt) hD (fun H' s' => sameT s' hb)
                    (fun i x H2 H3 Qe Nx hi s2 s3 y hy hn => ⟨rfl, yes_go ?_⟩) fun H' s' hd => ?_
                  · obtain ⟨rfl, ex⟩ := y
                    obtain ⟨d, ed, hd'⟩ := dps_get hts ex
                    have eg : ts.getD i .none = d := by rw [List.getD_eq_getElem?_getD, ed]; rfl
                    refine ⟨.int n, rfl, x, rfl, n, x, d, rfl, dp_same s3 hd', smAll_get (i := i) hallt ed, fun H4 s4 => ?_⟩
                    exact hy _ (by rw [eg]) _ s4
                  · rw [kept_some] at hd
                    refine ⟨D, (List.range ys.length).map fun i => isPair n (ts.getD i .none), rfl, .inl (.inl (by rw [List.map_map]; exact hd)), _, rfl, ?_⟩
                    rw [et, all_range]
                    cases h4 : ts.all (isPair n) with
                    | false =>
                      refine iteF ?_
                      have e : isWeb (.tuple [.int n, .tuple ts]) = false := by
                        rw [ew, h3]
                        unfold isTies
                        rw [show itemsOf (.tuple ts) = ts from rfl, show intOf (.int n) = n from rfl, h4]
                        simp
                      rw [e] at q
                      exact q H' s'
                    | true =>
                      refine iteT ⟨.ref b, rfl, b, ys, fun i => HT.lexLt ((ts.map intsOf).getD i []) ((ts.map intsOf).getD (i + 1) []), rfl, sameT s' hb, by rw [et]; exact line_100000 hlt, fun i x y h1 h2 => ties_cmp hts h4 s' h1 h2, fun H5 s5 => ?_⟩
                      have e : (List.range (ys.length - 1)).all (fun i => HT.lexLt ((ts.map intsOf).getD i []) ((ts.map intsOf).getD (i + 1) [])) = isWeb (.tuple [.int n, .tuple ts]) := by
                        rw [ew, h3]
                        unfold isTies ascP
                        rw [show itemsOf (.tuple ts) = ts from rfl, show intOf (.int n) = n from rfl, h4, et, List.length_map]
                        simp [isTup]
                      rw [e]
                      exact q H5 (s'.trans s5)
                | _ => exact iteT (no (by rw [ew, h3]; simp [isTup]))
      · have e2 : (!decide (V.int (xs.length : Nat) = V.int 2)) = true := by
          rw [Bool.not_eq_true', decide_eq_false_iff_not]
          intro z
          have := V.int.inj z
          omega
        rw [e2]
        refine iteT (no ?_)
        rw [el] at h2
        match ds, h2 with
        | [], _ => rfl
        | [_], _ => rfl
        | [_, _], h2 => exact absurd rfl h2
        | _ :: _ :: _ :: _, _ => rfl
    | _ => exact iteT (no rfl)
end
end Lk02
/-! The check of a web; the pairs of so many places. -/
namespace LV
open PySem PySem.Spec PyProof.Rows L2
/-- a block's walk, its body by any reading -/
theorem lcW {J : It} {n : Nat} {G : Hp → Prop} {Y : Nat → Hp → V → Hp → Prop} (w : Walk J n G Y) {H0 : Hp} {Qd : Hp → Prop} {B : (Hp → Prop) → V → Hp → Prop} (Pv : Nat → Hp → Prop) (h0 : Pv 0 H0) (hG : ∀ i H, i ≤ n → Pv i H → G H)
    (hs : ∀ i x H H', i < n → Pv i H → Y i H x H' → B (Pv (i + 1)) x H') (hd : ∀ H, Pv n H → Qd H) :
    ∃ W : Nat → Nat → Hp → Prop, (∃ m, W 0 m H0) ∧ ∀ i m H, W i m H → (J.stop i H ∧ Qd H) ∨ (J.go i H ∧ ∃ Nx : Hp → Prop, (∀ H', Nx H' → ∃ m', m' < m ∧ W (i + 1) m' H') ∧ ∀ x H', J.yld i H x H' → B Nx x H') := by
  refine ⟨fun i m H => m = n - i ∧ i ≤ n ∧ Pv i H, ⟨n, by simp, Nat.zero_le _, h0⟩, ?_⟩
  rintro i m H ⟨rfl, hi, p⟩
  have q := hG i H hi p
  rcases Nat.lt_or_ge i n with hlt | hge
  · exact .inr ⟨w.goes i H hlt q, Pv (i + 1), fun H' p' => ⟨n - (i + 1), by omega, rfl, hlt, p'⟩, fun x H' y => hs i x H H' hlt p (w.yields i H x H' hlt q y)⟩
  · have e : i = n := by omega
    subst e
    exact .inl ⟨w.stops H q, hd H p⟩
theorem yes_if {σ : L2.St} {H : Hp} {A B : Hp → Prop} (h : A H) : tYes σ H fun b H3 => if b = true then A H3 else B H3 := by
  show (if true = true then A H else B H)
  rw [if_pos rfl]
  exact h
/-! ### an error class without fields -/
structure OwnE (K : PySem.W.Frag) (mg : Str → Option Value) (x : Str) (C : Addr) : Prop where
  g : mg x = some (.ref C)
  q : PySem.W.excIn K C [.type "ValueError", .type "Exception", .type "BaseException", .type "object"] "ValueError.__new__" = true
  k : PySem.W.keepIn K (.ref C) = true
  b : PySem.W.subIn K (.ref C) (.type "BaseException") = some true
  t : PySem.W.typeIn K (.ref C) = some (.type "type")
theorem ps_raiseOwn {X : Cx} {W : WX} {x m : Str} {C : Addr} {j : Nat} {p p2 pos pos2 : Pos} (hc : X.calm = true) (T : OwnE X.K X.mg x C) (tk : Takes X W) (hg : Gl X x := by rfl) (hd : (x == ("__debug__" : Str)) = false := by decide) :
    PS X (.Raise (some (.Call (.Name x p) [.Constant (.str m) j p2] [] pos)) none pos2) (fun _ σ H => W (.ref C) none σ H) :=
  ps_raise hc tk (pmk_own PySem.F.excBase_ValueError T.q T.g T.k (raises_own T.b T.t) hg hd)
/-! ### pairs -/
def tieD (p : Nat × Nat) : PyData := .tuple [.int p.1, .int p.2]
theorem dp_pair {K : PySem.W.Frag} {H : Hp} {v : V} {p : Nat × Nat} (h : Dp K H v (tieD p)) : ∃ a, v = .ref a ∧ SqT K H a [.int p.1, .int p.2] := by
  cases h with
  | @tup a xs ds hs ha =>
    cases ha with
    | cons h1 h2 =>
      cases h2 with
      | cons h3 h4 =>
        cases h4
        cases h1
        cases h3
        exact ⟨a, rfl, hs⟩
theorem mk_pair {K : PySem.W.Frag} {H : Hp} {a : Addr} {x y : Nat} (h : SqT K H a [.int x, .int y]) : Dp K H (.ref a) (tieD (x, y)) := .tup h (.cons (.int _) (.cons (.int _) .nil))
theorem dps_append {K : PySem.W.Frag} {H : Hp} : ∀ {xs ys : List V} {ds es : List PyData}, DpAll K H xs ds → DpAll K H ys es → DpAll K H (xs ++ ys) (ds ++ es)
  | _, _, _, _, .nil, h => h
  | _, _, _, _, .cons h hs, h' => .cons h (dps_append hs h')
/-- a tuple is not a tracked list -/
theorem tup_upd {K : PySem.W.Frag} {H : Hp} {D a : Addr} {zs xs : List V} {o : HO} (hD : H D = some (.lst zs)) (h : SqT K H a xs) : SqT K (upd H D o) a xs := by
  rcases h with (h | ⟨u, h⟩) | h
  · exact .inl (.inl (by rw [upd_ne (ne_of h hD (by intro z; cases z))]; exact h))
  · exact .inl (.inr ⟨u, by rw [upd_ne (ne_of h hD (by intro z; cases z))]; exact h⟩)
  · exact .inr h
theorem tie_upd {K : PySem.W.Frag} {H : Hp} {D : Addr} {zs : List V} {o : HO} (hD : H D = some (.lst zs)) {v : V} {p : Nat × Nat} (h : Dp K H v (tieD p)) : Dp K (upd H D o) v (tieD p) := by
  obtain ⟨a, rfl, hs⟩ := dp_pair h
  exact mk_pair (tup_upd hD hs)
theorem ties_upd {K : PySem.W.Frag} {H : Hp} {D : Addr} {zs : List V} {o : HO} (hD : H D = some (.lst zs)) : ∀ {ps : List (Nat × Nat)} {xs : List V}, DpAll K H xs (ps.map tieD) → DpAll K (upd H D o) xs (ps.map tieD)
  | [], _, h => by cases h; exact .nil
  | p :: r, _, h => by
    cases h with
    | cons h1 h2 => exact .cons (tie_upd hD h1) (ties_upd hD h2)
/-- the pairs (x, y), y from x + 1 on, of n places -/
def pairsRow (n x : Nat) : List (Nat × Nat) := (List.range (n - (x + 1))).map fun k => (x, x + 1 + k)
def pairsN (n : Nat) : List (Nat × Nat) := (List.range n).flatMap (pairsRow n)
end LV
namespace Lk02
open PySem PySem.Spec PyProof.Rows L2 LV
def spCheck (K : PySem.W.Frag) (C : Addr) : Sp := fun vs H Q E => ∃ v d, vs = [v] ∧ Dp K H v d ∧ sm d = true ∧ (isWeb d = true → ∀ H', Same H H' → Q .non H') ∧ (isWeb d = false → ∀ H', Same H H' → E (.ref C) none H')
def spPairs (K : PySem.W.Frag) : Sp := fun vs H Q _ => ∃ n : Nat, vs = [.int n] ∧ n ≤ 12 ∧ ∀ H' p xs, Same H H' → H p = none → H' p = some (.lst xs) → DpAll K H' xs ((pairsN n).map tieD) → Q (.ref p) H'
section
variable {P : Program} {w : World} {K : PySem.W.Frag} {mg : Str → Option Value} {base : Heap}
theorem ok_check_web {C : Addr} (D : Dn K mg "check_web" s_check_web ["web"]) (T : OwnE K mg "InvalidWeb" C) (O1 : Ok P w K mg base CX0 6 "is_web_form" ["value"] (spWeb K)) : Ok P w K mg base (L2.CX P w) 7 "check_web" ["web"] (spCheck K C) := by
  refine D.okX sc_check_web (fun vs H Q E h => ?_) fun f cdv A outer s H vs Q E hr h => ?_
  · obtain ⟨v, d, rfl, _⟩ := h
    rfl
  · obtain ⟨v, d, rfl, hd, hm, q, e⟩ := h
    refine ⟨_, pss_one (ps_if (pt_not (pt_val (pe_ok O1 hr pass0 (pa_cons (pv 0) pa_nil)))) (pss_one (ps_raiseOwn rfl T (takes_of rfl rfl rfl rfl))) pss_nil), ?_⟩
    refine ⟨v, rfl, v, d, rfl, hd, hm, fun H1 s1 => ⟨_, rfl, ?_⟩⟩
    cases hw : isWeb d with
    | true => exact iteF (q hw H1 s1)
    | false => exact iteT (e hw H1 s1)
theorem ok_all_pairs (D : Dn K mg "all_pairs" s_all_pairs ["count"]) (m1 : mg "range" = none) : Ok P w K mg base CX0 1 "all_pairs" ["count"] (spPairs K) := by
  refine D.ok sc_all_pairs (fun vs H Q E h => ?_) fun f cdv A outer s H vs Q E hr h => ?_
  · obtain ⟨n, rfl, _⟩ := h
    rfl
  · obtain ⟨n, rfl, hn, q⟩ := h
    refine ⟨_, pss_one (ps_ret (pe_lc2 (own := [("x", 1), ("y", 2)]) (vs1 := [2]) (g := gName 1) (tt := tYes) (g1 := gName 2) (tt1 := tYes) (te := tTup (tCons (tVar 1) (tCons (tVar 2) tNil))) (wi1 := iRng2 (tCons (tOp (rI0 fun i j => .int (i + j)) (tVar 1) (tC (.int 1))) (tCons (tVar 0) tNil))) (by rfl) sc_all_pairs.nd
      (pi_range1 rfl m1 (pa_cons (pv 0) pa_nil)) (blkOk_by (N := n_all_pairs) (sc := defScope s_all_pairs) (by decide +kernel)) (by decide) (fun _ _ _ _ _ => pg_name (i := 1) sc_all_pairs.nd rfl (Or.inl rfl)) (fun _ _ _ _ _ => pts_nil)
      (fun _ _ _ _ _ => by exact pi_range2 rfl m1 (pa_cons (pe_op op_add (pv 1) pe_int) (pa_cons (pv 0) pa_nil))) (fun _ _ _ _ _ => pg_name (i := 2) sc_all_pairs.nd rfl (Or.inl rfl)) (fun _ _ _ _ _ => pts_nil)
      (fun _ _ _ _ _ => by exact pe_tup (pa_cons (pv 1) (pa_cons (pv 2) pa_nil))))), ?_⟩
    refine ⟨.int n, rfl, n, rfl, by omega, by omega, fun D hD => ?_⟩
    rw [Int.toNat_natCast]
    refine lcW walk_range (fun i H' => Same H H' ∧ ∃ xs, H' D = some (.lst xs) ∧ xs.length ≤ 12 * i ∧ DpAll K H' xs (((List.range i).flatMap (pairsRow n)).map tieD)) ⟨same_new hD, [], upd_same, Nat.zero_le _, .nil⟩ (fun _ _ _ _ => trivial) (fun i x H2 H3 hi p y => ?_) fun H' p => ?_
    · obtain ⟨rfl, rfl⟩ := y
      obtain ⟨s2, xs, hd, hl, ha⟩ := p
      refine ⟨rfl, yes_if ?_⟩
      refine ⟨_, rfl, 0 + (i : Int), 1, rfl, rfl, _, rfl, _, _, rfl, ⟨by omega, by omega, by omega, by omega⟩, ?_⟩
      have e1 : ((n : Int) - (0 + (i : Int) + 1)).toNat = n - (i + 1) := by omega
      rw [e1]
      refine lcW walk_range (fun j H' => Same H H' ∧ ∃ xs, H' D = some (.lst xs) ∧ xs.length ≤ 12 * i + j ∧ DpAll K H' xs (((List.range i).flatMap (pairsRow n) ++ (List.range j).map fun k => (i, i + 1 + k)).map tieD)) ⟨s2, xs, hd, hl, by simpa using ha⟩ (fun _ _ _ _ => trivial) (fun j x H4 H5 hj p y => ?_) fun H' p => ?_
      · obtain ⟨rfl, rfl⟩ := y
        obtain ⟨s4, ys, hd4, hl4, ha4⟩ := p
        refine ⟨rfl, yes_go ⟨_, rfl, _, rfl, by show 2 ≤ sizeLine; decide, fun t ht => ⟨ys, ?_, ?_, ?_, ys ++ [.ref t], upd_same, ?_, ?_⟩⟩⟩
        · rw [upd_ne (ne_of_none hd4 ht)]
          exact hd4
        · rw [sizeLine_eq]; omega
        · intro b o e
          rw [upd_ne (ne_of_none e hD), upd_ne (ne_of_none (s4 _ _ e) ht)]
          exact s4 _ _ e
        · rw [List.length_append, List.length_singleton]; omega
        · have hd5 : (upd H5 t (.tup [.int (0 + (i : Int)), .int (0 + (i : Int) + 1 + (j : Int))])) D = some (.lst ys) := by rw [upd_ne (ne_of_none hd4 ht)]; exact hd4
          have a5 := dps_same (same_new (o := .tup [.int (0 + (i : Int)), .int (0 + (i : Int) + 1 + (j : Int))]) ht) ha4
          have t5 : Dp K (upd H5 t (.tup [.int (0 + (i : Int)), .int (0 + (i : Int) + 1 + (j : Int))])) (.ref t) (tieD (i, i + 1 + j)) := mk_pair (.inl (.inl (by
            rw [upd_same]
            have e1 : (0 : Int) + (i : Int) = ((i : Nat) : Int) := by omega
            have e2 : (0 : Int) + (i : Int) + 1 + (j : Int) = ((i + 1 + j : Nat) : Int) := by omega
            rw [e2, e1])))
          have both := dps_append a5 (DpAll.cons t5 .nil)
          have el : (((List.range i).flatMap (pairsRow n) ++ (List.range j).map fun k => (i, i + 1 + k)).map tieD) ++ [tieD (i, i + 1 + j)] = ((List.range i).flatMap (pairsRow n) ++ (List.range (j + 1)).map fun k => (i, i + 1 + k)).map tieD := by simp [List.range_succ]
          rw [el] at both
          exact ties_upd hd5 both
      · obtain ⟨s4, ys, hd4, hl4, ha4⟩ := p
        refine ⟨s4, ys, hd4, by omega, ?_⟩
        rw [List.range_succ, List.flatMap_append]
        simpa [pairsRow] using ha4
    · obtain ⟨s2, xs, hd, hl, ha⟩ := p
      exact q H' D xs s2 hD hd ha
end
end Lk02
/-! The text of a web. -/
namespace LV
open PySem PySem.Spec PyProof.Rows L2
def letters : Str := "abcdefghijkl"
def letS (i : Nat) : Str := ⟨#[97 + i]⟩
def tieS (p : Nat × Nat) : Str := letS p.1 ++ letS p.2
def textS (n : Nat) (ps : List (Nat × Nat)) : Str := letS (n - 1) ++ ":" ++ Txt.join "," (ps.map tieS)
def webD (n : Nat) (ps : List (Nat × Nat)) : PyData := .tuple [.int n, .tuple (ps.map tieD)]
theorem letters_at : ∀ x, x < 12 → letters.cps.toList[x]? = some (97 + x) := by decide +kernel
theorem at_letter {i : Int} {x : Nat} (e : i = (x : Int)) (h : x < 12) : atI letters.cps.toList i = some (97 + x) := by
  rw [e]
  exact atI_nat (letters_at x h)
theorem letters_len : letters.length = 12 := by decide +kernel
theorem letS_len (i : Nat) : (letS i).length = 1 := rfl
theorem str_len (a b : Str) : (a ++ b).length = a.length + b.length := by first | exact strLen_append _ _ | simp
theorem tieS_len (p : Nat × Nat) : (tieS p).length = 2 := by
  unfold tieS
  rw [str_len]
  rfl
theorem ties_sum : ∀ ps : List (Nat × Nat), ((ps.map tieS).map (·.length)).sum = 2 * ps.length
  | [] => rfl
  | p :: r => by
    rw [List.map_cons, List.map_cons, List.sum_cons, ties_sum r, tieS_len, List.length_cons]
    omega
/-- all ties are of n places -/
def Within' (n : Nat) (ps : List (Nat × Nat)) : Prop := ∀ p ∈ ps, p.1 < n ∧ p.2 < n
end LV
namespace Lk02
open PySem PySem.Spec PyProof.Rows L2 LV
def spText (K : PySem.W.Frag) (C : Addr) : Sp := fun vs H Q E => ∃ v d, vs = [v] ∧ Dp K H v d ∧ sm d = true ∧ (isWeb d = false → ∀ H', Same H H' → E (.ref C) none H') ∧
  (isWeb d = true → ∃ n ps, d = webD n ps ∧ 1 ≤ n ∧ n ≤ 12 ∧ ps.length ≤ 66 ∧ Within' n ps ∧ ∀ H', Same H H' → (Txt.join "," (ps.map tieS)).length ≤ 1000 ∧ Q (.str (textS n ps)) H')
section
variable {P : Program} {w : World} {K : PySem.W.Frag} {mg : Str → Option Value} {base : Heap}
theorem ok_web_text {C : Addr} {tk : Tok} (D : Dn K mg "web_text" s_web_text ["web"]) (mL : mg "LETTERS" = some (.str letters tk)) (O1 : Ok P w K mg base (L2.CX P w) 7 "check_web" ["web"] (spCheck K C)) : Ok P w K mg base (L2.CX P w) 8 "web_text" ["web"] (spText K C) := by
  refine D.okX sc_web_text (fun vs H Q E h => ?_) fun f cdv A outer s H vs Q E hr h => ?_
  · obtain ⟨v, d, rfl, _⟩ := h
    rfl
  · obtain ⟨v, d, rfl, hd, hm, e, q⟩ := h
    refine ⟨_, pss_cons (ps_expr (pe_ok O1 hr (E := E) (passes_call (takes_of rfl rfl rfl rfl) (fun _ _ _ _ h => h)) (pa_cons (pv 0) pa_nil)))
      (pss_one (ps_ret (pe_op op_add_str (pe_op op_add_str (pe_ix ix_str (pe_glob (v := .str letters) rfl mL ⟨_, rfl⟩) (pe_op op_sub (pe_ix ix_tup (pv 0) pe_int (fun _ _ => rfl)) pe_int) (fun _ _ => rfl)) pe_str)
        (pe_join pe_str (pe_lc (own := [("x", 1), ("y", 2)]) (g := gTup K 2 (gCons (gName 1) (gCons (gName 2) gNil))) (tt := tYes)
          (te := tOp (fun x y H Q => ∃ i j, x = .str i ∧ y = .str j ∧ i.length + j.length ≤ sizeLine ∧ Q (.str (i ++ j)) H) (tOp rIxS (tC (.str letters)) (tVar 1)) (tOp rIxS (tC (.str letters)) (tVar 2))) (by rfl) sc_web_text.nd
          (pi_tup (pe_ix ix_tup (pv 0) pe_int (fun _ _ => rfl))) (blkOk_by (N := n_web_text) (sc := defScope s_web_text) (by decide +kernel))
          (fun _ _ _ _ _ => pg_tup rfl (pgs_cons (pg_name (i := 1) sc_web_text.nd rfl (.inl rfl)) (pgs_cons (pg_name (i := 2) sc_web_text.nd rfl (.inl rfl)) pgs_nil))) (fun _ _ _ _ _ => pts_nil)
          (fun _ _ _ _ _ => by exact pe_op op_add_str (pe_ix ix_str (pe_glob (v := .str letters) rfl mL ⟨_, rfl⟩) (pv 1) (fun _ _ => rfl)) (pe_ix ix_str (pe_glob (v := .str letters) rfl mL ⟨_, rfl⟩) (pv 2) (fun _ _ => rfl)))))))), ?_⟩
    refine ⟨v, rfl, v, d, rfl, hd, hm, fun hw H1 s1 => ?_, fun hw H1 s1 => e hw H1 s1⟩
    obtain ⟨n, ps, rfl, hn1, hn2, hl, hwi, q⟩ := q hw
    cases dp_same s1 hd with
    | @tup a xs ds hs ha =>
      cases ha with
      | @cons c _ _ _ hc hr' =>
        cases hr' with
        | @cons t _ _ _ ht hnil =>
          cases hnil
          cases hc
          cases ht with
          | @tup b ys ts hb hts =>
            have hlen := dps_len hts
            rw [List.length_map] at hlen
            refine ⟨.ref a, rfl, a, _, 0, _, rfl, rfl, hs, atI_nat (j := 0) rfl, n, 1, rfl, rfl, letters, _, _, rfl, rfl, by rw [letters_len, sizeLine_eq]; decide, at_letter (x := n - 1) (by omega) (by omega), _, _, rfl, rfl, by rw [sizeLine_eq]; exact (show 1 + 1 ≤ 16777216 by decide),
              ⟨",", rfl⟩, .ref a, rfl, a, _, 1, _, rfl, rfl, hs, atI_nat (j := 1) rfl, b, rfl, ⟨ys, hb⟩, fun D hD => ?_⟩
            refine lc_fm (walk_tup (K := K) (a := b) (xs := ys)) (lays_at ys) (fun i => some (.str (tieS (ps.getD i (0, 0))))) (by rw [hlen, sizeLine_eq]; omega) hD (fun H' s' => sameT s' hb)
              (fun i x H2 H3 Qe Nx hi s2 s3 y hy hn => ?_) fun H' s' hd' => ?_
            · obtain ⟨rfl, ex⟩ := y
              obtain ⟨d, ed, hdx⟩ := dps_get hts ex
              rw [List.getElem?_map] at ed
              obtain ⟨p, ep, rfl⟩ := Option.map_eq_some_iff.mp ed
              obtain ⟨c, rfl, hc'⟩ := dp_pair hdx
              have eg : ps.getD i (0, 0) = p := by rw [List.getD_eq_getElem?_getD, ep]; rfl
              obtain ⟨w1, w2⟩ := hwi p (List.mem_of_getElem? ep)
              refine ⟨c, _, rfl, sameT s3 hc', rfl, _, _, rfl, _, [], rfl, rfl, rfl, yes_go ⟨.int p.1, rfl, letters, _, _, rfl, rfl, by rw [letters_len, sizeLine_eq]; decide, at_letter (x := p.1) rfl (by omega),
                .int p.2, rfl, letters, _, _, rfl, rfl, by rw [letters_len, sizeLine_eq]; decide, at_letter (x := p.2) rfl (by omega), _, _, rfl, rfl, by rw [sizeLine_eq]; exact (show 1 + 1 ≤ 16777216 by decide), ?_⟩⟩
              exact hy _ (by rw [eg]; rfl) _ (Same.refl _)
            · rw [kept_some] at hd'
              have el : (List.range ys.length).map (fun i => V.str (tieS (ps.getD i (0, 0)))) = (ps.map tieS).map V.str := by
                rw [hlen, List.map_map]
                refine List.ext_getElem? fun i => ?_
                rw [List.getElem?_map, List.getElem?_map]
                by_cases hi : i < ps.length
                · rw [List.getElem?_range hi, List.getElem?_eq_getElem hi]
                  simp [List.getD_eq_getElem?_getD, List.getElem?_eq_getElem hi]
                · rw [List.getElem?_eq_none (by simpa using hi), List.getElem?_eq_none (by simpa using hi)]
                  rfl
              rw [el] at hd'
              obtain ⟨hz, q'⟩ := q H' (s1.trans s')
              refine ⟨",", D, ps.map tieS, rfl, rfl, .inl (.inl (.inl hd')), ?_, _, _, rfl, rfl, ?_, q'⟩
              · rw [ties_sum, List.length_map, show (("," : Str)).length = 1 from rfl]
                omega
              · rw [str_len, sizeLine_eq]
                show _ + _ ≤ _
                have e1 : (⟨#[97 + (n - 1)]⟩ : Str).length = 1 := rfl
                have e2 : ((":" : Str)).length = 1 := rfl
                rw [e1, e2]
                omega
end
end Lk02
/-! The number of places and a tie, told from a text. -/
namespace LV
open PySem PySem.Spec PyProof.Rows L2
/-- the parts of the text that an error's __init__ hands on -/
def partsOf (st : Stmt) : List Expr := match defBody st with
  | .Expr (.Call _ [.JoinedStr es _] _ _) _ :: _ => es
  | _ => []
theorem ps_raiseF {X : Cx} {C fI : Addr} {x f : Str} {es : List Expr} {a : Expr} {ta : TA} {W : WX} {p pos pos2 : Pos} {k : Nat} (T : EIX.ExTxt X.prog X.K X.mg x f es C fI) (O : EIX.FldOk f) (hp : es.all (PartOk f) = true) (h2 : 2 ≤ es.length) (hn : es.length ≤ 12) (hr : Room k X.A) (tk : Takes X W) (ha : PA X [a] ta) (hc : X.calm = true := by rfl) (hg : Gl X x := by rfl)
    (hd : (x == ("__debug__" : Str)) = false := by decide) (he : starEach (a :: []) X.env = (false, eval a X.env) :: starEach [] X.env := by rfl) (hpl : (backTo pos (starEach [] X.env)).any (·.1) = false := by rfl) :
    PS X (.Raise (some (.Call (.Name x p) [a] [] pos)) none pos2) (fun _ σ H => tMkEx C f ta σ H fun cls d H' => W cls d σ H') := by
  obtain ⟨e1, e2, r, rfl⟩ : ∃ e1 e2 r, es = e1 :: e2 :: r := by
    cases es with
    | nil => exact absurd h2 (by show ¬ 2 ≤ 0; omega)
    | cons e1 r =>
      cases r with
      | nil => exact absurd h2 (by show ¬ 2 ≤ 1; omega)
      | cons e2 r => exact ⟨e1, e2, r, rfl⟩
  have hn' : r.length ≤ 10 := by
    rw [List.length_cons, List.length_cons] at hn
    omega
  exact ps_raise hc tk (pmk_ex T O hp hn' hr ha hg hd he hpl)
/-- a number's text is short -/
theorem small_nat {k : Nat} (h : k ≤ 100000) : ((k : Int).natAbs).log2 < 1920 := by
  rw [Int.natAbs_natCast]
  by_cases h0 : k = 0
  · subst h0; decide
  · exact Nat.lt_of_lt_of_le ((Nat.log2_lt h0).mpr (show k < 2 ^ 17 by omega)) (by decide)
/-! ### signs of a text -/
theorem cut_one (z : Str) (i : Nat) {j : Int} (hj : j = (i : Int) + 1) : (cutS z (some (i : Int)) (some j)).cps.toList = (z.cps.toList.drop i).take 1 := by
  subst hj
  have zl : z.length = z.cps.toList.length := by first | rfl | simp [Str.length]
  unfold cutS
  rw [show HT.sIx z.length 0 (some (i : Int)) = min i z.length from HT.sIx_nat _ _ _, show HT.sIx z.length z.length (some ((i : Int) + 1)) = min (i + 1) z.length from HT.sIx_nat z.length z.length (i + 1)]
  show ((z.cps.toList.drop (min i z.length)).take (min (i + 1) z.length - min i z.length)).toArray.toList = _
  rw [List.toList_toArray]
  by_cases h : i < z.length
  · rw [show min i z.length = i by omega, show min (i + 1) z.length - i = 1 by omega]
  · rw [show min i z.length = z.length by omega, List.drop_eq_nil_of_le (by omega), List.drop_eq_nil_of_le (by omega)]
    simp
theorem str_ext {a b : Str} : V.str a = V.str b ↔ a.cps.toList = b.cps.toList := by
  constructor
  · intro h
    rw [V.str.inj h]
  · intro h
    obtain ⟨ca⟩ := a
    obtain ⟨cb⟩ := b
    have e : ca = cb := Array.toList_inj.mp h
    rw [e]
theorem one_at (t : List Nat) (i c : Nat) : (t.drop i).take 1 = [c] ↔ t[i]? = some c := by
  rw [← List.head?_drop]
  cases t.drop i with
  | nil => simp
  | cons x r => simp
theorem sign_is (z : Str) (i c : Nat) {j : Int} (hj : j = (i : Int) + 1) : decide (V.str (cutS z (some (i : Int)) (some j)) = V.str ⟨#[c]⟩) = decide (z.cps.toList[i]? = some c) := by
  rw [decide_eq_decide, str_ext, cut_one z i hj]
  exact one_at _ _ _
theorem sign_is' (z : Str) (i c : Nat) {j : Int} (hj : j = (i : Int) + 1) : decide (V.str ⟨#[c]⟩ = V.str (cutS z (some (i : Int)) (some j))) = decide (z.cps.toList[i]? = some c) := by
  rw [← sign_is z i c hj, decide_eq_decide]
  exact eq_comm
theorem letter_ix : ∀ c, c < 109 → 97 ≤ c → Txt.index0 letters ⟨#[c]⟩ = some (c - 97) := by decide +kernel
theorem letter_in (c : Nat) : c ∈ letters.cps.toList ↔ 97 ≤ c ∧ c < 109 := by
  have e : letters.cps.toList = [97, 98, 99, 100, 101, 102, 103, 104, 105, 106, 107, 108] := by decide +kernel
  rw [e]
  simp
  omega
/-! ### told -/
inductive Told (α : Type) where
  | ok (a : α)
  | bad (k : Nat)
def countT : List Nat → Told Nat
  | [] => .bad 0
  | c :: r => if 97 ≤ c ∧ c < 109 then (if r[0]? = some 58 then .ok (c - 97 + 1) else .bad 1) else .bad 0
def tieT (t : List Nat) (k : Nat) (left : List (Nat × Nat)) : Told (Nat × Nat) :=
  if left.filter (fun p => decide (t[k]? = some (97 + p.1))) = [] then .bad k
  else match (left.filter (fun p => decide (t[k]? = some (97 + p.1)))).find? (fun p => decide (t[k + 1]? = some (97 + p.2))) with
    | some p => .ok p
    | none => .bad (k + 1)
/-- the error with its index, raised from the heap H on -/
def Bad (C : Addr) (H : Hp) (E : XK) (k : Nat) : Prop := ∀ H1 d, Same H H1 → H1 d = none → E (.ref C) (some d) (upd H1 d (.xd [("index", .int k)]))
end LV
namespace Lk02
open PySem PySem.Spec PyProof.Rows L2 LV
abbrev ixParts : List Expr := partsOf (inClass (topS 3) 0)
theorem ix_fld : EIX.FldOk "index" where
  lkf := by rfl
  lks := by rfl
  lkc := by rfl
  lku := by rfl
  cel := by decide
  dbg := by decide
  ms := fun _ _ => rfl
  mf := fun _ _ => rfl
  bnd := fun _ _ _ _ _ _ _ _ _ _ _ _ => by first | rfl | with_unfolding_all rfl
theorem ix_all : ixParts.all (PartOk "index") = true := by decide +kernel
theorem ix_len : ixParts.length = 3 := by decide +kernel
def spCount (C : Addr) : Sp := fun vs H Q E => ∃ z : Str, vs = [.str z] ∧ z.length ≤ 100000 ∧ match countT z.cps.toList with
  | .ok n => Q (.int n) H
  | .bad k => Bad C H E k
end Lk02
/-! Pairs compared; a tie told from a text. -/
namespace LV
open PySem PySem.Spec PyProof.Rows L2
/-- q stands ahead of p -/
def pLt (q p : Nat × Nat) : Bool := decide (q.1 < p.1 ∨ (q.1 = p.1 ∧ q.2 < p.2))
def pAt (p : Nat × Nat) (j : Nat) : Int := if j = 0 then (p.1 : Int) else (p.2 : Int)
def rGtP (K : PySem.W.Frag) : R2 := fun x y H Q => ∃ (a b : Addr) (p q : Nat × Nat), x = .ref a ∧ y = .ref b ∧ SqT K H a [.int p.1, .int p.2] ∧ SqT K H b [.int q.1, .int q.2] ∧ Q (.bl (pLt q p)) H
theorem pair_vals {p : Nat × Nat} {its : List Value} (r : Vals [.int p.1, .int p.2] its) : ∃ t t', its = [.int p.1 t, .int p.2 t'] := by
  obtain ⟨u, w, rfl, ru, rw'⟩ := vals2 r
  obtain ⟨t, rfl⟩ := ru
  obtain ⟨t', rfl⟩ := rw'
  exact ⟨t, t', rfl⟩
theorem lex_two (p q : Nat × Nat) : Ob.lexAt (fun j => pAt p j == pAt q j) (fun j => decide (pAt q j < pAt p j)) false 0 2 = pLt q p := by
  rw [Ob.lexAt_succ, Ob.lexAt_succ, Ob.lexAt_zero]
  obtain ⟨a, b⟩ := p
  obtain ⟨c, d⟩ := q
  have e0 : pAt (a, b) 0 = (a : Int) := rfl
  have e1 : pAt (a, b) (0 + 1) = (b : Int) := rfl
  have e2 : pAt (c, d) 0 = (c : Int) := rfl
  have e3 : pAt (c, d) (0 + 1) = (d : Int) := rfl
  simp only [e0, e1, e2, e3, pLt]
  by_cases h1 : a = c
  · subst h1
    by_cases h2 : b = d
    · subst h2; simp
    · have h2' : (b : Int) ≠ (d : Int) := by omega
      simp [h2']
  · have h1' : (a : Int) ≠ (c : Int) := by omega
    have h1'' : ¬ c = a := fun z => h1 z.symm
    simp [h1', h1'']
theorem op_gtP {X : Cx} (hu : X.A.units < cLine) : OpR X (compareOp .Gt) (rGtP X.K) := by
  rintro pins s σ H x y v u Q I rx ry ⟨a, b, p, q, rfl, rfl, ha, hb, hq⟩
  cases rx; cases ry
  obtain ⟨i1, r1, t1, _⟩ := I.tuple ha
  obtain ⟨i2, r2, t2, _⟩ := I.tuple hb
  obtain ⟨k1, k2, rfl⟩ := pair_vals r1
  obtain ⟨k3, k4, rfl⟩ := pair_vals r2
  have R := Ob.RcOp.tuples_gt (A := X.A) (s := s) (e := fun j => pAt p j == pAt q j) (r := fun j => decide (pAt q j < pAt p j)) t1 t2 hu (fun j h1 h2 => ?_) fun j h1 h2 _ => ?_
  · have R' : Ob.RcOp .Gt X.A s (.ref a) (.ref b) (pLt q p) := by
      rw [← lex_two p q]
      exact R
    exact R' X.prog X.w X.xe (EP X pins σ Q) ⟨.bl _, H, I, rfl, hq⟩
  · match j, h1 with
    | 0, _ => exact SeqAt.EqAt.int_int _ _ _ _
    | 1, _ => exact SeqAt.EqAt.int_int _ _ _ _
    | j + 2, h => exact absurd h (by show ¬ j + 2 < 2; omega)
  · match j, h1 with
    | 0, _ => exact Ob.RcOp.gt_int _ _ _ _
    | 1, _ => exact Ob.RcOp.gt_int _ _ _ _
    | j + 2, h => exact absurd h (by show ¬ j + 2 < 2; omega)
/-- the kept items of a list of pairs -/
theorem kept_ties {K : PySem.W.Frag} {H : Hp} {f : Nat × Nat → Bool} {ps : List (Nat × Nat)} {xs : List V} (h : DpAll K H xs (ps.map tieD)) :
    ∀ i, i ≤ xs.length → DpAll K H (kept (fun j => if f (ps.getD j (0, 0)) = true then xs[j]? else none) i) (((ps.take i).filter f).map tieD)
  | 0, _ => by
    rw [List.take_zero]
    exact .nil
  | i + 1, hi => by
    have ih := kept_ties (f := f) h i (by omega)
    have hl := dps_len h
    rw [List.length_map] at hl
    have hp : i < ps.length := by omega
    obtain ⟨d, ed, hd⟩ := dps_get h (List.getElem?_eq_getElem (show i < xs.length by omega))
    rw [List.getElem?_map, List.getElem?_eq_getElem hp] at ed
    cases ed
    have eg : ps.getD i (0, 0) = ps[i] := by rw [List.getD_eq_getElem?_getD, List.getElem?_eq_getElem hp]; rfl
    rw [kept_succ, List.take_succ, List.getElem?_eq_getElem hp, List.filter_append, List.map_append]
    refine dps_append ih ?_
    rw [eg]
    cases hf : f ps[i] with
    | false =>
      simp only [Bool.false_eq_true, if_false]
      show DpAll K H [] (List.map tieD (List.filter f [ps[i]]))
      rw [List.filter_cons_of_neg (by rw [hf]; decide)]
      exact .nil
    | true =>
      simp only [if_true]
      rw [List.getElem?_eq_getElem (show i < xs.length by omega)]
      show DpAll K H [xs[i]] (List.map tieD (List.filter f [ps[i]]))
      rw [List.filter_cons_of_pos hf]
      exact .cons hd .nil
theorem sameL {K : PySem.W.Frag} {H H' : Hp} {a : Addr} {xs : List V} (e : Same H H') (h : SqL K H a xs) : SqL K H' a xs := by
  rcases h with (h | ⟨u, h⟩) | h
  · exact .inl (.inl (e _ _ h))
  · exact .inl (.inr ⟨u, e _ _ h⟩)
  · exact .inr h
theorem find_at {α : Type} {g : α → Bool} {bs : List α} {i : Nat} {p : α} (h : (bs.take i).find? g = none) (e : bs[i]? = some p) (hg : g p = true) : bs.find? g = some p := by
  have hi : i < bs.length := (List.getElem?_eq_some_iff.mp e).1
  have ep : bs[i] = p := (List.getElem?_eq_some_iff.mp e).2
  rw [← List.take_append_drop i bs, List.find?_append, h, List.drop_eq_getElem_cons hi, ep, List.find?_cons_of_pos hg]
  rfl
theorem find_next {α : Type} {g : α → Bool} {bs : List α} {i : Nat} {p : α} (h : (bs.take i).find? g = none) (e : bs[i]? = some p) (hg : g p = false) : (bs.take (i + 1)).find? g = none := by
  rw [List.take_succ, e, List.find?_append, h]
  show List.find? g [p] = none
  rw [List.find?_cons_of_neg (by rw [hg]; decide)]
  rfl
end LV
/-! A tie told from a text. -/
namespace Lk02
open PySem PySem.Spec PyProof.Rows L2 LV
def spTie (K : PySem.W.Frag) (C : Addr) : Sp := fun vs H Q E => ∃ (z : Str) (k : Nat) (l : Addr) (xs : List V) (left : List (Nat × Nat)), vs = [.str z, .int k, .ref l] ∧ z.length ≤ 100000 ∧ k ≤ 99999 ∧ SqL K H l xs ∧ DpAll K H xs (left.map tieD) ∧ left.length ≤ 66 ∧ Within' 12 left ∧
  match tieT z.cps.toList k left with
  | .ok p => ∀ H' v, Same H H' → Dp K H' v (tieD p) → Q v H'
  | .bad j => Bad C H E j
section
variable {P : Program} {w : World} {K : PySem.W.Frag} {mg : Str → Option Value} {base : Heap}
theorem ok_tie_told {C fI : Addr} {tk : Tok} (D : Dn K mg "tie_told" s_tie_told ["text", "at", "left"]) (mL : mg "LETTERS" = some (.str letters tk)) (T : EIX.ExTxt P K mg "InvalidText" "index" ixParts C fI) : Ok P w K mg base (L2.CX P w) 2 "tie_told" ["text", "at", "left"] (spTie K C) := by
  refine D.okX sc_tie_told (fun vs H Q E h => ?_) fun f cdv A outer s H vs Q E hr h => ?_
  · obtain ⟨z, k, l, xs, left, rfl, _⟩ := h
    rfl
  · obtain ⟨z, k, l, xs, left, rfl, hz, hk, hl, hx, hn, hw, h⟩ := h
    have l2 : 2 ≤ ixParts.length := by rw [ix_len]; decide
    have l12 : ixParts.length ≤ 12 := by rw [ix_len]; decide
    have hz' : z.length ≤ sizeLine := line_100000 hz
    refine ⟨_, pss_cons (ps_setLc (i := 3) (own := [("tie", 4)]) (g := gName 4)
        (tt := tTest (tOp rEq (tOp rIxS (tC (.str letters)) (tOp (rIxT K) (tVar 4) (tC (.int 0)))) (tSl rSlS (tVar 0) (tPart (tVar 1)) (tPart (tOp (rI0 fun i j => .int (i + j)) (tVar 1) (tC (.int 1)))))))
        (te := tVar 4) (by rfl) sc_tie_told.nd rfl rfl (sw_true rfl rfl rfl (by decide +kernel))
        (pi_list (pv 2)) (blkOk_by (N := n_tie_told) (sc := defScope s_tie_told) (by decide +kernel)) (fun _ _ _ _ _ => pg_name (i := 4) sc_tie_told.nd rfl (.inl rfl))
        (fun _ _ _ _ _ => by exact pts_one (pt_cmpR op_eq (pe_ix ix_str (pe_glob (v := .str letters) rfl mL ⟨_, rfl⟩) (pe_ix ix_tup (pv 4) pe_int (fun _ _ => rfl)) (fun _ _ => rfl)) (pe_slice sl_str (pv 0) (po_some (pv 1)) (po_some (pe_op op_add (pv 1) pe_int))) (nomark _)))
        (fun _ _ _ _ _ => by exact pv 4))
      (pss_cons (ps_if (pt_not (pt_truth (pv 3) (by intro _; rfl))) (pss_one (ps_raiseF T ix_fld ix_all l2 l12 hr (takes_of rfl rfl rfl rfl) (pa_cons (pv 1) pa_nil))) pss_nil)
      (pss_cons (ps_for (passes_of rfl) rfl (pi_list (pv 3)) (pg_name (i := 4) sc_tie_told.nd rfl (.inl rfl))
        (pss_one (ps_if (pt_cmpR op_eq (pe_ix ix_str (pe_glob (v := .str letters) rfl mL ⟨_, rfl⟩) (pe_ix ix_tup (pv 4) pe_int (fun _ _ => rfl)) (fun _ _ => rfl)) (pe_slice sl_str (pv 0) (po_some (pe_op op_add (pv 1) pe_int)) (po_some (pe_op op_add (pv 1) pe_int))) (nomark _)) (pss_one (ps_ret (pv 4))) pss_nil)))
      (pss_one (ps_raiseF T ix_fld ix_all l2 l12 hr (takes_of rfl rfl rfl rfl) (pa_cons (pe_op op_add (pv 1) pe_int) pa_nil))))), ?_⟩
    have hlen := dps_len hx
    rw [List.length_map] at hlen
    generalize ht : z.cps.toList = t at *
    refine ⟨.ref l, rfl, l, rfl, ⟨xs, hl⟩, fun D hD => ?_⟩
    refine lc_fm (walk_list (K := K) (a := l) (xs := xs)) (lays_at xs) (fun i => if decide (t[k]? = some (97 + (left.getD i (0, 0)).1)) = true then xs[i]? else none) (by rw [hlen, sizeLine_eq]; omega) hD (fun H' s' => sameL s' hl)
      (fun i x H2 H3 Qe Nx hi s2 s3 y hy hn' => ?_) fun H1 s1 hd => ?_
    · obtain ⟨rfl, ex⟩ := y
      obtain ⟨d, ed, hdx⟩ := dps_get hx ex
      rw [List.getElem?_map] at ed
      obtain ⟨p, ep, rfl⟩ := Option.map_eq_some_iff.mp ed
      obtain ⟨c, rfl, hc⟩ := dp_pair hdx
      have eg : left.getD i (0, 0) = p := by rw [List.getD_eq_getElem?_getD, ep]; rfl
      obtain ⟨w1, w2⟩ := hw p (List.mem_of_getElem? ep)
      refine ⟨rfl, .ref c, rfl, c, _, 0, _, rfl, rfl, sameT s3 hc, atI_nat (j := 0) rfl, letters, _, _, rfl, rfl, by rw [letters_len, sizeLine_eq]; decide, at_letter (x := p.1) rfl (by omega), .str z, rfl, .int k, rfl, _, rfl, .int k, rfl, _, _, rfl, rfl, _, rfl, z, rfl, hz', rfl, _, rfl, ?_⟩
      rw [sign_is' z k (97 + p.1) rfl, ht]
      rw [eg] at hy hn'
      by_cases hm : t[k]? = some (97 + p.1)
      · rw [decide_eq_true hm]
        refine iteT ⟨.ref c, rfl, hy _ ?_ _ (Same.refl _)⟩
        rw [decide_eq_true hm, if_pos rfl]
        exact ex
      · rw [decide_eq_false hm]
        rw [decide_eq_false hm] at hn'
        exact iteF (hn' (by rw [if_neg (by decide)]) _ (Same.refl _))
    · have hb := kept_ties (f := fun p => decide (t[k]? = some (97 + p.1))) (dps_same s1 hx) xs.length (Nat.le_refl _)
      rw [show List.take xs.length left = left from by rw [hlen]; exact List.take_length] at hb
      unfold tieT at h
      generalize hbs : left.filter (fun p => decide (t[k]? = some (97 + p.1))) = bs at h hb
      generalize hys : kept (fun i => if decide (t[k]? = some (97 + (left.getD i (0, 0)).1)) = true then xs[i]? else none) xs.length = ys at hb hd
      have blen := dps_len hb
      rw [List.length_map] at blen
      have bmem : ∀ p ∈ bs, p.1 < 12 ∧ p.2 < 12 := fun p hp => hw p (by rw [← hbs] at hp; exact (List.mem_filter.mp hp).1)
      refine ⟨.ref D, rfl, _, .inl ⟨ys, SqL.of hd, rfl⟩, ?_⟩
      cases bs with
      | nil =>
        have : ys = [] := List.length_eq_zero_iff.mp blen
        subst this
        rw [if_pos rfl] at h
        exact iteT ⟨.int k, rfl, (k : Int), rfl, small_nat (by omega), fun d hd' => h H1 d s1 hd'⟩
      | cons b0 br =>
        rw [if_neg (fun z => List.cons_ne_nil _ _ z)] at h
        obtain ⟨y0, yr, rfl⟩ : ∃ y0 yr, ys = y0 :: yr := by
          cases ys with
          | nil => exact absurd blen (by simp)
          | cons y0 yr => exact ⟨y0, yr, rfl⟩
        generalize hB : b0 :: br = bs at *
        generalize hY : y0 :: yr = ys at *
        have hem : (!ys.isEmpty) = true := by rw [← hY]; rfl
        rw [hem]
        refine iteF ⟨.ref D, rfl, D, rfl, ⟨ys, SqL.of hd⟩, ?_⟩
        refine for_it (walk_list (K := K) (a := D) (xs := ys)) (fun i σ' H' => H' = H1 ∧ (∃ tv, σ' = [some (.str z), some (.int k), some (.ref l), some (.ref D), tv]) ∧ (bs.take i).find? (fun p => decide (t[k + 1]? = some (97 + p.2))) = none) ⟨rfl, ⟨none, rfl⟩, by rw [List.take_zero]; rfl⟩
          (fun i σ' H' _ p => by rw [p.1]; exact SqL.of hd) (fun i x σ' H2 H3 hi p y => ?_) fun σ' H' p => ?_
        · obtain ⟨rfl, ⟨tv, rfl⟩, hf⟩ := p
          obtain ⟨rfl, ex⟩ := y
          obtain ⟨d, ed, hdx⟩ := dps_get hb ex
          rw [List.getElem?_map] at ed
          obtain ⟨p, ep, rfl⟩ := Option.map_eq_some_iff.mp ed
          obtain ⟨c, rfl, hc⟩ := dp_pair hdx
          obtain ⟨w1, w2⟩ := bmem p (List.mem_of_getElem? ep)
          refine ⟨.ref c, rfl, c, _, 1, _, rfl, rfl, hc, atI_nat (j := 1) rfl, letters, _, _, rfl, rfl, by rw [letters_len, sizeLine_eq]; decide, at_letter (x := p.2) rfl (by omega), .str z, rfl, .int k, rfl, _, _, rfl, rfl, _, rfl, .int k, rfl, _, _, rfl, rfl, _, rfl, z, rfl, hz', rfl, _, rfl, ?_⟩
          have es := sign_is' z (k + 1) (97 + p.2) (j := (k : Int) + 2) (by omega)
          rw [ht] at es
          have es' : decide (V.str ⟨#[97 + p.2]⟩ = V.str (cutS z (some ((k : Int) + 1)) (some ((k : Int) + 2)))) = decide (t[k + 1]? = some (97 + p.2)) := es
          rw [es']
          by_cases hm : t[k + 1]? = some (97 + p.2)
          · rw [decide_eq_true hm]
            rw [find_at hf ep (decide_eq_true hm)] at h
            exact iteT ⟨.ref c, rfl, h _ _ s1 hdx⟩
          · rw [decide_eq_false hm]
            exact iteF ⟨rfl, ⟨_, rfl⟩, find_next hf ep (decide_eq_false hm)⟩
        · obtain ⟨rfl, ⟨tv, rfl⟩, hf⟩ := p
          rw [show bs.take ys.length = bs from by rw [blen]; exact List.take_length] at hf
          rw [hf] at h
          exact ⟨.int k, rfl, _, _, rfl, rfl, ((k + 1 : Nat) : Int), rfl, small_nat (by omega), fun d hd' => h _ d s1 hd'⟩
end
end Lk02
/-! A web told from a text. -/
namespace LV
open PySem PySem.Spec PyProof.Rows L2
def goT : Nat → List Nat → Nat → List (Nat × Nat) → List (Nat × Nat) → Nat → Told (Nat × List (Nat × Nat))
  | 0, _, n, ties, _, _ => .ok (n, ties)
  | f + 1, t, n, ties, left, i => if i < t.length then (if left = [] ∨ (ties ≠ [] ∧ t[i]? ≠ some 44) then .bad i
      else match tieT t (if ties = [] then i else i + 1) left with
        | .bad k => .bad k
        | .ok p => goT f t n (ties ++ [p]) (left.filter (pLt p)) ((if ties = [] then i else i + 1) + 2)) else .ok (n, ties)
def webT (t : List Nat) : Told (Nat × List (Nat × Nat)) := match countT t with
  | .bad k => .bad k
  | .ok n => goT t.length t n [] (pairsN n) 2
theorem goT_stop {f : Nat} {t : List Nat} {n : Nat} {ties left : List (Nat × Nat)} {i : Nat} (h : ¬ i < t.length) : goT f t n ties left i = .ok (n, ties) := by
  cases f with
  | zero => rfl
  | succ f => unfold goT; rw [if_neg h]
theorem isEmpty_ties {K : PySem.W.Frag} {H : Hp} {xs : List V} {ps : List (Nat × Nat)} (h : DpAll K H xs (ps.map tieD)) : xs.isEmpty = decide (ps = []) := by
  cases ps with
  | nil => cases h; rfl
  | cons p r => cases h; simp
/-- at one further behind a first tie -/
theorem bump {K : PySem.W.Frag} {D : Ends} {a b c l e : Option V} {t : Addr} {i : Nat} {ts : List V} {ties : List (Nat × Nat)} {H : Hp} (ht : H t = some (.lst ts)) (hd : DpAll K H ts (ties.map tieD))
    (h : ∀ j : Nat, j = (if ties = [] then i else i + 1) → D.nx [a, b, some (.ref t), l, some (.int j), c, e] H) :
    tIfS (fun σ H Q => tVar 2 σ H fun x H' => ∃ k, TruV K x H' k ∧ Q k H') (tAug 4 (tC (.int 1)) (ipI fun i j => i + j)) tNext D [a, b, some (.ref t), l, some (.int i), c, e] H := by
  refine ⟨.ref t, rfl, _, .inl ⟨ts, SqL.of ht, rfl⟩, ?_⟩
  rw [isEmpty_ties hd]
  cases ties with
  | nil => exact iteF (h i (by rw [if_pos rfl]))
  | cons p r =>
    have e1 : (!decide (p :: r = [])) = true := by simp
    rw [e1]
    refine iteT ⟨.int i, rfl, _, _, rfl, rfl, ?_⟩
    have := h (i + 1) (by rw [if_neg (fun z => List.cons_ne_nil _ _ z)])
    exact this
theorem pairsRow_within {n x : Nat} : ∀ p ∈ pairsRow n x, p.1 = x ∧ p.2 < n := by
  intro p hp
  obtain ⟨k, hk, rfl⟩ := List.mem_map.mp hp
  have := List.mem_range.mp hk
  exact ⟨rfl, by show x + 1 + k < n; omega⟩
theorem pairs_within {n : Nat} (hn : n ≤ 12) : Within' 12 (pairsN n) := by
  intro p hp
  obtain ⟨x, hx, h⟩ := List.mem_flatMap.mp hp
  obtain ⟨e, h2⟩ := pairsRow_within p h
  have := List.mem_range.mp hx
  exact ⟨by omega, by omega⟩
theorem pairs_len : ∀ n, n ≤ 12 → (pairsN n).length ≤ 66 := by
  have : ∀ n, n < 13 → (pairsN n).length ≤ 66 := by decide +kernel
  exact fun n h => this n (by omega)
theorem same_upd {H H2 : Hp} {t : Addr} {o : HO} (s : Same H H2) (h : H t = none) : Same H (upd H2 t o) := fun b u e => by
  rw [upd_ne (ne_of_none e h)]
  exact s _ _ e
theorem count_le {t : List Nat} {n : Nat} (h : countT t = .ok n) : n ≤ 12 := by
  cases t with
  | nil => cases h
  | cons c r =>
    by_cases hc : 97 ≤ c ∧ c < 109
    · by_cases h1 : r[0]? = some 58
      · simp only [countT, if_pos hc, if_pos h1] at h
        cases h; omega
      · simp only [countT, if_pos hc, if_neg h1] at h
        cases h
    · simp only [countT, if_neg hc] at h
      cases h
theorem and_no {c : Bool} {T A B : Prop} (h : B) (hT : c = true → B → T) : if c = true then T else (if false = true then A else B) := by
  cases c with
  | true => exact iteT (hT rfl h)
  | false => exact iteF (iteF h)
theorem filter_len {α : Type} (f : α → Bool) (l : List α) : (l.filter f).length ≤ l.length := List.length_filter_le f l
/-- whether a tie may stand at i -/
def canB (t : List Nat) (ties : List (Nat × Nat)) (i : Nat) : Bool := if ties = [] then decide (∃ k, k < 12 ∧ t[i]? = some (97 + k)) else decide (t[i]? = some 44)
/-- ties read from i on, as far as they go -/
def goP : Nat → List Nat → List (Nat × Nat) → List (Nat × Nat) → Nat → Told (List (Nat × Nat) × Nat)
  | 0, _, ties, _, i => .ok (ties, i)
  | f + 1, t, ties, left, i => if left ≠ [] ∧ i < t.length ∧ canB t ties i = true then (match tieT t (if ties = [] then i else i + 1) left with
        | .bad k => .bad k
        | .ok p => goP f t (ties ++ [p]) (left.filter (pLt p)) ((if ties = [] then i else i + 1) + 2)) else .ok (ties, i)
def endT (t : List Nat) (n : Nat) : Told (List (Nat × Nat) × Nat) → Told (Nat × List (Nat × Nat))
  | .bad k => .bad k
  | .ok r => if r.2 < t.length then .bad r.2 else .ok (n, r.1)
theorem end_at {t : List Nat} {n : Nat} {ties : List (Nat × Nat)} {i : Nat} (hi : i < t.length) : endT t n (.ok (ties, i)) = .bad i := by
  show (if i < t.length then Told.bad i else Told.ok (n, ties)) = _
  rw [if_pos hi]
theorem end_no {t : List Nat} {n : Nat} {ties : List (Nat × Nat)} {i : Nat} (hi : ¬ i < t.length) : endT t n (.ok (ties, i)) = .ok (n, ties) := by
  show (if i < t.length then Told.bad i else Told.ok (n, ties)) = _
  rw [if_neg hi]
theorem go_end (t : List Nat) (n : Nat) : ∀ (f : Nat) (ties left : List (Nat × Nat)) (i : Nat), t.length ≤ f + i → Within' 12 left → goT f t n ties left i = endT t n (goP f t ties left i)
  | 0, ties, left, i, h, _ => by
    unfold goT goP
    rw [end_no (by omega)]
  | f + 1, ties, left, i, h, hw => by
    by_cases hi : i < t.length
    · unfold goT goP
      rw [if_pos hi]
      by_cases hl : left = []
      · rw [if_pos (.inl hl), if_neg (fun z => z.1 hl), end_at hi]
      · by_cases ht : ties = []
        · rw [if_neg (fun z => z.elim hl fun z => z.1 ht), if_pos ht]
          by_cases hk : ∃ k, k < 12 ∧ t[i]? = some (97 + k)
          · rw [if_pos ⟨hl, hi, by unfold canB; rw [if_pos ht]; exact decide_eq_true hk⟩]
            cases hT : tieT t i left with
            | bad k => rfl
            | ok p => exact go_end t n f _ _ _ (by omega) fun q hq => hw q (List.mem_filter.mp hq).1
          · rw [if_neg (fun z => by have := z.2.2; unfold canB at this; rw [if_pos ht] at this; exact hk (of_decide_eq_true this))]
            have e : left.filter (fun p => decide (t[i]? = some (97 + p.1))) = [] := by
              rw [List.filter_eq_nil_iff]
              intro p hp z
              exact hk ⟨p.1, (hw p hp).1, of_decide_eq_true z⟩
            have hT : tieT t i left = .bad i := by
              unfold tieT
              rw [if_pos e]
            rw [hT, end_at hi]
        · rw [if_neg ht]
          by_cases hk : t[i]? = some 44
          · rw [if_neg (fun z => z.elim hl fun z => z.2 hk), if_pos ⟨hl, hi, by unfold canB; rw [if_neg ht]; exact decide_eq_true hk⟩]
            cases hT : tieT t (i + 1) left with
            | bad k => rfl
            | ok p => exact go_end t n f _ _ _ (by omega) fun q hq => hw q (List.mem_filter.mp hq).1
          · rw [if_pos (.inr ⟨ht, hk⟩), if_neg (fun z => by have := z.2.2; unfold canB at this; rw [if_neg ht] at this; exact hk (of_decide_eq_true this)), end_at hi]
    · rw [goT_stop hi]
      unfold goP
      rw [if_neg (fun z => hi z.2.1), end_no hi]
/-- a test `a if c else b` -/
def tIfT (t ta tb : TT) : TT := fun σ H Q => t σ H fun c H1 => if c = true then ta σ H1 Q else tb σ H1 Q
theorem pt_ifExp {X : Cx} {c a b : Expr} {pos : Pos} {t ta tb : TT} (hc : PT X c t) (ha : PT X a ta) (hb : PT X b tb) : PT X (.IfExp c a b pos) (tIfT t ta tb) := by
  refine ⟨fun pins s σ H Q I h => ?_⟩
  refine isTrue_IfExp (thn (hc.run pins s σ H _ I h) fun d s1 ⟨H1, I1, q1⟩ => ?_)
  cases d with
  | true => exact ha.run pins s1 σ H1 Q I1 q1
  | false => exact hb.run pins s1 σ H1 Q I1 q1
/-- at one further behind a first tie -/
theorem bumpP {K : PySem.W.Frag} {D : Ends} {a b l e : Option V} {t : Addr} {i : Nat} {ts : List V} {ties : List (Nat × Nat)} {H : Hp} (ht : H t = some (.lst ts)) (hd : DpAll K H ts (ties.map tieD))
    (h : ∀ j : Nat, j = (if ties = [] then i else i + 1) → D.nx [a, some (.int j), b, some (.ref t), l, e] H) :
    tIfS (fun σ H Q => tVar 3 σ H fun x H' => ∃ k, TruV K x H' k ∧ Q k H') (tAug 1 (tC (.int 1)) (ipI fun i j => i + j)) tNext D [a, some (.int i), b, some (.ref t), l, e] H := by
  refine ⟨.ref t, rfl, _, .inl ⟨ts, SqL.of ht, rfl⟩, ?_⟩
  rw [isEmpty_ties hd]
  cases ties with
  | nil => exact iteF (h i (by rw [if_pos rfl]))
  | cons p r =>
    have e1 : (!decide (p :: r = [])) = true := by simp
    rw [e1]
    refine iteT ⟨.int i, rfl, _, _, rfl, rfl, ?_⟩
    have := h (i + 1) (by rw [if_neg (fun z => List.cons_ne_nil _ _ z)])
    exact this
/-- the numbers of places, of the first j, whose letter begins the text -/
def fnd (t : List Nat) (j : Nat) : List V := match t[0]? with
  | some c => if 97 ≤ c ∧ c < 97 + j then [.int ((c - 96 : Nat))] else []
  | none => []
theorem fnd_zero (t : List Nat) : fnd t 0 = [] := by
  unfold fnd
  cases t[0]? with
  | none => rfl
  | some c => exact if_neg (by omega)
theorem fnd_yes {t : List Nat} {j : Nat} (h : t[0]? = some (97 + j)) : fnd t j = [] ∧ fnd t (j + 1) = [.int (1 + (j : Int))] := by
  unfold fnd
  rw [h]
  refine ⟨if_neg (by omega), ?_⟩
  show (if 97 ≤ 97 + j ∧ 97 + j < 97 + (j + 1) then [V.int ((97 + j - 96 : Nat))] else []) = _
  rw [if_pos (by omega)]
  have : ((97 + j - 96 : Nat) : Int) = 1 + (j : Int) := by omega
  rw [this]
theorem fnd_no {t : List Nat} {j : Nat} (h : t[0]? ≠ some (97 + j)) : fnd t (j + 1) = fnd t j := by
  unfold fnd
  cases e : t[0]? with
  | none => rfl
  | some c =>
    have : c ≠ 97 + j := fun z => h (by rw [e, z])
    show (if 97 ≤ c ∧ c < 97 + (j + 1) then [V.int ((c - 96 : Nat))] else []) = if 97 ≤ c ∧ c < 97 + j then [V.int ((c - 96 : Nat))] else []
    by_cases hc : 97 ≤ c ∧ c < 97 + j
    · rw [if_pos hc, if_pos (by omega)]
    · rw [if_neg hc, if_neg (by omega)]
end LV
namespace Lk02
open PySem PySem.Spec PyProof.Rows L2 LV
def spTold (K : PySem.W.Frag) (C : Addr) : Sp := fun vs H Q E => ∃ v d, vs = [v] ∧ Dp K H v d ∧ match d with
  | .str z => z.length ≤ 90000 ∧ match webT z.cps.toList with
    | .ok r => ∀ H' v, Same H H' → Dp K H' v (webD r.1 r.2) → Q v H'
    | .bad k => Bad C H E k
  | _ => Bad C H E 0
def spPairsT (K : PySem.W.Frag) (C : Addr) : Sp := fun vs H Q E => ∃ (z : Str) (n : Nat), vs = [.str z, .int 2, .int n] ∧ z.length ≤ 90000 ∧ n ≤ 12 ∧ match goP z.cps.toList.length z.cps.toList [] (pairsN n) 2 with
  | .ok r => ∀ H' p pt ts, Same H H' → SqT K H' p [.ref pt, .int (r.2 : Nat)] → SqT K H' pt ts → DpAll K H' ts (r.1.map tieD) → r.2 ≤ 90010 → Q (.ref p) H'
  | .bad k => Bad C H E k
def spToldAt (K : PySem.W.Frag) (C : Addr) : Sp := fun vs H Q E => ∃ z : Str, vs = [.str z, .int 0, .int 1] ∧ z.length ≤ 90000 ∧ match countT z.cps.toList with
  | .bad k => Bad C H E k
  | .ok n => match goP z.cps.toList.length z.cps.toList [] (pairsN n) 2 with
    | .ok r => ∀ H' p wv, Same H H' → SqT K H' p [wv, .int (r.2 : Nat)] → Dp K H' wv (webD n r.1) → r.2 ≤ 90010 → Q (.ref p) H'
    | .bad k => Bad C H E k
section
variable {P : Program} {w : World} {K : PySem.W.Frag} {mg : Str → Option Value} {base : Heap}
theorem ok_pairs_told {C fI : Addr} {tk : Tok} (D : Dn K mg "pairs_told" s_pairs_told ["text", "at", "count"]) (mL : mg "LETTERS" = some (.str letters tk)) (m1 : mg "len" = none) (m2 : mg "tuple" = none) (O3 : Ok P w K mg base CX0 1 "all_pairs" ["count"] (spPairs K))
    (O4 : Ok P w K mg base (L2.CX P w) 2 "tie_told" ["text", "at", "left"] (spTie K C)) : Ok P w K mg base (L2.CX P w) 3 "pairs_told" ["text", "at", "count"] (spPairsT K C) := by
  refine D.okX sc_pairs_told (fun vs H Q E h => ?_) fun f cdv A outer s H vs Q E hr h => ?_
  · obtain ⟨z, n, rfl, _⟩ := h
    rfl
  · obtain ⟨z, n, rfl, hz, hn, h⟩ := h
    have px := passes_call (X := cxOf (L2.CX P w) P w K mg base n_pairs_told "pairs_told" (defScope s_pairs_told) f cdv A outer s H E) (E := E) (takes_of rfl rfl rfl rfl) (fun _ _ _ _ h => h)
    refine ⟨_, pss_cons (ps_set (i := 3) sc_pairs_told.nd rfl (.inr rfl) (pe_lst pa_nil))
      (pss_cons (ps_set (i := 4) sc_pairs_told.nd rfl (.inl rfl) (pe_ok O3 hr pass0 (pa_cons (pv 2) pa_nil)))
      (pss_cons (ps_while (passes_of rfl) (PW.pt (pw_and (pt_truth (pv 4) (by intro _; rfl)) (pw_and (pt_cmpR op_lt (pv 1) (pe_b m1 call_len_str (pa_cons (pv 0) pa_nil)) (nomark _))
            (pw_and1 (pt_ifExp (pt_truth (pv 3) (by intro _; rfl)) (pt_cmpR op_eq (pe_ix ix_str (pv 0) (pv 1) (fun _ _ => rfl)) pe_str (nomark _)) (pt_cmpR op_in_sign (pe_ix ix_str (pv 0) (pv 1) (fun _ _ => rfl)) (pe_glob (v := .str letters) rfl mL ⟨_, rfl⟩) (by rfl)))))))
        (pss_cons (ps_if (pt_truth (pv 3) (by intro _; rfl)) (pss_one (ps_aug (i := 1) sc_pairs_told.nd rfl (.inl rfl) pe_int ip_add)) pss_nil)
        (pss_cons (ps_expr (pe_bm PySem.F.plainAttrs_list PySem.F.slot_list_append PySem.F.type_list_append mt_append (pv 3) (pa_cons (pe_ok O4 hr (E := E) px (pa_cons (pv 0) (pa_cons (pv 1) (pa_cons (pv 4) pa_nil)))) pa_nil)))
        (pss_cons (ps_setLc (i := 4) (own := [("pair", 5)]) (g := gName 5) (tt := tTest (tOp (rGtP K) (tVar 5) (tOp (rIxL K) (tVar 3) (tUn (rU fun i => .int (-i)) (tC (.int 1)))))) (te := tVar 5) (by rfl) sc_pairs_told.nd rfl rfl (sw_true rfl rfl rfl (by decide +kernel))
            (pi_list (pv 4)) (blkOk_by (N := n_pairs_told) (sc := defScope s_pairs_told) (by decide +kernel)) (fun _ _ _ _ _ => pg_name (i := 5) sc_pairs_told.nd rfl (.inl rfl))
            (fun _ _ _ _ _ => by exact pts_one (pt_cmpR (op_gtP hr.units0) (pv 5) (pe_ix ix_list (pv 3) (pe_un un_neg pe_int) (fun _ _ => rfl)) (nomark _))) (fun _ _ _ _ _ => by exact pv 5))
        (pss_one (ps_aug (i := 1) sc_pairs_told.nd rfl (.inl rfl) pe_int ip_add))))))
      (pss_one (ps_ret (pe_tup (pa_cons (pe_ty m2 call_tuple_of (pa_cons (pv 3) pa_nil)) (pa_cons (pv 1) pa_nil))))))), ?_⟩
    have hz' : z.length ≤ sizeLine := line_100000 (by omega)
    have zl : z.length = z.cps.toList.length := by first | rfl | simp [Str.length]
    generalize ht : z.cps.toList = t at *
    generalize hR : goP t.length t [] (pairsN n) 2 = R at h
    refine ⟨Nat.zero_le _, fun tA htA => ⟨.int n, rfl, n, rfl, hn, fun H1 l0 xs0 s1 hl0 hx0 hp0 => ?_⟩⟩
    have hA1 : H1 tA = some (.lst []) := s1 _ _ upd_same
    refine ⟨fun m σ' H' => ∃ (ties left : List (Nat × Nat)) (i : Nat) (lA : Addr) (ts ls : List V) (pv' : Option V), σ' = [some (.str z), some (.int i), some (.int n), some (.ref tA), some (.ref lA), pv'] ∧ Same H H' ∧ H' tA = some (.lst ts) ∧ DpAll K H' ts (ties.map tieD) ∧
      H' lA = some (.lst ls) ∧ lA ≠ tA ∧ DpAll K H' ls (left.map tieD) ∧ left.length ≤ 66 ∧ Within' 12 left ∧ t.length ≤ m + i ∧ ties.length + 2 ≤ i ∧ i ≤ 90003 ∧ goP m t ties left i = R,
      ⟨t.length, [], pairsN n, 2, l0, [], xs0, none, rfl, (same_new htA).trans s1, hA1, .nil, hx0, fun e => ?_, hp0, pairs_len n hn, pairs_within hn, Nat.le_add_right _ _, Nat.le_refl _, by decide, hR⟩, fun m σ' H' w => ?_⟩
    · rw [e] at hl0
      rw [upd_same] at hl0
      cases hl0
    · obtain ⟨ties, left, i, lA, ts, ls, pv', rfl, sH, hts, dts, hls, hne, dls, h66, h12, hm, hi2, hi3, hR⟩ := w
      have tlen := dps_len dts
      rw [List.length_map] at tlen
      have fin : R = .ok (ties, i) → ∀ l, H' l = none → ∀ b, (upd H' l (.tup ts)) b = none → Q (.ref b) (upd (upd H' l (.tup ts)) b (.tup [.ref l, .int i])) := fun eR l hl b hb => by
        subst eR
        have s2 := (same_new (o := .tup ts) hl).trans (same_new (o := .tup [.ref l, .int i]) hb)
        exact h _ b l ts (sH.trans s2) (.inl (.inl upd_same)) (.inl (.inl (same_new hb _ _ upd_same))) (dps_same s2 dts) (by show i ≤ 90010; omega)
      have stop : ¬ (left ≠ [] ∧ i < t.length ∧ canB t ties i = true) → R = .ok (ties, i) := fun hc => by
        rw [← hR]
        cases m with
        | zero => rfl
        | succ m => unfold goP; rw [if_neg hc]
      refine ⟨.ref lA, rfl, _, .inl ⟨ls, SqL.of hls, rfl⟩, ?_⟩
      rw [isEmpty_ties dls]
      by_cases hl0 : left = []
      · have eR := stop fun z => z.1 hl0
        rw [decide_eq_true hl0]
        exact iteF (iteF ⟨.ref tA, rfl, tA, ts, rfl, .inl ⟨SqL.of hts, fun l hl => ⟨.int i, rfl, by show 2 ≤ sizeLine; decide, fun b hb => fin eR l hl b hb⟩⟩⟩)
      rw [decide_eq_false hl0]
      refine iteT ⟨.int i, rfl, .str z, rfl, z, rfl, hz', _, _, rfl, rfl, _, rfl, ?_⟩
      by_cases hlt : i < t.length
      · have e1 : decide ((i : Int) < (z.length : Int)) = true := decide_eq_true (by omega)
        rw [e1]
        have hat : atI z.cps.toList (i : Int) = some t[i] := by rw [ht]; exact atI_nat (List.getElem?_eq_getElem hlt)
        have ege : t[i]? = some t[i] := List.getElem?_eq_getElem hlt
        refine iteT ⟨.ref tA, rfl, _, .inl ⟨ts, SqL.of hts, rfl⟩, ?_⟩
        rw [isEmpty_ties dts]
        by_cases ht0 : ties = []
        · rw [decide_eq_true ht0]
          refine iteF ⟨.str z, rfl, .int i, rfl, z, i, t[i], rfl, rfl, hz', hat, t[i], letters, rfl, rfl, _, rfl, ?_⟩
          have ec : decide (t[i] ∈ letters.cps.toList) = canB t ties i := by
            unfold canB
            rw [if_pos ht0, decide_eq_decide, letter_in]
            constructor
            · rintro ⟨a, b⟩
              exact ⟨t[i] - 97, by omega, by rw [ege]; congr 1; omega⟩
            · rintro ⟨k, hk, e⟩
              rw [ege] at e
              have := Option.some.inj e
              omega
          rw [ec]
          cases hcb : canB t ties i with
          | false =>
            have eR := stop fun z => by have := z.2.2; rw [hcb] at this; cases this
            exact iteF ⟨.ref tA, rfl, tA, ts, rfl, .inl ⟨SqL.of hts, fun l hl => ⟨.int i, rfl, by show 2 ≤ sizeLine; decide, fun b hb => fin eR l hl b hb⟩⟩⟩
          | true =>
            obtain ⟨m', rfl⟩ : ∃ m', m = m' + 1 := ⟨m - 1, by omega⟩
            unfold goP at hR
            rw [if_pos ⟨hl0, hlt, hcb⟩] at hR
            refine iteT ⟨_, fun _ _ w => ⟨m', Nat.lt_succ_self m', w⟩, ?_⟩
            refine bumpP hts dts fun j hj => ?_
            rw [← hj] at hR
            have hj1 : i ≤ j ∧ j ≤ i + 1 := by
              by_cases e : ties = []
              · rw [if_pos e] at hj; omega
              · rw [if_neg e] at hj; omega
            refine ⟨.ref tA, rfl, .inl ⟨rfl, _, SqL.of hts⟩, .str z, rfl, .int j, rfl, .ref lA, rfl, z, j, lA, ls, left, rfl, by omega, by omega, SqL.of hls, dls, h66, h12, ?_⟩
            rw [ht]
            cases hT : tieT t j left with
            | bad k =>
              rw [hT] at hR
              dsimp only at hR
              subst hR
              exact fun H1 d s hd' => h H1 d (sH.trans s) hd'
            | ok p =>
              rw [hT] at hR
              dsimp only at hR
              intro H2 v s2 hv
              obtain ⟨cv, rfl, hcv⟩ := dp_pair hv
              have hts2 := s2 _ _ hts
              refine ⟨tA, ts, .ref cv, rfl, rfl, hts2, by rw [sizeLine_eq]; omega, ?_⟩
              have hls3 : (upd H2 tA (.lst (ts ++ [.ref cv]))) lA = some (.lst ls) := by rw [upd_ne hne]; exact s2 _ _ hls
              have hcv3 : SqT K (upd H2 tA (.lst (ts ++ [.ref cv]))) cv [.int p.1, .int p.2] := tup_upd hts2 hcv
              have dls3 : DpAll K (upd H2 tA (.lst (ts ++ [.ref cv]))) ls (left.map tieD) := ties_upd hts2 (dps_same s2 dls)
              have dts3 : DpAll K (upd H2 tA (.lst (ts ++ [.ref cv]))) (ts ++ [.ref cv]) ((ties ++ [p]).map tieD) := by
                rw [List.map_append]
                exact dps_append (ties_upd hts2 (dps_same s2 dts)) (.cons (tie_upd hts2 hv) .nil)
              have hA3 : (upd H2 tA (.lst (ts ++ [.ref cv]))) tA = some (.lst (ts ++ [.ref cv])) := upd_same
              have s3 : Same H (upd H2 tA (.lst (ts ++ [.ref cv]))) := same_upd (sH.trans s2) htA
              generalize upd H2 tA (.lst (ts ++ [.ref cv])) = H3 at *
              have llen := dps_len dls
              rw [List.length_map] at llen
              refine ⟨.ref lA, rfl, lA, rfl, ⟨ls, SqL.of hls3⟩, fun D hD => ?_⟩
              refine lc_fm (walk_list (K := K) (a := lA) (xs := ls)) (lays_at ls) (fun i => if pLt p (left.getD i (0, 0)) = true then ls[i]? else none) (by rw [llen, sizeLine_eq]; omega) hD (fun H' s' => sameL s' (SqL.of hls3))
                (fun ix x H4 H5 Qe Nx hi s4 s5 y hy hn' => ?_) fun H4 s4 hd4 => ?_
              · obtain ⟨rfl, ex⟩ := y
                obtain ⟨d, ed, hdx⟩ := dps_get dls3 ex
                rw [List.getElem?_map] at ed
                obtain ⟨q, eq, rfl⟩ := Option.map_eq_some_iff.mp ed
                obtain ⟨c, rfl, hc⟩ := dp_pair hdx
                have eg : left.getD ix (0, 0) = q := by rw [List.getD_eq_getElem?_getD, eq]; rfl
                rw [eg] at hy hn'
                refine ⟨rfl, .ref c, rfl, .ref tA, rfl, _, rfl, tA, ts ++ [.ref cv], -1, .ref cv, rfl, rfl, SqL.of (s5 _ _ hA3), atI_last _ _, c, cv, q, p, rfl, rfl, sameT s5 hc, sameT s5 hcv3, _, rfl, ?_⟩
                cases hlt' : pLt p q with
                | true =>
                  rw [hlt', if_pos rfl] at hy
                  exact iteT ⟨.ref c, rfl, hy _ ex _ (Same.refl _)⟩
                | false =>
                  rw [hlt', if_neg (by decide)] at hn'
                  exact iteF (hn' rfl _ (Same.refl _))
              · have hb := kept_ties (f := pLt p) (dps_same s4 dls3) ls.length (Nat.le_refl _)
                rw [show List.take ls.length left = left from by rw [llen]; exact List.take_length] at hb
                have hDA : D ≠ tA := fun e => by rw [e, hA3] at hD; cases hD
                refine ⟨.int j, rfl, _, _, rfl, rfl, ?_⟩
                refine ⟨ties ++ [p], left.filter (pLt p), j + 2, D, ts ++ [.ref cv], _, _, rfl, s3.trans s4, s4 _ _ hA3, dps_same s4 dts3, hd4, hDA, hb, Nat.le_trans (filter_len _ _) h66, fun q hq => h12 q (List.mem_filter.mp hq).1, by omega, by rw [List.length_append, List.length_singleton]; omega, by omega, hR⟩
        · rw [decide_eq_false ht0]
          refine iteT ⟨.str z, rfl, .int i, rfl, z, i, t[i], rfl, rfl, hz', hat, rfl, _, rfl, ?_⟩
          have ec : decide (V.str ⟨#[t[i]]⟩ = V.str (",": Str)) = canB t ties i := by
            unfold canB
            rw [if_neg ht0, decide_eq_decide, ege]
            refine ⟨fun e => ?_, fun e => by rw [Option.some.inj e]; rfl⟩
            exact congrArg some (List.head_eq_of_cons_eq (str_ext.mp e))
          rw [ec]
          cases hcb : canB t ties i with
          | false =>
            have eR := stop fun z => by have := z.2.2; rw [hcb] at this; cases this
            exact iteF ⟨.ref tA, rfl, tA, ts, rfl, .inl ⟨SqL.of hts, fun l hl => ⟨.int i, rfl, by show 2 ≤ sizeLine; decide, fun b hb => fin eR l hl b hb⟩⟩⟩
          | true =>
            obtain ⟨m', rfl⟩ : ∃ m', m = m' + 1 := ⟨m - 1, by omega⟩
            unfold goP at hR
            rw [if_pos ⟨hl0, hlt, hcb⟩] at hR
            refine iteT ⟨_, fun _ _ w => ⟨m', Nat.lt_succ_self m', w⟩, ?_⟩
            refine bumpP hts dts fun j hj => ?_
            rw [← hj] at hR
            have hj1 : i ≤ j ∧ j ≤ i + 1 := by
              by_cases e : ties = []
              · rw [if_pos e] at hj; omega
              · rw [if_neg e] at hj; omega
            refine ⟨.ref tA, rfl, .inl ⟨rfl, _, SqL.of hts⟩, .str z, rfl, .int j, rfl, .ref lA, rfl, z, j, lA, ls, left, rfl, by omega, by omega, SqL.of hls, dls, h66, h12, ?_⟩
            rw [ht]
            cases hT : tieT t j left with
            | bad k =>
              rw [hT] at hR
              dsimp only at hR
              subst hR
              exact fun H1 d s hd' => h H1 d (sH.trans s) hd'
            | ok p =>
              rw [hT] at hR
              dsimp only at hR
              intro H2 v s2 hv
              obtain ⟨cv, rfl, hcv⟩ := dp_pair hv
              have hts2 := s2 _ _ hts
              refine ⟨tA, ts, .ref cv, rfl, rfl, hts2, by rw [sizeLine_eq]; omega, ?_⟩
              have hls3 : (upd H2 tA (.lst (ts ++ [.ref cv]))) lA = some (.lst ls) := by rw [upd_ne hne]; exact s2 _ _ hls
              have hcv3 : SqT K (upd H2 tA (.lst (ts ++ [.ref cv]))) cv [.int p.1, .int p.2] := tup_upd hts2 hcv
              have dls3 : DpAll K (upd H2 tA (.lst (ts ++ [.ref cv]))) ls (left.map tieD) := ties_upd hts2 (dps_same s2 dls)
              have dts3 : DpAll K (upd H2 tA (.lst (ts ++ [.ref cv]))) (ts ++ [.ref cv]) ((ties ++ [p]).map tieD) := by
                rw [List.map_append]
                exact dps_append (ties_upd hts2 (dps_same s2 dts)) (.cons (tie_upd hts2 hv) .nil)
              have hA3 : (upd H2 tA (.lst (ts ++ [.ref cv]))) tA = some (.lst (ts ++ [.ref cv])) := upd_same
              have s3 : Same H (upd H2 tA (.lst (ts ++ [.ref cv]))) := same_upd (sH.trans s2) htA
              generalize upd H2 tA (.lst (ts ++ [.ref cv])) = H3 at *
              have llen := dps_len dls
              rw [List.length_map] at llen
              refine ⟨.ref lA, rfl, lA, rfl, ⟨ls, SqL.of hls3⟩, fun D hD => ?_⟩
              refine lc_fm (walk_list (K := K) (a := lA) (xs := ls)) (lays_at ls) (fun i => if pLt p (left.getD i (0, 0)) = true then ls[i]? else none) (by rw [llen, sizeLine_eq]; omega) hD (fun H' s' => sameL s' (SqL.of hls3))
                (fun ix x H4 H5 Qe Nx hi s4 s5 y hy hn' => ?_) fun H4 s4 hd4 => ?_
              · obtain ⟨rfl, ex⟩ := y
                obtain ⟨d, ed, hdx⟩ := dps_get dls3 ex
                rw [List.getElem?_map] at ed
                obtain ⟨q, eq, rfl⟩ := Option.map_eq_some_iff.mp ed
                obtain ⟨c, rfl, hc⟩ := dp_pair hdx
                have eg : left.getD ix (0, 0) = q := by rw [List.getD_eq_getElem?_getD, eq]; rfl
                rw [eg] at hy hn'
                refine ⟨rfl, .ref c, rfl, .ref tA, rfl, _, rfl, tA, ts ++ [.ref cv], -1, .ref cv, rfl, rfl, SqL.of (s5 _ _ hA3), atI_last _ _, c, cv, q, p, rfl, rfl, sameT s5 hc, sameT s5 hcv3, _, rfl, ?_⟩
                cases hlt' : pLt p q with
                | true =>
                  rw [hlt', if_pos rfl] at hy
                  exact iteT ⟨.ref c, rfl, hy _ ex _ (Same.refl _)⟩
                | false =>
                  rw [hlt', if_neg (by decide)] at hn'
                  exact iteF (hn' rfl _ (Same.refl _))
              · have hb := kept_ties (f := pLt p) (dps_same s4 dls3) ls.length (Nat.le_refl _)
                rw [show List.take ls.length left = left from by rw [llen]; exact List.take_length] at hb
                have hDA : D ≠ tA := fun e => by rw [e, hA3] at hD; cases hD
                refine ⟨.int j, rfl, _, _, rfl, rfl, ?_⟩
                refine ⟨ties ++ [p], left.filter (pLt p), j + 2, D, ts ++ [.ref cv], _, _, rfl, s3.trans s4, s4 _ _ hA3, dps_same s4 dts3, hd4, hDA, hb, Nat.le_trans (filter_len _ _) h66, fun q hq => h12 q (List.mem_filter.mp hq).1, by omega, by rw [List.length_append, List.length_singleton]; omega, by omega, hR⟩
      · have eR := stop fun z => hlt z.2.1
        have e1 : decide ((i : Int) < (z.length : Int)) = false := decide_eq_false (by omega)
        rw [e1]
        exact iteF (iteF ⟨.ref tA, rfl, tA, ts, rfl, .inl ⟨SqL.of hts, fun l hl => ⟨.int i, rfl, by show 2 ≤ sizeLine; decide, fun b hb => fin eR l hl b hb⟩⟩⟩)
theorem ok_told_at {C fI : Addr} {tk tk2 : Tok} (D : Dn K mg "web_told_at" s_web_told_at ["text", "at", "least"]) (T : EIX.ExTxt P K mg "InvalidText" "index" ixParts C fI) (mL : mg "LETTERS" = some (.str letters tk)) (mM : mg "MOST_PLACES" = some (.int 12 tk2)) (m1 : mg "range" = none)
    (O1 : Ok P w K mg base (L2.CX P w) 3 "pairs_told" ["text", "at", "count"] (spPairsT K C)) : Ok P w K mg base (L2.CX P w) 4 "web_told_at" ["text", "at", "least"] (spToldAt K C) := by
  refine D.okX sc_web_told_at (fun vs H Q E h => ?_) fun f cdv A outer s H vs Q E hr h => ?_
  · obtain ⟨z, rfl, _⟩ := h
    rfl
  · obtain ⟨z, rfl, hz, h⟩ := h
    have l2 : 2 ≤ ixParts.length := by rw [ix_len]; decide
    have l12 : ixParts.length ≤ 12 := by rw [ix_len]; decide
    have px := passes_call (X := cxOf (L2.CX P w) P w K mg base n_web_told_at "web_told_at" (defScope s_web_told_at) f cdv A outer s H E) (E := E) (takes_of rfl rfl rfl rfl) (fun _ _ _ _ h => h)
    refine ⟨_, pss_cons (ps_setLc (i := 3) (own := [("count", 4)]) (g := gName 4)
        (tt := tTest (tOp rEq (tOp rIxS (tC (.str letters)) (tOp (rI0 fun i j => .int (i - j)) (tVar 4) (tC (.int 1)))) (tSl rSlS (tVar 0) (tPart (tVar 1)) (tPart (tOp (rI0 fun i j => .int (i + j)) (tVar 1) (tC (.int 1)))))))
        (te := tVar 4) (by rfl) sc_web_told_at.nd rfl rfl (sw_true rfl rfl rfl (by decide +kernel))
        (pi_range2 rfl m1 (pa_cons (pv 2) (pa_cons (pe_op op_add (pe_glob (v := .int 12) rfl mM ⟨_, rfl⟩) pe_int) pa_nil))) (blkOk_by (N := n_web_told_at) (sc := defScope s_web_told_at) (by decide +kernel)) (fun _ _ _ _ _ => pg_name (i := 4) sc_web_told_at.nd rfl (.inl rfl))
        (fun _ _ _ _ _ => by exact pts_one (pt_cmpR op_eq (pe_ix ix_str (pe_glob (v := .str letters) rfl mL ⟨_, rfl⟩) (pe_op op_sub (pv 4) pe_int) (fun _ _ => rfl)) (pe_slice sl_str (pv 0) (po_some (pv 1)) (po_some (pe_op op_add (pv 1) pe_int))) (nomark _)))
        (fun _ _ _ _ _ => by exact pv 4))
      (pss_cons (ps_if (pt_not (pt_truth (pv 3) (by intro _; rfl))) (pss_one (ps_raiseF T ix_fld ix_all l2 l12 hr (takes_of rfl rfl rfl rfl) (pa_cons (pv 1) pa_nil))) pss_nil)
      (pss_cons (ps_if (pt_cmpR op_ne (pe_slice sl_str (pv 0) (po_some (pe_op op_add (pv 1) pe_int)) (po_some (pe_op op_add (pv 1) pe_int))) pe_str (nomark _)) (pss_one (ps_raiseF T ix_fld ix_all l2 l12 hr (takes_of rfl rfl rfl rfl) (pa_cons (pe_op op_add (pv 1) pe_int) pa_nil))) pss_nil)
      (pss_cons (ps_asg (pe_ok O1 hr (E := E) px (pa_cons (pv 0) (pa_cons (pe_op op_add (pv 1) pe_int) (pa_cons (pe_ix ix_list (pv 3) pe_int (fun _ _ => rfl)) pa_nil)))) (pg_tup (by rfl) (pgs_cons (pg_name (i := 5) sc_web_told_at.nd rfl (.inl rfl)) (pgs_cons (pg_name (i := 1) sc_web_told_at.nd rfl (.inr rfl)) pgs_nil))))
      (pss_one (ps_ret (pe_tup (pa_cons (pe_tup (pa_cons (pe_ix ix_list (pv 3) pe_int (fun _ _ => rfl)) (pa_cons (pv 5) pa_nil))) (pa_cons (pv 1) pa_nil)))))))), ?_⟩
    have hz' : z.length ≤ sizeLine := line_100000 (by omega)
    have zl : z.length = z.cps.toList.length := by first | rfl | simp [Str.length]
    generalize ht : z.cps.toList = t at *
    refine ⟨.int 1, rfl, 12, 1, rfl, rfl, _, _, rfl, ⟨by decide, by decide, by decide, by decide⟩, fun D hD => ?_⟩
    have e12 : ((12 : Int) + 1 - 1).toNat = 12 := by decide
    rw [e12]
    refine lcW walk_range (fun j H' => Same H H' ∧ H' D = some (.lst (fnd t j))) ⟨same_new hD, by rw [fnd_zero]; exact upd_same⟩ (fun _ _ _ _ => trivial) (fun j x H7 H8 hj pv y => ?_) fun H1 pv => ?_
    · obtain ⟨rfl, rfl⟩ := y
      obtain ⟨s7, hD7⟩ := pv
      have es : decide (V.str ⟨#[97 + j]⟩ = V.str (cutS z (some 0) (some (0 + 1)))) = decide (t[0]? = some (97 + j)) := by
        have := sign_is' z 0 (97 + j) (j := (0 : Int) + 1) rfl
        rw [ht] at this
        exact this
      refine ⟨rfl, .int (1 + (j : Int)), rfl, 1 + (j : Int), 1, rfl, rfl, letters, _, _, rfl, rfl, by rw [letters_len, sizeLine_eq]; decide, at_letter (x := j) (by omega) (by omega), .str z, rfl, .int 0, rfl, _, rfl, .int 0, rfl, _, _, rfl, rfl, _, rfl, z, rfl, hz', rfl, _, rfl, ?_⟩
      rw [es]
      by_cases hm : t[0]? = some (97 + j)
      · rw [decide_eq_true hm]
        obtain ⟨f0, f1⟩ := fnd_yes hm
        rw [f0] at hD7
        refine iteT ⟨.int (1 + (j : Int)), rfl, [], hD7, by rw [sizeLine_eq]; decide, fun b ob eb => ?_, by rw [f1]; exact upd_same⟩
        rw [upd_ne (ne_of_none eb hD)]
        exact s7 _ _ eb
      · rw [decide_eq_false hm]
        exact iteF ⟨s7, by rw [fnd_no hm]; exact hD7⟩
    · obtain ⟨s1, hD1⟩ := pv
      refine ⟨.ref D, rfl, _, .inl ⟨_, SqL.of hD1, rfl⟩, ?_⟩
      cases t with
      | nil => exact iteT ⟨.int 0, rfl, (0 : Int), rfl, by decide, fun d hd' => h H1 d s1 hd'⟩
      | cons c r =>
        by_cases hc : 97 ≤ c ∧ c < 109
        · have ef : fnd (c :: r) 12 = [.int ((c - 96 : Nat))] := by
            show (if 97 ≤ c ∧ c < 97 + 12 then [V.int ((c - 96 : Nat))] else []) = _
            rw [if_pos hc]
          rw [ef] at hD1 ⊢
          have hs := sign_is z 1 58 (j := 2) (by decide)
          rw [ht] at hs
          have hs' : (!decide (V.str (cutS z (some (0 + 1)) (some (0 + 2))) = V.str (":" : Str))) = !decide ((c :: r)[1]? = some 58) := congrArg Bool.not hs
          refine iteF ⟨.str z, rfl, .int 0, rfl, _, _, rfl, rfl, _, rfl, .int 0, rfl, _, _, rfl, rfl, _, rfl, z, rfl, hz', rfl, _, rfl, ?_⟩
          rw [hs']
          have e1 : (c :: r)[1]? = r[0]? := by simp
          rw [e1]
          by_cases h1 : r[0]? = some 58
          · rw [decide_eq_true h1]
            simp only [countT, if_pos hc, if_pos h1] at h
            have en : c - 97 + 1 = c - 96 := by omega
            rw [en] at h
            refine iteF ⟨.str z, rfl, .int 0, rfl, _, _, rfl, rfl, .ref D, rfl, D, [.int ((c - 96 : Nat))], 0, .int ((c - 96 : Nat)), rfl, rfl, SqL.of hD1, atI_nat (j := 0) rfl, z, c - 96, rfl, hz, by omega, ?_⟩
            rw [ht]
            cases hR : goP (c :: r).length (c :: r) [] (pairsN (c - 96)) 2 with
            | bad k =>
              rw [hR] at h
              exact fun H2 d s2 hd' => h H2 d (s1.trans s2) hd'
            | ok q =>
              rw [hR] at h
              obtain ⟨ties, i⟩ := q
              intro H2 p pt ts s2 hp hpt dts hle
              have hD2 : SqL K H2 D [.int ((c - 96 : Nat))] := s2.seq (SqL.of hD1)
              refine ⟨p, [_, _], rfl, hp, rfl, _, [_], rfl, _, [], rfl, rfl, .ref D, rfl, D, [.int ((c - 96 : Nat))], 0, .int ((c - 96 : Nat)), rfl, rfl, hD2, atI_nat (j := 0) rfl, .ref pt, rfl, by show 2 ≤ sizeLine; decide, fun b hb => ⟨.int i, rfl, by show 2 ≤ sizeLine; decide, fun b2 hb2 => ?_⟩⟩
              have s3 := (same_new (o := .tup [.int ((c - 96 : Nat)), .ref pt]) hb).trans (same_new (o := .tup [.ref b, .int i]) hb2)
              exact h _ b2 (.ref b) ((s1.trans s2).trans s3) (.inl (.inl upd_same)) (.tup (.inl (.inl (same_new hb2 _ _ upd_same))) (.cons (.int _) (.cons (.tup (sameT s3 hpt) (dps_same s3 dts)) .nil))) hle
          · rw [decide_eq_false h1]
            simp only [countT, if_pos hc, if_neg h1] at h
            exact iteT ⟨.int 0, rfl, _, _, rfl, rfl, 1, rfl, by decide, fun d hd' => h H1 d s1 hd'⟩
        · have ef : fnd (c :: r) 12 = [] := by
            show (if 97 ≤ c ∧ c < 97 + 12 then [V.int ((c - 96 : Nat))] else []) = _
            rw [if_neg hc]
          rw [ef] at hD1 ⊢
          simp only [countT, if_neg hc] at h
          exact iteT ⟨.int 0, rfl, (0 : Int), rfl, by decide, fun d hd' => h H1 d s1 hd'⟩
theorem ok_web_told {C fI : Addr} (D : Dn K mg "web_told" s_web_told ["text"]) (T : EIX.ExTxt P K mg "InvalidText" "index" ixParts C fI) (m1 : mg "len" = none)
    (O1 : Ok P w K mg base CX0 1 "is_text" ["value"] (sp1 K isText)) (O2 : Ok P w K mg base (L2.CX P w) 4 "web_told_at" ["text", "at", "least"] (spToldAt K C)) : Ok P w K mg base (L2.CX P w) 5 "web_told" ["text"] (spTold K C) := by
  refine D.okX sc_web_told (fun vs H Q E h => ?_) fun f cdv A outer s H vs Q E hr h => ?_
  · obtain ⟨v, d, rfl, _⟩ := h
    rfl
  · obtain ⟨v, d, rfl, hd, h⟩ := h
    have l2 : 2 ≤ ixParts.length := by rw [ix_len]; decide
    have l12 : ixParts.length ≤ 12 := by rw [ix_len]; decide
    have px := passes_call (X := cxOf (L2.CX P w) P w K mg base n_web_told "web_told" (defScope s_web_told) f cdv A outer s H E) (E := E) (takes_of rfl rfl rfl rfl) (fun _ _ _ _ h => h)
    refine ⟨_, pss_cons (ps_if (pt_not (pt_val (pe_ok O1 hr pass0 (pa_cons (pv 0) pa_nil)))) (pss_one (ps_raiseF T ix_fld ix_all l2 l12 hr (takes_of rfl rfl rfl rfl) (pa_cons pe_int pa_nil))) pss_nil)
      (pss_cons (ps_asg (pe_ok O2 hr (E := E) px (pa_cons (pv 0) (pa_cons pe_int (pa_cons pe_int pa_nil)))) (pg_tup (by rfl) (pgs_cons (pg_name (i := 1) sc_web_told.nd rfl (.inl rfl)) (pgs_cons (pg_name (i := 2) sc_web_told.nd rfl (.inl rfl)) pgs_nil))))
      (pss_cons (ps_if (pt_cmpR op_lt (pv 2) (pe_b m1 call_len_str (pa_cons (pv 0) pa_nil)) (nomark _)) (pss_one (ps_raiseF T ix_fld ix_all l2 l12 hr (takes_of rfl rfl rfl rfl) (pa_cons (pv 2) pa_nil))) pss_nil)
      (pss_one (ps_ret (pv 1))))), ?_⟩
    cases d with
    | str z =>
      cases hd
      obtain ⟨hz, h⟩ := h
      have hz' : z.length ≤ sizeLine := line_100000 (by omega)
      have zl : z.length = z.cps.toList.length := by first | rfl | simp [Str.length]
      refine ⟨.str z, rfl, .str z, .str z, rfl, .str z, _, rfl, iteF ?_⟩
      refine ⟨.str z, rfl, z, rfl, hz, ?_⟩
      generalize ht : z.cps.toList = t at *
      unfold webT at h
      cases hc : countT t with
      | bad k =>
        rw [hc] at h
        exact h
      | ok n =>
        rw [hc] at h
        dsimp only at h
        have hn := count_le hc
        rw [go_end t n t.length [] (pairsN n) 2 (by omega) (pairs_within hn)] at h
        dsimp only
        cases hR : goP t.length t [] (pairsN n) 2 with
        | bad k =>
          rw [hR] at h
          exact h
        | ok r =>
          rw [hR] at h
          obtain ⟨ties, i⟩ := r
          intro H' p wv s' hp hw hi
          refine ⟨p, [_, _], rfl, hp, rfl, _, [_], rfl, _, [], rfl, rfl, .int i, rfl, .str z, rfl, z, rfl, hz', _, _, rfl, rfl, _, rfl, ?_⟩
          by_cases hlt : i < t.length
          · rw [end_at hlt] at h
            rw [show decide ((i : Int) < (z.length : Int)) = true from decide_eq_true (by omega)]
            exact iteT ⟨.int i, rfl, (i : Int), rfl, small_nat (by have : i ≤ 90010 := hi; omega), fun d hd' => h H' d s' hd'⟩
          · rw [end_no hlt] at h
            rw [show decide ((i : Int) < (z.length : Int)) = false from decide_eq_false (by omega)]
            exact iteF ⟨wv, rfl, h _ _ s' hw⟩
    | _ => exact ⟨v, rfl, v, _, rfl, hd, _, rfl, iteT ⟨0, rfl, by decide, fun d hd' => h H d (Same.refl H) hd'⟩⟩
end
end Lk02
/-! The cup that the drops are sipped from. -/
namespace LV
open PySem PySem.Spec PyProof.Rows L2
def CupO (o : HO) : Prop := ∃ a b : Int, o = .lst [.int a, .int b] ∧ 0 ≤ a ∧ 0 ≤ b ∧ b < 1099511627776
theorem upd_upd {H : Hp} {p : Addr} {o o' : HO} : upd (upd H p o) p o' = upd H p o' := by
  funext q
  by_cases h : q = p
  · subst h; rw [upd_same, upd_same]
  · rw [upd_ne h, upd_ne h, upd_ne h]
end LV
namespace Lk02
open PySem PySem.Spec PyProof.Rows L2 LV
def spCup : Sp := fun vs H Q _ => ∃ i : Int, vs = [.int i] ∧ ∀ c o, H c = none → CupO o → Q (.ref c) (upd H c o)
def spSip : Sp := fun vs H Q _ => ∃ (c : Addr) (n : Nat) (o : HO), vs = [.ref c, .int n] ∧ 1 ≤ n ∧ n < 1000000000 ∧ H c = some o ∧ CupO o ∧ ∀ (r : Nat) o', r < n → CupO o' → Q (.int r) (upd H c o')
section
variable {P : Program} {w : World} {K : PySem.W.Frag} {mg : Str → Option Value} {base : Heap}
theorem ok_cup (D : Dn K mg "_law_cup" s__law_cup ["_law_cell"]) (m1 : mg "int" = none) : Ok P w K mg base CX0 1 "_law_cup" ["_law_cell"] spCup := by
  refine D.ok sc__law_cup (fun vs H Q E h => ?_) fun f cdv A outer s H vs Q E hr h => ?_
  · obtain ⟨i, rfl, _⟩ := h
    rfl
  · obtain ⟨i, rfl, h⟩ := h
    refine ⟨_, pss_one (ps_ret (pe_lst (pa_cons (pe_ifExp (pt_cmpR op_ge (pv 0) (pe_op op_pow pe_int pe_int) (nomark _)) (pe_op op_sub (pe_ty m1 call_int1 (pa_cons (pv 0) pa_nil)) (pe_op op_pow pe_int pe_int)) pe_int)
      (pa_cons (pe_op op_add (pe_op op_mod (pe_ty m1 call_int1 (pa_cons (pv 0) pa_nil)) pe_int) pe_int) pa_nil)))), ?_⟩
    have m2 : i % 2147483629 < 2147483629 := Int.emod_lt_of_pos _ (by decide)
    have m3 : 0 ≤ i % 2147483629 := Int.emod_nonneg _ (by decide)
    have e18 : (10 : Int) ^ (18 : Int).toNat = 1000000000000000000 := by decide
    refine ⟨.int i, rfl, _, _, rfl, rfl, ⟨by decide, by decide, by decide⟩, _, _, rfl, rfl, _, rfl, ?_⟩
    by_cases hi : (10 : Int) ^ (18 : Int).toNat ≤ i
    · rw [decide_eq_true hi]
      refine iteT ⟨.int i, rfl, .inl ⟨_, rfl, _, _, rfl, rfl, ⟨by decide, by decide, by decide⟩, _, _, rfl, rfl, ?_⟩⟩
      refine ⟨.int i, rfl, .inl ⟨_, rfl, _, _, rfl, rfl, (by show (0 : Int) < 2147483629; decide), _, _, rfl, rfl, ?_⟩⟩
      exact ⟨by show 2 ≤ sizeLine; decide, fun l hl => h l _ hl ⟨_, _, rfl, by rw [e18] at hi ⊢; omega, by omega, by omega⟩⟩
    · rw [decide_eq_false hi]
      refine iteF ?_
      refine ⟨.int i, rfl, .inl ⟨_, rfl, _, _, rfl, rfl, (by show (0 : Int) < 2147483629; decide), _, _, rfl, rfl, ?_⟩⟩
      exact ⟨by show 2 ≤ sizeLine; decide, fun l hl => h l _ hl ⟨_, _, rfl, by decide, by omega, by omega⟩⟩
theorem ok_sip (D : Dn K mg "_law_sip" s__law_sip ["_law_cup_here", "_law_many"]) (m1 : mg "int" = none) : Ok P w K mg base CX0 1 "_law_sip" ["_law_cup_here", "_law_many"] spSip := by
  refine D.ok sc__law_sip (fun vs H Q E h => ?_) fun f cdv A outer s H vs Q E hr h => ?_
  · obtain ⟨c, n, o, rfl, _⟩ := h
    rfl
  · obtain ⟨c, n, o, rfl, n1, n2, hc, ⟨a, b, rfl, a0, b0, b1⟩, h⟩ := h
    refine ⟨_, pss_cons (ps_if (pt_cmpR op_gt (pe_ix ix_list (pv 0) pe_int (fun _ _ => rfl)) pe_int (nomark _))
        (pss_cons (ps_set (i := 2) sc__law_sip.nd rfl (.inl rfl) (pe_op op_mod (pe_ty m1 call_int1 (pa_cons (pe_ix ix_list (pv 0) pe_int (fun _ _ => rfl)) pa_nil)) (pv 1)))
        (pss_cons (ps_asg (pe_op op_fdiv (pe_ix ix_list (pv 0) pe_int (fun _ _ => rfl)) (pv 1)) (pg_sub (pv 0) pe_int set_list))
        (pss_one (ps_ret (pv 2))))) pss_nil)
      (pss_cons (ps_asg (pe_op op_mod (pe_ty m1 call_int1 (pa_cons (pe_op op_mul (pe_ix ix_list (pv 0) pe_int (fun _ _ => rfl)) pe_int) pa_nil)) pe_int) (pg_sub (pv 0) pe_int set_list))
      (pss_one (ps_ret (pe_op op_mod (pe_op op_fdiv (pe_op op_mod (pe_ty m1 call_int1 (pa_cons (pe_op op_mul (pe_ix ix_list (pv 0) pe_int (fun _ _ => rfl)) (pe_ix ix_list (pv 0) pe_int (fun _ _ => rfl))) pa_nil)) pe_int) pe_int) (pv 1))))), ?_⟩
    have n0 : (0 : Int) < (n : Int) := by omega
    refine ⟨.ref c, rfl, c, _, 0, _, rfl, rfl, SqL.of hc, atI_nat (j := 0) rfl, _, _, rfl, rfl, _, rfl, ?_⟩
    by_cases ha : (0 : Int) < a
    · rw [decide_eq_true ha]
      refine iteT ⟨.ref c, rfl, c, _, 0, _, rfl, rfl, SqL.of hc, atI_nat (j := 0) rfl, .inl ⟨_, rfl, .int n, rfl, _, _, rfl, rfl, n0, ?_⟩⟩
      refine ⟨.ref c, rfl, c, _, 0, _, rfl, rfl, SqL.of hc, atI_nat (j := 0) rfl, .int n, rfl, _, _, rfl, rfl, ⟨n0, by omega⟩, .ref c, rfl, c, _, 0, 0, rfl, rfl, hc, rfl, ?_⟩
      refine ⟨_, rfl, ?_⟩
      have m2 : a % (n : Int) < (n : Int) := Int.emod_lt_of_pos _ n0
      have m3 : 0 ≤ a % (n : Int) := Int.emod_nonneg _ (by omega)
      have e : a % (n : Int) = (((a % (n : Int)).toNat : Nat) : Int) := by omega
      have := h (a % (n : Int)).toNat (.lst [.int (a / (n : Int)), .int b]) (by omega) ⟨_, _, rfl, Int.ediv_nonneg a0 (by omega), b0, b1⟩
      rw [← e] at this
      exact this
    · rw [decide_eq_false ha]
      have m2 : b * 69621 % 2147483647 < 2147483647 := Int.emod_lt_of_pos _ (by decide)
      have m3 : 0 ≤ b * 69621 % 2147483647 := Int.emod_nonneg _ (by decide)
      refine iteF ⟨.ref c, rfl, c, _, 1, _, rfl, rfl, SqL.of hc, atI_nat (j := 1) rfl, _, _, rfl, rfl, .inr ⟨by decide, by decide⟩, .inl ⟨_, rfl, _, _, rfl, rfl, (by show (0 : Int) < 2147483647; decide), .ref c, rfl, c, _, 1, 1, rfl, rfl, hc, rfl, ?_⟩⟩
      obtain ⟨b', hb'⟩ : ∃ b', b' = b * 69621 % 2147483647 := ⟨_, rfl⟩
      rw [← hb'] at m2 m3
      have hc' : (upd H c (.lst ([V.int a, V.int b].set 1 (.int (b * 69621 % 2147483647))))) c = some (.lst [.int a, .int b']) := by rw [hb']; exact upd_same
      refine ⟨.ref c, rfl, c, _, 1, _, rfl, rfl, SqL.of hc', atI_nat (j := 1) rfl, .ref c, rfl, c, _, 1, _, rfl, rfl, SqL.of hc', atI_nat (j := 1) rfl, _, _, rfl, rfl, .inl ⟨by omega, by omega⟩, .inl ⟨_, rfl, _, _, rfl, rfl, (by show (0 : Int) < 2147483629; decide), _, _, rfl, rfl, ⟨by decide, by decide⟩, .int n, rfl, _, _, rfl, rfl, n0, ?_⟩⟩
      obtain ⟨x, hx⟩ : ∃ x, x = b' * b' % 2147483629 / 32 := ⟨_, rfl⟩
      have m4 : x % (n : Int) < (n : Int) := Int.emod_lt_of_pos _ n0
      have m5 : 0 ≤ x % (n : Int) := Int.emod_nonneg _ (by omega)
      have e : x % (n : Int) = (((x % (n : Int)).toNat : Nat) : Int) := by omega
      have := h (x % (n : Int)).toNat (.lst [.int a, .int (b * 69621 % 2147483647)]) (by omega) ⟨_, _, rfl, a0, by rw [← hb']; exact m3, by rw [← hb']; omega⟩
      rw [← e, hx] at this
      exact this
end
end Lk02
/-! The drawn web. -/
namespace LV
open PySem PySem.Spec PyProof.Rows L2
/-- the heap but for what stands at c -/
def hole (H : Hp) (c : Addr) : Hp := fun a => if a = c then none else H a
theorem hole_at {H : Hp} {c : Addr} : hole H c c = none := if_pos rfl
theorem hole_ne {H : Hp} {a c : Addr} (h : a ≠ c) : hole H c a = H a := if_neg h
theorem hole_same {H : Hp} {c : Addr} : Same (hole H c) H := fun a o e => by
  by_cases h : a = c
  · subst h; rw [hole_at] at e; cases e
  · rw [hole_ne h] at e; exact e
theorem hole_upd {H : Hp} {c : Addr} {o : HO} : hole (upd H c o) c = hole H c := by
  funext a
  by_cases h : a = c
  · subst h; rw [hole_at, hole_at]
  · rw [hole_ne h, hole_ne h, upd_ne h]
theorem hole_none {H : Hp} {a c : Addr} (h : H a = none) : hole H c a = none := by
  by_cases e : a = c
  · subst e; exact hole_at
  · rw [hole_ne e]; exact h
theorem same_hole {H H' : Hp} {c : Addr} (s : Same (hole H c) H') : Same (hole H c) (hole H' c) := fun a o e => by
  by_cases h : a = c
  · subst h; rw [hole_at] at e; cases e
  · rw [hole_ne h]; exact s _ _ e
theorem hole_mono {H H' : Hp} {c : Addr} (s : Same H H') : Same (hole H c) (hole H' c) := same_hole fun a o e => s _ _ (hole_same _ _ e)
theorem tup_hole {K : PySem.W.Frag} {H : Hp} {c a : Addr} {zs xs : List V} (hc : H c = some (.lst zs)) (h : SqT K H a xs) : SqT K (hole H c) a xs := by
  rcases h with (h | ⟨u, h⟩) | h
  · exact .inl (.inl (by rw [hole_ne (ne_of h hc (by intro z; cases z))]; exact h))
  · exact .inl (.inr ⟨u, by rw [hole_ne (ne_of h hc (by intro z; cases z))]; exact h⟩)
  · exact .inr h
theorem ties_hole {K : PySem.W.Frag} {H : Hp} {c : Addr} {zs : List V} (hc : H c = some (.lst zs)) : ∀ {ps : List (Nat × Nat)} {xs : List V}, DpAll K H xs (ps.map tieD) → DpAll K (hole H c) xs (ps.map tieD)
  | [], _, h => by cases h; exact .nil
  | p :: r, _, h => by
    cases h with
    | cons h1 h2 =>
      obtain ⟨a, rfl, hs⟩ := dp_pair h1
      exact .cons (mk_pair (tup_hole hc hs)) (ties_hole hc h2)
theorem dp_web {K : PySem.W.Frag} {H : Hp} {v : V} {n : Nat} {ps : List (Nat × Nat)} (h : Dp K H v (webD n ps)) : ∃ a b ts, v = .ref a ∧ SqT K H a [.int n, .ref b] ∧ SqT K H b ts ∧ DpAll K H ts (ps.map tieD) := by
  cases h with
  | @tup a xs ds hs ha =>
    cases ha with
    | cons h1 h2 =>
      cases h2 with
      | cons h3 h4 =>
        cases h4
        cases h1
        cases h3 with
        | @tup b ys es hb hts => exact ⟨a, b, ys, rfl, hs, hb, hts⟩
theorem mk_web {K : PySem.W.Frag} {H : Hp} {a b : Addr} {n : Nat} {ps : List (Nat × Nat)} {ts : List V} (h : SqT K H a [.int n, .ref b]) (hb : SqT K H b ts) (ht : DpAll K H ts (ps.map tieD)) : Dp K H (.ref a) (webD n ps) :=
  .tup h (.cons (.int _) (.cons (.tup hb ht) .nil))
theorem web_hole {K : PySem.W.Frag} {H : Hp} {c : Addr} {zs : List V} {v : V} {n : Nat} {ps : List (Nat × Nat)} (hc : H c = some (.lst zs)) (h : Dp K H v (webD n ps)) : Dp K (hole H c) v (webD n ps) := by
  obtain ⟨a, b, ts, rfl, h1, h2, h3⟩ := dp_web h
  exact mk_web (tup_hole hc h1) (tup_hole hc h2) (ties_hole hc h3)
end LV
namespace Lk02
open PySem PySem.Spec PyProof.Rows L2 LV
def spWebL (K : PySem.W.Frag) : Sp := fun vs H Q _ => ∃ (c : Addr) (n : Nat) (o : HO), vs = [.ref c, .int n] ∧ 1 ≤ n ∧ n ≤ 12 ∧ H c = some o ∧ CupO o ∧
  ∀ H' o' v ps, Same (hole H c) H' → H' c = some o' → CupO o' → Dp K (hole H' c) v (webD n ps) → ps.Sublist (pairsN n) → Q v H'
section
variable {P : Program} {w : World} {K : PySem.W.Frag} {mg : Str → Option Value} {base : Heap}
theorem ok_web (D : Dn K mg "_law_web" s__law_web ["_law_cup_here", "_law_many"]) (m1 : mg "range" = none) (m2 : mg "tuple" = none) (O1 : Ok P w K mg base CX0 1 "_law_sip" ["_law_cup_here", "_law_many"] spSip) : Ok P w K mg base CX0 2 "_law_web" ["_law_cup_here", "_law_many"] (spWebL K) := by
  refine D.ok sc__law_web (fun vs H Q E h => ?_) fun f cdv A outer s H vs Q E hr h => ?_
  · obtain ⟨c, n, o, rfl, _⟩ := h
    rfl
  · obtain ⟨c, n, o, rfl, n1, n2, hc, ho, h⟩ := h
    refine ⟨_, pss_cons (ps_par (i := 2) (j := 3) rfl sc__law_web.nd rfl rfl (by decide) rfl rfl (pa_cons (pe_op op_add pe_int (pe_ok O1 hr pass0 (pa_cons (pv 0) (pa_cons pe_int pa_nil)))) (pa_cons (pe_lst pa_nil) pa_nil)) (by rfl))
      (pss_cons (ps_for PassesOwn.never rfl (pi_range1 rfl m1 (pa_cons (pv 1) pa_nil)) (pg_name (i := 4) sc__law_web.nd rfl (.inl rfl))
        (pss_one (ps_for PassesOwn.never rfl (pi_range2 rfl m1 (pa_cons (pe_op op_add (pv 4) pe_int) (pa_cons (pv 1) pa_nil))) (pg_name (i := 5) sc__law_web.nd rfl (.inl rfl))
          (pss_one (ps_if (pt_cmpR op_lt (pe_ok O1 hr pass0 (pa_cons (pv 0) (pa_cons pe_int pa_nil))) (pv 2) (nomark _))
            (pss_one (ps_expr (pe_bm PySem.F.plainAttrs_list PySem.F.slot_list_append PySem.F.type_list_append mt_append (pv 3) (pa_cons (pe_tup (pa_cons (pv 4) (pa_cons (pv 5) pa_nil))) pa_nil)))) pss_nil)))))
      (pss_one (ps_ret (pe_tup (pa_cons (pv 1) (pa_cons (pe_ty m2 call_tuple_of (pa_cons (pv 3) pa_nil)) pa_nil)))))), ?_⟩
    refine ⟨.ref c, rfl, c, 5, o, rfl, by decide, by decide, hc, ho, fun r o1 hr5 ho1 => ⟨_, _, rfl, rfl, Nat.zero_le _, fun tA htA => ⟨_, _, rfl, ?_⟩⟩⟩
    have hcA : tA ≠ c := fun e => by rw [e, upd_same] at htA; cases htA
    have htA0 : H tA = none := by rw [upd_ne hcA] at htA; exact htA
    refine ⟨.int n, rfl, n, rfl, by omega, by omega, ?_⟩
    rw [Int.toNat_natCast]
    refine for_it walk_range (fun i σ' H' => ∃ (ties : List (Nat × Nat)) (ts : List V) (o' : HO) (xv yv : Option V), σ' = [some (.ref c), some (.int n), some (.int (1 + (r : Int))), some (.ref tA), xv, yv] ∧ Same (hole H c) H' ∧ H' c = some o' ∧ CupO o' ∧ H' tA = some (.lst ts) ∧ DpAll K H' ts (ties.map tieD) ∧
      ts.length ≤ 12 * i ∧ ties.Sublist ((List.range i).flatMap (pairsRow n))) ?_ (fun _ _ _ _ _ => trivial) (fun i x σ' H2 H3 hi p y => ?_) fun σ' H' p => ?_
    · exact ⟨[], [], o1, none, none, rfl, (same_upd hole_same hole_at).trans (same_new htA), by rw [upd_ne (fun e => hcA e.symm), upd_same], ho1, upd_same, .nil, Nat.zero_le _, List.nil_sublist _⟩
    · obtain ⟨rfl, rfl⟩ := y
      obtain ⟨ties, ts, o', xv, yv, rfl, s2, hc2, ho2, hts, dts, hl, sb⟩ := p
      refine ⟨_, rfl, 0 + (i : Int), 1, rfl, rfl, _, rfl, _, _, rfl, ⟨by omega, by omega, by omega, by omega⟩, ?_⟩
      have e1 : ((n : Int) - (0 + (i : Int) + 1)).toNat = n - (i + 1) := by omega
      rw [e1]
      refine for_it walk_range (fun j σ' H' => ∃ (ties : List (Nat × Nat)) (ts : List V) (o' : HO) (yv : Option V), σ' = [some (.ref c), some (.int n), some (.int (1 + (r : Int))), some (.ref tA), some (.int (0 + (i : Int))), yv] ∧ Same (hole H c) H' ∧ H' c = some o' ∧ CupO o' ∧ H' tA = some (.lst ts) ∧ DpAll K H' ts (ties.map tieD) ∧
        ts.length ≤ 12 * i + j ∧ ties.Sublist ((List.range i).flatMap (pairsRow n) ++ (List.range j).map fun k => (i, i + 1 + k))) ⟨ties, ts, o', yv, rfl, s2, hc2, ho2, hts, dts, hl, by simpa using sb⟩ (fun _ _ _ _ _ => trivial) (fun j x σ' H4 H5 hj p y => ?_) fun σ' H' p => ?_
      · obtain ⟨rfl, rfl⟩ := y
        obtain ⟨ties, ts, o', yv, rfl, s4, hc4, ho4, hts, dts, hl, sb⟩ := p
        refine ⟨.ref c, rfl, c, 6, o', rfl, by decide, by decide, hc4, ho4, fun r6 o6 hr6 ho6 => ⟨_, rfl, _, _, rfl, rfl, _, rfl, ?_⟩⟩
        obtain ⟨zs, hzs⟩ : ∃ zs, o' = .lst zs := by obtain ⟨_, _, e, _⟩ := ho4; exact ⟨_, e⟩
        subst hzs
        have s6 : Same (hole H c) (upd H5 c o6) := same_upd s4 hole_at
        have hts6 : (upd H5 c o6) tA = some (.lst ts) := by rw [upd_ne hcA]; exact hts
        have dts6 : DpAll K (upd H5 c o6) ts (ties.map tieD) := ties_upd hc4 dts
        have hc6 : (upd H5 c o6) c = some o6 := upd_same
        generalize upd H5 c o6 = H6 at *
        refine ite2 (fun _ => ?_) (fun _ => ?_)
        · refine ⟨.ref tA, rfl, .inl ⟨rfl, _, SqL.of hts6⟩, _, rfl, _, rfl, by show 2 ≤ sizeLine; decide, fun b hb => ?_⟩
          have hbA : b ≠ tA := fun e => by rw [e, hts6] at hb; cases hb
          have hbc : b ≠ c := fun e => by rw [e, hc6] at hb; cases hb
          have hts7 : (upd H6 b (.tup [.int (0 + (i : Int)), .int (0 + (i : Int) + 1 + (j : Int))])) tA = some (.lst ts) := by rw [upd_ne (fun e => hbA e.symm)]; exact hts6
          have hc7 : (upd H6 b (.tup [.int (0 + (i : Int)), .int (0 + (i : Int) + 1 + (j : Int))])) c = some o6 := by rw [upd_ne (fun e => hbc e.symm)]; exact hc6
          have d7 := dps_same (same_new (o := .tup [.int (0 + (i : Int)), .int (0 + (i : Int) + 1 + (j : Int))]) hb) dts6
          have t7 : Dp K (upd H6 b (.tup [.int (0 + (i : Int)), .int (0 + (i : Int) + 1 + (j : Int))])) (.ref b) (tieD (i, i + 1 + j)) := mk_pair (.inl (.inl (by
            rw [upd_same]
            have e1 : (0 : Int) + (i : Int) = ((i : Nat) : Int) := by omega
            have e2 : (0 : Int) + (i : Int) + 1 + (j : Int) = ((i + 1 + j : Nat) : Int) := by omega
            rw [e2, e1])))
          have s7 : Same (hole H c) (upd H6 b (.tup [.int (0 + (i : Int)), .int (0 + (i : Int) + 1 + (j : Int))])) := s6.trans (same_new hb)
          refine ⟨tA, ts, .ref b, rfl, rfl, hts7, by rw [sizeLine_eq]; omega, ?_⟩
          have both := dps_append (ties_upd (o := .lst (ts ++ [.ref b])) hts7 d7) (DpAll.cons (tie_upd (o := .lst (ts ++ [.ref b])) hts7 t7) .nil)
          refine ⟨ties ++ [(i, i + 1 + j)], ts ++ [.ref b], o6, _, rfl, same_upd s7 (hole_none htA0), by rw [upd_ne (fun e => hcA e.symm)]; exact hc7, ho6, upd_same, ?_, by rw [List.length_append, List.length_singleton]; omega, ?_⟩
          · rw [List.map_append]
            exact both
          · rw [List.range_succ, List.map_append, ← List.append_assoc]
            exact List.Sublist.append sb (List.Sublist.refl _)
        · refine ⟨ties, ts, o6, _, rfl, s6, hc6, ho6, hts6, dts6, by omega, ?_⟩
          rw [List.range_succ, List.map_append, ← List.append_assoc]
          exact sb.trans (List.sublist_append_left _ _)
      · obtain ⟨ties, ts, o', yv, rfl, s4, hc4, ho4, hts, dts, hl, sb⟩ := p
        refine ⟨ties, ts, o', _, yv, rfl, s4, hc4, ho4, hts, dts, by omega, ?_⟩
        rw [List.range_succ, List.flatMap_append]
        simpa [pairsRow] using sb
    · obtain ⟨ties, ts, o', xv, yv, rfl, s2, hc2, ho2, hts, dts, hl, sb⟩ := p
      refine ⟨.int n, rfl, .ref tA, rfl, tA, ts, rfl, .inl ⟨SqL.of hts, fun l hl' => ⟨by show 2 ≤ sizeLine; decide, fun b hb => ?_⟩⟩⟩
      obtain ⟨zs, hzs⟩ : ∃ zs, o' = .lst zs := by obtain ⟨_, _, e, _⟩ := ho2; exact ⟨_, e⟩
      subst hzs
      have s3 : Same H' (upd (upd H' l (.tup ts)) b (.tup [.int n, .ref l])) := (same_new hl').trans (same_new hb)
      have hc3 := s3 _ _ hc2
      have h1 : (upd (upd H' l (.tup ts)) b (.tup [.int n, .ref l])) l = some (.tup ts) := by
        rw [upd_ne (ne_of_none upd_same hb)]
        exact upd_same
      have d3 := dps_same s3 dts
      exact h _ _ (.ref b) ties (s2.trans s3) hc3 ho2 (web_hole hc3 (mk_web (.inl (.inl upd_same)) (.inl (.inl h1)) d3)) sb
end
end Lk02
/-! The ties that may follow. -/
namespace LV
open PySem PySem.Spec PyProof.Rows L2
theorem ties_shape : ∀ ps : List (Nat × Nat), PyData.canLayAll0 (ps.map tieD) = true ∧ PyData.depthAll (ps.map tieD) ≤ 1
  | [] => ⟨rfl, Nat.zero_le _⟩
  | p :: r => by
    obtain ⟨h1, h2⟩ := ties_shape r
    refine ⟨?_, ?_⟩
    · show (PyData.canLay0 (tieD p) && PyData.canLayAll0 (r.map tieD)) = true
      rw [h1]
      rfl
    · show max (PyData.depth (tieD p)) (PyData.depthAll (r.map tieD)) ≤ 1
      have e : PyData.depth (tieD p) = 1 := rfl
      rw [e]
      omega
theorem shaped_ties (ps : List (Nat × Nat)) : SeqAt.shaped (.list (ps.map tieD)) = true := by
  obtain ⟨h1, h2⟩ := ties_shape ps
  unfold SeqAt.shaped
  have e1 : PyData.canLay0 (.list (ps.map tieD)) = PyData.canLayAll0 (ps.map tieD) := by unfold PyData.canLay0; rfl
  have e2 : PyData.depth (.list (ps.map tieD)) = PyData.depthAll (ps.map tieD) + 1 := by unfold PyData.depth; rfl
  rw [e1, e2, h1, decide_eq_true (by omega)]
  rfl
theorem shaped_tie (p : Nat × Nat) : SeqAt.shaped (tieD p) = true := rfl
theorem eqv_ties_nil (ps : List (Nat × Nat)) : PyData.eqv (.list (ps.map tieD)) (.list []) = decide (ps = []) := by
  cases ps with
  | nil => rfl
  | cons p r => simp [PyData.eqv, PyData.eqvAll]
theorem eqv_tie (p q : Nat × Nat) : PyData.eqv (tieD p) (tieD q) = decide (p = q) := by
  obtain ⟨a, b⟩ := p
  obtain ⟨c, d⟩ := q
  simp only [tieD, PyData.eqv, PyData.eqvAll, Bool.and_true]
  rw [Bool.eq_iff_iff]
  simp
  omega
theorem any_tie (ps : List (Nat × Nat)) (q : Nat × Nat) : ((ps.map tieD).any fun z => PyData.eqv z (tieD q)) = decide (q ∈ ps) := by
  induction ps with
  | nil => rfl
  | cons p r ih =>
    rw [List.map_cons, List.any_cons, ih, eqv_tie, Bool.eq_iff_iff, Bool.or_eq_true, decide_eq_true_iff, decide_eq_true_iff, decide_eq_true_iff, List.mem_cons]
    exact ⟨fun h => h.elim (fun e => .inl e.symm) .inr, fun h => h.elim (fun e => .inl e.symm) .inr⟩
/-- what may follow the ties told so far -/
def aheadP (ties : List (Nat × Nat)) (first : Option Nat) (q : Nat × Nat) : Bool := (match ties.getLast? with
  | none => true
  | some l => pLt l q) && (match first with
  | none => true
  | some k => decide (k = q.1))
def aheadT (n : Nat) (ties : List (Nat × Nat)) (first : Option Nat) : List (Nat × Nat) := (pairsN n).filter (aheadP ties first)
def fV : Option Nat → V
  | none => .non
  | some k => .int k
theorem first_in (first : Option Nat) (x : Nat) : inV (fV first) [.int x, .non] = (match first with
  | none => true
  | some k => decide (k = x)) := by
  cases first with
  | none => rfl
  | some k =>
    show (((x : Int) == (k : Int)) || (false || false)) = decide (k = x)
    rw [Bool.eq_iff_iff]
    simp
    omega
theorem last_tie {K : PySem.W.Frag} {H : Hp} {ts : List V} {ties : List (Nat × Nat)} {lt : Nat × Nat} (h : DpAll K H ts (ties.map tieD)) (e : ties.getLast? = some lt) : ∃ c, atI ts (-1) = some (.ref c) ∧ SqT K H c [.int lt.1, .int lt.2] := by
  have hl := dps_len h
  rw [List.length_map] at hl
  have hn : ts ≠ [] := fun z => by
    rw [z] at hl
    have : ties = [] := List.length_eq_zero_iff.mp hl.symm
    rw [this] at e
    cases e
  have hpos : 0 < ts.length := List.length_pos_iff.mpr hn
  obtain ⟨d, ed, hd⟩ := dps_get h (List.getElem?_eq_getElem (show ts.length - 1 < ts.length by omega))
  rw [List.getElem?_map, hl, ← List.getLast?_eq_getElem?, e] at ed
  cases ed
  obtain ⟨c, hc, hs⟩ := dp_pair hd
  refine ⟨c, ?_, hs⟩
  have := atI_last ts.dropLast (ts.getLast hn)
  rw [List.dropLast_concat_getLast] at this
  rw [this, List.getLast_eq_getElem]
  exact congrArg some hc
end LV
namespace Lk02
open PySem PySem.Spec PyProof.Rows L2 LV
def spAhead (K : PySem.W.Frag) : Sp := fun vs H Q _ => ∃ (n : Nat) (tA : Addr) (first : Option Nat) (ts : List V) (ties : List (Nat × Nat)), vs = [.int n, .ref tA, fV first] ∧ n ≤ 12 ∧ SqL K H tA ts ∧ DpAll K H ts (ties.map tieD) ∧
  ∀ H' p xs, Same H H' → H p = none → H' p = some (.lst xs) → DpAll K H' xs ((aheadT n ties first).map tieD) → Q (.ref p) H'
/-- the inner loop's state behind j turns -/
def AhInv (K : PySem.W.Frag) (H : Hp) (n : Nat) (tA : Addr) (first : Option Nat) (fA : Addr) (ties : List (Nat × Nat)) (i j : Nat) (σ' : L2.St) (H' : Hp) : Prop :=
  ∃ (xs : List V) (yv : Option V), σ' = [some (.int n), some (.ref tA), some (fV first), some (.ref fA), some (.int (0 + (i : Int))), yv] ∧ Same H H' ∧ H' fA = some (.lst xs) ∧ xs.length ≤ 12 * i + j ∧
    DpAll K H' xs ((((List.range i).flatMap (pairsRow n) ++ (List.range j).map fun k => (i, i + 1 + k)).filter (aheadP ties first)).map tieD)
theorem row_succ (n i j : Nat) (g : Nat × Nat → Bool) : (((List.range i).flatMap (pairsRow n) ++ (List.range (j + 1)).map fun k => (i, i + 1 + k)).filter g) =
    (((List.range i).flatMap (pairsRow n) ++ (List.range j).map fun k => (i, i + 1 + k)).filter g) ++ [(i, i + 1 + j)].filter g := by
  rw [List.range_succ, List.map_append, ← List.append_assoc, List.filter_append]
  rfl
section
variable {P : Program} {w : World} {K : PySem.W.Frag} {mg : Str → Option Value} {base : Heap}
theorem ok_ahead (D : Dn K mg "_law_ahead" s__law_ahead ["_law_many", "_law_ties", "_law_first"]) (m1 : mg "range" = none) : Ok P w K mg base CX0 1 "_law_ahead" ["_law_many", "_law_ties", "_law_first"] (spAhead K) := by
  refine D.ok sc__law_ahead (fun vs H Q E h => ?_) fun f cdv A outer s H vs Q E hr h => ?_
  · obtain ⟨n, tA, first, ts, ties, rfl, _⟩ := h
    rfl
  · obtain ⟨n, tA, first, ts, ties, rfl, n2, hts, dts, h⟩ := h
    refine ⟨_, pss_cons (ps_set (i := 3) sc__law_ahead.nd rfl (.inl rfl) (pe_lst pa_nil))
      (pss_cons (ps_for PassesOwn.never rfl (pi_range1 rfl m1 (pa_cons (pv 0) pa_nil)) (pg_name (i := 4) sc__law_ahead.nd rfl (.inl rfl))
        (pss_one (ps_for PassesOwn.never rfl (pi_range2 rfl m1 (pa_cons (pe_op op_add (pv 4) pe_int) (pa_cons (pv 0) pa_nil))) (pg_name (i := 5) sc__law_ahead.nd rfl (.inl rfl))
          (pss_one (ps_if (PW.pt (pw_and (PW.pt (pw_or (pt_cmpR (op_eqD hr.units) (pv 1) (pe_lst pa_nil) (nomark _)) (pw_or1 (pt_cmpR (op_gtP hr.units0) (pe_tup (pa_cons (pv 4) (pa_cons (pv 5) pa_nil))) (pe_ix ix_list (pv 1) (pe_un un_neg pe_int) (fun _ _ => rfl)) (nomark _)))))
              (pw_and1 (pt_cmpR op_in_seq (pv 2) (pe_tup (pa_cons (pv 4) (pa_cons pe_non pa_nil))) (by rfl)))))
            (pss_one (ps_expr (pe_bm PySem.F.plainAttrs_list PySem.F.slot_list_append PySem.F.type_list_append mt_append (pv 3) (pa_cons (pe_tup (pa_cons (pv 4) (pa_cons (pv 5) pa_nil))) pa_nil)))) pss_nil)))))
      (pss_one (ps_ret (pv 3)))), ?_⟩
    refine ⟨Nat.zero_le _, fun fA hfA => ?_⟩
    refine ⟨.int n, rfl, n, rfl, by omega, by omega, ?_⟩
    rw [Int.toNat_natCast]
    refine for_it walk_range (fun i σ' H' => ∃ (xs : List V) (xv yv : Option V), σ' = [some (.int n), some (.ref tA), some (fV first), some (.ref fA), xv, yv] ∧ Same H H' ∧ H' fA = some (.lst xs) ∧ xs.length ≤ 12 * i ∧ DpAll K H' xs ((((List.range i).flatMap (pairsRow n)).filter (aheadP ties first)).map tieD))
      ⟨[], none, none, rfl, same_new hfA, upd_same, Nat.zero_le _, .nil⟩ (fun _ _ _ _ _ => trivial) (fun i x σ' H2 H3 hi p y => ?_) fun σ' H' p => ?_
    · obtain ⟨rfl, rfl⟩ := y
      obtain ⟨xs, xv, yv, rfl, s2, hd, hl, ha⟩ := p
      refine ⟨_, rfl, 0 + (i : Int), 1, rfl, rfl, _, rfl, _, _, rfl, ⟨by omega, by omega, by omega, by omega⟩, ?_⟩
      have e1 : ((n : Int) - (0 + (i : Int) + 1)).toNat = n - (i + 1) := by omega
      rw [e1]
      refine for_it walk_range (AhInv K H n tA first fA ties i) ⟨xs, yv, rfl, s2, hd, hl, by simpa using ha⟩ (fun _ _ _ _ _ => trivial) (fun j x σ' H4 H5 hj p y => ?_) fun σ' H' p => ?_
      · obtain ⟨rfl, rfl⟩ := y
        obtain ⟨ys, yv, rfl, s4, hd4, hl4, ha4⟩ := p
        have hflat : flatV (fV first) = true := by cases first <;> rfl
        have skip : ∀ Hk, Same H5 Hk → aheadP ties first (i, i + 1 + j) = false → AhInv K H n tA first fA ties i (j + 1) [some (.int n), some (.ref tA), some (fV first), some (.ref fA), some (.int (0 + (i : Int))), some (.int (0 + (i : Int) + 1 + (j : Int)))] Hk := fun Hk sk hf => by
          refine ⟨ys, _, rfl, s4.trans sk, sk _ _ hd4, by omega, ?_⟩
          rw [row_succ, List.filter_cons_of_neg (by rw [hf]; decide), List.filter_nil, List.append_nil]
          exact dps_same sk ha4
        have yes : ∀ Hk, Same H5 Hk → aheadP ties first (i, i + 1 + j) = true → ∀ b, Hk b = none → AhInv K H n tA first fA ties i (j + 1) [some (.int n), some (.ref tA), some (fV first), some (.ref fA), some (.int (0 + (i : Int))), some (.int (0 + (i : Int) + 1 + (j : Int)))]
            (upd (upd Hk b (.tup [.int (0 + (i : Int)), .int (0 + (i : Int) + 1 + (j : Int))])) fA (.lst (ys ++ [.ref b]))) := fun Hk sk hf b hb => by
          have hd6 := sk _ _ hd4
          have hd7 : (upd Hk b (.tup [.int (0 + (i : Int)), .int (0 + (i : Int) + 1 + (j : Int))])) fA = some (.lst ys) := by rw [upd_ne (ne_of_none hd6 hb)]; exact hd6
          have a7 := dps_same (sk.trans (same_new (o := .tup [.int (0 + (i : Int)), .int (0 + (i : Int) + 1 + (j : Int))]) hb)) ha4
          have t7 : Dp K (upd Hk b (.tup [.int (0 + (i : Int)), .int (0 + (i : Int) + 1 + (j : Int))])) (.ref b) (tieD (i, i + 1 + j)) := mk_pair (.inl (.inl (by
            rw [upd_same]
            have e1 : (0 : Int) + (i : Int) = ((i : Nat) : Int) := by omega
            have e2 : (0 : Int) + (i : Int) + 1 + (j : Int) = ((i + 1 + j : Nat) : Int) := by omega
            rw [e2, e1])))
          have both := dps_append (ties_upd (o := .lst (ys ++ [.ref b])) hd7 a7) (DpAll.cons (tie_upd (o := .lst (ys ++ [.ref b])) hd7 t7) .nil)
          refine ⟨ys ++ [.ref b], _, rfl, same_upd ((s4.trans sk).trans (same_new hb)) hfA, upd_same, by rw [List.length_append, List.length_singleton]; omega, ?_⟩
          rw [row_succ, List.filter_cons_of_pos hf, List.filter_nil, List.map_append]
          exact both
        refine ⟨.ref tA, rfl, Nat.zero_le _, fun l hl => ⟨_, _, .lst (sameL ((s4.trans (same_new hl))) hts) (dps_same (s4.trans (same_new hl)) dts), .lst (SqL.of upd_same) .nil, shaped_ties ties, rfl, _, rfl, ?_⟩⟩
        rw [eqv_ties_nil]
        by_cases hn : ties = []
        · rw [decide_eq_true hn]
          have hlast : (match ties.getLast? with | none => true | some l => pLt l (i, i + 1 + j)) = true := by rw [hn]; rfl
          refine iteT (iteT ?_)
          refine ⟨_, rfl, _, rfl, by show 2 ≤ sizeLine; decide, fun t ht => ⟨t, _, rfl, .inr (SqT.of upd_same), hflat, rfl, _, rfl, ?_⟩⟩
          have e2 : (if false = true then !inV (fV first) [.int (0 + (i : Int)), .non] else inV (fV first) [.int (0 + (i : Int)), .non]) = inV (fV first) [.int (i : Nat), .non] := by
            rw [if_neg (by decide), show (0 : Int) + (i : Int) = ((i : Nat) : Int) from by omega]
          have e3 : inV (fV first) [.int (i : Nat), .non] = aheadP ties first (i, i + 1 + j) := by
            rw [first_in]
            unfold aheadP
            rw [hlast]
            rfl
          rw [e2, e3]
          have s6 := (same_new (o := .lst []) hl).trans (same_new (o := .tup [.int (0 + (i : Int)), .non]) ht)
          cases hp : aheadP ties first (i, i + 1 + j) with
          | false => exact iteF (skip _ s6 hp)
          | true =>
            have hd6 := s6 _ _ hd4
            refine iteT ⟨.ref fA, rfl, .inl ⟨rfl, _, SqL.of hd6⟩, _, rfl, _, rfl, by show 2 ≤ sizeLine; decide, fun b hb => ⟨fA, ys, .ref b, rfl, rfl, ?_, by rw [sizeLine_eq]; omega, yes _ s6 hp b hb⟩⟩
            rw [upd_ne (ne_of_none hd6 hb)]
            exact hd6
        · rw [decide_eq_false hn]
          obtain ⟨lt, hlt⟩ : ∃ lt, ties.getLast? = some lt := ⟨_, List.getLast?_eq_some_getLast hn⟩
          obtain ⟨cl, hat, hcl⟩ := last_tie dts hlt
          refine iteF ⟨_, rfl, _, rfl, by show 2 ≤ sizeLine; decide, fun t0 ht0 => ?_⟩
          have s5a := (same_new (o := .lst []) hl).trans (same_new (o := .tup [.int (0 + (i : Int)), .int (0 + (i : Int) + 1 + (j : Int))]) ht0)
          have hq : SqT K (upd (upd H5 l (.lst [])) t0 (.tup [.int (0 + (i : Int)), .int (0 + (i : Int) + 1 + (j : Int))])) t0 [.int ((i, i + 1 + j) : Nat × Nat).1, .int ((i, i + 1 + j) : Nat × Nat).2] := .inl (.inl (by
            rw [upd_same]
            have e1 : (0 : Int) + (i : Int) = ((i : Nat) : Int) := by omega
            have e2 : (0 : Int) + (i : Int) + 1 + (j : Int) = ((i + 1 + j : Nat) : Int) := by omega
            rw [e2, e1]))
          refine ⟨.ref tA, rfl, 1, rfl, tA, ts, -1, .ref cl, rfl, rfl, sameL (s4.trans s5a) hts, hat, t0, cl, (i, i + 1 + j), lt, rfl, rfl, hq, sameT (s4.trans s5a) hcl, _, rfl, ?_⟩
          cases hpl : pLt lt (i, i + 1 + j) with
          | false =>
            have hf : aheadP ties first (i, i + 1 + j) = false := by
              unfold aheadP
              rw [hlt]
              show (pLt lt (i, i + 1 + j) && _) = false
              rw [hpl]
              rfl
            exact iteF (iteF (skip _ s5a hf))
          | true =>
            have hlast : (match ties.getLast? with | none => true | some l => pLt l (i, i + 1 + j)) = true := by rw [hlt]; exact hpl
            refine iteT ?_
            refine ⟨_, rfl, _, rfl, by show 2 ≤ sizeLine; decide, fun t ht => ⟨t, _, rfl, .inr (SqT.of upd_same), hflat, rfl, _, rfl, ?_⟩⟩
            have e2 : (if false = true then !inV (fV first) [.int (0 + (i : Int)), .non] else inV (fV first) [.int (0 + (i : Int)), .non]) = inV (fV first) [.int (i : Nat), .non] := by
              rw [if_neg (by decide), show (0 : Int) + (i : Int) = ((i : Nat) : Int) from by omega]
            have e3 : inV (fV first) [.int (i : Nat), .non] = aheadP ties first (i, i + 1 + j) := by
              rw [first_in]
              unfold aheadP
              rw [hlast]
              rfl
            rw [e2, e3]
            have s6 := (s5a.trans (same_new (o := .tup [.int (0 + (i : Int)), .non]) ht))
            cases hp : aheadP ties first (i, i + 1 + j) with
            | false => exact iteF (skip _ s6 hp)
            | true =>
              have hd6 := s6 _ _ hd4
              refine iteT ⟨.ref fA, rfl, .inl ⟨rfl, _, SqL.of hd6⟩, _, rfl, _, rfl, by show 2 ≤ sizeLine; decide, fun b hb => ⟨fA, ys, .ref b, rfl, rfl, ?_, by rw [sizeLine_eq]; omega, yes _ s6 hp b hb⟩⟩
              rw [upd_ne (ne_of_none hd6 hb)]
              exact hd6
      · obtain ⟨ys, yv, rfl, s4, hd4, hl4, ha4⟩ := p
        refine ⟨ys, _, yv, rfl, s4, hd4, by omega, ?_⟩
        rw [List.range_succ, List.flatMap_append]
        simpa [pairsRow] using ha4
    · obtain ⟨xs, xv, yv, rfl, s2, hd, hl, ha⟩ := p
      exact ⟨.ref fA, rfl, h H' fA xs s2 hfA hd ha⟩
end
end Lk02
/-! The two ways to read a text, step by step. -/
namespace LV
open PySem PySem.Spec PyProof.Rows L2
/-- the rest of the reading from a tie's first letter on -/
def tieF (f : Nat) (t : List Nat) (n : Nat) (ties : List (Nat × Nat)) (i : Nat) : Told (Nat × List (Nat × Nat)) := match tieT t i (aheadT n ties none) with
  | .bad k => .bad k
  | .ok p => goT f t n (ties ++ [p]) ((aheadT n ties none).filter (pLt p)) (i + 2)
theorem pLt_trans {a b c : Nat × Nat} (h1 : pLt a b = true) (h2 : pLt b c = true) : pLt a c = true := by
  unfold pLt at *
  simp only [decide_eq_true_eq] at *
  omega
theorem ahead_within {n : Nat} (hn : n ≤ 12) {ties : List (Nat × Nat)} {fo : Option Nat} : Within' 12 (aheadT n ties fo) := fun p hp => pairs_within hn p (List.mem_filter.mp hp).1
theorem ahead_nil (n : Nat) : aheadT n [] none = pairsN n := by
  unfold aheadT
  rw [List.filter_eq_self]
  intro q _
  rfl
theorem ahead_some (n : Nat) (ties : List (Nat × Nat)) (k : Nat) : aheadT n ties (some k) = (aheadT n ties none).filter fun q => decide (k = q.1) := by
  unfold aheadT
  rw [List.filter_filter]
  refine List.filter_congr fun q _ => ?_
  unfold aheadP
  simp only [Bool.and_true]
  rw [Bool.and_comm]
theorem ahead_next {n : Nat} {ties : List (Nat × Nat)} {p : Nat × Nat} (hp : p ∈ aheadT n ties none) : aheadT n (ties ++ [p]) none = (aheadT n ties none).filter (pLt p) := by
  have hP := (List.mem_filter.mp hp).2
  unfold aheadT
  rw [List.filter_filter]
  refine List.filter_congr fun q _ => ?_
  unfold aheadP at *
  rw [List.getLast?_concat]
  simp only [Bool.and_true] at *
  cases h : pLt p q with
  | false => rfl
  | true =>
    cases hl : ties.getLast? with
    | none => rfl
    | some l =>
      rw [hl] at hP
      simp only at hP
      exact (pLt_trans hP h).symm
theorem go_comma {f : Nat} {t : List Nat} {n : Nat} {ties : List (Nat × Nat)} {i : Nat} (hi : i < t.length) (hne : ties ≠ []) : goT (f + 1) t n ties (aheadT n ties none) i = if t[i]? ≠ some 44 ∨ aheadT n ties none = [] then .bad i else tieF f t n ties (i + 1) := by
  unfold goT
  rw [if_pos hi, if_neg hne]
  by_cases h : t[i]? ≠ some 44 ∨ aheadT n ties none = []
  · rw [if_pos h, if_pos (h.elim (fun a => .inr ⟨hne, a⟩) .inl)]
  · rw [if_neg h, if_neg (fun z => h (z.elim .inr fun a => .inl a.2))]
    rfl
theorem go_start {f : Nat} {t : List Nat} {n i : Nat} (hi : i < t.length) : goT (f + 1) t n [] (pairsN n) i = tieF f t n [] i := by
  unfold goT tieF
  rw [if_pos hi, ahead_nil, if_pos rfl]
  by_cases h : pairsN n = []
  · rw [if_pos (.inl h), h]
    all_goals rfl
  · rw [if_neg (fun z => z.elim h fun a => a.1 rfl)]
    all_goals rfl
theorem tie_none {f : Nat} {t : List Nat} {n : Nat} (hn : n ≤ 12) {ties : List (Nat × Nat)} {i : Nat} (h : ∀ k, k < 12 → t[i]? ≠ some (97 + k)) : tieF f t n ties i = .bad i := by
  have e : (aheadT n ties none).filter (fun p => decide (t[i]? = some (97 + p.1))) = [] := by
    rw [List.filter_eq_nil_iff]
    intro p hp
    have := h p.1 (ahead_within hn p hp).1
    simpa using this
  unfold tieF tieT
  rw [if_pos e]
theorem begun_eq {t : List Nat} {n : Nat} {ties : List (Nat × Nat)} {i k : Nat} (h : t[i]? = some (97 + k)) : (aheadT n ties none).filter (fun p => decide (t[i]? = some (97 + p.1))) = aheadT n ties (some k) := by
  rw [ahead_some]
  refine List.filter_congr fun q _ => ?_
  rw [h]
  refine decide_eq_decide.mpr ⟨fun e => ?_, fun e => by rw [e]⟩
  have := Option.some.inj e
  omega
theorem tie_nil {f : Nat} {t : List Nat} {n : Nat} {ties : List (Nat × Nat)} {i k : Nat} (h : t[i]? = some (97 + k)) (h0 : aheadT n ties (some k) = []) : tieF f t n ties i = .bad i := by
  unfold tieF tieT
  rw [begun_eq h, if_pos h0]
theorem tie_bad {f : Nat} {t : List Nat} {n : Nat} {ties : List (Nat × Nat)} {i k : Nat} (h : t[i]? = some (97 + k)) (h0 : aheadT n ties (some k) ≠ []) (h1 : ∀ m, (k, m) ∈ aheadT n ties (some k) → t[i + 1]? ≠ some (97 + m)) : tieF f t n ties i = .bad (i + 1) := by
  have e : (aheadT n ties (some k)).find? (fun p => decide (t[i + 1]? = some (97 + p.2))) = none := by
    rw [List.find?_eq_none]
    intro p hp
    have hk : k = p.1 := by
      rw [ahead_some] at hp
      simpa using (List.mem_filter.mp hp).2
    have := h1 p.2 (by rw [hk]; rw [hk] at hp; exact hp)
    simpa using this
  unfold tieF tieT
  rw [begun_eq h, if_neg h0, e]
theorem tie_ok {f : Nat} {t : List Nat} {n : Nat} {ties : List (Nat × Nat)} {i k m : Nat} (h : t[i]? = some (97 + k)) (h1 : t[i + 1]? = some (97 + m)) (hm : (k, m) ∈ aheadT n ties (some k)) :
    tieF f t n ties i = goT f t n (ties ++ [(k, m)]) (aheadT n (ties ++ [(k, m)]) none) (i + 2) := by
  have h0 : aheadT n ties (some k) ≠ [] := fun z => by rw [z] at hm; cases hm
  obtain ⟨p, hp⟩ : ∃ p, (aheadT n ties (some k)).find? (fun p => decide (t[i + 1]? = some (97 + p.2))) = some p := by
    rw [← Option.isSome_iff_exists, List.find?_isSome]
    exact ⟨(k, m), hm, by rw [h1]; simp⟩
  have pm := List.mem_of_find?_eq_some hp
  have p2 := List.find?_some hp
  have e1 : k = p.1 := by
    rw [ahead_some] at pm
    simpa using (List.mem_filter.mp pm).2
  have e2 : m = p.2 := by
    rw [h1] at p2
    have := Option.some.inj (of_decide_eq_true p2)
    omega
  obtain ⟨a, b⟩ := p
  subst e1 e2
  have hin : (k, m) ∈ aheadT n ties none := by
    rw [ahead_some] at hm
    exact (List.mem_filter.mp hm).1
  unfold tieF tieT
  rw [begun_eq h, if_neg h0, hp]
  show goT f t n (ties ++ [(k, m)]) ((aheadT n ties none).filter (pLt (k, m))) (i + 2) = _
  rw [ahead_next hin]
end LV
/-! The law's own reading of a text. -/
namespace LV
open PySem PySem.Spec PyProof.Rows L2
theorem find_in : ∀ c, c < 109 → 97 ≤ c → Txt.find letters ⟨#[c]⟩ = ((c - 97 : Nat) : Int) := by decide +kernel
theorem find_out {c : Nat} (h : ¬ (97 ≤ c ∧ c < 109)) : Txt.find letters ⟨#[c]⟩ = -1 := by
  have e := PySem.StrLaws.found_one letters c
  rw [decide_eq_false (fun z => h ((letter_in c).mp z))] at e
  unfold Txt.find
  cases ho : Builtin.Str.occurrences letters ⟨#[c]⟩ 0 letters.length 1 with
  | nil => rfl
  | cons a r =>
    rw [ho] at e
    cases e
/-- what the law makes of a reading -/
def resD : Told (Nat × List (Nat × Nat)) → PyData
  | .bad k => .tuple [.int k, .none]
  | .ok r => .tuple [.none, webD r.1 r.2]
theorem room65 {k : Nat} {A : Around} (r : Room k A) : A.units + 65 < cLine := by have := r.un; omega
/-- the error's pair -/
theorem bad_pair {K : PySem.W.Frag} {H : Hp} {t : Addr} {i : Int} {k : Nat} (e : i = (k : Int)) : Dp K (upd H t (.tup [.int i, .non])) (.ref t) (resD (.bad k)) := by
  subst e
  exact .tup (.inl (.inl upd_same)) (.cons (.int _) (.cons .non .nil))
/-- the state of the reading ahead of place i -/
inductive Stand where
  | comma
  | tie
  | fin (k : Nat)
def standV : Stand → V
  | .comma => .str "comma"
  | .tie => .str "tie"
  | .fin _ => .str "end"
theorem eq_sign (c d : Nat) : decide (V.str ⟨#[c]⟩ = V.str ⟨#[d]⟩) = decide (c = d) := by
  refine decide_eq_decide.mpr ⟨fun e => ?_, fun e => by rw [e]⟩
  exact List.head_eq_of_cons_eq (str_ext.mp e)
theorem no_letter {t : List Nat} {i c : Nat} (e : t[i]? = some c) (h : ¬ (97 ≤ c ∧ c < 109)) : ∀ k, k < 12 → t[i]? ≠ some (97 + k) := fun k hk z => by
  rw [e] at z
  have := Option.some.inj z
  omega
theorem past_end {t : List Nat} {i : Nat} (h : t.length ≤ i) : ∀ k, k < 12 → t[i]? ≠ some (97 + k) := fun k hk z => by
  rw [List.getElem?_eq_none h] at z
  cases z
def StandOk (t : List Nat) (n : Nat) (ties : List (Nat × Nat)) (R : Told (Nat × List (Nat × Nat))) (i : Nat) (fv : V) : Stand → Prop
  | .comma => ties ≠ [] ∧ ∃ f, t.length ≤ f + i ∧ goT f t n ties (aheadT n ties none) i = R
  | .tie => (t.length = 2 ∧ i = 2 ∧ ties = [] ∧ R = .ok (n, [])) ∨ (t.length ≠ 2 ∧ ∃ f, t.length ≤ f + i + 1 ∧ tieF f t n ties i = R)
  | .fin k => t.length ≠ 2 ∧ fv = .int k ∧ ∃ j f, i = j + 1 ∧ t.length ≤ f + j + 1 ∧ t[j]? = some (97 + k) ∧ aheadT n ties (some k) ≠ [] ∧ tieF f t n ties j = R
end LV
namespace Lk02
open PySem PySem.Spec PyProof.Rows L2 LV
def spRead (K : PySem.W.Frag) : Sp := fun vs H Q _ => ∃ z : Str, vs = [.str z] ∧ z.length ≤ 90000 ∧ ∀ H' v, Same H H' → Dp K H' v (resD (webT z.cps.toList)) → Q v H'
section
variable {P : Program} {w : World} {K : PySem.W.Frag} {mg : Str → Option Value} {base : Heap}
theorem ok_read (D : Dn K mg "_law_read" s__law_read ["_law_text"]) (m1 : mg "range" = none) (m2 : mg "len" = none) (m3 : mg "tuple" = none) (O1 : Ok P w K mg base CX0 1 "_law_ahead" ["_law_many", "_law_ties", "_law_first"] (spAhead K)) : Ok P w K mg base (L2.CX P w) 2 "_law_read" ["_law_text"] (spRead K) := by
  refine D.okX sc__law_read (fun vs H Q E h => ?_) fun f cdv A outer s H vs Q E hr h => ?_
  · obtain ⟨z, rfl, _⟩ := h
    rfl
  · obtain ⟨z, rfl, hz, h⟩ := h
    refine ⟨_, pss_cons (ps_asg (pe_tup (pa_cons pe_str (pa_cons (pe_lst pa_nil) (pa_cons pe_non (pa_cons pe_str pa_nil))))) (pg_tup (by rfl) (pgs_cons (pg_name (i := 1) sc__law_read.nd rfl (.inl rfl)) (pgs_cons (pg_name (i := 2) sc__law_read.nd rfl (.inl rfl)) (pgs_cons (pg_name (i := 3) sc__law_read.nd rfl (.inl rfl)) (pgs_cons (pg_name (i := 4) sc__law_read.nd rfl (.inl rfl)) pgs_nil))))))
      (pss_cons (ps_if (PW.pt (pw_or (pt_cmpR op_eq (pv 0) pe_str (nomark _)) (pw_or1 (pt_cmpR op_notIn_sign (pe_ix ix_str (pv 0) pe_int (fun _ _ => rfl)) (pv 1) (by rfl)))))
        (pss_one (ps_ret (pe_tup (pa_cons pe_int (pa_cons pe_non pa_nil))))) pss_nil)
      (pss_cons (ps_set (i := 5) sc__law_read.nd rfl (.inl rfl) (pe_op op_add (pe_bmS PySem.F.plainAttrs_str PySem.F.slot_str_index PySem.F.type_str_index (mt_indexX rfl (takes_of (E := E) rfl rfl rfl rfl)) (pv 1) (pa_cons (pe_ix ix_str (pv 0) pe_int (fun _ _ => rfl)) pa_nil)) pe_int))
      (pss_cons (ps_if (pt_cmpR op_ne (pe_slice sl_str (pv 0) (po_some pe_int) (po_some pe_int)) pe_str (nomark _)) (pss_one (ps_ret (pe_tup (pa_cons pe_int (pa_cons pe_non pa_nil))))) pss_nil)
      (pss_cons (ps_for (passes_of rfl) rfl (pi_range2 rfl m1 (pa_cons pe_int (pa_cons (pe_b m2 call_len_str (pa_cons (pv 0) pa_nil)) pa_nil))) (pg_name (i := 6) sc__law_read.nd rfl (.inl rfl))
        (pss_cons (ps_set (i := 7) sc__law_read.nd rfl (.inl rfl) (pe_m1 PySem.F.slot_str_find PySem.F.type_str_find mt_find (pv 1) (pe_ix ix_str (pv 0) (pv 6) (fun _ _ => rfl))))
        (pss_one (ps_if (pt_cmpR op_eq (pv 4) pe_str (nomark _))
          (pss_cons (ps_if (PW.pt (pw_or (pt_cmpR op_ne (pe_ix ix_str (pv 0) (pv 6) (fun _ _ => rfl)) pe_str (nomark _)) (pw_or1 (pt_cmpR (op_eqD hr.units) (pe_ok O1 hr pass0 (pa_cons (pv 5) (pa_cons (pv 2) (pa_cons pe_non pa_nil)))) (pe_lst pa_nil) (nomark _)))))
              (pss_one (ps_ret (pe_tup (pa_cons (pv 6) (pa_cons pe_non pa_nil))))) pss_nil)
            (pss_one (ps_set (i := 4) sc__law_read.nd rfl (.inl rfl) pe_str)))
          (pss_one (ps_if (pt_cmpR op_eq (pv 4) pe_str (nomark _))
            (pss_cons (ps_if (PW.pt (pw_or (pt_cmpR op_lt (pv 7) pe_int (nomark _)) (pw_or1 (pt_cmpR (op_eqD hr.units) (pe_ok O1 hr pass0 (pa_cons (pv 5) (pa_cons (pv 2) (pa_cons (pv 7) pa_nil)))) (pe_lst pa_nil) (nomark _)))))
                (pss_one (ps_ret (pe_tup (pa_cons (pv 6) (pa_cons pe_non pa_nil))))) pss_nil)
              (pss_one (ps_par (i := 3) (j := 4) rfl sc__law_read.nd rfl rfl (by decide) rfl rfl (pa_cons (pv 7) (pa_cons pe_str pa_nil)) (by rfl))))
            (pss_cons (ps_if (PW.pt (pw_or (pt_cmpR op_lt (pv 7) pe_int (nomark _)) (pw_or1 (pt_cmpR (op_notInD (room65 hr)) (pe_tup (pa_cons (pv 3) (pa_cons (pv 7) pa_nil))) (pe_ok O1 hr pass0 (pa_cons (pv 5) (pa_cons (pv 2) (pa_cons (pv 3) pa_nil)))) (by rfl)))))
                (pss_one (ps_ret (pe_tup (pa_cons (pv 6) (pa_cons pe_non pa_nil))))) pss_nil)
              (pss_cons (ps_expr (pe_bm PySem.F.plainAttrs_list PySem.F.slot_list_append PySem.F.type_list_append mt_append (pv 2) (pa_cons (pe_tup (pa_cons (pv 3) (pa_cons (pv 7) pa_nil))) pa_nil)))
                (pss_one (ps_set (i := 4) sc__law_read.nd rfl (.inl rfl) pe_str))))))))))
      (pss_one (ps_ret (pe_ifExp (PW.pt (pw_or (pt_cmpR op_eq (pv 4) pe_str (nomark _)) (pw_or1 (pt_cmpR op_eq (pe_b m2 call_len_str (pa_cons (pv 0) pa_nil)) pe_int (nomark _)))))
        (pe_tup (pa_cons pe_non (pa_cons (pe_tup (pa_cons (pv 5) (pa_cons (pe_ty m3 call_tuple_of (pa_cons (pv 2) pa_nil)) pa_nil))) pa_nil)))
        (pe_tup (pa_cons (pe_b m2 call_len_str (pa_cons (pv 0) pa_nil)) (pa_cons pe_non pa_nil)))))))))), ?_⟩
    have hz' : z.length ≤ sizeLine := line_100000 (by omega)
    have zl : z.length = z.cps.toList.length := by first | rfl | simp [Str.length]
    generalize ht : z.cps.toList = t at *
    refine ⟨Nat.zero_le _, fun tA htA => ⟨by show 4 ≤ sizeLine; decide, fun t0 ht0 => ⟨t0, _, rfl, SqT.of upd_same, rfl, _, _, rfl, _, _, rfl, _, _, rfl, _, [], rfl, rfl, ?_⟩⟩⟩
    have hA1 : (upd (upd H tA (.lst [])) t0 (.tup [.str "abcdefghijkl", .ref tA, .non, .str "tie"])) tA = some (.lst []) := by
      rw [upd_ne (ne_of_none upd_same ht0)]
      exact upd_same
    have s1 : Same H (upd (upd H tA (.lst [])) t0 (.tup [.str "abcdefghijkl", .ref tA, .non, .str "tie"])) := (same_new htA).trans (same_new ht0)
    generalize upd (upd H tA (.lst [])) t0 (.tup [.str "abcdefghijkl", .ref tA, .non, .str "tie"]) = H1 at *
    have ez : decide (V.str z = V.str ("" : Str)) = decide (t = []) := by
      rw [decide_eq_decide, str_ext, ht]
      exact Iff.rfl
    refine ⟨.str z, rfl, rfl, _, rfl, ?_⟩
    rw [ez]
    cases t with
    | nil => exact iteT ⟨by show 2 ≤ sizeLine; decide, fun t1 ht1 => h _ _ (s1.trans (same_new ht1)) (bad_pair rfl)⟩
    | cons c r =>
      have hat : atI z.cps.toList (0 : Int) = some c := by rw [ht]; exact atI_nat (j := 0) rfl
      rw [decide_eq_false (List.cons_ne_nil c r)]
      refine iteF ⟨.str z, rfl, z, 0, c, rfl, rfl, hz', hat, .str letters, rfl, c, letters, rfl, rfl, _, rfl, ?_⟩
      by_cases hc : 97 ≤ c ∧ c < 109
      · rw [decide_eq_true ((letter_in c).mpr hc)]
        refine iteF ⟨.str letters, rfl, rfl, .str z, rfl, z, 0, c, rfl, rfl, hz', hat, letters, ⟨#[c]⟩, rfl, rfl, fun k hk => ?_, fun hk => ?_⟩
        · rw [letter_ix c hc.2 hc.1] at hk
          cases hk
          refine ⟨_, 1, rfl, rfl, .str z, rfl, 1, rfl, 2, rfl, z, rfl, hz', rfl, _, rfl, ?_⟩
          have hs := sign_is z 1 58 (j := 2) (by decide)
          rw [ht] at hs
          have hs' : (!decide (V.str (cutS z (some 1) (some 2)) = V.str (":" : Str))) = !decide ((c :: r)[1]? = some 58) := congrArg Bool.not hs
          rw [hs']
          have e1 : (c :: r)[1]? = r[0]? := by simp
          rw [e1]
          by_cases h1 : r[0]? = some 58
          · rw [decide_eq_true h1]
            have hW : webT (c :: r) = goT (c :: r).length (c :: r) (c - 97 + 1) [] (pairsN (c - 97 + 1)) 2 := by
              unfold webT
              simp only [countT, if_pos hc, if_pos h1]
            rw [hW] at h
            have hn : c - 97 + 1 ≤ 12 := by omega
            obtain ⟨n, en⟩ : ∃ n, n = c - 97 + 1 := ⟨_, rfl⟩
            have ev : V.int (((c - 97 : Nat) : Int) + 1) = V.int (n : Int) := by rw [en]; rfl
            rw [← en] at h hn
            refine iteF ?_
            have hlen2 : 2 ≤ (c :: r).length := by
              cases r with
              | nil => cases h1
              | cons => simp
            clear hW hs hs' e1 h1 ez hat hc
            generalize c :: r = t at *
            generalize hR : goT t.length t n [] (pairsN n) 2 = R at h
            refine ⟨.str z, rfl, z, rfl, hz', _, _, rfl, ⟨by decide, by decide, by omega, by omega⟩, ?_⟩
            have e2 : ((z.length : Int) - 2).toNat = t.length - 2 := by omega
            rw [e2]
            refine for_it walk_range (fun i σ' H' => ∃ (ties : List (Nat × Nat)) (ts : List V) (fv : V) (st : Stand) (av pv' : Option V), σ' = [some (.str z), some (.str letters), some (.ref tA), some fv, some (standV st), some (.int n), av, pv'] ∧ Same H H' ∧ H' tA = some (.lst ts) ∧ DpAll K H' ts (ties.map tieD) ∧ ties.length ≤ i ∧ StandOk t n ties R (i + 2) fv st)
              ⟨[], [], .non, .tie, none, none, by rw [← ev]; rfl, s1, hA1, .nil, Nat.zero_le _, ?_⟩ (fun _ _ _ _ _ => trivial) (fun i x σ' H2 H3 hi p y => ?_) fun σ' H' p => ?_
            · by_cases h2 : t.length = 2
              · refine .inl ⟨h2, rfl, rfl, ?_⟩
                rw [← hR]
                exact goT_stop (by omega)
              · obtain ⟨f, hf⟩ : ∃ f, t.length = f + 1 := ⟨t.length - 1, by omega⟩
                refine .inr ⟨h2, f, by omega, ?_⟩
                rw [← hR, hf]
                exact (go_start (by omega)).symm
            · obtain ⟨rfl, hxv⟩ := y
              obtain ⟨ties, ts, fv, st, av, pv', rfl, s2, hts, dts, htl, hst⟩ := p
              have hp : i + 2 < t.length := by omega
              obtain ⟨c', hc'⟩ : ∃ c', t[i + 2]? = some c' := ⟨_, List.getElem?_eq_getElem hp⟩
              have hx : (2 : Int) + (i : Int) = ((i + 2 : Nat) : Int) := by omega
              obtain rfl : x = .int ((i + 2 : Nat) : Int) := hxv.trans (congrArg V.int hx)
              have hat : atI z.cps.toList ((i + 2 : Nat) : Int) = some c' := by rw [ht]; exact atI_nat hc'
              have lts := dps_len dts
              rw [List.length_map] at lts
              have bad : ∀ Hk t1, Same H3 Hk → Hk t1 = none → R = .bad (i + 2) → Q (.ref t1) (upd Hk t1 (.tup [.int ((i + 2 : Nat) : Int), .non])) := fun Hk t1 sk h1 eR => by
                rw [eR] at h
                exact h _ _ ((s2.trans sk).trans (same_new h1)) (bad_pair rfl)
              refine ⟨.str letters, rfl, ⟨_, rfl⟩, .str z, rfl, .int ((i + 2 : Nat) : Int), rfl, z, _, c', rfl, rfl, hz', hat, letters, ⟨#[c']⟩, rfl, rfl, ?_⟩
              cases st with
              | comma =>
                obtain ⟨hne, f, hf, hg⟩ := hst
                obtain ⟨f, rfl⟩ : ∃ g, f = g + 1 := ⟨f - 1, by omega⟩
                rw [go_comma hp hne, hc'] at hg
                refine ⟨_, rfl, rfl, _, rfl, ?_⟩
                rw [show decide (standV .comma = V.str ("comma" : Str)) = true from decide_eq_true rfl]
                refine iteT ⟨.str z, rfl, .int ((i + 2 : Nat) : Int), rfl, z, _, c', rfl, rfl, hz', hat, rfl, _, rfl, ?_⟩
                rw [show (!decide (V.str ⟨#[c']⟩ = V.str ("," : Str))) = !decide (c' = 44) from congrArg Bool.not (eq_sign c' 44)]
                by_cases h44 : c' = 44
                · rw [decide_eq_true h44]
                  refine iteF ⟨.int n, rfl, .ref tA, rfl, n, tA, none, ts, ties, rfl, hn, SqL.of hts, dts, fun H6 pA xs s6 hp6 hx6 hd6 => ⟨Nat.zero_le _, fun l hl => ⟨_, _, .lst (SqL.of (same_new hl _ _ hx6)) (dps_same (same_new hl) hd6), .lst (SqL.of upd_same) .nil, shaped_ties _, rfl, _, rfl, ?_⟩⟩⟩
                  rw [eqv_ties_nil]
                  by_cases h0 : aheadT n ties none = []
                  · rw [decide_eq_true h0]
                    rw [if_pos (.inr h0)] at hg
                    exact iteT ⟨_, rfl, by show 2 ≤ sizeLine; decide, fun t1 ht1 => bad _ t1 (s6.trans (same_new hl)) ht1 hg.symm⟩
                  · rw [decide_eq_false h0]
                    rw [if_neg (fun z => z.elim (fun a => a (by rw [h44])) h0)] at hg
                    exact iteF ⟨ties, ts, fv, .tie, _, _, rfl, (s2.trans s6).trans (same_new hl), same_new hl _ _ (s6 _ _ hts), dps_same (s6.trans (same_new hl)) dts, by omega, .inr ⟨by omega, f, by omega, hg⟩⟩
                · rw [decide_eq_false h44]
                  rw [if_pos (.inl (fun e => h44 (Option.some.inj e)))] at hg
                  exact iteT ⟨_, rfl, by show 2 ≤ sizeLine; decide, fun t1 ht1 => bad _ t1 (Same.refl _) ht1 hg.symm⟩
              | tie =>
                refine ⟨_, rfl, rfl, _, rfl, ?_⟩
                rw [show decide (standV .tie = V.str ("comma" : Str)) = false from by decide]
                refine iteF ⟨_, rfl, rfl, _, rfl, ?_⟩
                rw [show decide (standV .tie = V.str ("tie" : Str)) = true from decide_eq_true rfl]
                obtain ⟨f, hf, hg⟩ : ∃ f, t.length ≤ f + (i + 2) + 1 ∧ tieF f t n ties (i + 2) = R := by
                  rcases hst with ⟨h2, _⟩ | ⟨_, h⟩
                  · omega
                  · exact h
                refine iteT ⟨_, rfl, _, _, rfl, rfl, _, rfl, ?_⟩
                by_cases hl : 97 ≤ c' ∧ c' < 109
                · rw [find_in c' hl.2 hl.1]
                  have hk : t[i + 2]? = some (97 + (c' - 97)) := by rw [hc']; congr 1; omega
                  rw [show decide (((c' - 97 : Nat) : Int) < 0) = false from decide_eq_false (by omega)]
                  refine iteF ⟨.int n, rfl, .ref tA, rfl, _, rfl, n, tA, some (c' - 97), ts, ties, rfl, hn, SqL.of hts, dts, fun H6 pA xs s6 hp6 hx6 hd6 => ⟨Nat.zero_le _, fun l hl => ⟨_, _, .lst (SqL.of (same_new hl _ _ hx6)) (dps_same (same_new hl) hd6), .lst (SqL.of upd_same) .nil, shaped_ties _, rfl, _, rfl, ?_⟩⟩⟩
                  rw [eqv_ties_nil]
                  by_cases h0 : aheadT n ties (some (c' - 97)) = []
                  · rw [decide_eq_true h0]
                    rw [tie_nil hk h0] at hg
                    exact iteT ⟨_, rfl, by show 2 ≤ sizeLine; decide, fun t1 ht1 => bad _ t1 (s6.trans (same_new hl)) ht1 hg.symm⟩
                  · rw [decide_eq_false h0]
                    exact iteF ⟨_, rfl, _, _, rfl, ties, ts, .int ((c' - 97 : Nat) : Int), .fin (c' - 97), _, _, rfl, (s2.trans s6).trans (same_new hl), same_new hl _ _ (s6 _ _ hts), dps_same (s6.trans (same_new hl)) dts, by omega, by omega, rfl, i + 2, f, rfl, by omega, hk, h0, hg⟩
                · rw [find_out hl]
                  rw [tie_none hn (no_letter hc' hl)] at hg
                  exact iteT ⟨_, rfl, by show 2 ≤ sizeLine; decide, fun t1 ht1 => bad _ t1 (Same.refl _) ht1 hg.symm⟩
              | fin k =>
                obtain ⟨h2, rfl, j, f, hj, hf, hk, h0, hg⟩ := hst
                have ej : j = i + 1 := by omega
                subst ej
                refine ⟨_, rfl, rfl, _, rfl, ?_⟩
                rw [show decide (standV (.fin k) = V.str ("comma" : Str)) = false from by show decide (V.str ("end" : Str) = V.str ("comma" : Str)) = false; decide]
                refine iteF ⟨_, rfl, rfl, _, rfl, ?_⟩
                rw [show decide (standV (.fin k) = V.str ("tie" : Str)) = false from by show decide (V.str ("end" : Str) = V.str ("tie" : Str)) = false; decide]
                refine iteF ⟨_, rfl, _, _, rfl, rfl, _, rfl, ?_⟩
                by_cases hl : 97 ≤ c' ∧ c' < 109
                · rw [find_in c' hl.2 hl.1]
                  have hm : t[i + 1 + 1]? = some (97 + (c' - 97)) := by rw [show i + 1 + 1 = i + 2 from rfl, hc']; congr 1; omega
                  rw [show decide (((c' - 97 : Nat) : Int) < 0) = false from decide_eq_false (by omega)]
                  refine iteF ⟨_, rfl, _, rfl, by show 2 ≤ sizeLine; decide, fun t1 ht1 => ⟨.int n, rfl, .ref tA, rfl, .int k, rfl, n, tA, some k, ts, ties, rfl, hn, SqL.of (same_new ht1 _ _ hts), dps_same (same_new ht1) dts, fun H6 pA xs s6 hp6 hx6 hd6 =>
                    ⟨tieD (k, c' - 97), _, mk_pair (sameT s6 (.inl (.inl upd_same))), .lst (SqL.of hx6) hd6, shaped_tie _, shaped_ties _, _, rfl, ?_⟩⟩⟩
                  have s7 := (same_new (o := .tup [.int (k : Int), .int ((c' - 97 : Nat) : Int)]) ht1).trans s6
                  rw [any_tie]
                  by_cases hin : (k, c' - 97) ∈ aheadT n ties (some k)
                  · rw [decide_eq_true hin]
                    rw [tie_ok hk hm hin] at hg
                    have hts6 := s7 _ _ hts
                    refine iteF ⟨.ref tA, rfl, .inl ⟨rfl, _, SqL.of hts6⟩, _, rfl, _, rfl, by show 2 ≤ sizeLine; decide, fun b hb => ⟨tA, ts, .ref b, rfl, rfl, same_new hb _ _ hts6, by rw [sizeLine_eq]; omega, ?_⟩⟩
                    have s8 := s7.trans (same_new (o := .tup [.int (k : Int), .int ((c' - 97 : Nat) : Int)]) hb)
                    have hts7 := s8 _ _ hts
                    have t7 : Dp K (upd H6 b (.tup [.int (k : Int), .int ((c' - 97 : Nat) : Int)])) (.ref b) (tieD (k, c' - 97)) := mk_pair (.inl (.inl upd_same))
                    have both := dps_append (ties_upd (o := .lst (ts ++ [.ref b])) hts7 (dps_same s8 dts)) (DpAll.cons (tie_upd (o := .lst (ts ++ [.ref b])) hts7 t7) .nil)
                    refine ⟨ties ++ [(k, c' - 97)], ts ++ [.ref b], _, .comma, _, _, rfl, same_upd (s2.trans s8) htA, upd_same, ?_, by rw [List.length_append, List.length_singleton]; omega, fun e => by simp at e, f, by omega, hg⟩
                    rw [List.map_append]
                    exact both
                  · rw [decide_eq_false hin]
                    rw [tie_bad hk h0 (fun m hm' e => by
                      rw [hm] at e
                      have := Option.some.inj e
                      have e2 : m = c' - 97 := by omega
                      exact hin (e2 ▸ hm'))] at hg
                    exact iteT ⟨_, rfl, by show 2 ≤ sizeLine; decide, fun t2 ht2 => bad _ t2 s7 ht2 hg.symm⟩
                · rw [find_out hl]
                  rw [tie_bad hk h0 (fun m hm' => no_letter hc' hl m (ahead_within hn _ hm').2)] at hg
                  exact iteT ⟨_, rfl, by show 2 ≤ sizeLine; decide, fun t1 ht1 => bad _ t1 (Same.refl _) ht1 hg.symm⟩
            · obtain ⟨ties, ts, fv, st, av, pv', rfl, s2, hts, dts, htl, hst⟩ := p
              have e3 : t.length - 2 + 2 = t.length := by omega
              rw [e3] at hst
              have good : R = .ok (n, ties) → ∀ l, H' l = none → ∀ b, (upd H' l (.tup ts)) b = none → ∀ d, (upd (upd H' l (.tup ts)) b (.tup [.int n, .ref l])) d = none → Q (.ref d) (upd (upd (upd H' l (.tup ts)) b (.tup [.int n, .ref l])) d (.tup [.non, .ref b])) := fun eR l hl b hb d hd => by
                rw [eR] at h
                have s3 := (same_new (o := .tup ts) hl).trans (same_new (o := .tup [.int n, .ref l]) hb)
                have s4 := s3.trans (same_new (o := .tup [.non, .ref b]) hd)
                have hl4 : (upd (upd (upd H' l (.tup ts)) b (.tup [.int n, .ref l])) d (.tup [.non, .ref b])) l = some (.tup ts) := same_new hd _ _ (same_new hb _ _ upd_same)
                have hb4 : (upd (upd (upd H' l (.tup ts)) b (.tup [.int n, .ref l])) d (.tup [.non, .ref b])) b = some (.tup [.int n, .ref l]) := same_new hd _ _ upd_same
                refine h _ _ (s2.trans s4) (.tup (.inl (.inl upd_same)) (.cons .non (.cons ?_ .nil)))
                exact mk_web (.inl (.inl hb4)) (.inl (.inl hl4)) (dps_same s4 dts)
              have badE : R = .bad t.length → ∀ t1, H' t1 = none → Q (.ref t1) (upd H' t1 (.tup [.int (z.length : Int), .non])) := fun eR t1 h1 => by
                rw [eR] at h
                exact h _ _ (s2.trans (same_new h1)) (bad_pair (by omega))
              cases st with
              | comma =>
                obtain ⟨hne, f, hf, hg⟩ := hst
                rw [goT_stop (by omega)] at hg
                refine ⟨_, rfl, rfl, _, rfl, ?_⟩
                rw [show decide (standV .comma = V.str ("comma" : Str)) = true from decide_eq_true rfl]
                exact iteT (iteT ⟨.int n, rfl, .ref tA, rfl, tA, ts, rfl, .inl ⟨SqL.of hts, fun l hl => ⟨by show 2 ≤ sizeLine; decide, fun b hb => ⟨by show 2 ≤ sizeLine; decide, fun d hd => good hg.symm l hl b hb d hd⟩⟩⟩⟩)
              | tie =>
                refine ⟨_, rfl, rfl, _, rfl, ?_⟩
                rw [show decide (standV .tie = V.str ("comma" : Str)) = false from by decide]
                refine iteF ⟨.str z, rfl, z, rfl, hz', rfl, _, rfl, ?_⟩
                rcases hst with ⟨h2, _, hn0, hg⟩ | ⟨h2, f, hf, hg⟩
                · rw [show decide (V.int (z.length : Int) = V.int 2) = true from decide_eq_true (by rw [zl, h2]; rfl)]
                  subst hn0
                  exact iteT ⟨.int n, rfl, .ref tA, rfl, tA, ts, rfl, .inl ⟨SqL.of hts, fun l hl => ⟨by show 2 ≤ sizeLine; decide, fun b hb => ⟨by show 2 ≤ sizeLine; decide, fun d hd => good hg l hl b hb d hd⟩⟩⟩⟩
                · rw [show decide (V.int (z.length : Int) = V.int 2) = false from decide_eq_false (fun e => h2 (by have := V.int.inj e; omega))]
                  rw [tie_none hn (past_end (Nat.le_refl _))] at hg
                  exact iteF ⟨.str z, rfl, z, rfl, hz', by show 2 ≤ sizeLine; decide, fun t1 ht1 => badE hg.symm t1 ht1⟩
              | fin k =>
                refine ⟨_, rfl, rfl, _, rfl, ?_⟩
                rw [show decide (standV (.fin k) = V.str ("comma" : Str)) = false from by show decide (V.str ("end" : Str) = V.str ("comma" : Str)) = false; decide]
                refine iteF ⟨.str z, rfl, z, rfl, hz', rfl, _, rfl, ?_⟩
                obtain ⟨h2, _, j, f, hj, hf, hk, h0, hg⟩ := hst
                rw [show decide (V.int (z.length : Int) = V.int 2) = false from decide_eq_false (fun e => h2 (by have := V.int.inj e; omega))]
                rw [tie_bad hk h0 (fun m hm => past_end (by omega) m (ahead_within hn _ hm).2), ← hj] at hg
                exact iteF ⟨.str z, rfl, z, rfl, hz', by show 2 ≤ sizeLine; decide, fun t1 ht1 => badE hg.symm t1 ht1⟩
          · rw [decide_eq_false h1]
            have hW : webT (c :: r) = .bad 1 := by
              unfold webT
              simp only [countT, if_pos hc, if_neg h1]
            rw [hW] at h
            exact iteT ⟨by show 2 ≤ sizeLine; decide, fun t1 ht1 => h _ _ (s1.trans (same_new ht1)) (bad_pair rfl)⟩
        · rw [letter_ix c hc.2 hc.1] at hk
          cases hk
      · rw [decide_eq_false (fun z => hc ((letter_in c).mp z))]
        have hW : webT (c :: r) = .bad 0 := by
          unfold webT
          simp only [countT, if_neg hc]
        rw [hW] at h
        exact iteT ⟨by show 2 ≤ sizeLine; decide, fun t1 ht1 => h _ _ (s1.trans (same_new ht1)) (bad_pair rfl)⟩
end
end Lk02
/-! The signs of a web's text. -/
namespace LV
open PySem PySem.Spec PyProof.Rows L2
def bodyT : List (Nat × Nat) → List Nat
  | [] => []
  | [p] => [97 + p.1, 97 + p.2]
  | p :: q :: r => (97 + p.1) :: (97 + p.2) :: 44 :: bodyT (q :: r)
theorem tieS_list (p : Nat × Nat) : (tieS p).cps.toList = [97 + p.1, 97 + p.2] := by
  unfold tieS letS
  rfl
theorem body_list : ∀ ps : List (Nat × Nat), (Str.join "," (ps.map tieS)).cps.toList = bodyT ps
  | [] => rfl
  | [p] => tieS_list p
  | p :: q :: r => by
    have ih := body_list (q :: r)
    have e : (Str.join "," ((p :: q :: r).map tieS)).cps.toList = (tieS p).cps.toList ++ [44] ++ (Str.join "," ((q :: r).map tieS)).cps.toList := by
      have : Str.join "," ((p :: q :: r).map tieS) = tieS p ++ "," ++ Str.join "," ((q :: r).map tieS) := rfl
      rw [this]
      show ((tieS p).cps ++ (#[44] : Array Nat) ++ (Str.join "," ((q :: r).map tieS)).cps).toList = _
      rw [Array.toList_append, Array.toList_append]
    rw [e, ih, tieS_list]
    rfl
theorem body_len : ∀ ps : List (Nat × Nat), (bodyT ps).length ≤ 3 * ps.length
  | [] => Nat.le_refl _
  | [p] => by show 2 ≤ 3; decide
  | p :: q :: r => by
    have ih := body_len (q :: r)
    show (bodyT (q :: r)).length + 1 + 1 + 1 ≤ 3 * ((q :: r).length + 1)
    omega
theorem join_list (ps : List (Nat × Nat)) : (Txt.join "," (ps.map tieS)).cps.toList = bodyT ps := by
  rw [TL.join_eq]
  exact body_list ps
theorem join_small {ps : List (Nat × Nat)} (h : ps.length ≤ 66) : (Txt.join "," (ps.map tieS)).length ≤ 1000 := by
  have e : (Txt.join "," (ps.map tieS)).length = (Txt.join "," (ps.map tieS)).cps.toList.length := by first | rfl | simp [Str.length]
  rw [e, join_list]
  have := body_len ps
  omega
theorem text_list (n : Nat) (ps : List (Nat × Nat)) : (textS n ps).cps.toList = (97 + (n - 1)) :: 58 :: bodyT ps := by
  have e : (textS n ps).cps.toList = [97 + (n - 1)] ++ [58] ++ (Txt.join "," (ps.map tieS)).cps.toList := by
    unfold textS
    show ((#[97 + (n - 1)] : Array Nat) ++ (#[58] : Array Nat) ++ (Txt.join "," (ps.map tieS)).cps).toList = _
    rw [Array.toList_append, Array.toList_append]
  rw [e, join_list]
  rfl
theorem text_len {n : Nat} {ps : List (Nat × Nat)} (h : ps.length ≤ 66) : (textS n ps).length ≤ 1000 := by
  have e : (textS n ps).length = (textS n ps).cps.toList.length := by first | rfl | simp [Str.length]
  rw [e, text_list]
  have := body_len ps
  show (bodyT ps).length + 1 + 1 ≤ 1000
  omega
end LV
/-! The law's own writing of a web. -/
namespace Lk02
open PySem PySem.Spec PyProof.Rows L2 LV
def spWritten (K : PySem.W.Frag) : Sp := fun vs H Q _ => ∃ (v : V) (n : Nat) (ps : List (Nat × Nat)), vs = [v] ∧ Dp K H v (webD n ps) ∧ 1 ≤ n ∧ n ≤ 12 ∧ ps.length ≤ 66 ∧ Within' n ps ∧ ∀ H', Same H H' → Q (.str (textS n ps)) H'
section
variable {P : Program} {w : World} {K : PySem.W.Frag} {mg : Str → Option Value} {base : Heap}
theorem ok_written (D : Dn K mg "_law_written" s__law_written ["_law_web_here"]) : Ok P w K mg base CX0 1 "_law_written" ["_law_web_here"] (spWritten K) := by
  refine D.ok sc__law_written (fun vs H Q E h => ?_) fun f cdv A outer s H vs Q E hr h => ?_
  · obtain ⟨v, n, ps, rfl, _⟩ := h
    rfl
  · obtain ⟨v, n, ps, rfl, hd, hn1, hn2, hl, hwi, q⟩ := h
    refine ⟨_, pss_cons (ps_set (i := 1) sc__law_written.nd rfl (.inr rfl) pe_str)
      (pss_one (ps_ret (pe_op op_add_str (pe_op op_add_str (pe_ix ix_str (pv 1) (pe_op op_sub (pe_ix ix_tup (pv 0) pe_int (fun _ _ => rfl)) pe_int) (fun _ _ => rfl)) pe_str)
        (pe_join pe_str (pe_lc (own := [("_law_x", 2), ("_law_y", 3)]) (g := gTup K 2 (gCons (gName 2) (gCons (gName 3) gNil))) (tt := tYes)
          (te := tOp (fun x y H Q => ∃ i j, x = .str i ∧ y = .str j ∧ i.length + j.length ≤ sizeLine ∧ Q (.str (i ++ j)) H) (tOp rIxS (tVar 1) (tVar 2)) (tOp rIxS (tVar 1) (tVar 3))) (by rfl) sc__law_written.nd
          (pi_tup (pe_ix ix_tup (pv 0) pe_int (fun _ _ => rfl))) (blkOk_by (N := n__law_written) (sc := defScope s__law_written) (by decide +kernel))
          (fun _ _ _ _ _ => pg_tup rfl (pgs_cons (pg_name (i := 2) sc__law_written.nd rfl (.inl rfl)) (pgs_cons (pg_name (i := 3) sc__law_written.nd rfl (.inl rfl)) pgs_nil))) (fun _ _ _ _ _ => pts_nil)
          (fun _ _ _ _ _ => by exact pe_op op_add_str (pe_ix ix_str (pv 1) (pv 2) (fun _ _ => rfl)) (pe_ix ix_str (pv 1) (pv 3) (fun _ _ => rfl)))))))), ?_⟩
    obtain ⟨a, b, ys, rfl, hs, hb, hts⟩ := dp_web hd
    have hlen := dps_len hts
    rw [List.length_map] at hlen
    have jl : (Txt.join "," (ps.map tieS)).length ≤ 1000 := join_small hl
    refine ⟨.str letters, rfl, .ref a, rfl, a, _, 0, _, rfl, rfl, hs, atI_nat (j := 0) rfl, n, 1, rfl, rfl, letters, _, _, rfl, rfl, by rw [letters_len, sizeLine_eq]; decide, at_letter (x := n - 1) (by omega) (by omega), _, _, rfl, rfl, by rw [sizeLine_eq]; exact (show 1 + 1 ≤ 16777216 by decide),
      ⟨",", rfl⟩, .ref a, rfl, a, _, 1, _, rfl, rfl, hs, atI_nat (j := 1) rfl, b, rfl, ⟨ys, hb⟩, fun D hD => ?_⟩
    refine lc_fm (walk_tup (K := K) (a := b) (xs := ys)) (lays_at ys) (fun i => some (.str (tieS (ps.getD i (0, 0))))) (by rw [hlen, sizeLine_eq]; omega) hD (fun H' s' => sameT s' hb)
      (fun i x H2 H3 Qe Nx hi s2 s3 y hy hn => ?_) fun H' s' hd' => ?_
    · obtain ⟨rfl, ex⟩ := y
      obtain ⟨d, ed, hdx⟩ := dps_get hts ex
      rw [List.getElem?_map] at ed
      obtain ⟨p, ep, rfl⟩ := Option.map_eq_some_iff.mp ed
      obtain ⟨c, rfl, hc'⟩ := dp_pair hdx
      have eg : ps.getD i (0, 0) = p := by rw [List.getD_eq_getElem?_getD, ep]; rfl
      obtain ⟨w1, w2⟩ := hwi p (List.mem_of_getElem? ep)
      refine ⟨c, _, rfl, sameT s3 hc', rfl, _, _, rfl, _, [], rfl, rfl, rfl, yes_go ⟨.str letters, rfl, .int p.1, rfl, letters, _, _, rfl, rfl, by rw [letters_len, sizeLine_eq]; decide, at_letter (x := p.1) rfl (by omega),
        .str letters, rfl, .int p.2, rfl, letters, _, _, rfl, rfl, by rw [letters_len, sizeLine_eq]; decide, at_letter (x := p.2) rfl (by omega), _, _, rfl, rfl, by rw [sizeLine_eq]; exact (show 1 + 1 ≤ 16777216 by decide), ?_⟩⟩
      exact hy _ (by rw [eg]; rfl) _ (Same.refl _)
    · rw [kept_some] at hd'
      have el : (List.range ys.length).map (fun i => V.str (tieS (ps.getD i (0, 0)))) = (ps.map tieS).map V.str := by
        rw [hlen, List.map_map]
        refine List.ext_getElem? fun i => ?_
        rw [List.getElem?_map, List.getElem?_map]
        by_cases hi : i < ps.length
        · rw [List.getElem?_range hi, List.getElem?_eq_getElem hi]
          simp [List.getD_eq_getElem?_getD, List.getElem?_eq_getElem hi]
        · rw [List.getElem?_eq_none (by simpa using hi), List.getElem?_eq_none (by simpa using hi)]
          rfl
      rw [el] at hd'
      refine ⟨",", D, ps.map tieS, rfl, rfl, .inl (.inl (.inl hd')), ?_, _, _, rfl, rfl, ?_, q H' s'⟩
      · rw [ties_sum, List.length_map, show (("," : Str)).length = 1 from rfl]
        omega
      · rw [str_len, sizeLine_eq]
        show _ + _ ≤ _
        have e1 : (⟨#[97 + (n - 1)]⟩ : Str).length = 1 := rfl
        have e2 : ((":" : Str)).length = 1 := rfl
        rw [e1, e2]
        omega
end
end Lk02
/-! The bent text. -/
namespace LV
open PySem PySem.Spec PyProof.Rows L2
end LV
namespace Lk02
open PySem PySem.Spec PyProof.Rows L2 LV
def spBent : Sp := fun vs H Q _ => ∃ (c : Addr) (z : Str) (o : HO), vs = [.ref c, .str z] ∧ z.length ≤ 1000 ∧ H c = some o ∧ CupO o ∧ ∀ o' (z' : Str), CupO o' → z'.length ≤ 20000 → Q (.str z') (upd H c o')
def signT : List Nat := ("abcdefghijklm:,;AB0 -\n\t" : Str).cps.toList
theorem sign_len : signT.length = 23 := by decide +kernel
section
variable {P : Program} {w : World} {K : PySem.W.Frag} {mg : Str → Option Value} {base : Heap}
theorem ok_bent (D : Dn K mg "_law_bent" s__law_bent ["_law_cup_here", "_law_text"]) (m1 : mg "range" = none) (m2 : mg "len" = none) (O1 : Ok P w K mg base CX0 1 "_law_sip" ["_law_cup_here", "_law_many"] spSip) : Ok P w K mg base CX0 2 "_law_bent" ["_law_cup_here", "_law_text"] spBent := by
  refine D.ok sc__law_bent (fun vs H Q E h => ?_) fun f cdv A outer s H vs Q E hr h => ?_
  · obtain ⟨c, z, o, rfl, _⟩ := h
    rfl
  · obtain ⟨c, z, o, rfl, hz, hc, ho, h⟩ := h
    refine ⟨_, pss_cons (ps_for PassesOwn.never rfl (pi_range1 rfl m1 (pa_cons (pe_op op_add pe_int (pe_ok O1 hr pass0 (pa_cons (pv 0) (pa_cons pe_int pa_nil)))) pa_nil)) (pg_name (i := 2) sc__law_bent.nd rfl (.inl rfl))
        (pss_cons (ps_par (i := 3) (j := 4) rfl sc__law_bent.nd rfl rfl (by decide) rfl rfl (pa_cons (pe_ok O1 hr pass0 (pa_cons (pv 0) (pa_cons (pe_op op_add (pe_b m2 call_len_str (pa_cons (pv 1) pa_nil)) pe_int) pa_nil))) (pa_cons (pe_ix ix_str pe_str (pe_ok O1 hr pass0 (pa_cons (pv 0) (pa_cons pe_int pa_nil))) (fun _ _ => rfl)) pa_nil)) (by rfl))
        (pss_cons (ps_set (i := 5) sc__law_bent.nd rfl (.inl rfl) (pe_ok O1 hr pass0 (pa_cons (pv 0) (pa_cons pe_int pa_nil))))
        (pss_one (ps_if (pt_cmpR op_eq (pv 5) pe_int (nomark _)) (pss_one (ps_set (i := 1) sc__law_bent.nd rfl (.inl rfl) (pe_slice sl_str (pv 1) po_none (po_some (pv 3)))))
          (pss_one (ps_if (pt_cmpR op_eq (pv 5) pe_int (nomark _)) (pss_one (ps_set (i := 1) sc__law_bent.nd rfl (.inl rfl) (pe_op op_add_str (pe_op op_add_str (pe_slice sl_str (pv 1) po_none (po_some (pv 3))) (pv 4)) (pe_slice sl_str (pv 1) (po_some (pv 3)) po_none))))
          (pss_one (ps_if (pt_cmpR op_eq (pv 5) pe_int (nomark _)) (pss_one (ps_set (i := 1) sc__law_bent.nd rfl (.inl rfl) (pe_op op_add_str (pe_slice sl_str (pv 1) po_none (po_some (pv 3))) (pe_slice sl_str (pv 1) (po_some (pe_op op_add (pv 3) pe_int)) po_none))))
          (pss_one (ps_if (pt_cmpR op_eq (pv 5) pe_int (nomark _)) (pss_one (ps_set (i := 1) sc__law_bent.nd rfl (.inl rfl) (pe_op op_add_str (pe_op op_add_str (pe_slice sl_str (pv 1) po_none (po_some (pv 3))) (pe_slice sl_str (pv 1) (po_some (pv 3)) (po_some (pe_op op_add (pv 3) pe_int)))) (pe_slice sl_str (pv 1) (po_some (pv 3)) po_none))))
          (pss_one (ps_set (i := 1) sc__law_bent.nd rfl (.inl rfl) (pe_op op_add_str (pe_op op_add_str (pe_slice sl_str (pv 1) po_none (po_some (pv 3))) (pv 4)) (pe_slice sl_str (pv 1) (po_some (pe_op op_add (pv 3) pe_int)) po_none)))))))))))))))
      (pss_one (ps_ret (pv 1))), ?_⟩
    refine ⟨.ref c, rfl, c, 2, o, rfl, by decide, by decide, hc, ho, fun r o1 hr2 ho1 => ⟨_, _, rfl, rfl, 1 + (r : Int), rfl, by omega, by omega, ?_⟩⟩
    have er : (1 + (r : Int)).toNat = r + 1 := by omega
    rw [er]
    refine for_it walk_range (fun i σ' H' => ∃ (zi : Str) (o' : HO) (a b d e : Option V), σ' = [some (.ref c), some (.str zi), a, b, d, e] ∧ zi.length ≤ 1000 * 4 ^ i ∧ CupO o' ∧ H' = upd H c o') ⟨z, o1, none, none, none, none, rfl, by omega, ho1, rfl⟩ (fun _ _ _ _ _ => trivial) (fun i x σ' H2 H3 hi p y => ?_) fun σ' H' p => ?_
    · obtain ⟨rfl, rfl⟩ := y
      obtain ⟨zi, o', a, b, d, e, rfl, hzi, ho', rfl⟩ := p
      have p4 : 4 ^ i ≤ 4 := by
        rcases (show i = 0 ∨ i = 1 by omega) with h | h <;> subst h <;> decide
      have p1 : 1 ≤ 4 ^ i := Nat.one_le_pow _ _ (by decide)
      have ps : 4 ^ (i + 1) = 4 * 4 ^ i := by rw [Nat.pow_succ]; omega
      generalize 4 ^ i = q at *
      have hzl : zi.length ≤ sizeLine := by rw [sizeLine_eq]; omega
      refine ⟨.ref c, rfl, .str zi, rfl, zi, rfl, hzl, _, _, rfl, rfl, c, zi.length + 1, o', by rw [Int.natCast_add]; rfl, by omega, by omega, upd_same, ho', fun r1 o2 hr1 ho2 => ?_⟩
      refine ⟨.ref c, rfl, c, 23, o2, rfl, by decide, by decide, upd_same, ho2, fun r2 o3 hr2 ho3 => ?_⟩
      obtain ⟨sg, hsg⟩ : ∃ sg, (signT)[r2]? = some sg := ⟨_, List.getElem?_eq_getElem (by rw [sign_len]; exact hr2)⟩
      refine ⟨_, r2, sg, rfl, rfl, by decide, atI_nat hsg, _, _, rfl, ?_⟩
      refine ⟨.ref c, rfl, c, 6, o3, rfl, by decide, by decide, upd_same, ho3, fun r3 o4 hr3 ho4 => ?_⟩
      rw [L2.upd_upd, L2.upd_upd, L2.upd_upd]
      have fin : ∀ (z' : Str) (a b d e : Option V), z'.length ≤ 3 * zi.length + 1 → ∃ (zi : Str) (o' : HO) (a' b' d' e' : Option V), [some (.ref c), some (.str z'), a, b, d, e] = [some (.ref c), some (.str zi), a', b', d', e'] ∧ zi.length ≤ 1000 * 4 ^ (i + 1) ∧ CupO o' ∧ upd H c o4 = upd H c o' := fun z' a b d e hz' =>
        ⟨z', o4, a, b, d, e, rfl, by omega, ho4, rfl⟩
      have c1 := fun lo hi => cutS_length zi lo hi
      have cA : ∀ (x y : Str), x.length ≤ zi.length → y.length ≤ zi.length → x.length + y.length ≤ sizeLine := fun x y hx hy => by rw [sizeLine_eq]; omega
      refine ⟨_, rfl, rfl, _, rfl, ite2 (fun _ => ?_) (fun _ => ⟨_, rfl, rfl, _, rfl, ite2 (fun _ => ?_) (fun _ => ⟨_, rfl, rfl, _, rfl, ite2 (fun _ => ?_) (fun _ => ⟨_, rfl, rfl, _, rfl, ite2 (fun _ => ?_) (fun _ => ?_)⟩)⟩)⟩)⟩
      · exact ⟨.str zi, rfl, .int r1, rfl, _, rfl, zi, rfl, hzl, fin _ _ _ _ _ (by have := c1 none (some (r1 : Int)); omega)⟩
      · have a1 := c1 none (some (r1 : Int))
        have a2 := c1 (some (r1 : Int)) none
        have a3 := c1 (some ((r1 : Int) + 1)) none
        have a4 := c1 (some (r1 : Int)) (some ((r1 : Int) + 3))
        have sl : (⟨#[sg]⟩ : Str).length = 1 := rfl
        exact ⟨.str zi, rfl, .int r1, rfl, _, rfl, zi, rfl, hzl, .str ⟨#[sg]⟩, rfl, _, _, rfl, rfl, by rw [sizeLine_eq]; omega, .str zi, rfl, .int r1, rfl, _, rfl, zi, rfl, hzl, _, _, rfl, rfl, by rw [str_len, sizeLine_eq]; omega, fin _ _ _ _ _ (by rw [str_len, str_len]; omega)⟩
      · have a1 := c1 none (some (r1 : Int))
        have a2 := c1 (some (r1 : Int)) none
        have a3 := c1 (some ((r1 : Int) + 1)) none
        have a4 := c1 (some (r1 : Int)) (some ((r1 : Int) + 3))
        have sl : (⟨#[sg]⟩ : Str).length = 1 := rfl
        exact ⟨.str zi, rfl, .int r1, rfl, _, rfl, zi, rfl, hzl, .str zi, rfl, .int r1, rfl, _, _, rfl, rfl, _, rfl, zi, rfl, hzl, _, _, rfl, rfl, by rw [sizeLine_eq]; omega, fin _ _ _ _ _ (by rw [str_len]; omega)⟩
      · have a1 := c1 none (some (r1 : Int))
        have a2 := c1 (some (r1 : Int)) none
        have a3 := c1 (some ((r1 : Int) + 1)) none
        have a4 := c1 (some (r1 : Int)) (some ((r1 : Int) + 3))
        have sl : (⟨#[sg]⟩ : Str).length = 1 := rfl
        exact ⟨.str zi, rfl, .int r1, rfl, _, rfl, zi, rfl, hzl, .str zi, rfl, .int r1, rfl, _, rfl, .int r1, rfl, _, _, rfl, rfl, _, rfl, zi, rfl, hzl, _, _, rfl, rfl, by rw [sizeLine_eq]; omega, .str zi, rfl, .int r1, rfl, _, rfl, zi, rfl, hzl, _, _, rfl, rfl, by rw [str_len, sizeLine_eq]; omega, fin _ _ _ _ _ (by rw [str_len, str_len]; omega)⟩
      · have a1 := c1 none (some (r1 : Int))
        have a2 := c1 (some (r1 : Int)) none
        have a3 := c1 (some ((r1 : Int) + 1)) none
        have a4 := c1 (some (r1 : Int)) (some ((r1 : Int) + 3))
        have sl : (⟨#[sg]⟩ : Str).length = 1 := rfl
        exact ⟨.str zi, rfl, .int r1, rfl, _, rfl, zi, rfl, hzl, .str ⟨#[sg]⟩, rfl, _, _, rfl, rfl, by rw [sizeLine_eq]; omega, .str zi, rfl, .int r1, rfl, _, _, rfl, rfl, _, rfl, zi, rfl, hzl, _, _, rfl, rfl, by rw [str_len, sizeLine_eq]; omega, fin _ _ _ _ _ (by rw [str_len, str_len]; omega)⟩
    · obtain ⟨zi, o', a, b, d, e, rfl, hzi, ho', rfl⟩ := p
      exact ⟨.str zi, rfl, h o' zi ho' (by
        have : 4 ^ (r + 1) ≤ 16 := by
          rcases (show r = 0 ∨ r = 1 by omega) with h | h <;> subst h <;> decide
        omega)⟩
end
end Lk02
/-! The law's defs that catch errors. -/
namespace Lk02
open PySem PySem.Spec PyProof.Rows L2 LV
/-- what the document tells of a value that is asked for a web -/
def toldD : PyData → Told (Nat × List (Nat × Nat))
  | .str z => webT z.cps.toList
  | _ => .bad 0
def spToldL (K : PySem.W.Frag) : Sp := fun vs H Q _ => ∃ v d, vs = [v] ∧ Dp K H v d ∧ (∀ z, d = .str z → z.length ≤ 90000) ∧ ∀ H' v', Same H H' → Dp K H' v' (resD (toldD d)) → Q v' H'
def spRefused (K : PySem.W.Frag) : Sp := fun vs H Q _ => ∃ v d, vs = [v] ∧ Dp K H v d ∧ sm d = true ∧ isWeb d = false ∧ ∀ H', Same H H' → Q (.str "web") H'
section
variable {P : Program} {w : World} {K : PySem.W.Frag} {mg : Str → Option Value} {base : Heap}
theorem ok_told {C fI L : Addr} (D : Dn K mg "_law_told" s__law_told ["_law_value"]) (T : EIX.ExTxt P K mg "InvalidText" "index" ixParts C fI) (xf : XfC K C) (eC : PySem.W.exmOne K (.ref C) (.ref C) = some true) (gL : mg "LeaveError" = some (.ref L)) (O1 : Ok P w K mg base (L2.CX P w) 5 "web_told" ["text"] (spTold K C)) :
    Ok P w K mg base (L2.CX P w) 6 "_law_told" ["_law_value"] (spToldL K) := by
  refine D.okX sc__law_told (fun vs H Q E h => ?_) fun f cdv A outer s H vs Q E hr h => ?_
  · obtain ⟨v, d, rfl, _⟩ := h
    rfl
  · obtain ⟨v, d, rfl, hd, hz, h⟩ := h
    refine ⟨_, pss_cons (ps_set (i := 1) sc__law_told.nd rfl (.inl rfl) pe_str)
      (pss_cons (ps_tryC rfl rfl sc__law_told.nd (takes_of (E := E) rfl rfl rfl rfl)
        (fun W pn xe tk _ => pss_one (ps_set (i := 1) sc__law_told.nd rfl (.inl rfl) (pe_tup (pa_cons pe_non (pa_cons (pe_kw1 O1 hr (fun σ => passAt tk σ) (pk_cons (pv 0) pk_nil)) pa_nil)))))
        (.named (i := 2) rfl rfl ⟨rfl, by decide, .inl T.gC⟩
          (fun a oe cls d pn hz hf => pss_one (ps_set (i := 1) sc__law_told.nd rfl (.inl rfl) (pe_tup (pa_cons (pe_xf xf T.noN hz hf (pv 2)) (pa_cons pe_non pa_nil)))))
          (.bare ⟨rfl, by decide, .inl gL⟩ (fun a oe cls d pn hz hf => pss_one (ps_set (i := 1) sc__law_told.nd rfl (.inl rfl) pe_str)) .nil)))
      (pss_one (ps_ret (pv 1)))), ?_⟩
    have bad : ∀ k, toldD d = .bad k → ∀ H1 dd a, Same H H1 → H1 dd = none → (upd H1 dd (.xd [("index", .int (k : Int))])) a = none → ∀ t, (upd H1 dd (.xd [("index", .int (k : Int))])) t = none → Q (.ref t) (upd (upd H1 dd (.xd [("index", .int (k : Int))])) t (.tup [.int (k : Int), .non])) := fun k ek H1 dd a s1 hdd ha t ht => by
      rw [ek] at h
      exact h _ _ ((s1.trans (same_new hdd)).trans (same_new ht)) (bad_pair rfl)
    have wish : ∀ k, toldD d = .bad k → Bad C H (fun cls d' H' => wCl K (fun cls d' _ H' => E cls d' H') { nx := tRet (tVar 1) { nx := fun x H' => Q V.non H', rt := Q }, rt := Q }
        [⟨.ref C, some 2, fun a cls d => tAsg (tTup (tCons (tXf a cls d C "index" (tVar 2)) (tCons (tC .non) tNil))) (gName 1)⟩, ⟨.ref L, none, fun a cls d => tAsg (tC (.str "other")) (gName 1)⟩] cls d' [some v, some (.str "other"), none] H') k := fun k ek H1 dd s1 hdd =>
      ⟨true, eC, fun z => Bool.noConfusion z, fun _ a ha => ⟨.ref a, rfl, rfl, rfl, dd, _, _, rfl, upd_same, rfl, by show 2 ≤ sizeLine; decide, fun t ht => ⟨_, rfl, bad k ek H1 dd a s1 hdd ha t ht⟩⟩⟩
    refine ⟨v, rfl, rfl, v, d, rfl, hd, ?_⟩
    cases d with
    | str z =>
      refine ⟨hz z rfl, ?_⟩
      cases hr' : webT z.cps.toList with
      | bad k => exact wish k hr'
      | ok r =>
        intro H' v' s' hv'
        refine ⟨by show 2 ≤ sizeLine; decide, fun t ht => ⟨_, rfl, h _ _ (s'.trans (same_new ht)) ?_⟩⟩
        rw [show toldD (.str z) = .ok r from hr']
        exact .tup (.inl (.inl upd_same)) (.cons .non (.cons (dp_same (same_new ht) hv') .nil))
    | _ => exact wish 0 rfl
theorem ok_refused {C L : Addr} (D : Dn K mg "_law_refused" s__law_refused ["_law_value"]) (T : OwnE K mg "InvalidWeb" C) (eC : PySem.W.exmOne K (.ref C) (.ref C) = some true) (gL : mg "LeaveError" = some (.ref L)) (O1 : Ok P w K mg base (L2.CX P w) 8 "web_text" ["web"] (spText K C)) :
    Ok P w K mg base (L2.CX P w) 9 "_law_refused" ["_law_value"] (spRefused K) := by
  refine D.okX sc__law_refused (fun vs H Q E h => ?_) fun f cdv A outer s H vs Q E hr h => ?_
  · obtain ⟨v, d, rfl, _⟩ := h
    rfl
  · obtain ⟨v, d, rfl, hd, hs, hw, h⟩ := h
    refine ⟨_, pss_cons (ps_set (i := 1) sc__law_refused.nd rfl (.inl rfl) pe_str)
      (pss_cons (ps_tryC rfl rfl sc__law_refused.nd (takes_of (E := E) rfl rfl rfl rfl)
        (fun W pn xe tk _ => pss_one (ps_expr (pe_okS O1 hr (fun σ => passAt tk σ) (pa_cons (pv 0) pa_nil))))
        (.bare ⟨rfl, by decide, .inl T.g⟩ (fun a oe cls d pn hz hf => pss_one (ps_set (i := 1) sc__law_refused.nd rfl (.inl rfl) pe_str))
          (.bare ⟨rfl, by decide, .inl gL⟩ (fun a oe cls d pn hz hf => pss_one (ps_set (i := 1) sc__law_refused.nd rfl (.inl rfl) pe_str)) .nil)))
      (pss_one (ps_ret (pv 1)))), ?_⟩
    refine ⟨v, rfl, v, d, rfl, hd, hs, fun _ H1 s1 => ?_, fun hw' => ?_⟩
    · exact ⟨true, eC, fun z => Bool.noConfusion z, fun _ a ha => ⟨_, rfl, h H1 s1⟩⟩
    · rw [hw] at hw'; cases hw'
end
end Lk02
/-! A written web is told again. -/
namespace LV
open PySem PySem.Spec PyProof.Rows L2
theorem pairs_sorted : ∀ n, n ≤ 12 → (pairsN n).Pairwise (fun a b => pLt a b = true) := by
  have : ∀ n, n < 13 → (pairsN n).Pairwise (fun a b => pLt a b = true) := by decide +kernel
  exact fun n h => this n (by omega)
theorem next_in {n : Nat} (hn : n ≤ 12) {done r : List (Nat × Nat)} {p : Nat × Nat} (h : (done ++ p :: r).Sublist (pairsN n)) : p ∈ aheadT n done (some p.1) := by
  have hp : p ∈ pairsN n := h.subset (List.mem_append_right _ List.mem_cons_self)
  have hs := (pairs_sorted n hn).sublist h
  refine List.mem_filter.mpr ⟨hp, ?_⟩
  unfold aheadP
  cases hl : done.getLast? with
  | none => simp
  | some l =>
    have hm : l ∈ done := List.mem_of_getLast? hl
    have := (List.pairwise_append.mp hs).2.2 l hm p List.mem_cons_self
    simp [this]
theorem drop_two {t : List Nat} {i a b : Nat} {r : List Nat} (h : t.drop i = a :: b :: r) : t[i]? = some a ∧ t[i + 1]? = some b ∧ t.drop (i + 2) = r ∧ i < t.length := by
  have e1 : t[i]? = some a := by rw [← List.head?_drop, h]; rfl
  refine ⟨e1, ?_, ?_, (List.getElem?_eq_some_iff.mp e1).1⟩
  · have : (t.drop i)[1]? = some b := by rw [h]; rfl
    rw [List.getElem?_drop] at this
    exact this
  · rw [← List.drop_drop, h]
    rfl
theorem drop_one {t : List Nat} {i a : Nat} {r : List Nat} (h : t.drop i = a :: r) : t[i]? = some a ∧ t.drop (i + 1) = r ∧ i < t.length := by
  have e1 : t[i]? = some a := by rw [← List.head?_drop, h]; rfl
  refine ⟨e1, ?_, (List.getElem?_eq_some_iff.mp e1).1⟩
  rw [← List.drop_drop, h]
  rfl
/-- what stands behind a tie -/
def restT : List (Nat × Nat) → List Nat
  | [] => []
  | p :: r => 44 :: bodyT (p :: r)
theorem body_cons (p : Nat × Nat) (r : List (Nat × Nat)) : bodyT (p :: r) = (97 + p.1) :: (97 + p.2) :: restT r := by
  cases r with
  | nil => rfl
  | cons q r => rfl
theorem told_rest {n : Nat} (hn : n ≤ 12) (t : List Nat) : ∀ (r done : List (Nat × Nat)) (f i : Nat), done ≠ [] → (done ++ r).Sublist (pairsN n) → t.drop i = restT r → t.length ≤ f + i → goT f t n done (aheadT n done none) i = .ok (n, done ++ r)
  | [], done, f, i, _, _, hd, _ => by
    have : ¬ i < t.length := fun z => by
      have := List.drop_eq_nil_iff.mp hd
      omega
    rw [goT_stop this, List.append_nil]
  | p :: r, done, f, i, hne, hs, hd, hf => by
    obtain ⟨h1, h2, h3⟩ := drop_one (show t.drop i = 44 :: bodyT (p :: r) from hd)
    rw [body_cons] at h2
    obtain ⟨h4, h5, h6, h7⟩ := drop_two h2
    have hin := next_in hn hs
    have hin0 : p ∈ aheadT n done none := by
      rw [ahead_some] at hin
      exact (List.mem_filter.mp hin).1
    obtain ⟨f, rfl⟩ : ∃ g, f = g + 1 := ⟨f - 1, by omega⟩
    rw [go_comma h3 hne, if_neg (fun z => z.elim (fun a => a h1) fun a => by rw [a] at hin0; cases hin0), tie_ok h4 h5 hin]
    have := told_rest hn t r (done ++ [p]) f (i + 1 + 2) (by simp) (by simpa using hs) h6 (by omega)
    simpa using this
theorem told_text {n : Nat} (h1 : 1 ≤ n) (hn : n ≤ 12) {ps : List (Nat × Nat)} (hs : ps.Sublist (pairsN n)) : webT ((97 + (n - 1)) :: 58 :: bodyT ps) = .ok (n, ps) := by
  have hc : countT ((97 + (n - 1)) :: 58 :: bodyT ps) = .ok n := by
    have e1 : 97 ≤ 97 + (n - 1) ∧ 97 + (n - 1) < 109 := by omega
    simp only [countT, if_pos e1]
    rw [if_pos (by rfl)]
    congr 1
    omega
  unfold webT
  rw [hc]
  show goT _ _ n [] (pairsN n) 2 = _
  cases ps with
  | nil => exact goT_stop (by show ¬ 2 < 2; decide)
  | cons p r =>
    have hd : ((97 + (n - 1)) :: 58 :: bodyT (p :: r)).drop 2 = bodyT (p :: r) := rfl
    generalize (97 + (n - 1)) :: 58 :: bodyT (p :: r) = t at *
    rw [body_cons] at hd
    obtain ⟨h4, h5, h6, h7⟩ := drop_two hd
    obtain ⟨f, hf⟩ : ∃ f, t.length = f + 1 := ⟨t.length - 1, by omega⟩
    have hin := next_in (done := []) hn hs
    rw [hf, go_start h7, tie_ok h4 h5 hin]
    exact told_rest hn t r [p] f 4 (by simp) hs h6 (by omega)
end LV
/-! What is no web. -/
namespace Lk02
open PySem PySem.Spec PyProof.Rows L2 LV
theorem bad_count {c t : PyData} (h : inR 1 12 c = false) : isWeb (.tuple [c, t]) = false := by
  show (inR 1 12 c && (isTup t && isTies (intOf c) t)) = false
  rw [h]
  rfl
theorem bad_list {c t : PyData} (h : isTup t = false) : isWeb (.tuple [c, t]) = false := by
  show (inR 1 12 c && (isTup t && isTies (intOf c) t)) = false
  rw [h, Bool.false_and, Bool.and_false]
theorem bad_item {n : Int} {ds : List PyData} {x : PyData} (hx : x ∈ ds) (h : isPair n x = false) : isWeb (.tuple [.int n, .tuple ds]) = false := by
  have e : ds.all (isPair n) = false := by
    rw [List.all_eq_false]
    exact ⟨x, hx, by rw [h]; decide⟩
  show (inR 1 12 (.int n) && (true && (ds.all (isPair n) && ascP (ds.map intsOf)))) = false
  rw [e, Bool.false_and, Bool.and_false, Bool.and_false]
theorem lex_pair (p q : Nat × Nat) : HT.lexLt [(p.1 : Int), (p.2 : Int)] [(q.1 : Int), (q.2 : Int)] = pLt p q := by
  rw [HT.lexLt_cons, HT.lexLt_cons, HT.lexLt_nil_nil]
  unfold pLt
  by_cases h1 : p.1 = q.1
  · rw [if_pos (by rw [h1])]
    by_cases h2 : p.2 = q.2
    · rw [if_pos (by rw [h2])]
      exact (decide_eq_false (by omega)).symm
    · rw [if_neg (by omega), decide_eq_decide]
      omega
  · rw [if_neg (by omega), decide_eq_decide]
    omega
theorem bad_step {n : Nat} {qs : List (Nat × Nat)} {i : Nat} {p q : Nat × Nat} (hp : qs[i]? = some p) (hq : qs[i + 1]? = some q) (h : pLt p q = false) : isWeb (webD n qs) = false := by
  have hi : i + 1 < qs.length := (List.getElem?_eq_some_iff.mp hq).1
  have e : ascP ((qs.map tieD).map intsOf) = false := by
    unfold ascP
    rw [List.all_eq_false]
    refine ⟨i, List.mem_range.mpr (by rw [List.length_map, List.length_map]; omega), ?_⟩
    have e1 : ((qs.map tieD).map intsOf).getD i [] = [(p.1 : Int), (p.2 : Int)] := by
      rw [List.getD_eq_getElem?_getD, List.getElem?_map, List.getElem?_map, hp]
      rfl
    have e2 : ((qs.map tieD).map intsOf).getD (i + 1) [] = [(q.1 : Int), (q.2 : Int)] := by
      rw [List.getD_eq_getElem?_getD, List.getElem?_map, List.getElem?_map, hq]
      rfl
    rw [e1, e2, lex_pair, h]
    decide
  show (inR 1 12 (.int n) && (true && ((qs.map tieD).all (isPair n) && ascP ((qs.map tieD).map intsOf)))) = false
  rw [e, Bool.and_false, Bool.and_false, Bool.and_false]
theorem pLt_self (p : Nat × Nat) : pLt p p = false := decide_eq_false (by omega)
theorem pLt_asym {p q : Nat × Nat} (h : pLt p q = true) : pLt q p = false := by
  unfold pLt at *
  rw [decide_eq_true_iff] at h
  exact decide_eq_false (by omega)
/-- one tie twice -/
theorem bad_twice {n : Nat} {ps : List (Nat × Nat)} {i : Nat} {p : Nat × Nat} (hp : ps[i]? = some p) : isWeb (webD n (ps.take i ++ [p] ++ ps.drop i)) = false := by
  have hi : i < ps.length := (List.getElem?_eq_some_iff.mp hp).1
  have lt : (ps.take i).length = i := by rw [List.length_take]; omega
  refine bad_step (i := i) (p := p) (q := p) ?_ ?_ (pLt_self p)
  · rw [List.append_assoc, List.getElem?_append_right (by omega), lt, Nat.sub_self]
    rfl
  · rw [List.append_assoc, List.getElem?_append_right (by omega), lt, show i + 1 - i = 1 by omega]
    show (ps.drop i)[0]? = some p
    rw [List.getElem?_drop, Nat.add_zero]
    exact hp
/-- two ties exchanged -/
theorem bad_swap {n : Nat} {ps : List (Nat × Nat)} {i : Nat} {p q : Nat × Nat} (hp : ps[i]? = some p) (hq : ps[i + 1]? = some q) (h : pLt p q = true) : isWeb (webD n ((ps.set i q).set (i + 1) p)) = false := by
  have hi : i + 1 < ps.length := (List.getElem?_eq_some_iff.mp hq).1
  refine bad_step (i := i) (p := q) (q := p) ?_ ?_ (pLt_asym h)
  · rw [List.getElem?_set_ne (by omega), List.getElem?_set_self (by omega)]
  · rw [List.getElem?_set_self (by rw [List.length_set]; omega)]
end Lk02
/-! New lists and tuples beside the cup. -/
namespace LV
open PySem PySem.Spec PyProof.Rows L2
theorem hole_new {H : Hp} {c p : Addr} {o oc : HO} (hc : H c = some oc) (hp : H p = none) : hole (upd H p o) c = upd (hole H c) p o := by
  have hcp : c ≠ p := fun e => by rw [e, hp] at hc; cases hc
  funext a
  by_cases h : a = c
  · subst h; rw [hole_at, upd_ne hcp, hole_at]
  · rw [hole_ne h]
    by_cases h2 : a = p
    · subst h2; rw [upd_same, upd_same]
    · rw [upd_ne h2, upd_ne h2, hole_ne h]
/-- data beside the cup: c the cup's place -/
structure CupKept (K : PySem.W.Frag) (G : Hp) (c : Addr) (H : Hp) (o : HO) (vs : List V) (ds : List PyData) : Prop where
  s : Same G H
  at_ : H c = some o
  d : DpAll K (hole H c) vs ds
theorem CupKept.tup {K : PySem.W.Frag} {G H : Hp} {c p : Addr} {o : HO} {vs xs : List V} {ds es : List PyData} (k : CupKept K G c H o vs ds) (hp : H p = none) (h : DpAll K (hole H c) xs es) : CupKept K G c (upd H p (.tup xs)) o (.ref p :: vs) (.tuple es :: ds) := by
  refine ⟨k.s.trans (same_new hp), same_new hp _ _ k.at_, ?_⟩
  rw [hole_new k.at_ hp]
  have s := same_new (o := .tup xs) (hole_none (c := c) hp)
  exact .cons (.tup (.inl (.inl upd_same)) (dps_same s h)) (dps_same s k.d)
theorem CupKept.lst {K : PySem.W.Frag} {G H : Hp} {c p : Addr} {o : HO} {vs xs : List V} {ds es : List PyData} (k : CupKept K G c H o vs ds) (hp : H p = none) (h : DpAll K (hole H c) xs es) : CupKept K G c (upd H p (.lst xs)) o (.ref p :: vs) (.list es :: ds) := by
  refine ⟨k.s.trans (same_new hp), same_new hp _ _ k.at_, ?_⟩
  rw [hole_new k.at_ hp]
  have s := same_new (o := .lst xs) (hole_none (c := c) hp)
  exact .cons (.lst (SqL.of upd_same) (dps_same s h)) (dps_same s k.d)
/-- any of the kept ones -/
theorem CupKept.any {K : PySem.W.Frag} {G H : Hp} {c : Addr} {o : HO} {vs : List V} {ds : List PyData} (k : CupKept K G c H o vs ds) {i : Nat} {v : V} (e : vs[i]? = some v) {d : PyData} (e2 : ds[i]? = some d) : Dp K (hole H c) v d := by
  obtain ⟨d', h1, h2⟩ := dps_get k.d e
  rw [e2] at h1
  cases h1
  exact h2
/-- a drop taken -/
theorem CupKept.sip {K : PySem.W.Frag} {H0 H : Hp} {c : Addr} {o o' : HO} {vs : List V} {ds : List PyData} (k : CupKept K (hole H0 c) c H o vs ds) : CupKept K (hole H0 c) c (upd H c o') o' vs ds :=
  ⟨same_upd k.s hole_at, upd_same, by rw [hole_upd]; exact k.d⟩
end LV
/-! New lists and tuples beside the cup and a list that is changed; what is no tie. -/
namespace LV
open PySem PySem.Spec PyProof.Rows L2
/-- data beside the cup at c and the list at t -/
structure TwoKept (K : PySem.W.Frag) (G : Hp) (c t : Addr) (H : Hp) (o : HO) (zs vs : List V) (ds : List PyData) : Prop where
  s : Same G H
  at_ : H c = some o
  li : H t = some (.lst zs)
  ne : c ≠ t
  d : DpAll K (hole (hole H c) t) vs ds
theorem two_new {H : Hp} {c t p : Addr} {o oc ot : HO} (ne : c ≠ t) (hc : H c = some oc) (ht : H t = some ot) (hp : H p = none) : hole (hole (upd H p o) c) t = upd (hole (hole H c) t) p o := by
  rw [hole_new hc hp, hole_new (oc := ot) (by rw [hole_ne (fun e => ne e.symm)]; exact ht) (hole_none hp)]
theorem TwoKept.tup {K : PySem.W.Frag} {G H : Hp} {c t p : Addr} {o : HO} {zs vs xs : List V} {ds es : List PyData} (k : TwoKept K G c t H o zs vs ds) (hp : H p = none) (h : DpAll K (hole (hole H c) t) xs es) : TwoKept K G c t (upd H p (.tup xs)) o zs (.ref p :: vs) (.tuple es :: ds) := by
  refine ⟨k.s.trans (same_new hp), same_new hp _ _ k.at_, same_new hp _ _ k.li, k.ne, ?_⟩
  rw [two_new k.ne k.at_ k.li hp]
  have s := same_new (o := .tup xs) (hole_none (c := t) (hole_none (c := c) hp))
  exact .cons (.tup (.inl (.inl upd_same)) (dps_same s h)) (dps_same s k.d)
theorem TwoKept.lst {K : PySem.W.Frag} {G H : Hp} {c t p : Addr} {o : HO} {zs vs xs : List V} {ds es : List PyData} (k : TwoKept K G c t H o zs vs ds) (hp : H p = none) (h : DpAll K (hole (hole H c) t) xs es) : TwoKept K G c t (upd H p (.lst xs)) o zs (.ref p :: vs) (.list es :: ds) := by
  refine ⟨k.s.trans (same_new hp), same_new hp _ _ k.at_, same_new hp _ _ k.li, k.ne, ?_⟩
  rw [two_new k.ne k.at_ k.li hp]
  have s := same_new (o := .lst xs) (hole_none (c := t) (hole_none (c := c) hp))
  exact .cons (.lst (SqL.of upd_same) (dps_same s h)) (dps_same s k.d)
theorem TwoKept.any {K : PySem.W.Frag} {G H : Hp} {c t : Addr} {o : HO} {zs vs : List V} {ds : List PyData} (k : TwoKept K G c t H o zs vs ds) {i : Nat} {v : V} (e : vs[i]? = some v) {d : PyData} (e2 : ds[i]? = some d) : Dp K (hole (hole H c) t) v d := by
  obtain ⟨d', h1, h2⟩ := dps_get k.d e
  rw [e2] at h1
  cases h1
  exact h2
theorem TwoKept.sip {K : PySem.W.Frag} {H0 H : Hp} {c t : Addr} {o o' : HO} {zs vs : List V} {ds : List PyData} (k : TwoKept K (hole H0 c) c t H o zs vs ds) : TwoKept K (hole H0 c) c t (upd H c o') o' zs vs ds :=
  ⟨same_upd k.s hole_at, upd_same, by rw [upd_ne (fun e => k.ne e.symm)]; exact k.li, k.ne, by rw [hole_upd]; exact k.d⟩
theorem hole_swap {H : Hp} {c t : Addr} {o : HO} (ne : c ≠ t) : hole (upd H t o) c = upd (hole H c) t o := by
  funext a
  by_cases h : a = c
  · subst h; rw [hole_at, upd_ne ne, hole_at]
  · rw [hole_ne h]
    by_cases h2 : a = t
    · subst h2; rw [upd_same, upd_same]
    · rw [upd_ne h2, upd_ne h2, hole_ne h]
theorem TwoKept.set {K : PySem.W.Frag} {G H : Hp} {c t : Addr} {o : HO} {zs ys vs : List V} {ds : List PyData} (k : TwoKept K G c t H o zs vs ds) (hG : G t = none) : TwoKept K G c t (upd H t (.lst ys)) o ys vs ds :=
  ⟨same_upd k.s hG, by rw [upd_ne k.ne]; exact k.at_, upd_same, k.ne, by rw [hole_swap k.ne, hole_upd]; exact k.d⟩
theorem dps_set {K : PySem.W.Frag} {H : Hp} {v : V} {x : PyData} (hv : Dp K H v x) : ∀ {vs : List V} {ds : List PyData} {i : Nat}, DpAll K H vs ds → DpAll K H (vs.set i v) (ds.set i x)
  | _, _, _, .nil => .nil
  | _, _, 0, .cons _ hs => .cons hv hs
  | _, _, i + 1, .cons h hs => .cons h (dps_set hv (i := i) hs)
theorem ixN_nat {n i : Nat} (h : i < n) : ixN n (i : Int) = some i := by
  unfold ixN
  rw [if_pos (by omega), if_pos (by omega), Int.toNat_natCast]
theorem smAll_set {x : PyData} (hx : sm x = true) : ∀ {ds : List PyData} {i : Nat}, smAll ds = true → smAll (ds.set i x) = true
  | [], _, h => h
  | d :: r, 0, h => by
    simp only [smAll, Bool.and_eq_true] at h
    show (sm x && smAll r) = true
    rw [hx, h.2]
    rfl
  | d :: r, i + 1, h => by
    simp only [smAll, Bool.and_eq_true] at h
    show (sm d && smAll (r.set i x)) = true
    rw [h.1, smAll_set hx h.2]
    rfl
end LV
namespace Lk02
open PySem PySem.Spec PyProof.Rows L2 LV
theorem bad_place {n : Int} {xs : List PyData} {z : PyData} (hz : z ∈ xs) (h : inR 0 (n - 1) z = false) : isPair n (.tuple xs) = false := by
  have e : xs.all (inR 0 (n - 1)) = false := by
    rw [List.all_eq_false]
    exact ⟨z, hz, by rw [h]; decide⟩
  show ((xs.all (inR 0 (n - 1)) && ascI (intsOf (.tuple xs))) && decide (xs.length = 2)) = false
  rw [e, Bool.false_and, Bool.false_and]
theorem bad_size {n : Int} {xs : List PyData} (h : xs.length ≠ 2) : isPair n (.tuple xs) = false := by
  show (_ && decide (xs.length = 2)) = false
  rw [decide_eq_false h, Bool.and_false]
theorem bad_order {n : Int} {i j : Int} (h : ¬ i < j) : isPair n (.tuple [.int i, .int j]) = false := by
  have e : ascI [i, j] = false := by
    show (decide (i < j) && true) = false
    rw [decide_eq_false h]
    rfl
  show ((_ && ascI [i, j]) && _) = false
  rw [e, Bool.and_false, Bool.false_and]
end Lk02
/-! The bad web: what it is made of. -/
namespace Lk02
open PySem PySem.Spec PyProof.Rows L2 LV
def spBadWeb (K : PySem.W.Frag) : Sp := fun vs H Q _ => ∃ (c : Addr) (v : V) (n : Nat) (ps : List (Nat × Nat)) (o : HO), vs = [.ref c, v] ∧ Dp K (hole H c) v (webD n ps) ∧ 1 ≤ n ∧ n ≤ 12 ∧ ps.Sublist (pairsN n) ∧ H c = some o ∧ CupO o ∧
  ∀ H' o' v' d, Same (hole H c) H' → H' c = some o' → CupO o' → Dp K (hole H' c) v' d → sm d = true → isWeb d = false → Q v' H'
theorem tie_lt {n : Nat} {p : Nat × Nat} (h : p ∈ pairsN n) : p.1 < p.2 ∧ p.2 < n := by
  obtain ⟨x, _, hx⟩ := List.mem_flatMap.mp h
  obtain ⟨k, hk, rfl⟩ := List.mem_map.mp hx
  have := List.mem_range.mp hk
  exact ⟨by show x < x + 1 + k; omega, by show x + 1 + k < n; omega⟩
theorem dps_take {K : PySem.W.Frag} {H : Hp} : ∀ {vs : List V} {ds : List PyData} (i : Nat), DpAll K H vs ds → DpAll K H (vs.take i) (ds.take i)
  | _, _, 0, _ => by rw [List.take_zero, List.take_zero]; exact .nil
  | _, _, i + 1, .nil => .nil
  | _, _, i + 1, .cons h hs => .cons h (dps_take i hs)
theorem dps_drop {K : PySem.W.Frag} {H : Hp} : ∀ {vs : List V} {ds : List PyData} (i : Nat), DpAll K H vs ds → DpAll K H (vs.drop i) (ds.drop i)
  | _, _, 0, h => h
  | _, _, i + 1, .nil => .nil
  | _, _, i + 1, .cons _ hs => dps_drop i hs
theorem dps_tail {K : PySem.W.Frag} {H : Hp} {v : V} {d : PyData} {vs : List V} {ds : List PyData} (h : DpAll K H (v :: vs) (d :: ds)) : DpAll K H vs ds := by
  cases h with
  | cons _ h => exact h
theorem dps_get' {K : PySem.W.Frag} {H : Hp} {vs : List V} {ds : List PyData} {i : Nat} {v : V} {d : PyData} (h : DpAll K H vs ds) (e : vs[i]? = some v) (e2 : ds[i]? = some d) : Dp K H v d := by
  obtain ⟨d', h1, h2⟩ := dps_get h e
  rw [e2] at h1
  cases h1
  exact h2
theorem big_out {i m : Int} (h : m < i) : inR 0 m (.int i) = false := by
  show (decide ((0 : Int) ≤ i) && decide (i ≤ m)) = false
  rw [decide_eq_false (p := i ≤ m) (by omega), Bool.and_false]
theorem smAll_ties : ∀ ps : List (Nat × Nat), smAll (ps.map tieD) = true
  | [] => rfl
  | p :: r => by
    show (sm (tieD p) && smAll (r.map tieD)) = true
    rw [smAll_ties r]
    rfl
theorem sm_ties {ps : List (Nat × Nat)} (h : ps.length ≤ 66) : sm (.tuple (ps.map tieD)) = true := by
  show (decide ((ps.map tieD).length ≤ 100000) && smAll (ps.map tieD)) = true
  rw [smAll_ties, decide_eq_true (by rw [List.length_map]; omega)]
  rfl
section
variable {P : Program} {w : World} {K : PySem.W.Frag} {mg : Str → Option Value} {base : Heap}
theorem ok_bad_web (D : Dn K mg "_law_bad_web" s__law_bad_web ["_law_cup_here", "_law_web_here"]) (m1 : mg "list" = none) (m2 : mg "tuple" = none) (m3 : mg "len" = none) (O1 : Ok P w K mg base CX0 1 "_law_sip" ["_law_cup_here", "_law_many"] spSip) : Ok P w K mg base CX0 2 "_law_bad_web" ["_law_cup_here", "_law_web_here"] (spBadWeb K) := by
  refine D.ok sc__law_bad_web (fun vs H Q E h => ?_) fun f cdv A outer s H vs Q E hr h => ?_
  · obtain ⟨c, v, n, ps, o, rfl, _⟩ := h
    rfl
  · obtain ⟨c, v, n, ps, o, rfl, hd, n1, n2, hs, hc, ho, h⟩ := h
    refine ⟨_, pss_cons (ps_par3 (i := 2) (j := 3) (l := 4) rfl sc__law_bad_web.nd rfl rfl rfl (by decide) (by decide) (by decide) rfl rfl rfl
        (pa_cons (pe_ix ix_tup (pv 1) pe_int (fun _ _ => rfl)) (pa_cons (pe_ty m1 call_list_of (pa_cons (pe_ix ix_tup (pv 1) pe_int (fun _ _ => rfl)) pa_nil)) (pa_cons (pe_ok O1 hr pass0 (pa_cons (pv 0) (pa_cons pe_int pa_nil))) pa_nil))) (by rfl))
      (pss_cons (ps_if (pt_cmpR op_eq (pv 4) pe_int (nomark _))
        (pss_cons (ps_set (i := 5) sc__law_bad_web.nd rfl (.inl rfl) (pe_lst (pa_cons (pe_ty m1 call_list_of (pa_cons (pv 1) pa_nil)) (pa_cons pe_non (pa_cons pe_str (pa_cons (pe_tup pa_nil) (pa_cons (pv 2) (pa_cons (pe_op op_catT (pv 1) (pe_tup (pa_cons (pe_tup pa_nil) pa_nil)))
            (pa_cons (pe_tup (pa_cons (pe_ix ix_tup (pv 1) pe_int (fun _ _ => rfl)) (pa_cons (pv 2) pa_nil))) (pa_cons (pe_tup (pa_cons (pv 2) (pa_cons (pv 3) pa_nil))) (pa_cons (pe_tup (pa_cons (pv 2) (pa_cons pe_non pa_nil))) (pa_cons (pe_tup (pa_cons (pv 2) pa_nil)) pa_nil))))))))))))
        (pss_one (ps_ret (pe_ix ix_list (pe_op op_cat (pv 5) (pe_lst (pa_cons (pe_tup (pa_cons (pv 2) (pa_cons pe_str pa_nil))) (pa_cons (pe_tup (pa_cons (pv 2) (pa_cons (pe_lst pa_nil) pa_nil))) pa_nil)))) (pe_ok O1 hr pass0 (pa_cons (pv 0) (pa_cons pe_int pa_nil))) (fun _ _ => rfl)))))
        pss_nil)
      (pss_cons (ps_if (PW.pt (pw_or (pt_cmpR op_eq (pv 4) pe_int (nomark _)) (pw_or1 (pt_cmpR (op_eqD hr.units) (pv 3) (pe_lst pa_nil) (nomark _)))))
        (pss_one (ps_ret (pe_tup (pa_cons (pe_ix ix_list (pe_lst (pa_cons pe_int (pa_cons pe_int (pa_cons pe_bl (pa_cons (pe_un un_neg pe_int) (pa_cons pe_str (pa_cons pe_non (pa_cons (pe_op op_pow pe_int pe_int) (pa_cons (pe_tup (pa_cons (pv 2) pa_nil)) pa_nil))))))))) (pe_ok O1 hr pass0 (pa_cons (pv 0) (pa_cons pe_int pa_nil))) (fun _ _ => rfl)) (pa_cons (pe_ix ix_tup (pv 1) pe_int (fun _ _ => rfl)) pa_nil))))) pss_nil)
      (pss_cons (ps_set (i := 6) sc__law_bad_web.nd rfl (.inl rfl) (pe_ok O1 hr pass0 (pa_cons (pv 0) (pa_cons (pe_b m3 call_len_seq (pa_cons (pv 3) pa_nil)) pa_nil))))
      (pss_cons (ps_asg (pe_ix ix_list (pv 3) (pv 6) (fun _ _ => rfl)) (pg_tup (by rfl) (pgs_cons (pg_name (i := 7) sc__law_bad_web.nd rfl (.inl rfl)) (pgs_cons (pg_name (i := 8) sc__law_bad_web.nd rfl (.inl rfl)) pgs_nil))))
      (pss_cons (ps_if (pt_cmpR op_eq (pv 4) pe_int (nomark _)) (pss_one (ps_expr (pe_bm PySem.F.plainAttrs_list PySem.F.slot_list_insert PySem.F.type_list_insert mt_insert (pv 3) (pa_cons (pv 6) (pa_cons (pe_tup (pa_cons (pv 7) (pa_cons (pv 8) pa_nil))) pa_nil)))))
        (pss_one (ps_if (PW.pt (pw_and (pt_cmpR op_eq (pv 4) pe_int (nomark _)) (pw_and1 (pt_cmpR op_gt (pv 6) pe_int (nomark _)))))
          (pss_one (ps_asg (pe_tup (pa_cons (pe_ix ix_list (pv 3) (pv 6) (fun _ _ => rfl)) (pa_cons (pe_ix ix_list (pv 3) (pe_op op_sub (pv 6) pe_int) (fun _ _ => rfl)) pa_nil))) (pg_tup (by rfl) (pgs_cons (pg_sub (pv 3) (pe_op op_sub (pv 6) pe_int) set_list) (pgs_cons (pg_sub (pv 3) (pv 6) set_list) pgs_nil)))))
        (pss_one (ps_if (pt_cmpR op_eq (pv 4) pe_int (nomark _)) (pss_one (ps_asg (pe_tup (pa_cons (pv 7) (pa_cons (pe_ix ix_list (pe_lst (pa_cons (pv 2) (pa_cons (pe_un un_neg pe_int) (pa_cons pe_bl (pa_cons pe_non (pa_cons pe_str (pa_cons (pe_op op_pow pe_int pe_int) (pa_cons (pv 7) (pa_cons (pe_lst (pa_cons (pv 8) pa_nil)) pa_nil))))))))) (pe_ok O1 hr pass0 (pa_cons (pv 0) (pa_cons pe_int pa_nil))) (fun _ _ => rfl)) pa_nil))) (pg_sub (pv 3) (pv 6) set_list)))
        (pss_one (ps_if (pt_cmpR op_eq (pv 4) pe_int (nomark _)) (pss_one (ps_asg (pe_tup (pa_cons (pe_ix ix_list (pe_lst (pa_cons (pe_un un_neg pe_int) (pa_cons pe_bl (pa_cons pe_non (pa_cons pe_str (pa_cons (pv 8) (pa_cons (pe_tup (pa_cons (pv 7) pa_nil)) (pa_cons (pe_lst (pa_cons (pv 7) pa_nil)) pa_nil)))))))) (pe_ok O1 hr pass0 (pa_cons (pv 0) (pa_cons pe_int pa_nil))) (fun _ _ => rfl)) (pa_cons (pv 8) pa_nil))) (pg_sub (pv 3) (pv 6) set_list)))
          (pss_one (ps_asg (pe_ix ix_list (pe_lst (pa_cons (pe_tup (pa_cons (pv 8) (pa_cons (pv 7) pa_nil))) (pa_cons (pe_lst (pa_cons (pv 7) (pa_cons (pv 8) pa_nil))) (pa_cons (pe_tup (pa_cons (pv 7) pa_nil)) (pa_cons (pe_tup (pa_cons (pv 7) (pa_cons (pv 8) (pa_cons (pv 8) pa_nil)))) (pa_cons pe_non (pa_cons (pv 7) (pa_cons pe_str (pa_cons (pe_tup pa_nil) pa_nil))))))))) (pe_ok O1 hr pass0 (pa_cons (pv 0) (pa_cons pe_int pa_nil))) (fun _ _ => rfl)) (pg_sub (pv 3) (pv 6) set_list))))))))))
      (pss_one (ps_ret (pe_tup (pa_cons (pv 2) (pa_cons (pe_ty m2 call_tuple_of (pa_cons (pv 3) pa_nil)) pa_nil)))))))))), ?_⟩
    obtain ⟨a, b, ts, rfl, h1, h2, dts⟩ := dp_web hd
    have g1 : SqT K H a [.int n, .ref b] := sameT hole_same h1
    have g2 : SqT K H b ts := sameT hole_same h2
    have d1 : DpAll K H ts (ps.map tieD) := dps_same hole_same dts
    have plen : ps.length ≤ 66 := Nat.le_trans hs.length_le (pairs_len n n2)
    have tlen := dps_len dts
    rw [List.length_map] at tlen
    refine ⟨.ref a, rfl, a, _, 0, _, rfl, rfl, g1, atI_nat (j := 0) rfl, .ref a, rfl, a, _, 1, _, rfl, rfl, g1, atI_nat (j := 1) rfl, b, ts, rfl, .inr g2, fun tA htA => ?_⟩
    have hcA : c ≠ tA := fun e => by rw [← e, hc] at htA; cases htA
    have hc1 : (upd H tA (.lst ts)) c = some o := by rw [upd_ne hcA]; exact hc
    refine ⟨.ref c, rfl, c, 8, o, rfl, by decide, by decide, hc1, ho, fun way o1 hway ho1 => ⟨_, _, _, rfl, ?_⟩⟩
    have hA2 : (upd (upd H tA (.lst ts)) c o1) tA = some (.lst ts) := by rw [upd_ne (fun e => hcA e.symm)]; exact upd_same
    have hc2 : (upd (upd H tA (.lst ts)) c o1) c = some o1 := upd_same
    have s2 : Same (hole H c) (upd (upd H tA (.lst ts)) c o1) := same_upd (hole_same.trans (same_new htA)) hole_at
    have nA : hole H c tA = none := hole_none htA
    generalize upd (upd H tA (.lst ts)) c o1 = H2 at *
    have hd0 : Dp K (hole H c) (.ref b) (.tuple (ps.map tieD)) := .tup h2 dts
    have sH : Same (hole H c) (hole H2 c) := same_hole s2
    have tAc : tA ≠ c := fun e => hcA e.symm
    have hTA : Dp K (hole H2 c) (.ref tA) (.list (ps.map tieD)) := .lst (SqL.of (by rw [hole_ne tAc]; exact hA2)) (dps_same sH dts)
    have kA : CupKept K (hole H c) c H2 o1 [.ref tA, .ref b] [.list (ps.map tieD), .tuple (ps.map tieD)] := ⟨s2, hc2, .cons hTA (.cons (dp_same sH hd0) .nil)⟩
    have out : ∀ {H' : Hp} {o' : HO} {vs : List V} {ds : List PyData} {i : Nat} {v' : V} {d : PyData}, CupKept K (hole H c) c H' o' vs ds → CupO o' → vs[i]? = some v' → ds[i]? = some d → sm d = true → isWeb d = false → Q v' H' := fun k ho' e1 e2 hs' hw => h _ _ _ _ k.s k.at_ ho' (k.any e1 e2) hs' hw
    have smT : sm (.tuple (ps.map tieD)) = true := sm_ties plen
    refine ⟨_, rfl, rfl, _, rfl, ite2 (fun _ => ?_) (fun _ => ?_)⟩
    · -- way 0
      refine ⟨.ref a, rfl, a, _, rfl, .inr (sameT kA.s h1), fun l1 e1 => ?_⟩
      have k1 := kA.lst e1 (.cons (.int n) (.cons (kA.any (i := 1) rfl rfl) .nil))
      refine ⟨Nat.zero_le _, fun p3 e3 => ?_⟩
      have k2 := k1.tup e3 .nil
      refine ⟨.int n, rfl, .ref a, rfl, Nat.zero_le _, fun p4 e4 => ?_⟩
      have k3 := k2.tup e4 .nil
      refine ⟨by show 1 ≤ sizeLine; decide, fun p5 e5 => ?_⟩
      have k4 := k3.tup e5 (.cons (k3.any (i := 0) rfl rfl) .nil)
      refine ⟨a, p5, _, _, rfl, rfl, sameT k4.s h1, SqT.of upd_same, List.cons_ne_nil _ _, by show 3 ≤ sizeLine; decide, fun z => absurd z (List.cons_ne_nil _ _), fun _ p6 e6 => ?_⟩
      have k5 := k4.tup e6 (.cons (.int n) (.cons (k4.any (i := 5) rfl rfl) (.cons (k4.any (i := 1) rfl rfl) .nil)))
      refine ⟨.ref a, rfl, a, _, 1, _, rfl, rfl, sameT k5.s h1, atI_nat (j := 1) rfl, .int n, rfl, by show 2 ≤ sizeLine; decide, fun p7 e7 => ?_⟩
      have k6 := k5.tup e7 (.cons (k5.any (i := 6) rfl rfl) (.cons (.int n) .nil))
      refine ⟨.int n, rfl, .ref tA, rfl, by show 2 ≤ sizeLine; decide, fun p8 e8 => ?_⟩
      have k7 := k6.tup e8 (.cons (.int n) (.cons (k6.any (i := 6) rfl rfl) .nil))
      refine ⟨.int n, rfl, by show 2 ≤ sizeLine; decide, fun p9 e9 => ?_⟩
      have k8 := k7.tup e9 (.cons (.int n) (.cons .non .nil))
      refine ⟨.int n, rfl, by show 1 ≤ sizeLine; decide, fun p10 e10 => ?_⟩
      have k9 := k8.tup e10 (.cons (.int n) .nil)
      refine ⟨by show 10 ≤ sizeLine; decide, fun p11 e11 => ?_⟩
      have k10 := k9.lst (xs := [.ref l1, .non, .str "b:ab", .ref p3, .int n, .ref p6, .ref p7, .ref p8, .ref p9, .ref p10]) e11 (.cons (k9.any (i := 8) rfl rfl) (.cons .non (.cons (.str _) (.cons (k9.any (i := 7) rfl rfl) (.cons (.int n) (.cons (k9.any (i := 4) rfl rfl) (.cons (k9.any (i := 3) rfl rfl) (.cons (k9.any (i := 2) rfl rfl) (.cons (k9.any (i := 1) rfl rfl) (.cons (k9.any (i := 0) rfl rfl) .nil))))))))))
      refine ⟨.ref p11, rfl, .int n, rfl, by show 2 ≤ sizeLine; decide, fun p12 e12 => ?_⟩
      have k11 := k10.tup e12 (.cons (.int n) (.cons (.str "") .nil))
      refine ⟨.int n, rfl, Nat.zero_le _, fun p13 e13 => ?_⟩
      have k12 := k11.lst e13 .nil
      refine ⟨by show 2 ≤ sizeLine; decide, fun p14 e14 => ?_⟩
      have k13 := k12.tup e14 (.cons (.int n) (.cons (k12.any (i := 0) rfl rfl) .nil))
      refine ⟨by show 2 ≤ sizeLine; decide, fun p15 e15 => ?_⟩
      have k14 := k13.lst e15 (.cons (k13.any (i := 2) rfl rfl) (.cons (k13.any (i := 0) rfl rfl) .nil))
      refine ⟨p11, p15, _, _, rfl, rfl, same_new e15 _ _ (same_new e14 _ _ (same_new e13 _ _ (same_new e12 _ _ upd_same))), upd_same, by show 12 ≤ sizeLine; decide, fun p16 e16 => ?_⟩
      have d12 := DpAll.cons (k14.any (i := 13) rfl rfl) (.cons .non (.cons (.str "b:ab") (.cons (k14.any (i := 12) rfl rfl) (.cons (.int n) (.cons (k14.any (i := 9) rfl rfl) (.cons (k14.any (i := 8) rfl rfl) (.cons (k14.any (i := 7) rfl rfl) (.cons (k14.any (i := 6) rfl rfl) (.cons (k14.any (i := 5) rfl rfl) (.cons (k14.any (i := 3) rfl rfl) (.cons (k14.any (i := 1) rfl rfl) .nil)))))))))))
      have hp16 : p16 ≠ c := fun e => by rw [e] at e16; exact nomatch (show (none : Option HO) = some o1 from e16.symm.trans k14.at_)
      have k15 := (k14.lst e16 d12)
      have k16 : CupKept K (hole H c) c _ o1 _ _ := ⟨k15.s, k15.at_, dps_same (hole_mono (same_new e16)) d12⟩
      refine ⟨.ref c, rfl, c, 12, o1, rfl, by decide, by decide, k16.at_, ho1, fun r o2 hr12 ho2 => ?_⟩
      obtain ⟨v', hv⟩ : ∃ v', ([V.ref l1, .non, .str "b:ab", .ref p3, .int n, .ref p6, .ref p7, .ref p8, .ref p9, .ref p10, .ref p12, .ref p14] : List V)[r]? = some v' := ⟨_, List.getElem?_eq_getElem hr12⟩
      obtain ⟨d', hd', _⟩ := dps_get k16.d hv
      have hall : sm d' = true ∧ isWeb d' = false := by
        have hm := List.mem_of_getElem? hd'
        simp only [List.mem_cons, List.not_mem_nil, or_false] at hm
        have smL : sm (.list (ps.map tieD)) = true := smT
        have s0 : ∀ t, sm t = true → sm (.tuple [.int (n : Int), t]) = true := fun t ht => by
          show (true && (true && (sm t && true))) = true
          rw [ht]
          rfl
        rcases hm with h | h | h | h | h | h | h | h | h | h | h | h <;> subst h
        · exact ⟨s0 _ smT, rfl⟩
        · exact ⟨rfl, rfl⟩
        · exact ⟨rfl, rfl⟩
        · exact ⟨rfl, rfl⟩
        · exact ⟨rfl, rfl⟩
        · exact ⟨by show (true && (true && (sm (.tuple (ps.map tieD)) && (true && true)))) = true; rw [smT]; rfl, rfl⟩
        · exact ⟨by show (true && (sm (.tuple (ps.map tieD)) && (true && true))) = true; rw [smT]; rfl, bad_count rfl⟩
        · exact ⟨s0 _ smL, bad_list rfl⟩
        · exact ⟨s0 _ rfl, bad_list rfl⟩
        · exact ⟨rfl, rfl⟩
        · exact ⟨s0 _ rfl, bad_list rfl⟩
        · exact ⟨s0 _ rfl, bad_list rfl⟩
      refine ⟨p16, _, (r : Int), v', rfl, rfl, SqL.of (by rw [upd_ne hp16]; exact upd_same), atI_nat hv, ?_⟩
      exact out k16.sip ho2 hv hd' hall.1 hall.2
    · refine ⟨_, rfl, rfl, _, rfl, ?_⟩
      by_cases hw1 : V.int (way : Int) = V.int 1
      · rw [decide_eq_true hw1]
        refine iteT (iteT ?_)
        refine ⟨1, rfl, _, _, rfl, rfl, ⟨by decide, by decide, by decide⟩, .int n, rfl, by show 1 ≤ sizeLine; decide, fun q1 f1 => ?_⟩
        have k1 := kA.tup f1 (.cons (.int n) .nil)
        refine ⟨by show 8 ≤ sizeLine; decide, fun q2 f2 => ?_⟩
        have d8 := DpAll.cons (.int 0) (.cons (.int 13) (.cons (.bl true) (.cons (.int (-1)) (.cons (.str "3") (.cons .non (.cons (.int ((10 : Int) ^ (30 : Int).toNat)) (.cons (k1.any (i := 0) rfl rfl) .nil)))))))
        have k2 := k1.lst f2 d8
        have k3 : CupKept K (hole H c) c _ o1 _ _ := ⟨k2.s, k2.at_, dps_same (hole_mono (same_new f2)) d8⟩
        refine ⟨.ref c, rfl, c, 8, o1, rfl, by decide, by decide, k3.at_, ho1, fun r o2 hr8 ho2 => ?_⟩
        obtain ⟨v', hv⟩ : ∃ v', ([.int 0, .int 13, .bl true, .int (-1), .str "3", .non, .int ((10 : Int) ^ (30 : Int).toNat), .ref q1] : List V)[r]? = some v' := ⟨_, List.getElem?_eq_getElem hr8⟩
        obtain ⟨d', hd', _⟩ := dps_get k3.d hv
        have hall : sm d' = true ∧ inR 1 12 d' = false := by
          have hm := List.mem_of_getElem? hd'
          simp only [List.mem_cons, List.not_mem_nil, or_false] at hm
          rcases hm with h | h | h | h | h | h | h | h <;> subst h <;> first | exact ⟨rfl, rfl⟩ | exact ⟨rfl, by decide⟩
        have hq2 : q2 ≠ c := fun e => by rw [e] at f2; exact nomatch (show (none : Option HO) = some o1 from f2.symm.trans k1.at_)
        refine ⟨q2, _, (r : Int), v', rfl, rfl, SqL.of (by rw [upd_ne hq2]; exact upd_same), atI_nat hv, .ref a, rfl, a, _, 1, _, rfl, rfl, sameT (k3.sip (o' := o2)).s h1, atI_nat (j := 1) rfl, by show 2 ≤ sizeLine; decide, fun q3 f3 => ?_⟩
        have k4 := (k2.sip (o' := o2)).tup f3 (.cons ((k3.sip (o' := o2)).any hv hd') (.cons ((k2.sip (o' := o2)).any (i := 3) rfl rfl) .nil))
        refine out k4 ho2 (i := 0) rfl rfl ?_ (bad_count hall.2)
        show (true && (sm d' && (sm (.tuple (ps.map tieD)) && true))) = true
        rw [hall.1, smT]
        rfl
      · rw [decide_eq_false hw1]
        refine iteF ⟨.ref tA, rfl, Nat.zero_le _, fun l hl => ⟨_, _, .lst (SqL.of (same_new hl _ _ hA2)) (dps_same (hole_same.trans (same_new hl)) (dps_same sH dts)), .lst (SqL.of upd_same) .nil, shaped_ties ps, rfl, _, rfl, ?_⟩⟩
        have kB : CupKept K (hole H c) c (upd H2 l (.lst [])) o1 [.ref tA, .ref b] [.list (ps.map tieD), .tuple (ps.map tieD)] := ⟨kA.s.trans (same_new hl), same_new hl _ _ kA.at_, dps_same (hole_mono (same_new hl)) kA.d⟩
        have hA3 := same_new (o := .lst []) hl _ _ hA2
        generalize upd H2 l (.lst []) = H3 at *
        rw [eqv_ties_nil]
        by_cases hps : ps = []
        · rw [decide_eq_true hps]
          refine iteT ?_
          refine ⟨1, rfl, _, _, rfl, rfl, ⟨by decide, by decide, by decide⟩, .int n, rfl, by show 1 ≤ sizeLine; decide, fun q1 f1 => ?_⟩
          have k1 := kB.tup f1 (.cons (.int n) .nil)
          refine ⟨by show 8 ≤ sizeLine; decide, fun q2 f2 => ?_⟩
          have d8 := DpAll.cons (.int 0) (.cons (.int 13) (.cons (.bl true) (.cons (.int (-1)) (.cons (.str "3") (.cons .non (.cons (.int ((10 : Int) ^ (30 : Int).toNat)) (.cons (k1.any (i := 0) rfl rfl) .nil)))))))
          have k2 := k1.lst f2 d8
          have k3 : CupKept K (hole H c) c _ o1 _ _ := ⟨k2.s, k2.at_, dps_same (hole_mono (same_new f2)) d8⟩
          refine ⟨.ref c, rfl, c, 8, o1, rfl, by decide, by decide, k3.at_, ho1, fun r o2 hr8 ho2 => ?_⟩
          obtain ⟨v', hv⟩ : ∃ v', ([.int 0, .int 13, .bl true, .int (-1), .str "3", .non, .int ((10 : Int) ^ (30 : Int).toNat), .ref q1] : List V)[r]? = some v' := ⟨_, List.getElem?_eq_getElem hr8⟩
          obtain ⟨d', hd', _⟩ := dps_get k3.d hv
          have hall : sm d' = true ∧ inR 1 12 d' = false := by
            have hm := List.mem_of_getElem? hd'
            simp only [List.mem_cons, List.not_mem_nil, or_false] at hm
            rcases hm with h | h | h | h | h | h | h | h <;> subst h <;> first | exact ⟨rfl, rfl⟩ | exact ⟨rfl, by decide⟩
          have hq2 : q2 ≠ c := fun e => by rw [e] at f2; exact nomatch (show (none : Option HO) = some o1 from f2.symm.trans k1.at_)
          refine ⟨q2, _, (r : Int), v', rfl, rfl, SqL.of (by rw [upd_ne hq2]; exact upd_same), atI_nat hv, .ref a, rfl, a, _, 1, _, rfl, rfl, sameT (k3.sip (o' := o2)).s h1, atI_nat (j := 1) rfl, by show 2 ≤ sizeLine; decide, fun q3 f3 => ?_⟩
          have k4 := (k2.sip (o' := o2)).tup f3 (.cons ((k3.sip (o' := o2)).any hv hd') (.cons ((k2.sip (o' := o2)).any (i := 3) rfl rfl) .nil))
          refine out k4 ho2 (i := 0) rfl rfl ?_ (bad_count hall.2)
          show (true && (sm d' && (sm (.tuple (ps.map tieD)) && true))) = true
          rw [hall.1, smT]
          rfl
        · rw [decide_eq_false hps]
          refine iteF ?_
          have kT0 : TwoKept K (hole H c) c tA H3 o1 ts ts (ps.map tieD) := ⟨kB.s, kB.at_, hA3, hcA, ties_hole (zs := ts) (by rw [hole_ne tAc]; exact hA3) (dps_same (same_hole kB.s) dts)⟩
          have ppos : 0 < ps.length := List.length_pos_iff.mpr hps
          refine ⟨.ref c, rfl, .ref tA, rfl, tA, ts, rfl, .inl (SqL.of hA3), c, ts.length, o1, rfl, by omega, by omega, kB.at_, ho1, fun r o2 hr ho2 => ?_⟩
          have kT := kT0.sip (o' := o2)
          generalize upd H3 c o2 = H4 at *
          obtain ⟨v, hv⟩ : ∃ v, ts[r]? = some v := ⟨_, List.getElem?_eq_getElem hr⟩
          obtain ⟨dd, edd, hdd⟩ := dps_get kT.d hv
          rw [List.getElem?_map] at edd
          obtain ⟨p, ep, rfl⟩ := Option.map_eq_some_iff.mp edd
          obtain ⟨pa, rfl, hpa⟩ := dp_pair hdd
          obtain ⟨p12, p2n⟩ := tie_lt (hs.subset (List.mem_of_getElem? ep))
          refine ⟨.ref tA, rfl, .int r, rfl, tA, ts, (r : Int), .ref pa, rfl, rfl, SqL.of kT.li, atI_nat hv, pa, _, rfl, sameT hole_same (sameT hole_same hpa), rfl, _, _, rfl, _, [], rfl, rfl, ?_⟩
          have fin : ∀ {H' : Hp} {o' : HO} {xs vs : List V} {ds es : List PyData}, TwoKept K (hole H c) c tA H' o' xs vs ds → CupO o' → DpAll K (hole (hole H' c) tA) xs es → es.length ≤ 100 → smAll es = true → isWeb (.tuple [.int (n : Int), .tuple es]) = false →
              ∀ q, H' q = none → ∀ q', (upd H' q (.tup xs)) q' = none → Q (.ref q') (upd (upd H' q (.tup xs)) q' (.tup [.int (n : Int), .ref q])) := fun {H' o' xs vs ds es} k ho' hx hl hsm hw q hq q' hq' => by
            have k1 := k.tup hq hx
            have k2 := k1.tup hq' (.cons (.int n) (.cons (k1.any (i := 0) rfl rfl) .nil))
            refine h _ _ _ _ k2.s k2.at_ ho' (dp_same hole_same (k2.any (i := 0) rfl rfl)) ?_ hw
            show (true && (true && ((decide (es.length ≤ 100000) && smAll es) && true))) = true
            rw [hsm, decide_eq_true (by omega)]
            rfl
          have two : 2 ≤ sizeLine := by decide
          have put : ∀ {H' : Hp} {o' : HO} {vs : List V} {ds : List PyData} {u : V} {x : PyData}, TwoKept K (hole H c) c tA H' o' ts vs ds → CupO o' → DpAll K (hole (hole H' c) tA) ts (ps.map tieD) → Dp K (hole (hole H' c) tA) u x → sm x = true → isPair n x = false →
              ∀ q, (upd H' tA (.lst (ts.set r u))) q = none → ∀ q', (upd (upd H' tA (.lst (ts.set r u))) q (.tup (ts.set r u))) q' = none → Q (.ref q') (upd (upd (upd H' tA (.lst (ts.set r u))) q (.tup (ts.set r u))) q' (.tup [.int (n : Int), .ref q])) := fun {H' o' vs ds u x} k ho' hx hu hsx hpx => by
            have k1 := k.set (ys := ts.set r u) nA
            have hx1 : DpAll K (hole (hole (upd H' tA (.lst (ts.set r u))) c) tA) (ts.set r u) ((ps.map tieD).set r x) := by
              rw [hole_swap hcA, hole_upd]
              exact dps_set hu hx
            refine fin k1 ho' hx1 (by rw [List.length_set, List.length_map]; omega) (smAll_set hsx (smAll_ties ps)) (bad_item (x := x) ?_ hpx)
            exact List.mem_set (by rw [List.length_map]; omega) x
          refine ⟨_, rfl, rfl, _, rfl, ite2 (fun _ => ?_) (fun _ => ?_)⟩
          · refine ⟨.ref tA, rfl, .inl ⟨rfl, _, SqL.of kT.li⟩, .int r, rfl, .int p.1, rfl, .int p.2, rfl, two, fun q1 f1 => ?_⟩
            have k1 := kT.tup f1 (.cons (.int p.1) (.cons (.int p.2) .nil))
            refine ⟨tA, ts, (r : Int), .ref q1, rfl, rfl, k1.li, by rw [sizeLine_eq]; omega, by omega, by omega, ?_⟩
            have k2 := k1.set (ys := ts.take (r : Int).toNat ++ [.ref q1] ++ ts.drop (r : Int).toNat) nA
            refine ⟨.int n, rfl, .ref tA, rfl, tA, _, rfl, .inl ⟨SqL.of k2.li, fun q hq => ⟨two, fun q' hq' => fin (es := (ps.take r ++ [p] ++ ps.drop r).map tieD) k2 ho2 ?_ ?_ (smAll_ties _) (bad_twice ep) q hq q' hq'⟩⟩⟩
            · rw [Int.toNat_natCast, hole_swap hcA, hole_upd, List.map_append, List.map_append, List.map_take, List.map_drop]
              exact dps_append (dps_append (dps_take r (dps_tail k1.d)) (.cons (k1.any (i := 0) rfl rfl) .nil)) (dps_drop r (dps_tail k1.d))
            · rw [List.length_map, List.length_append, List.length_append, List.length_take, List.length_drop, List.length_singleton]; omega
          · refine ⟨_, rfl, rfl, _, rfl, ?_⟩
            by_cases h30 : V.int (way : Int) = V.int 3 ∧ 0 < r
            · rw [decide_eq_true h30.1]
              refine iteT ⟨.int r, rfl, _, _, rfl, rfl, _, rfl, ?_⟩
              rw [show decide ((0 : Int) < (r : Int)) = true from decide_eq_true (by omega)]
              obtain ⟨i, rfl⟩ : ∃ i, r = i + 1 := ⟨r - 1, by omega⟩
              obtain ⟨u, hu⟩ : ∃ u, ts[i]? = some u := ⟨_, List.getElem?_eq_getElem (by omega)⟩
              obtain ⟨dq, edq, hdq⟩ := dps_get kT.d hu
              rw [List.getElem?_map] at edq
              obtain ⟨p0, ep0, rfl⟩ := Option.map_eq_some_iff.mp edq
              have hlt : pLt p0 p = true := by
                have hp := (pairs_sorted n n2).sublist hs
                have i1 : i < ps.length := (List.getElem?_eq_some_iff.mp ep0).1
                have i2 : i + 1 < ps.length := (List.getElem?_eq_some_iff.mp ep).1
                have := List.pairwise_iff_getElem.mp hp i (i + 1) i1 i2 (by omega)
                rw [(List.getElem?_eq_some_iff.mp ep0).2, (List.getElem?_eq_some_iff.mp ep).2] at this
                exact this
              have em : ((i + 1 : Nat) : Int) - 1 = (i : Int) := by omega
              refine iteT ⟨.ref tA, rfl, .int ((i + 1 : Nat) : Int), rfl, tA, ts, ((i + 1 : Nat) : Int), .ref pa, rfl, rfl, SqL.of kT.li, atI_nat hv, .ref tA, rfl, .int ((i + 1 : Nat) : Int), rfl, _, _, rfl, rfl, tA, ts, ((i + 1 : Nat) : Int) - 1, u, rfl, rfl, SqL.of kT.li, by rw [em]; exact atI_nat hu, two, fun q1 f1 => ?_⟩
              have k1 := kT.tup f1 (.cons hdd (.cons hdq .nil))
              refine ⟨q1, _, rfl, SqT.of upd_same, rfl, _, _, rfl, .ref tA, rfl, .int ((i + 1 : Nat) : Int), rfl, _, _, rfl, rfl, tA, ts, ((i + 1 : Nat) : Int) - 1, i, rfl, rfl, k1.li, by rw [em]; exact ixN_nat (by omega), ?_⟩
              have k2 := k1.set (ys := ts.set i (.ref pa)) nA
              refine ⟨_, [], rfl, .ref tA, rfl, .int ((i + 1 : Nat) : Int), rfl, tA, ts.set i (.ref pa), ((i + 1 : Nat) : Int), i + 1, rfl, rfl, k2.li, ixN_nat (by rw [List.length_set]; omega), rfl, ?_⟩
              have k3 := k2.set (ys := (ts.set i (.ref pa)).set (i + 1) u) nA
              refine ⟨.int n, rfl, .ref tA, rfl, tA, _, rfl, .inl ⟨SqL.of k3.li, fun q hq => ⟨two, fun q' hq' => fin (es := ((ps.set i p).set (i + 1) p0).map tieD) k3 ho2 ?_ ?_ (smAll_ties _) (bad_swap ep0 ep hlt) q hq q' hq'⟩⟩⟩
              · have d3 := dps_tail k3.d
                rw [List.map_set, List.map_set]
                exact dps_set (dps_get' d3 hu (by rw [List.getElem?_map, ep0]; rfl)) (dps_set (dps_get' d3 hv (by rw [List.getElem?_map, ep]; rfl)) d3)
              · rw [List.length_map, List.length_set, List.length_set]; omega
            · refine and_no ?_ fun hc3 hB => ⟨.int r, rfl, _, _, rfl, rfl, _, rfl, ?_⟩
              · refine ⟨_, rfl, rfl, _, rfl, ite2 (fun _ => ?_) (fun _ => ⟨_, rfl, rfl, _, rfl, ite2 (fun _ => ?_) (fun _ => ?_)⟩)⟩
                · refine ⟨.int p.1, rfl, .int n, rfl, 1, rfl, _, _, rfl, rfl, ⟨by decide, by decide, by decide⟩, .int p.1, rfl, .int p.2, rfl, by show 1 ≤ sizeLine; decide, fun q1 f1 => ?_⟩
                  have k1 := kT.lst f1 (.cons (.int p.2) .nil)
                  refine ⟨by show 8 ≤ sizeLine; decide, fun qL fL => ?_⟩
                  have d8 := DpAll.cons (.int n) (.cons (.int (-1)) (.cons (.bl true) (.cons .non (.cons (.str "1") (.cons (.int ((10 : Int) ^ (30 : Int).toNat)) (.cons (.int p.1) (.cons (k1.any (i := 0) rfl rfl) .nil)))))))
                  have k2 := k1.lst fL d8
                  have k3 : TwoKept K (hole H c) c tA _ o2 ts _ _ := ⟨k2.s, k2.at_, k2.li, k2.ne, dps_same (hole_mono (hole_mono (same_new fL))) d8⟩
                  refine ⟨.ref c, rfl, c, 8, o2, rfl, by decide, by decide, k3.at_, ho2, fun j o3 hj ho3 => ?_⟩
                  obtain ⟨v', hv'⟩ : ∃ v', ([.int n, .int (-1), .bl true, .non, .str "1", .int ((10 : Int) ^ (30 : Int).toNat), .int p.1, .ref q1] : List V)[j]? = some v' := ⟨_, List.getElem?_eq_getElem hj⟩
                  obtain ⟨d', hd', _⟩ := dps_get k3.d hv'
                  have hm := List.mem_of_getElem? hd'
                  simp only [List.mem_cons, List.not_mem_nil, or_false] at hm
                  have hqL : qL ≠ c := fun e => by rw [e] at fL; exact nomatch (show (none : Option HO) = some o2 from fL.symm.trans k1.at_)
                  refine ⟨qL, _, (j : Int), v', rfl, rfl, SqL.of (by rw [upd_ne hqL]; exact upd_same), atI_nat hv', two, fun q3 f3 => ?_⟩
                  have k9 := (k2.sip (o' := o3)).tup f3 (.cons (.int p.1) (.cons ((k3.sip (o' := o3)).any hv' hd') .nil))
                  have hit : sm (.tuple [.int (p.1 : Int), d']) = true ∧ isPair n (.tuple [.int (p.1 : Int), d']) = false := by
                    have e30 : (10 : Int) ^ (30 : Int).toNat = 1000000000000000000000000000000 := by decide
                    rcases hm with h | h | h | h | h | h | h | h <;> subst h
                    · exact ⟨rfl, bad_place (z := .int n) (by simp) (big_out (by omega))⟩
                    · exact ⟨rfl, bad_place (z := .int (-1)) (by simp) rfl⟩
                    · exact ⟨rfl, bad_place (z := .bool true) (by simp) rfl⟩
                    · exact ⟨rfl, bad_place (z := .none) (by simp) rfl⟩
                    · exact ⟨rfl, bad_place (z := .str "1") (by simp) rfl⟩
                    · exact ⟨rfl, bad_place (z := .int ((10 : Int) ^ (30 : Int).toNat)) (by simp) (big_out (by rw [e30]; omega))⟩
                    · exact ⟨rfl, bad_order (by omega)⟩
                    · exact ⟨rfl, bad_place (z := .list [.int p.2]) (by simp) rfl⟩
                  exact ⟨.ref tA, rfl, .int r, rfl, tA, ts, (r : Int), r, rfl, rfl, k9.li, ixN_nat hr, .int n, rfl, .ref tA, rfl, tA, _, rfl, .inl ⟨SqL.of (k9.set (ys := ts.set r (.ref q3)) nA).li, fun q hq => ⟨two, fun q' hq' => put k9 ho3 (dps_tail (dps_tail (dps_tail k9.d))) (k9.any (i := 0) rfl rfl) hit.1 hit.2 q hq q' hq'⟩⟩⟩
                · refine ⟨1, rfl, .int p.2, rfl, .int p.1, rfl, by show 1 ≤ sizeLine; decide, fun q1 f1 => ?_⟩
                  have k0 := kT.tup f1 (.cons (.int p.1) .nil)
                  refine ⟨.int p.1, rfl, by show 1 ≤ sizeLine; decide, fun q2 f2 => ?_⟩
                  have k1 := k0.lst f2 (.cons (.int p.1) .nil)
                  refine ⟨by show 7 ≤ sizeLine; decide, fun qL fL => ?_⟩
                  have d8 := DpAll.cons (.int (-1)) (.cons (.bl false) (.cons .non (.cons (.str "0") (.cons (.int p.2) (.cons (k1.any (i := 1) rfl rfl) (.cons (k1.any (i := 0) rfl rfl) .nil))))))
                  have k2 := k1.lst fL d8
                  have k3 : TwoKept K (hole H c) c tA _ o2 ts _ _ := ⟨k2.s, k2.at_, k2.li, k2.ne, dps_same (hole_mono (hole_mono (same_new fL))) d8⟩
                  refine ⟨.ref c, rfl, c, 7, o2, rfl, by decide, by decide, k3.at_, ho2, fun j o3 hj ho3 => ?_⟩
                  obtain ⟨v', hv'⟩ : ∃ v', ([.int (-1), .bl false, .non, .str "0", .int p.2, .ref q1, .ref q2] : List V)[j]? = some v' := ⟨_, List.getElem?_eq_getElem hj⟩
                  obtain ⟨d', hd', _⟩ := dps_get k3.d hv'
                  have hm := List.mem_of_getElem? hd'
                  simp only [List.mem_cons, List.not_mem_nil, or_false] at hm
                  have hqL : qL ≠ c := fun e => by rw [e] at fL; exact nomatch (show (none : Option HO) = some o2 from fL.symm.trans k1.at_)
                  refine ⟨qL, _, (j : Int), v', rfl, rfl, SqL.of (by rw [upd_ne hqL]; exact upd_same), atI_nat hv', .int p.2, rfl, two, fun q3 f3 => ?_⟩
                  have k9 := (k2.sip (o' := o3)).tup f3 (.cons ((k3.sip (o' := o3)).any hv' hd') (.cons (.int p.2) .nil))
                  have hit : sm (.tuple [d', .int (p.2 : Int)]) = true ∧ isPair n (.tuple [d', .int (p.2 : Int)]) = false := by
                    rcases hm with h | h | h | h | h | h | h <;> subst h
                    · exact ⟨rfl, bad_place (z := .int (-1)) (by simp) rfl⟩
                    · exact ⟨rfl, bad_place (z := .bool false) (by simp) rfl⟩
                    · exact ⟨rfl, bad_place (z := .none) (by simp) rfl⟩
                    · exact ⟨rfl, bad_place (z := .str "0") (by simp) rfl⟩
                    · exact ⟨rfl, bad_order (by omega)⟩
                    · exact ⟨rfl, bad_place (z := .tuple [.int p.1]) (by simp) rfl⟩
                    · exact ⟨rfl, bad_place (z := .list [.int p.1]) (by simp) rfl⟩
                  exact ⟨.ref tA, rfl, .int r, rfl, tA, ts, (r : Int), r, rfl, rfl, k9.li, ixN_nat hr, .int n, rfl, .ref tA, rfl, tA, _, rfl, .inl ⟨SqL.of (k9.set (ys := ts.set r (.ref q3)) nA).li, fun q hq => ⟨two, fun q' hq' => put k9 ho3 (dps_tail (dps_tail (dps_tail (dps_tail k9.d)))) (k9.any (i := 0) rfl rfl) hit.1 hit.2 q hq q' hq'⟩⟩⟩
                · refine ⟨.int p.2, rfl, .int p.1, rfl, two, fun q1 f1 => ?_⟩
                  have k1 := kT.tup f1 (.cons (.int p.2) (.cons (.int p.1) .nil))
                  refine ⟨.int p.1, rfl, .int p.2, rfl, two, fun q2 f2 => ?_⟩
                  have k4 := k1.lst f2 (.cons (.int p.1) (.cons (.int p.2) .nil))
                  refine ⟨.int p.1, rfl, by show 1 ≤ sizeLine; decide, fun q3 f3 => ?_⟩
                  have k5 := k4.tup f3 (.cons (.int p.1) .nil)
                  refine ⟨.int p.1, rfl, .int p.2, rfl, .int p.2, rfl, by show 3 ≤ sizeLine; decide, fun q4 f4 => ?_⟩
                  have k6 := k5.tup f4 (.cons (.int p.1) (.cons (.int p.2) (.cons (.int p.2) .nil)))
                  refine ⟨.int p.1, rfl, Nat.zero_le _, fun q5 f5 => ?_⟩
                  have k7 := k6.tup f5 .nil
                  refine ⟨by show 8 ≤ sizeLine; decide, fun qL fL => ?_⟩
                  have d8 := DpAll.cons (k7.any (i := 4) rfl rfl) (.cons (k7.any (i := 3) rfl rfl) (.cons (k7.any (i := 2) rfl rfl) (.cons (k7.any (i := 1) rfl rfl) (.cons .non (.cons (.int p.1) (.cons (.str "ab") (.cons (k7.any (i := 0) rfl rfl) .nil)))))))
                  have k2 := k7.lst fL d8
                  have k3 : TwoKept K (hole H c) c tA _ o2 ts _ _ := ⟨k2.s, k2.at_, k2.li, k2.ne, dps_same (hole_mono (hole_mono (same_new fL))) d8⟩
                  refine ⟨.ref c, rfl, c, 8, o2, rfl, by decide, by decide, k3.at_, ho2, fun j o3 hj ho3 => ?_⟩
                  obtain ⟨v', hv'⟩ : ∃ v', ([.ref q1, .ref q2, .ref q3, .ref q4, .non, .int p.1, .str "ab", .ref q5] : List V)[j]? = some v' := ⟨_, List.getElem?_eq_getElem hj⟩
                  obtain ⟨d', hd', _⟩ := dps_get k3.d hv'
                  have hm := List.mem_of_getElem? hd'
                  simp only [List.mem_cons, List.not_mem_nil, or_false] at hm
                  have hqL : qL ≠ c := fun e => by rw [e] at fL; exact nomatch (show (none : Option HO) = some o2 from fL.symm.trans k7.at_)
                  have hit : sm d' = true ∧ isPair n d' = false := by
                    rcases hm with h | h | h | h | h | h | h | h <;> subst h
                    · exact ⟨rfl, bad_order (by omega)⟩
                    · exact ⟨rfl, rfl⟩
                    · exact ⟨rfl, bad_size (by simp)⟩
                    · exact ⟨rfl, bad_size (by simp)⟩
                    · exact ⟨rfl, rfl⟩
                    · exact ⟨rfl, rfl⟩
                    · exact ⟨rfl, rfl⟩
                    · exact ⟨rfl, bad_size (by simp)⟩
                  have k9 := k2.sip (o' := o3)
                  exact ⟨qL, _, (j : Int), v', rfl, rfl, SqL.of (by rw [upd_ne hqL]; exact upd_same), atI_nat hv', .ref tA, rfl, .int r, rfl, tA, ts, (r : Int), r, rfl, rfl, k9.li, ixN_nat hr, .int n, rfl, .ref tA, rfl, tA, _, rfl, .inl ⟨SqL.of (k9.set (ys := ts.set r v') nA).li, fun q hq => ⟨two, fun q' hq' => put k9 ho3 (dps_tail (dps_tail (dps_tail (dps_tail (dps_tail (dps_tail k9.d)))))) ((k3.sip (o' := o3)).any hv' hd') hit.1 hit.2 q hq q' hq'⟩⟩⟩
              · rw [show decide ((0 : Int) < (r : Int)) = false from decide_eq_false (fun z => h30 ⟨of_decide_eq_true hc3, by omega⟩)]
                exact iteF hB
end
end Lk02
/-! The sizes of what the law shows. -/
namespace LV
open PySem PySem.Spec PyProof.Rows L2
theorem sub_step {p : Nat × Nat} : ∀ {left : List (Nat × Nat)}, left.Pairwise (fun a b => pLt a b = true) → p ∈ left → (p :: left.filter (pLt p)).Sublist left
  | [], _, h => nomatch h
  | a :: r, hp, h => by
    cases hp with
    | cons ha hr =>
      rcases List.mem_cons.mp h with e | hm
      · subst e
        have e1 : pLt p p = false := by simp [pLt]
        rw [List.filter_cons, e1]
        exact .cons₂ _ List.filter_sublist
      · have lt := ha p hm
        have e1 : pLt p a = false := by
          simp only [pLt, decide_eq_true_eq] at lt
          simp only [pLt, decide_eq_false_iff_not]
          omega
        rw [List.filter_cons, e1]
        exact .cons _ (sub_step hr hm)
theorem tie_mem {t : List Nat} {k : Nat} {left : List (Nat × Nat)} {p : Nat × Nat} (h : tieT t k left = .ok p) : p ∈ left := by
  unfold tieT at h
  split at h
  · cases h
  · split at h
    · rename_i q e
      cases h
      exact (List.mem_filter.mp (List.mem_of_find?_eq_some e)).1
    · cases h
theorem go_small {n : Nat} : ∀ (f : Nat) (t : List Nat) (ties left : List (Nat × Nat)) (i : Nat) {m : Nat} {ps : List (Nat × Nat)}, left.Pairwise (fun a b => pLt a b = true) → (ties ++ left).Sublist (pairsN n) → goT f t n ties left i = .ok (m, ps) → m = n ∧ ps.Sublist (pairsN n)
  | 0, t, ties, left, i, m, ps, hp, hs, h => by
    cases h
    exact ⟨rfl, (List.sublist_append_left _ _).trans hs⟩
  | f + 1, t, ties, left, i, m, ps, hp, hs, h => by
    unfold goT at h
    split at h
    · split at h
      · cases h
      · split at h
        · cases h
        · rename_i p e
          have hm := tie_mem e
          refine go_small f t _ _ _ (hp.sublist List.filter_sublist) ?_ h
          rw [List.append_assoc]
          exact ((List.Sublist.refl ties).append (sub_step hp hm)).trans hs
    · cases h
      exact ⟨rfl, (List.sublist_append_left _ _).trans hs⟩
theorem web_small {t : List Nat} {n : Nat} {ps : List (Nat × Nat)} (h : webT t = .ok (n, ps)) : n ≤ 12 ∧ ps.Sublist (pairsN n) := by
  unfold webT at h
  split at h
  · cases h
  · rename_i m e
    have hm := count_le e
    obtain ⟨e1, e2⟩ := go_small _ _ [] _ _ (pairs_sorted m hm) (List.Sublist.refl _) h
    subst e1
    exact ⟨hm, e2⟩
/-! ### lengths of what is shown -/
theorem tupleText_le (ts : List Str) : (tupleText ts).length ≤ piled ts + 3 := by
  unfold tupleText
  rw [strLen_append, strLen_append]
  have e1 : ("(" : Str).length = 1 := rfl
  have e2 : ((if ts.length == 1 then ",)" else ")" : String) : Str).length ≤ 2 := by
    split
    · exact Nat.le_refl 2
    · exact (show 1 ≤ 2 by decide)
  have e3 : (Str.join ", " ts).length ≤ piled ts := by
    by_cases h : ts = []
    · subst h; exact Nat.zero_le _
    · have := join_length_add ts h
      omega
  rw [e1]
  omega
theorem textFrom_le : ∀ (ts : List Str) (k : Nat) (acc : Str), (textFrom k acc ts).length ≤ acc.length + piled ts
  | [], k, acc => by show acc.length ≤ _; omega
  | t :: r, k, acc => by
    have ih := textFrom_le r (k + 1) (acc ++ (if k > 0 then ", " else "" : String) ++ t)
    rw [strLen_append, strLen_append] at ih
    have e2 : ((if k > 0 then ", " else "" : String) : Str).length ≤ 2 := by
      split
      · exact Nat.le_refl 2
      · exact Nat.zero_le _
    rw [piled_cons]
    show (textFrom (k + 1) (acc ++ (if k > 0 then ", " else "" : String) ++ t) r).length ≤ _
    omega
theorem listText_le (ts : List Str) : (listText ts).length ≤ piled ts + 2 := by
  unfold listText
  rw [strLen_append]
  have := textFrom_le ts 0 "["
  have e1 : ("[" : Str).length = 1 := rfl
  have e2 : ("]" : Str).length = 1 := rfl
  omega
theorem int_len : ∀ i, i < 13 → (PyData.shown (.int (i : Nat))).length ≤ 2 := by
  intro i hi
  simp only [PyData.shown]
  revert i
  decide +kernel
theorem tie_shown {p : Nat × Nat} (h : p.1 < 13 ∧ p.2 < 13) : (PyData.shown (tieD p)).length ≤ 11 := by
  have a1 := int_len p.1 h.1
  have a2 := int_len p.2 h.2
  unfold tieD
  rw [PyData.shown]
  refine Nat.le_trans (tupleText_le _) ?_
  simp only [PyData.shownAll, piled_cons, piled_nil]
  omega
theorem ties_shown : ∀ ps : List (Nat × Nat), (∀ p ∈ ps, p.1 < 13 ∧ p.2 < 13) → piled (PyData.shownAll (ps.map tieD)) ≤ 13 * ps.length
  | [], _ => by simp [PyData.shownAll, piled_nil]
  | p :: r, h => by
    have a1 := tie_shown (h p (.head _))
    have a2 := ties_shown r fun q hq => h q (.tail _ hq)
    simp only [List.map_cons, PyData.shownAll, piled_cons, List.length_cons]
    omega
/-- what may be shown -/
structure Shows (d : PyData) (m : Nat) : Prop where
  sh : d.showable = true
  nd : d.hasDict = false
  dp : d.depth ≤ 12
  ln : d.shown.length ≤ m
theorem ties_sh : ∀ ps : List (Nat × Nat), (∀ p ∈ ps, p.1 < 13 ∧ p.2 < 13) → PyData.showableAll (ps.map tieD) = true ∧ PyData.hasDictAll (ps.map tieD) = false ∧ PyData.depthAll (ps.map tieD) ≤ 1
  | [], _ => ⟨rfl, rfl, Nat.zero_le _⟩
  | p :: r, h => by
    obtain ⟨a1, a2, a3⟩ := ties_sh r fun q hq => h q (.tail _ hq)
    obtain ⟨b1, b2⟩ := h p (.head _)
    have sm : ∀ i, i < 13 → (PyData.showable (.int (i : Nat))) = true := by
      intro i hi
      simp only [PyData.showable, decide_eq_true_eq, Int.natAbs_natCast]
      have := Nat.log2_le_self i
      omega
    have e1 := sm _ b1
    have e2 := sm _ b2
    simp only [PyData.showable] at e1 e2
    refine ⟨?_, ?_, ?_⟩
    · simp only [List.map_cons, PyData.showableAll, tieD, PyData.showable, a1, e1, e2, Bool.and_true]
    · simp only [List.map_cons, PyData.hasDictAll, tieD, PyData.hasDict, a2, Bool.or_false]
    · simp only [List.map_cons, PyData.depthAll, tieD, PyData.depth]
      omega
theorem web_shows {n : Nat} {ps : List (Nat × Nat)} (hn : n ≤ 12) (hs : ps.Sublist (pairsN n)) : Shows (webD n ps) 2000 := by
  have hl : ps.length ≤ 66 := Nat.le_trans hs.length_le (pairs_len n hn)
  have hw : ∀ p ∈ ps, p.1 < 13 ∧ p.2 < 13 := fun p hp => by
    have := pairs_within hn p (hs.subset hp)
    omega
  obtain ⟨a1, a2, a3⟩ := ties_sh ps hw
  have a4 := ties_shown ps hw
  have a5 := int_len n (by omega)
  have e1 : (PyData.showable (.int (n : Nat))) = true := by
    simp only [PyData.showable, decide_eq_true_eq, Int.natAbs_natCast]
    have := Nat.log2_le_self n
    omega
  simp only [PyData.showable] at e1
  refine ⟨?_, ?_, ?_, ?_⟩
  · simp only [webD, PyData.showable, PyData.showableAll, a1, e1, Bool.and_true]
  · simp only [webD, PyData.hasDict, PyData.hasDictAll, a2, Bool.or_false]
  · simp only [webD, PyData.depth, PyData.depthAll]
    omega
  · unfold webD
    rw [PyData.shown]
    refine Nat.le_trans (tupleText_le _) ?_
    have := tupleText_le (PyData.shownAll (ps.map tieD))
    rw [← PyData.shown] at this
    simp only [PyData.shownAll, piled_cons, piled_nil]
    omega
theorem bad_shows {k : Nat} (hk : k ≤ 100000) : Shows (.tuple [.int k, .none]) 100 := by
  have hl : ((k : Int).natAbs).log2 < 1920 := small_nat hk
  have a5 : (PyData.shown (.int (k : Nat))).length ≤ 6 := by
    rw [PyData.shown]
    exact toString_length_le (by omega) (by decide) (by omega)
  refine ⟨?_, ?_, ?_, ?_⟩
  · simp only [PyData.showable, PyData.showableAll, decide_eq_true hl, Bool.and_true]
  · simp only [PyData.hasDict, PyData.hasDictAll, Bool.or_false]
  · simp only [PyData.depth, PyData.depthAll]
    omega
  · rw [PyData.shown]
    refine Nat.le_trans (tupleText_le _) ?_
    have : (PyData.shown .none).length = 4 := rfl
    simp only [PyData.shownAll, piled_cons, piled_nil]
    omega
end LV
/-! A text so many times over. -/
namespace LV
open PySem PySem.Spec PyProof.Rows L2
def repS (x : Str) (n : Nat) : Str := ⟨(List.replicate n x.cps).foldl (· ++ ·) #[]⟩
theorem fold_len (a : Array Nat) : ∀ (n : Nat) (z : Array Nat), ((List.replicate n a).foldl (· ++ ·) z).size = z.size + n * a.size
  | 0, z => by simp
  | n + 1, z => by
    rw [List.replicate_succ, List.foldl_cons, fold_len a n, Array.size_append, Nat.succ_mul]
    omega
theorem repS_len (x : Str) (n : Nat) : (repS x n).length = n * x.length := by
  show (repS x n).cps.size = _
  unfold repS
  rw [fold_len]
  show 0 + n * x.cps.size = n * x.cps.size
  omega
def rMulS : R2 := fun x y H Q => ∃ (i : Str) (k : Int), x = .str i ∧ y = .int k ∧ 1 ≤ i.length ∧ i.length ≤ 100 ∧ 2 ≤ k ∧ k ≤ 100000 ∧ Q (.str (repS i k.toNat)) H
section
variable {X : Cx}
theorem op_mulS : OpR X (binaryOp .Mult) rMulS := by
  intro pins s σ H x y v u Q I rx ry h
  obtain ⟨i, k, rfl, rfl, h1, h2, h3, h4, q⟩ := h
  obtain ⟨t, rfl⟩ := rx
  obtain ⟨t', rfl⟩ := ry
  have nk : ¬ k < 1 := by omega
  have ne : (k == 1 || i.length == 0) = false := by
    rw [Bool.or_eq_false_iff]
    exact ⟨by rw [beq_eq_false_iff_ne]; omega, by rw [beq_eq_false_iff_ne]; omega⟩
  have sz : i.length * k.toNat ≤ 10000000 := by
    have : i.length * k.toNat ≤ 100 * 100000 := Nat.mul_le_mul h2 (by omega)
    omega
  have tl : Builtin.Str.tooLong (i.length * k.toNat) = false := by
    unfold Builtin.Str.tooLong
    rw [decide_eq_false_iff_not, sizeLine_eq]
    omega
  refine PySem.P.mul_str (by
    have a1 : ¬ k < -(2 ^ 63 : Int) := by omega
    have a2 : ¬ k ≥ 2 ^ 63 := by omega
    rw [decide_eq_false a1, decide_eq_false a2]; rfl) (fun _ _ => ?_) (fun _ _ => tl) ?_
  · have : ((2 : Int) ^ 63 - 1) / k ≥ 92233720368547 := by
      refine Int.le_ediv_of_mul_le (by omega) ?_
      have : (92233720368547 : Int) * k ≤ 92233720368547 * 100000 := Int.mul_le_mul_of_nonneg_left h4 (by decide)
      omega
    omega
  · rw [if_neg nk, ne, if_neg Bool.false_ne_true]
    refine ⟨?_, ⟨.str (repS i k.toNat), H, I.tok _, ⟨_, rfl⟩, q⟩⟩
    have e := repS_len i k.toNat
    rw [Nat.mul_comm] at e
    show (repS i k.toNat).length ≤ sizeLine
    rw [e, sizeLine_eq]
    omega
end
end LV
/-! A drawn web is a web; what is shown of it. -/
namespace LV
open PySem PySem.Spec PyProof.Rows L2 Lk02
theorem pair_ok {n : Nat} {p : Nat × Nat} (h : p.1 < p.2 ∧ p.2 < n) : isPair n (tieD p) = true := by
  have e1 : inR 0 ((n : Int) - 1) (.int p.1) = true := by
    show (decide ((0 : Int) ≤ (p.1 : Int)) && decide ((p.1 : Int) ≤ (n : Int) - 1)) = true
    rw [decide_eq_true (by omega), decide_eq_true (by omega)]
    rfl
  have e2 : inR 0 ((n : Int) - 1) (.int p.2) = true := by
    show (decide ((0 : Int) ≤ (p.2 : Int)) && decide ((p.2 : Int) ≤ (n : Int) - 1)) = true
    rw [decide_eq_true (by omega), decide_eq_true (by omega)]
    rfl
  have e3 : ascI [(p.1 : Int), (p.2 : Int)] = true := by
    show (decide ((p.1 : Int) < (p.2 : Int)) && true) = true
    rw [decide_eq_true (by omega)]
    rfl
  show (((inR 0 ((n : Int) - 1) (.int p.1) && (inR 0 ((n : Int) - 1) (.int p.2) && true)) && ascI [(p.1 : Int), (p.2 : Int)]) && decide (2 = 2)) = true
  rw [e1, e2, e3]
  rfl
theorem good_web {n : Nat} {ps : List (Nat × Nat)} (n1 : 1 ≤ n) (n2 : n ≤ 12) (hs : ps.Sublist (pairsN n)) (ht : ∀ p ∈ ps, p.1 < p.2 ∧ p.2 < n) : isWeb (webD n ps) = true := by
  have sorted := (pairs_sorted n n2).sublist hs
  have e1 : inR 1 12 (.int n) = true := by
    show (decide ((1 : Int) ≤ (n : Int)) && decide ((n : Int) ≤ 12)) = true
    rw [decide_eq_true (by omega), decide_eq_true (by omega)]
    rfl
  have e2 : (ps.map tieD).all (isPair n) = true := by
    rw [List.all_eq_true]
    intro x hx
    obtain ⟨p, hp, rfl⟩ := List.mem_map.mp hx
    exact pair_ok (ht p hp)
  have e3 : ascP ((ps.map tieD).map intsOf) = true := by
    unfold ascP
    rw [List.all_eq_true]
    intro i hi
    have hi := List.mem_range.mp hi
    rw [List.length_map, List.length_map] at hi
    have h1 : i + 1 < ps.length := by omega
    have g1 : ps[i]? = some (ps[i]'(by omega)) := List.getElem?_eq_getElem (by omega)
    have g2 : ps[i + 1]? = some ps[i + 1] := List.getElem?_eq_getElem h1
    have f1 : ((ps.map tieD).map intsOf).getD i [] = [((ps[i]'(by omega)).1 : Int), ((ps[i]'(by omega)).2 : Int)] := by
      rw [List.getD_eq_getElem?_getD, List.getElem?_map, List.getElem?_map, g1]
      rfl
    have f2 : ((ps.map tieD).map intsOf).getD (i + 1) [] = [(ps[i + 1].1 : Int), (ps[i + 1].2 : Int)] := by
      rw [List.getD_eq_getElem?_getD, List.getElem?_map, List.getElem?_map, g2]
      rfl
    rw [f1, f2, lex_pair]
    exact List.pairwise_iff_getElem.mp sorted i (i + 1) (by omega) h1 (by omega)
  show (inR 1 12 (.int n) && (true && ((ps.map tieD).all (isPair n) && ascP ((ps.map tieD).map intsOf)))) = true
  rw [e1, e2, e3]
  rfl
theorem sm_web {n : Nat} {ps : List (Nat × Nat)} (h : ps.length ≤ 66) : sm (webD n ps) = true := by
  have e := Lk02.sm_ties h
  show (decide (2 ≤ 100000) && (sm (.int n) && (sm (.tuple (ps.map tieD)) && true))) = true
  rw [e]
  rfl
theorem text_told {n : Nat} {ps : List (Nat × Nat)} (n1 : 1 ≤ n) (n2 : n ≤ 12) (hs : ps.Sublist (pairsN n)) : webT (textS n ps).cps.toList = .ok (n, ps) := by
  rw [text_list]
  exact told_text n1 n2 hs
/-- texts of plain signs -/
theorem text_signs {n : Nat} {ps : List (Nat × Nat)} (n2 : n ≤ 12) (hs : ps.Sublist (pairsN n)) : ∀ c ∈ (textS n ps).cps.toList, c < 200 := by
  rw [text_list]
  have hw : ∀ p ∈ ps, p.1 < 12 ∧ p.2 < 12 := fun p hp => pairs_within n2 p (hs.subset hp)
  have hb : ∀ ps : List (Nat × Nat), (∀ p ∈ ps, p.1 < 12 ∧ p.2 < 12) → ∀ c ∈ bodyT ps, c < 200 := by
    intro ps
    induction ps with
    | nil => intro _ c hc; cases hc
    | cons p r ih =>
      intro h c hc
      have h1 := h p (.head _)
      have ih' := ih fun q hq => h q (.tail _ hq)
      cases r with
      | nil =>
        simp only [bodyT, List.mem_cons, List.not_mem_nil, or_false] at hc
        omega
      | cons q r' =>
        simp only [bodyT, List.mem_cons] at hc
        rcases hc with hc | hc | hc | hc
        · omega
        · omega
        · omega
        · exact ih' c (by simpa [bodyT] using hc)
  intro c hc
  simp only [List.mem_cons] at hc
  rcases hc with hc | hc | hc
  · omega
  · omega
  · exact hb ps hw c hc
theorem texts_show {x : Str} (h : x.length ≤ 1000) (hx : ∀ c ∈ x.cps.toList, c < 200) : Shows (.list [.str x, .str x]) 30000 := by
  have e := StrLaws.reprText_len x fun c hc => Nat.lt_of_lt_of_le (hx c hc) (by decide)
  refine ⟨rfl, rfl, ?_, ?_⟩
  · simp only [PyData.depth, PyData.depthAll]
    omega
  · rw [PyData.shown]
    refine Nat.le_trans (listText_le _) ?_
    simp only [PyData.shownAll, PyData.shown, piled_cons, piled_nil]
    omega
/-- the law's answer may be shown -/
theorem tie_k {t : List Nat} {i k : Nat} {left : List (Nat × Nat)} (h : tieT t i left = .bad k) : k ≤ i + 1 := by
  unfold tieT at h
  split at h
  · cases h; omega
  · split at h
    · cases h
    · cases h; omega
theorem go_k {n : Nat} : ∀ (f : Nat) (t : List Nat) (ties left : List (Nat × Nat)) (i : Nat) {k : Nat}, goT f t n ties left i = .bad k → k ≤ t.length + 2
  | 0, t, ties, left, i, k, h => by cases h
  | f + 1, t, ties, left, i, k, h => by
    unfold goT at h
    split at h
    · rename_i hi
      split at h
      · cases h; omega
      · split at h
        · rename_i k' e
          cases h
          have := tie_k e
          split at this <;> omega
        · exact go_k f t _ _ _ h
    · cases h
theorem count_k {t : List Nat} {k : Nat} (h : countT t = .bad k) : k ≤ 1 := by
  unfold countT at h
  split at h
  · cases h; omega
  · split at h
    · split at h
      · cases h
      · cases h; omega
    · cases h; omega
theorem told_k {t : List Nat} {k : Nat} (h : webT t = .bad k) : k ≤ t.length + 2 := by
  unfold webT at h
  split at h
  · rename_i k' e
    cases h
    have := count_k e
    omega
  · exact go_k _ _ _ _ _ h
theorem ties_depth : ∀ ps : List (Nat × Nat), PyData.depthAll (ps.map tieD) ≤ 1
  | [] => Nat.zero_le _
  | p :: r => by
    have ih := ties_depth r
    simp only [List.map_cons, PyData.depthAll, tieD, PyData.depth]
    omega
theorem web_depth (n : Nat) (ps : List (Nat × Nat)) : PyData.depth (webD n ps) ≤ 3 := by
  have := ties_depth ps
  exact Nat.succ_le_succ (Nat.max_le.mpr ⟨Nat.zero_le _, Nat.max_le.mpr ⟨Nat.succ_le_succ this, Nat.zero_le _⟩⟩)
theorem res_shows {t : List Nat} (h : t.length ≤ 90000) : Shows (resD (webT t)) 3000 := by
  cases e : webT t with
  | bad k =>
    have := told_k e
    obtain ⟨a, b, c, d⟩ := bad_shows (k := k) (by omega)
    exact ⟨a, b, c, Nat.le_trans d (by decide)⟩
  | ok r =>
    obtain ⟨n, ps⟩ := r
    obtain ⟨n2, hs⟩ := web_small e
    obtain ⟨a, b, c, d⟩ := web_shows n2 hs
    refine ⟨?_, ?_, ?_, ?_⟩
    · show (true && (PyData.showable (webD n ps) && true)) = true
      rw [a]; rfl
    · show (false || (PyData.hasDict (webD n ps) || false)) = false
      rw [b]; rfl
    · have := web_depth n ps
      exact Nat.le_trans (Nat.succ_le_succ (Nat.max_le.mpr ⟨Nat.zero_le _, Nat.max_le.mpr ⟨this, Nat.zero_le _⟩⟩)) (by decide)
    · show (PyData.shown (.tuple [.none, webD n ps])).length ≤ 3000
      rw [PyData.shown]
      refine Nat.le_trans (tupleText_le _) ?_
      have e4 : (PyData.shown .none).length = 4 := rfl
      rw [show PyData.shownAll [.none, webD n ps] = [PyData.shown .none, PyData.shown (webD n ps)] from rfl, piled_cons, piled_cons, piled_nil]
      omega
end LV
/-! The law itself. -/
namespace LV
open PySem PySem.Spec PyProof.Rows L2
theorem CupKept.grow {K : PySem.W.Frag} {G H H' : Hp} {c : Addr} {o : HO} {vs : List V} {ds : List PyData} (k : CupKept K G c H o vs ds) (s : Same H H') : CupKept K G c H' o vs ds :=
  ⟨k.s.trans s, s _ _ k.at_, dps_same (hole_mono s) k.d⟩
theorem same_to_hole {H : Hp} {c : Addr} (h : H c = none) : Same H (hole H c) := fun a o e => by
  have hac : a ≠ c := fun z => by rw [z, h] at e; cases e
  rw [hole_ne hac]
  exact e
theorem same_hole_up {H H' : Hp} {c : Addr} (s : Same (hole H c) H') : Same (hole H c) (hole H' c) := same_hole s
theorem ne_of_none' {H : Hp} {c p : Addr} {o : HO} (hc : H c = some o) (hp : H p = none) : p ≠ c := fun e => by rw [e, hc] at hp; cases hp
theorem ne_self {x : V} : (!decide (x = x)) = false := by rw [decide_eq_true rfl]; rfl
theorem at_new {H : Hp} {p : Addr} {o : HO} : upd H p o p = some o := upd_same
theorem cut_ints (ns : List Int) (lo hi : Option Int) : ∀ x ∈ cutV (ns.map V.int) lo hi, ∃ j, x = V.int j := fun x hx => by
  unfold cutV at hx
  obtain ⟨j, _, rfl⟩ := List.mem_map.mp (List.mem_of_mem_drop (List.mem_of_mem_take hx))
  exact ⟨j, rfl⟩
theorem shown_ne {K : PySem.W.Frag} {d : PyData} : (!PyData.eqv d d) = !PyData.eqv d d := rfl
theorem web_shaped {n : Nat} {ps : List (Nat × Nat)} : SeqAt.shaped (webD n ps) = true := by
  have c1 : ∀ ps : List (Nat × Nat), PyData.canLayAll0 (ps.map tieD) = true := fun ps => by
    induction ps with
    | nil => rfl
    | cons p r ih => simp only [List.map_cons, PyData.canLayAll0, tieD, PyData.canLay0, ih, Bool.and_true]
  have c2 : ∀ ps : List (Nat × Nat), PyData.depthAll (ps.map tieD) ≤ 1 := fun ps => by
    induction ps with
    | nil => exact Nat.zero_le _
    | cons p r ih =>
      simp only [List.map_cons, PyData.depthAll, tieD, PyData.depth]
      omega
  have := c2 ps
  unfold SeqAt.shaped
  rw [Bool.and_eq_true, decide_eq_true_eq]
  refine ⟨?_, ?_⟩
  · simp only [webD, PyData.canLay0, PyData.canLayAll0, c1, Bool.and_true]
  · simp only [webD, PyData.depth, PyData.depthAll]
    omega
theorem web_eqv {n : Nat} {ps : List (Nat × Nat)} : (!PyData.eqv (webD n ps) (webD n ps)) = false := by
  have h := web_shaped (n := n) (ps := ps)
  rw [SeqAt.eqv_refl _ (SeqAt.canLay_of_shaped h)]
  rfl
end LV
namespace Lk02
open PySem PySem.Spec PyProof.Rows L2 LV
def spLaw (K : PySem.W.Frag) : Sp := fun vs H Q _ => ∃ (a : Addr) (ns : List Int), vs = [.ref a] ∧ SqL K H a (ns.map V.int) ∧ ∀ H', Q (.bl true) H'
section
variable {P : Program} {w : World} {K : PySem.W.Frag} {mg : Str → Option Value} {base : Heap}
theorem run_law {f C fI CI : Addr} {fd : FuncData} (F : Fun K "law" "law" s_law f fd) (mR : mg "repr" = none) (m2 : mg "len" = none)
    (Ocup : Ok P w K mg base CX0 1 "_law_cup" ["_law_cell"] spCup) (Osip : Ok P w K mg base CX0 1 "_law_sip" ["_law_cup_here", "_law_many"] spSip) (Oweb : Ok P w K mg base CX0 2 "_law_web" ["_law_cup_here", "_law_many"] (spWebL K))
    (Owr : Ok P w K mg base CX0 1 "_law_written" ["_law_web_here"] (spWritten K)) (Otext : Ok P w K mg base (L2.CX P w) 8 "web_text" ["web"] (spText K C)) (Otold : Ok P w K mg base (L2.CX P w) 5 "web_told" ["text"] (spTold K CI))
    (Obent : Ok P w K mg base CX0 2 "_law_bent" ["_law_cup_here", "_law_text"] spBent) (OtoldL : Ok P w K mg base (L2.CX P w) 6 "_law_told" ["_law_value"] (spToldL K)) (Oread : Ok P w K mg base (L2.CX P w) 2 "_law_read" ["_law_text"] (spRead K))
    (Oref : Ok P w K mg base (L2.CX P w) 9 "_law_refused" ["_law_value"] (spRefused K)) (Obad : Ok P w K mg base CX0 2 "_law_bad_web" ["_law_cup_here", "_law_web_here"] (spBadWeb K)) :
    RunsG P w K mg base (L2.CX P w) 10 f fd ["_law_script"] (spLaw K) := by
  refine runsG F sc_law fun cdv A outer s H vs Q E g0 hr h => ?_
  obtain ⟨a, ns, rfl, hs, h⟩ := h
  have px := passes_call (X := cxOf (L2.CX P w) P w K mg base n_law "law" (defScope s_law) f cdv A outer s H E) (E := E) (takes_of rfl rfl rfl rfl) (fun _ _ _ _ h => h)
  have hu : (A.deeper (envOfC "law" (defScope s_law) s.heap.objs.size f cdv)).units + 64 < cLine := by have := hr.un; omega
  refine ⟨_, pss_cons (ps_for (passes_of rfl) rfl (pi_list (pe_op op_cat (pe_lst (pa_cons pe_int pa_nil)) (pe_slice sl_list (pv 0) po_none (po_some pe_int)))) (pg_name (i := 1) sc_law.nd rfl (.inl rfl))
      (pss_cons (ps_set (i := 2) sc_law.nd rfl (.inl rfl) (pe_ok Ocup hr pass0 (pa_cons (pv 1) pa_nil)))
      (pss_cons (ps_set (i := 3) sc_law.nd rfl (.inl rfl) (pe_ok Oweb hr pass0 (pa_cons (pv 2) (pa_cons (pe_op op_add pe_int (pe_ok Osip hr pass0 (pa_cons (pv 2) (pa_cons (pe_ix ix_list (pe_lst (pa_cons pe_int (pa_cons pe_int pa_nil))) (pe_ok Osip hr pass0 (pa_cons (pv 2) (pa_cons pe_int pa_nil))) (fun _ _ => rfl)) pa_nil)))) pa_nil))))
      (pss_cons (ps_set (i := 4) sc_law.nd rfl (.inl rfl) (pe_ok Owr hr pass0 (pa_cons (pv 3) pa_nil)))
      (pss_cons (ps_if (PW.pt (pw_or (pt_cmpR op_ne (pe_b mR (call_repr g0 hu) (pa_cons (pe_lst (pa_cons (pe_ok Otext hr (E := E) px (pa_cons (pv 3) pa_nil)) (pa_cons (pe_kw1 Otext hr (E := fun _ => E) (fun σ pins H s e s' => px pins σ H s e s') (pk_cons (pv 3) pk_nil)) pa_nil))) pa_nil)) (pe_b mR (call_repr g0 hu) (pa_cons (pe_lst (pa_cons (pv 4) (pa_cons (pv 4) pa_nil))) pa_nil)) (nomark _))
          (pw_or1 (pt_cmpR (op_neD hu) (pe_ok Otold hr (E := E) px (pa_cons (pe_ok Otext hr (E := E) px (pa_cons (pv 3) pa_nil)) pa_nil)) (pv 3) (nomark _))))) (pss_one (ps_ret pe_bl)) pss_nil)
      (pss_cons (ps_set (i := 5) sc_law.nd rfl (.inl rfl) (pe_lst (pa_cons pe_str (pa_cons pe_str (pa_cons pe_str (pa_cons pe_str (pa_cons pe_str (pa_cons pe_str (pa_cons pe_str (pa_cons pe_str (pa_cons pe_str (pa_cons pe_str (pa_cons pe_str (pa_cons pe_str (pa_cons pe_str (pa_cons (pe_op op_add_str (pv 4) pe_str) pa_nil))))))))))))))))
      (pss_cons (ps_set (i := 5) sc_law.nd rfl (.inl rfl) (pe_op op_cat (pv 5) (pe_lst (pa_cons (pe_op op_add_str (pv 4) pe_str) (pa_cons (pe_op op_mulS pe_str pe_int) (pa_cons (pe_op op_add_str pe_str (pe_op op_mulS pe_str pe_int)) (pa_cons pe_str (pa_cons (pe_slice sl_str (pv 4) po_none (po_some (pe_ok Osip hr pass0 (pa_cons (pv 2) (pa_cons (pe_op op_add (pe_b m2 call_len_str (pa_cons (pv 4) pa_nil)) pe_int) pa_nil))))) pa_nil))))))))
      (pss_cons (ps_for (passes_of rfl) rfl (pi_list (pe_lst (pa_cons (pv 4) (pa_cons (pe_ok Obent hr pass0 (pa_cons (pv 2) (pa_cons (pv 4) pa_nil))) (pa_cons (pe_ok Obent hr pass0 (pa_cons (pv 2) (pa_cons (pv 4) pa_nil))) (pa_cons (pe_ix ix_list (pv 5) (pe_ok Osip hr pass0 (pa_cons (pv 2) (pa_cons pe_int pa_nil))) (fun _ _ => rfl)) pa_nil)))))) (pg_name (i := 6) sc_law.nd rfl (.inl rfl))
        (pss_one (ps_if (pt_cmpR op_ne (pe_b mR (call_repr g0 hu) (pa_cons (pe_ok OtoldL hr (E := E) px (pa_cons (pv 6) pa_nil)) pa_nil)) (pe_b mR (call_repr g0 hu) (pa_cons (pe_ok Oread hr (E := E) px (pa_cons (pv 6) pa_nil)) pa_nil)) (nomark _)) (pss_one (ps_ret pe_bl)) pss_nil)))
      (pss_cons (ps_for (passes_of rfl) rfl (pi_list (pe_lst (pa_cons pe_non (pa_cons pe_int (pa_cons (pe_tup (pa_cons pe_str pa_nil)) (pa_cons (pe_lst (pa_cons pe_str pa_nil)) (pa_cons pe_bl pa_nil))))))) (pg_name (i := 6) sc_law.nd rfl (.inl rfl))
        (pss_one (ps_if (pt_cmpR op_ne (pe_b mR (call_repr g0 hu) (pa_cons (pe_ok OtoldL hr (E := E) px (pa_cons (pv 6) pa_nil)) pa_nil)) pe_str (nomark _)) (pss_one (ps_ret pe_bl)) pss_nil)))
      (pss_one (ps_if (PW.pt (pw_or (pt_cmpR op_ne (pe_b mR (call_repr g0 hu) (pa_cons (pe_ok Otold hr (E := E) px (pa_cons (pv 4) pa_nil)) pa_nil)) (pe_b mR (call_repr g0 hu) (pa_cons (pv 3) pa_nil)) (nomark _))
          (pw_or1 (pt_cmpR op_ne (pe_ok Oref hr (E := E) px (pa_cons (pe_ok Obad hr pass0 (pa_cons (pv 2) (pa_cons (pv 3) pa_nil))) pa_nil)) pe_str (nomark _))))) (pss_one (ps_ret pe_bl)) pss_nil)))))))))))
    (pss_one (ps_ret pe_bl)), ?_⟩
  refine ⟨by show 1 ≤ sizeLine; decide, fun l1 e1 => ⟨.ref a, rfl, 5, rfl, a, ns.map V.int, rfl, (same_new e1).seq hs, fun l2 e2 => ?_⟩⟩
  have ne12 : l1 ≠ l2 := ne_of_none upd_same e2
  have c5 : (cutV (ns.map V.int) none (some 5)).length ≤ 63 := by
    unfold cutV
    rw [List.length_take, HT.sIx_none, show (some (5 : Int)) = some ((5 : Nat) : Int) from rfl, HT.sIx_nat]
    omega
  refine ⟨l1, l2, _, _, rfl, rfl, by rw [upd_ne ne12]; exact upd_same, upd_same, ?_, fun l3 e3 => ⟨l3, rfl, ⟨_, SqL.of upd_same⟩, ?_⟩⟩
  · rw [List.length_singleton, sizeLine_eq]
    omega
  have hall : ∀ x ∈ [V.int 4762516445758568670000000000000000000000199506173041506172842] ++ cutV (ns.map V.int) none (some 5), ∃ j, x = V.int j := fun x hx => by
    rcases List.mem_append.mp hx with hx | hx
    · exact ⟨_, List.mem_singleton.mp hx⟩
    · exact cut_ints _ _ _ x hx
  generalize [V.int 4762516445758568670000000000000000000000199506173041506172842] ++ cutV (ns.map V.int) none (some 5) = cells at *
  have hl3 : (upd (upd (upd H l1 (.lst [V.int 4762516445758568670000000000000000000000199506173041506172842])) l2 (.lst (cutV (ns.map V.int) none (some 5)))) l3 (.lst cells)) l3 = some (.lst cells) := upd_same
  generalize upd (upd (upd H l1 _) l2 _) l3 _ = H1 at *
  refine for_it (walk_list (K := K) (a := l3) (xs := cells)) (fun i σ' H' => ∃ b c d e f g, σ' = [some (.ref a), b, c, d, e, f, g] ∧ Same H1 H') ⟨none, none, none, none, none, none, rfl, Same.refl _⟩ (fun i σ' H' _ p => by obtain ⟨b, c, d, e, f, g, _, s⟩ := p; exact s.seq (SqL.of hl3)) (fun i x σ' H9 H2 hi p y => ?_) fun σ' H' p => ?_
  · obtain ⟨rfl, ex⟩ := y
    obtain ⟨b, c, d, e, f, g, rfl, s1⟩ := p
    obtain ⟨j, rfl⟩ := hall x (List.mem_of_getElem? ex)
    refine ⟨.int j, rfl, j, rfl, fun c o hc ho => ?_⟩
    have back : ∀ {H' : Hp}, Same (hole H2 c) H' → Same H1 H' := fun s => s1.trans ((same_to_hole hc).trans s)
    have k0 : CupKept K (hole H2 c) c (upd H2 c o) o [] [] := ⟨same_upd hole_same hole_at, upd_same, .nil⟩
    generalize upd H2 c o = H3 at *
    refine ⟨.ref c, rfl, .ref c, rfl, by show 2 ≤ sizeLine; decide, fun q1 f1 => ⟨.ref c, rfl, c, 2, o, rfl, by decide, by decide, same_new f1 _ _ k0.at_, ho, fun r1 o1 hr1 ho1 => ?_⟩⟩
    have hq1 : q1 ≠ c := ne_of_none' k0.at_ f1
    have k1 := (k0.lst f1 (.cons (.int 5) (.cons (.int 12) .nil))).sip (o' := o1)
    have hl1 : (upd (upd H3 q1 (.lst [.int 5, .int 12])) c o1) q1 = some (.lst [.int 5, .int 12]) := by rw [upd_ne hq1]; exact upd_same
    generalize upd (upd H3 q1 _) c o1 = H4 at *
    obtain ⟨m, hm, hm1, hm2⟩ : ∃ m : Nat, ([.int 5, .int 12] : List V)[r1]? = some (.int m) ∧ 1 ≤ m ∧ m ≤ 12 := by
      rcases (show r1 = 0 ∨ r1 = 1 by omega) with h | h <;> subst h
      · exact ⟨5, rfl, by decide, by decide⟩
      · exact ⟨12, rfl, by decide, by decide⟩
    refine ⟨q1, _, r1, .int m, rfl, rfl, SqL.of hl1, atI_nat hm, c, m, o1, rfl, hm1, by omega, k1.at_, ho1, fun r2 o2 hr2 ho2 => ⟨_, _, rfl, rfl, ?_⟩⟩
    have k2 := k1.sip (o' := o2)
    generalize upd H4 c o2 = H5 at *
    refine ⟨c, 1 + r2, o2, by rw [Int.natCast_add]; rfl, by omega, by omega, k2.at_, ho2, fun H6 o3 wv ps s6 hc6 ho3 hd6 hs6 => ?_⟩
    generalize hn : 1 + r2 = n at *
    have n1 : 1 ≤ n := by omega
    have n2 : n ≤ 12 := by omega
    have k3 : CupKept K (hole H2 c) c H6 o3 [wv] [webD n ps] := ⟨(same_hole_up k2.s).trans s6, hc6, .cons hd6 .nil⟩
    have plen : ps.length ≤ 66 := Nat.le_trans hs6.length_le (pairs_len n n2)
    have pw : Within' n ps := fun p hp => by have := tie_lt (hs6.subset hp); omega
    refine ⟨wv, rfl, wv, n, ps, rfl, dp_same hole_same hd6, n1, n2, plen, pw, fun H7 s7 => ?_⟩
    have k4 := k3.grow s7
    have D7 : ∀ {H' : Hp} {o' : HO}, CupKept K (hole H2 c) c H' o' [wv] [webD n ps] → Dp K H' wv (webD n ps) := fun k => dp_same hole_same (k.any (i := 0) rfl rfl)
    have tl : (textS n ps).length ≤ 1000 := text_len plen
    have tg : ∀ c ∈ (textS n ps).cps.toList, c < 200 := text_signs n2 hs6
    have tws := text_told n1 n2 hs6
    have wok : isWeb (webD n ps) = true := good_web n1 n2 hs6 (fun p hp => tie_lt (hs6.subset hp))
    have wsm := sm_web (n := n) plen
    have wno : ∀ {A : Prop}, isWeb (webD n ps) = false → A := fun e => by rw [wok] at e; cases e
    have sz := texts_show tl tg
    have big : ∀ {m : Nat}, m ≤ 100000 → m ≤ sizeLine := fun h => line_100000 h
    refine ⟨wv, rfl, wv, webD n ps, rfl, D7 k4, wsm, wno, fun _ => ⟨n, ps, rfl, n1, n2, plen, pw, fun H8 s8 => ⟨join_small plen, wv, rfl, rfl, wv, webD n ps, rfl, D7 (k4.grow s8), wsm, wno, fun _ => ⟨n, ps, rfl, n1, n2, plen, pw, fun H9 s9 => ⟨join_small plen, by show 2 ≤ sizeLine; decide, fun l hl => ?_⟩⟩⟩⟩⟩
    have k5 := (k4.grow s8).grow s9
    refine ⟨.ref l, .list [.str (textS n ps), .str (textS n ps)], rfl, .lst (SqL.of upd_same) (.cons (.str _) (.cons (.str _) .nil)), sz.sh, sz.nd, Nat.le_trans sz.dp (by decide), big (Nat.le_trans sz.ln (by decide)), ?_⟩
    have k6 := k5.grow (same_new (o := .lst [.str (textS n ps), .str (textS n ps)]) hl)
    generalize upd H9 l _ = H10 at *
    refine ⟨.str (textS n ps), rfl, .str (textS n ps), rfl, by show 2 ≤ sizeLine; decide, fun l' hl' => ⟨.ref l', .list [.str (textS n ps), .str (textS n ps)], rfl, .lst (SqL.of upd_same) (.cons (.str _) (.cons (.str _) .nil)), sz.sh, sz.nd, Nat.le_trans sz.dp (by decide), big (Nat.le_trans sz.ln (by decide)), ?_⟩⟩
    have k7 := k6.grow (same_new (o := .lst [.str (textS n ps), .str (textS n ps)]) hl')
    generalize upd H10 l' _ = H11 at *
    refine ⟨rfl, _, rfl, ?_⟩
    rw [ne_self]
    refine iteF ⟨wv, rfl, wv, webD n ps, rfl, D7 k7, wsm, wno, fun _ => ⟨n, ps, rfl, n1, n2, plen, pw, fun H12 s12 => ⟨join_small plen, _, .str (textS n ps), rfl, .str _, Nat.le_trans tl (by decide), ?_⟩⟩⟩
    rw [tws]
    refine fun H13 v13 s13 hd13 => ⟨wv, rfl, webD n ps, webD n ps, hd13, D7 ((k7.grow s12).grow s13), web_shaped, web_shaped, _, rfl, ?_⟩
    rw [web_eqv]
    have k8 := (k7.grow s12).grow s13
    refine iteF ?_
    -- the odd texts
    refine ⟨.str (textS n ps), rfl, _, _, rfl, rfl, by rw [sizeLine_eq]; exact Nat.le_trans (Nat.add_le_add_right tl 1) (by decide), by show 14 ≤ sizeLine; decide, fun p1 g1 => ?_⟩
    have hp1 := at_new (H := H13) (p := p1) (o := .lst [.str "", .str "a", .str "a:", .str "a:a", .str "m:", .str "c", .str "c:", .str "c:bc,", .str "c:ab,ab", .str "c:ba", .str "c:aa", .str "b:ab,", .str "l:kl,", .str (textS n ps ++ ",")])
    have k9 := k8.grow (same_new (o := .lst [.str "", .str "a", .str "a:", .str "a:a", .str "m:", .str "c", .str "c:", .str "c:bc,", .str "c:ab,ab", .str "c:ba", .str "c:aa", .str "b:ab,", .str "l:kl,", .str (textS n ps ++ ",")]) g1)
    generalize upd H13 p1 _ = H14 at *
    have n1c : p1 ≠ c := ne_of_none' k8.at_ g1
    refine ⟨.ref p1, rfl, .str (textS n ps), rfl, _, _, rfl, rfl, by rw [sizeLine_eq]; exact Nat.le_trans (Nat.add_le_add_right tl 1) (by decide), _, 20000, rfl, rfl, by decide, by decide, by decide, by decide, _, 6600, rfl, rfl, by decide, by decide, by decide, by decide, _, _, rfl, rfl, ?_, .str (textS n ps), rfl, .ref c, rfl, .str (textS n ps), rfl, _, rfl, big (Nat.le_trans tl (by decide)), _, _, rfl, rfl, c, (textS n ps).length + 1, o3, by rw [Int.natCast_add]; rfl, by omega, by omega, k9.at_, ho3, fun r3 o4 hr3 ho4 => ?_⟩
    · rw [repS_len, sizeLine_eq]
      decide
    have k10 := k9.sip (o' := o4)
    have hp1' : (upd H14 c o4) p1 = _ := (upd_ne n1c).trans hp1
    generalize upd H14 c o4 = H15 at *
    refine ⟨_, rfl, _, rfl, big (Nat.le_trans tl (by decide)), by show 5 ≤ sizeLine; decide, fun p2 g2 => ⟨p1, p2, _, _, rfl, rfl, same_new g2 _ _ hp1', upd_same, by show 19 ≤ sizeLine; decide, fun p3 g3 => ?_⟩⟩
    obtain ⟨five, h5⟩ : ∃ five, five = [V.str (textS n ps ++ "\n"), .str (repS "c" (Int.toNat 20000)), .str ("l:" ++ repS "ab," (Int.toNat 6600)), .str "c:ab,bc,ac", .str (cutS (textS n ps) none (some (r3 : Int)))] := ⟨_, rfl⟩
    obtain ⟨ften, h14⟩ : ∃ ften, ften = [V.str "", .str "a", .str "a:", .str "a:a", .str "m:", .str "c", .str "c:", .str "c:bc,", .str "c:ab,ab", .str "c:ba", .str "c:aa", .str "b:ab,", .str "l:kl,", .str (textS n ps ++ ",")] := ⟨_, rfl⟩
    rw [← h5] at g3 ⊢
    rw [← h14]
    obtain ⟨odd, hodd⟩ : ∃ odd, odd = ften ++ five := ⟨_, rfl⟩
    rw [← hodd]
    have ho19 : odd.length = 19 := by rw [hodd, h14, h5]; rfl
    have hoall : ∀ v ∈ odd, ∃ y : Str, v = .str y ∧ y.length ≤ 90000 := by
      have c1 := cutS_length (textS n ps) none (some (r3 : Int))
      have a1 : (textS n ps ++ "," : Str).length ≤ 90000 := by
        rw [str_len]
        exact Nat.le_trans (Nat.add_le_add_right tl 1) (by decide)
      have a2 : (textS n ps ++ "\n" : Str).length ≤ 90000 := by
        rw [str_len]
        exact Nat.le_trans (Nat.add_le_add_right tl 1) (by decide)
      have a3 : (repS "c" (Int.toNat 20000)).length ≤ 90000 := by
        rw [repS_len]
        decide
      have a4 : ("l:" ++ repS "ab," (Int.toNat 6600) : Str).length ≤ 90000 := by
        rw [str_len, repS_len]
        decide
      have a5 : (cutS (textS n ps) none (some (r3 : Int))).length ≤ 90000 := by omega
      intro v hv
      rw [hodd, h14, h5] at hv
      simp only [List.cons_append, List.nil_append, List.mem_cons, List.not_mem_nil, or_false] at hv
      rcases hv with h | h | h | h | h | h | h | h | h | h | h | h | h | h | h | h | h | h | h
      · exact ⟨_, h, by decide⟩
      · exact ⟨_, h, by decide⟩
      · exact ⟨_, h, by decide⟩
      · exact ⟨_, h, by decide⟩
      · exact ⟨_, h, by decide⟩
      · exact ⟨_, h, by decide⟩
      · exact ⟨_, h, by decide⟩
      · exact ⟨_, h, by decide⟩
      · exact ⟨_, h, by decide⟩
      · exact ⟨_, h, by decide⟩
      · exact ⟨_, h, by decide⟩
      · exact ⟨_, h, by decide⟩
      · exact ⟨_, h, by decide⟩
      · exact ⟨_, h, a1⟩
      · exact ⟨_, h, a2⟩
      · exact ⟨_, h, a3⟩
      · exact ⟨_, h, a4⟩
      · exact ⟨_, h, by decide⟩
      · exact ⟨_, h, a5⟩
    have k11 := (k10.grow (same_new (o := .lst five) g2)).grow (same_new (o := .lst odd) g3)
    have n3c : p3 ≠ c := ne_of_none' (k10.grow (same_new (o := .lst five) g2)).at_ g3
    have hp3 := at_new (H := upd H15 p2 (.lst five)) (p := p3) (o := .lst odd)
    generalize upd (upd H15 p2 (.lst five)) p3 (.lst odd) = H16 at *
    clear hodd h5 h14
    refine ⟨.str (textS n ps), rfl, .ref c, rfl, .str (textS n ps), rfl, c, textS n ps, o4, rfl, tl, k11.at_, ho4, fun o5 z1 ho5 hz1 => ⟨.ref c, rfl, .str (textS n ps), rfl, c, textS n ps, o5, rfl, tl, upd_same, ho5, fun o6 z2 ho6 hz2 => ?_⟩⟩
    have k12 := (k11.sip (o' := o5)).sip (o' := o6)
    have hp3' : (upd (upd H16 c o5) c o6) p3 = some (.lst odd) := by rw [upd_ne n3c, upd_ne n3c]; exact hp3
    generalize upd (upd H16 c o5) c o6 = H17 at *
    refine ⟨.ref p3, rfl, .ref c, rfl, c, 19, o6, rfl, by decide, by decide, k12.at_, ho6, fun r7 o7 hr7 ho7 => ?_⟩
    have k13 := k12.sip (o' := o7)
    have hp3'' : (upd H17 c o7) p3 = some (.lst odd) := by rw [upd_ne n3c]; exact hp3'
    generalize upd H17 c o7 = H18 at *
    obtain ⟨ov, hov⟩ : ∃ ov, odd[r7]? = some ov := ⟨_, List.getElem?_eq_getElem (by omega)⟩
    obtain ⟨oz, rfl, hoz⟩ := hoall ov (List.mem_of_getElem? hov)
    refine ⟨p3, odd, r7, _, rfl, rfl, SqL.of hp3'', atI_nat hov, by show 4 ≤ sizeLine; decide, fun lv g4 => ⟨lv, rfl, ⟨_, SqL.of upd_same⟩, ?_⟩⟩
    have hvals : ∀ v ∈ [V.str (textS n ps), .str z1, .str z2, .str oz], ∃ y : Str, v = .str y ∧ y.length ≤ 90000 := by
      intro v hv
      simp only [List.mem_cons, List.not_mem_nil, or_false] at hv
      rcases hv with h | h | h | h
      · exact ⟨_, h, Nat.le_trans tl (by decide)⟩
      · exact ⟨_, h, Nat.le_trans hz1 (by decide)⟩
      · exact ⟨_, h, Nat.le_trans hz2 (by decide)⟩
      · exact ⟨_, h, hoz⟩
    obtain ⟨vals, hvs⟩ : ∃ vals, vals = [V.str (textS n ps), .str z1, .str z2, .str oz] := ⟨_, rfl⟩
    rw [← hvs] at hvals ⊢
    have hlv := at_new (H := H18) (p := lv) (o := .lst vals)
    have k14 := k13.grow (same_new (o := .lst vals) g4)
    generalize upd H18 lv (.lst vals) = H19 at *
    clear hvs
    refine for_it (walk_list (K := K) (a := lv) (xs := vals)) (fun i σ' H' => ∃ v, σ' = [some (.ref a), some (.int j), some (.ref c), some wv, some (.str (textS n ps)), some (.ref p3), v] ∧ Same H19 H') ⟨_, rfl, Same.refl _⟩ (fun i σ' H' _ p => by obtain ⟨v, _, s⟩ := p; exact s.seq (SqL.of hlv)) (fun i x σ' H20 H21 hi p y => ?_) fun σ' H' p => ?_
    · obtain ⟨rfl, ex'⟩ := y
      obtain ⟨v0, rfl, s21⟩ := p
      obtain ⟨y, rfl, hy⟩ := hvals x (List.mem_of_getElem? ex')
      have rs := res_shows (t := y.cps.toList) (Nat.le_trans (Nat.le_of_eq rfl) hy)
      refine ⟨.str y, rfl, .str y, .str y, rfl, .str y, fun z e => by cases e; exact hy, fun H22 v22 s22 hd22 => ⟨v22, _, rfl, hd22, rs.sh, rs.nd, Nat.le_trans rs.dp (by decide), big (Nat.le_trans rs.ln (by decide)), .str y, rfl, y, rfl, hy, fun H23 v23 s23 hd23 => ⟨v23, _, rfl, hd23, rs.sh, rs.nd, Nat.le_trans rs.dp (by decide), big (Nat.le_trans rs.ln (by decide)), ?_⟩⟩⟩
      refine ⟨rfl, _, rfl, ?_⟩
      rw [show toldD (.str y) = webT y.cps.toList from rfl, ne_self]
      exact iteF ⟨_, rfl, (s21.trans s22).trans s23⟩
    · obtain ⟨v0, rfl, s22⟩ := p
      have k15 := k14.grow s22
      refine ⟨by show 1 ≤ sizeLine; decide, fun t1 x1 => ⟨by show 1 ≤ sizeLine; decide, fun t2 x2 => ⟨by show 5 ≤ sizeLine; decide, fun t3 x3 => ⟨t3, rfl, ⟨_, SqL.of upd_same⟩, ?_⟩⟩⟩⟩
      have b1 := (same_new (o := .lst [.str "a:"]) x2).trans (same_new (o := .lst [.non, .int 7, .ref t1, .ref t2, .bl true]) x3)
      have b2 := same_new (o := .lst [.non, .int 7, .ref t1, .ref t2, .bl true]) x3
      have D5 := DpAll.cons (K := K) (.non) (.cons (.int 7) (.cons (dp_same b1 (.tup (.inl (.inl upd_same)) (.cons (.str "a:") .nil))) (.cons (dp_same b2 (.lst (SqL.of upd_same) (.cons (.str "a:") .nil))) (.cons (.bl true) .nil))))
      have k16 := ((k15.grow (same_new (o := .tup [.str "a:"]) x1)).grow b1)
      have hl5 := at_new (H := upd (upd H' t1 (.tup [.str "a:"])) t2 (.lst [.str "a:"])) (p := t3) (o := .lst [.non, .int 7, .ref t1, .ref t2, .bl true])
      generalize upd (upd (upd H' t1 (.tup [.str "a:"])) t2 (.lst [.str "a:"])) t3 (.lst [.non, .int 7, .ref t1, .ref t2, .bl true]) = H24 at *
      refine for_it (walk_list (K := K) (a := t3) (xs := [.non, .int 7, .ref t1, .ref t2, .bl true])) (fun i σ' H' => ∃ v, σ' = [some (.ref a), some (.int j), some (.ref c), some wv, some (.str (textS n ps)), some (.ref p3), v] ∧ Same H24 H') ⟨_, rfl, Same.refl _⟩ (fun i σ' H' _ p => by obtain ⟨v, _, s⟩ := p; exact s.seq (SqL.of hl5)) (fun i x σ' H25 H26 hi p y => ?_) fun σ' H' p => ?_
      · obtain ⟨rfl, ex'⟩ := y
        obtain ⟨v0, rfl, s26⟩ := p
        obtain ⟨d, ed, hd⟩ := dps_get D5 ex'
        have hb : toldD d = .bad 0 ∧ ∀ z, d ≠ .str z := by
          have hm := List.mem_of_getElem? ed
          simp only [List.mem_cons, List.not_mem_nil, or_false] at hm
          rcases hm with h | h | h | h | h <;> subst h <;> exact ⟨rfl, fun z e => by cases e⟩
        have rs := bad_shows (k := 0) (by decide)
        refine ⟨x, rfl, x, d, rfl, dp_same s26 hd, fun z e => absurd e (hb.2 z), fun H27 v27 s27 hd27 => ?_⟩
        rw [hb.1] at hd27
        refine ⟨v27, _, rfl, hd27, rs.sh, rs.nd, Nat.le_trans rs.dp (by decide), big (Nat.le_trans rs.ln (by decide)), ?_⟩
        refine ⟨rfl, _, rfl, ?_⟩
        rw [show PyData.shown (resD (.bad 0)) = ("(0, None)" : Str) from by decide +kernel, ne_self]
        exact iteF ⟨_, rfl, s26.trans s27⟩
      · obtain ⟨v0, rfl, s28⟩ := p
        have k17 := k16.grow s28
        have ws := web_shows n2 hs6
        refine ⟨.str (textS n ps), rfl, _, .str (textS n ps), rfl, .str _, Nat.le_trans tl (by decide), ?_⟩
        rw [tws]
        refine fun H29 v29 s29 hd29 => ⟨v29, _, rfl, hd29, ws.sh, ws.nd, Nat.le_trans ws.dp (by decide), big (Nat.le_trans ws.ln (by decide)), wv, rfl, wv, _, rfl, D7 (k17.grow s29), ws.sh, ws.nd, Nat.le_trans ws.dp (by decide), big (Nat.le_trans ws.ln (by decide)), ?_⟩
        refine ⟨rfl, _, rfl, ?_⟩
        rw [ne_self]
        have k18 := k17.grow s29
        refine iteF ⟨.ref c, rfl, wv, rfl, c, wv, n, ps, o7, rfl, k18.any (i := 0) rfl rfl, n1, n2, hs6, k18.at_, ho7, fun H30 o8 v30 d30 s30 hc30 ho8 hd30 sm30 nw30 => ⟨v30, d30, rfl, dp_same hole_same hd30, sm30, nw30, fun H31 s31 => ⟨rfl, _, rfl, ?_⟩⟩⟩
        rw [ne_self]
        refine iteF ⟨_, _, _, _, _, _, rfl, back ?_⟩
        exact (same_hole_up k18.s).trans (s30.trans s31)
  · exact h _
end
end Lk02
/-! Where the defs stand. -/
namespace Lk02
open PySem PySem.Spec PyProof.Rows L2 LV
theorem dn_is_int {K : PySem.W.Frag} {h : Heap} {mg : Str → Option Value} {f : Addr} {od an : Option Addr} {sl : Array (Option Value)} {oc kV dc pm cd ct : Value} (X : K.In h) (G : h.Ns mainGlobals mg) (a : PySem.W.nsIn K mainGlobals "is_int" = some (some (.ref f)))
    (l : K.lookup f = some ⟨oc, od, .func (PySem.W.fnOf "is_int" "is_int" (defArgs s_is_int) (defBody s_is_int) (defScope s_is_int) .none kV dc pm an cd ct), sl⟩) (c : PySem.W.codeIn K cd "is_int" = true) (k : PySem.W.keepIn K (.ref f) = true) : Dn K mg "is_int" s_is_int ["value"] := by
  have F := fun_mk (st := s_is_int) l c k
  exact ⟨f, _, F, PySem.W.mg_of X G a, F.binds (ps := ["value"]) fun _ _ _ _ _ _ us hl => match us, hl with | [_], _ => rfl, fun s us _ hl => match us, hl with | [_], _ => .of_eq rfl⟩
theorem dn_is_text {K : PySem.W.Frag} {h : Heap} {mg : Str → Option Value} {f : Addr} {od an : Option Addr} {sl : Array (Option Value)} {oc kV dc pm cd ct : Value} (X : K.In h) (G : h.Ns mainGlobals mg) (a : PySem.W.nsIn K mainGlobals "is_text" = some (some (.ref f)))
    (l : K.lookup f = some ⟨oc, od, .func (PySem.W.fnOf "is_text" "is_text" (defArgs s_is_text) (defBody s_is_text) (defScope s_is_text) .none kV dc pm an cd ct), sl⟩) (c : PySem.W.codeIn K cd "is_text" = true) (k : PySem.W.keepIn K (.ref f) = true) : Dn K mg "is_text" s_is_text ["value"] := by
  have F := fun_mk (st := s_is_text) l c k
  exact ⟨f, _, F, PySem.W.mg_of X G a, F.binds (ps := ["value"]) fun _ _ _ _ _ _ us hl => match us, hl with | [_], _ => rfl, fun s us _ hl => match us, hl with | [_], _ => .of_eq rfl⟩
theorem dn_is_tuple {K : PySem.W.Frag} {h : Heap} {mg : Str → Option Value} {f : Addr} {od an : Option Addr} {sl : Array (Option Value)} {oc kV dc pm cd ct : Value} (X : K.In h) (G : h.Ns mainGlobals mg) (a : PySem.W.nsIn K mainGlobals "is_tuple" = some (some (.ref f)))
    (l : K.lookup f = some ⟨oc, od, .func (PySem.W.fnOf "is_tuple" "is_tuple" (defArgs s_is_tuple) (defBody s_is_tuple) (defScope s_is_tuple) .none kV dc pm an cd ct), sl⟩) (c : PySem.W.codeIn K cd "is_tuple" = true) (k : PySem.W.keepIn K (.ref f) = true) : Dn K mg "is_tuple" s_is_tuple ["value"] := by
  have F := fun_mk (st := s_is_tuple) l c k
  exact ⟨f, _, F, PySem.W.mg_of X G a, F.binds (ps := ["value"]) fun _ _ _ _ _ _ us hl => match us, hl with | [_], _ => rfl, fun s us _ hl => match us, hl with | [_], _ => .of_eq rfl⟩
theorem dn_is_within {K : PySem.W.Frag} {h : Heap} {mg : Str → Option Value} {f : Addr} {od an : Option Addr} {sl : Array (Option Value)} {oc kV dc pm cd ct : Value} (X : K.In h) (G : h.Ns mainGlobals mg) (a : PySem.W.nsIn K mainGlobals "is_within" = some (some (.ref f)))
    (l : K.lookup f = some ⟨oc, od, .func (PySem.W.fnOf "is_within" "is_within" (defArgs s_is_within) (defBody s_is_within) (defScope s_is_within) .none kV dc pm an cd ct), sl⟩) (c : PySem.W.codeIn K cd "is_within" = true) (k : PySem.W.keepIn K (.ref f) = true) : Dn K mg "is_within" s_is_within ["value", "low", "high"] := by
  have F := fun_mk (st := s_is_within) l c k
  exact ⟨f, _, F, PySem.W.mg_of X G a, F.binds (ps := ["value", "low", "high"]) fun _ _ _ _ _ _ us hl => match us, hl with | [_, _, _], _ => rfl, fun s us _ hl => match us, hl with | [_, _, _], _ => .of_eq rfl⟩
theorem dn_is_ascending {K : PySem.W.Frag} {h : Heap} {mg : Str → Option Value} {f : Addr} {od an : Option Addr} {sl : Array (Option Value)} {oc kV dc pm cd ct : Value} (X : K.In h) (G : h.Ns mainGlobals mg) (a : PySem.W.nsIn K mainGlobals "is_ascending" = some (some (.ref f)))
    (l : K.lookup f = some ⟨oc, od, .func (PySem.W.fnOf "is_ascending" "is_ascending" (defArgs s_is_ascending) (defBody s_is_ascending) (defScope s_is_ascending) .none kV dc pm an cd ct), sl⟩) (c : PySem.W.codeIn K cd "is_ascending" = true) (k : PySem.W.keepIn K (.ref f) = true) : Dn K mg "is_ascending" s_is_ascending ["values"] := by
  have F := fun_mk (st := s_is_ascending) l c k
  exact ⟨f, _, F, PySem.W.mg_of X G a, F.binds (ps := ["values"]) fun _ _ _ _ _ _ us hl => match us, hl with | [_], _ => rfl, fun s us _ hl => match us, hl with | [_], _ => .of_eq rfl⟩
theorem dn_is_places {K : PySem.W.Frag} {h : Heap} {mg : Str → Option Value} {f : Addr} {od an : Option Addr} {sl : Array (Option Value)} {oc kV dc pm cd ct : Value} (X : K.In h) (G : h.Ns mainGlobals mg) (a : PySem.W.nsIn K mainGlobals "is_places" = some (some (.ref f)))
    (l : K.lookup f = some ⟨oc, od, .func (PySem.W.fnOf "is_places" "is_places" (defArgs s_is_places) (defBody s_is_places) (defScope s_is_places) .none kV dc pm an cd ct), sl⟩) (c : PySem.W.codeIn K cd "is_places" = true) (k : PySem.W.keepIn K (.ref f) = true) : Dn K mg "is_places" s_is_places ["count", "value"] := by
  have F := fun_mk (st := s_is_places) l c k
  exact ⟨f, _, F, PySem.W.mg_of X G a, F.binds (ps := ["count", "value"]) fun _ _ _ _ _ _ us hl => match us, hl with | [_, _], _ => rfl, fun s us _ hl => match us, hl with | [_, _], _ => .of_eq rfl⟩
theorem dn_is_lot_form {K : PySem.W.Frag} {h : Heap} {mg : Str → Option Value} {f : Addr} {od an : Option Addr} {sl : Array (Option Value)} {oc kV dc pm cd ct : Value} (X : K.In h) (G : h.Ns mainGlobals mg) (a : PySem.W.nsIn K mainGlobals "is_lot_form" = some (some (.ref f)))
    (l : K.lookup f = some ⟨oc, od, .func (PySem.W.fnOf "is_lot_form" "is_lot_form" (defArgs s_is_lot_form) (defBody s_is_lot_form) (defScope s_is_lot_form) .none kV dc pm an cd ct), sl⟩) (c : PySem.W.codeIn K cd "is_lot_form" = true) (k : PySem.W.keepIn K (.ref f) = true) : Dn K mg "is_lot_form" s_is_lot_form ["count", "value"] := by
  have F := fun_mk (st := s_is_lot_form) l c k
  exact ⟨f, _, F, PySem.W.mg_of X G a, F.binds (ps := ["count", "value"]) fun _ _ _ _ _ _ us hl => match us, hl with | [_, _], _ => rfl, fun s us _ hl => match us, hl with | [_, _], _ => .of_eq rfl⟩
theorem dn_is_pair_form {K : PySem.W.Frag} {h : Heap} {mg : Str → Option Value} {f : Addr} {od an : Option Addr} {sl : Array (Option Value)} {oc kV dc pm cd ct : Value} (X : K.In h) (G : h.Ns mainGlobals mg) (a : PySem.W.nsIn K mainGlobals "is_pair_form" = some (some (.ref f)))
    (l : K.lookup f = some ⟨oc, od, .func (PySem.W.fnOf "is_pair_form" "is_pair_form" (defArgs s_is_pair_form) (defBody s_is_pair_form) (defScope s_is_pair_form) .none kV dc pm an cd ct), sl⟩) (c : PySem.W.codeIn K cd "is_pair_form" = true) (k : PySem.W.keepIn K (.ref f) = true) : Dn K mg "is_pair_form" s_is_pair_form ["count", "value"] := by
  have F := fun_mk (st := s_is_pair_form) l c k
  exact ⟨f, _, F, PySem.W.mg_of X G a, F.binds (ps := ["count", "value"]) fun _ _ _ _ _ _ us hl => match us, hl with | [_, _], _ => rfl, fun s us _ hl => match us, hl with | [_, _], _ => .of_eq rfl⟩
theorem dn_is_web_form {K : PySem.W.Frag} {h : Heap} {mg : Str → Option Value} {f : Addr} {od an : Option Addr} {sl : Array (Option Value)} {oc kV dc pm cd ct : Value} (X : K.In h) (G : h.Ns mainGlobals mg) (a : PySem.W.nsIn K mainGlobals "is_web_form" = some (some (.ref f)))
    (l : K.lookup f = some ⟨oc, od, .func (PySem.W.fnOf "is_web_form" "is_web_form" (defArgs s_is_web_form) (defBody s_is_web_form) (defScope s_is_web_form) .none kV dc pm an cd ct), sl⟩) (c : PySem.W.codeIn K cd "is_web_form" = true) (k : PySem.W.keepIn K (.ref f) = true) : Dn K mg "is_web_form" s_is_web_form ["value"] := by
  have F := fun_mk (st := s_is_web_form) l c k
  exact ⟨f, _, F, PySem.W.mg_of X G a, F.binds (ps := ["value"]) fun _ _ _ _ _ _ us hl => match us, hl with | [_], _ => rfl, fun s us _ hl => match us, hl with | [_], _ => .of_eq rfl⟩
theorem dn_check_web {K : PySem.W.Frag} {h : Heap} {mg : Str → Option Value} {f : Addr} {od an : Option Addr} {sl : Array (Option Value)} {oc kV dc pm cd ct : Value} (X : K.In h) (G : h.Ns mainGlobals mg) (a : PySem.W.nsIn K mainGlobals "check_web" = some (some (.ref f)))
    (l : K.lookup f = some ⟨oc, od, .func (PySem.W.fnOf "check_web" "check_web" (defArgs s_check_web) (defBody s_check_web) (defScope s_check_web) .none kV dc pm an cd ct), sl⟩) (c : PySem.W.codeIn K cd "check_web" = true) (k : PySem.W.keepIn K (.ref f) = true) : Dn K mg "check_web" s_check_web ["web"] := by
  have F := fun_mk (st := s_check_web) l c k
  exact ⟨f, _, F, PySem.W.mg_of X G a, F.binds (ps := ["web"]) fun _ _ _ _ _ _ us hl => match us, hl with | [_], _ => rfl, fun s us _ hl => match us, hl with | [_], _ => .of_eq rfl⟩
theorem dn_web_text {K : PySem.W.Frag} {h : Heap} {mg : Str → Option Value} {f : Addr} {od an : Option Addr} {sl : Array (Option Value)} {oc kV dc pm cd ct : Value} (X : K.In h) (G : h.Ns mainGlobals mg) (a : PySem.W.nsIn K mainGlobals "web_text" = some (some (.ref f)))
    (l : K.lookup f = some ⟨oc, od, .func (PySem.W.fnOf "web_text" "web_text" (defArgs s_web_text) (defBody s_web_text) (defScope s_web_text) .none kV dc pm an cd ct), sl⟩) (c : PySem.W.codeIn K cd "web_text" = true) (k : PySem.W.keepIn K (.ref f) = true) : Dn K mg "web_text" s_web_text ["web"] := by
  have F := fun_mk (st := s_web_text) l c k
  exact ⟨f, _, F, PySem.W.mg_of X G a, F.binds (ps := ["web"]) fun _ _ _ _ _ _ us hl => match us, hl with | [_], _ => rfl, fun s us _ hl => match us, hl with | [_], _ => .of_eq rfl⟩
theorem dn_web_told {K : PySem.W.Frag} {h : Heap} {mg : Str → Option Value} {f : Addr} {od an : Option Addr} {sl : Array (Option Value)} {oc kV dc pm cd ct : Value} (X : K.In h) (G : h.Ns mainGlobals mg) (a : PySem.W.nsIn K mainGlobals "web_told" = some (some (.ref f)))
    (l : K.lookup f = some ⟨oc, od, .func (PySem.W.fnOf "web_told" "web_told" (defArgs s_web_told) (defBody s_web_told) (defScope s_web_told) .none kV dc pm an cd ct), sl⟩) (c : PySem.W.codeIn K cd "web_told" = true) (k : PySem.W.keepIn K (.ref f) = true) : Dn K mg "web_told" s_web_told ["text"] := by
  have F := fun_mk (st := s_web_told) l c k
  exact ⟨f, _, F, PySem.W.mg_of X G a, F.binds (ps := ["text"]) fun _ _ _ _ _ _ us hl => match us, hl with | [_], _ => rfl, fun s us _ hl => match us, hl with | [_], _ => .of_eq rfl⟩
theorem dn_web_told_at {K : PySem.W.Frag} {h : Heap} {mg : Str → Option Value} {f : Addr} {od an : Option Addr} {sl : Array (Option Value)} {oc kV dc pm cd ct : Value} (X : K.In h) (G : h.Ns mainGlobals mg) (a : PySem.W.nsIn K mainGlobals "web_told_at" = some (some (.ref f)))
    (l : K.lookup f = some ⟨oc, od, .func (PySem.W.fnOf "web_told_at" "web_told_at" (defArgs s_web_told_at) (defBody s_web_told_at) (defScope s_web_told_at) .none kV dc pm an cd ct), sl⟩) (c : PySem.W.codeIn K cd "web_told_at" = true) (k : PySem.W.keepIn K (.ref f) = true) : Dn K mg "web_told_at" s_web_told_at ["text", "at", "least"] := by
  have F := fun_mk (st := s_web_told_at) l c k
  exact ⟨f, _, F, PySem.W.mg_of X G a, F.binds (ps := ["text", "at", "least"]) fun _ _ _ _ _ _ us hl => match us, hl with | [_, _, _], _ => rfl, fun s us _ hl => match us, hl with | [_, _, _], _ => .of_eq rfl⟩
theorem dn_pairs_told {K : PySem.W.Frag} {h : Heap} {mg : Str → Option Value} {f : Addr} {od an : Option Addr} {sl : Array (Option Value)} {oc kV dc pm cd ct : Value} (X : K.In h) (G : h.Ns mainGlobals mg) (a : PySem.W.nsIn K mainGlobals "pairs_told" = some (some (.ref f)))
    (l : K.lookup f = some ⟨oc, od, .func (PySem.W.fnOf "pairs_told" "pairs_told" (defArgs s_pairs_told) (defBody s_pairs_told) (defScope s_pairs_told) .none kV dc pm an cd ct), sl⟩) (c : PySem.W.codeIn K cd "pairs_told" = true) (k : PySem.W.keepIn K (.ref f) = true) : Dn K mg "pairs_told" s_pairs_told ["text", "at", "count"] := by
  have F := fun_mk (st := s_pairs_told) l c k
  exact ⟨f, _, F, PySem.W.mg_of X G a, F.binds (ps := ["text", "at", "count"]) fun _ _ _ _ _ _ us hl => match us, hl with | [_, _, _], _ => rfl, fun s us _ hl => match us, hl with | [_, _, _], _ => .of_eq rfl⟩
theorem dn_tie_told {K : PySem.W.Frag} {h : Heap} {mg : Str → Option Value} {f : Addr} {od an : Option Addr} {sl : Array (Option Value)} {oc kV dc pm cd ct : Value} (X : K.In h) (G : h.Ns mainGlobals mg) (a : PySem.W.nsIn K mainGlobals "tie_told" = some (some (.ref f)))
    (l : K.lookup f = some ⟨oc, od, .func (PySem.W.fnOf "tie_told" "tie_told" (defArgs s_tie_told) (defBody s_tie_told) (defScope s_tie_told) .none kV dc pm an cd ct), sl⟩) (c : PySem.W.codeIn K cd "tie_told" = true) (k : PySem.W.keepIn K (.ref f) = true) : Dn K mg "tie_told" s_tie_told ["text", "at", "left"] := by
  have F := fun_mk (st := s_tie_told) l c k
  exact ⟨f, _, F, PySem.W.mg_of X G a, F.binds (ps := ["text", "at", "left"]) fun _ _ _ _ _ _ us hl => match us, hl with | [_, _, _], _ => rfl, fun s us _ hl => match us, hl with | [_, _, _], _ => .of_eq rfl⟩
theorem dn_all_pairs {K : PySem.W.Frag} {h : Heap} {mg : Str → Option Value} {f : Addr} {od an : Option Addr} {sl : Array (Option Value)} {oc kV dc pm cd ct : Value} (X : K.In h) (G : h.Ns mainGlobals mg) (a : PySem.W.nsIn K mainGlobals "all_pairs" = some (some (.ref f)))
    (l : K.lookup f = some ⟨oc, od, .func (PySem.W.fnOf "all_pairs" "all_pairs" (defArgs s_all_pairs) (defBody s_all_pairs) (defScope s_all_pairs) .none kV dc pm an cd ct), sl⟩) (c : PySem.W.codeIn K cd "all_pairs" = true) (k : PySem.W.keepIn K (.ref f) = true) : Dn K mg "all_pairs" s_all_pairs ["count"] := by
  have F := fun_mk (st := s_all_pairs) l c k
  exact ⟨f, _, F, PySem.W.mg_of X G a, F.binds (ps := ["count"]) fun _ _ _ _ _ _ us hl => match us, hl with | [_], _ => rfl, fun s us _ hl => match us, hl with | [_], _ => .of_eq rfl⟩
theorem dn__law_cup {K : PySem.W.Frag} {h : Heap} {mg : Str → Option Value} {f : Addr} {od an : Option Addr} {sl : Array (Option Value)} {oc kV dc pm cd ct : Value} (X : K.In h) (G : h.Ns mainGlobals mg) (a : PySem.W.nsIn K mainGlobals "_law_cup" = some (some (.ref f)))
    (l : K.lookup f = some ⟨oc, od, .func (PySem.W.fnOf "_law_cup" "_law_cup" (defArgs s__law_cup) (defBody s__law_cup) (defScope s__law_cup) .none kV dc pm an cd ct), sl⟩) (c : PySem.W.codeIn K cd "_law_cup" = true) (k : PySem.W.keepIn K (.ref f) = true) : Dn K mg "_law_cup" s__law_cup ["_law_cell"] := by
  have F := fun_mk (st := s__law_cup) l c k
  exact ⟨f, _, F, PySem.W.mg_of X G a, F.binds (ps := ["_law_cell"]) fun _ _ _ _ _ _ us hl => match us, hl with | [_], _ => rfl, fun s us _ hl => match us, hl with | [_], _ => .of_eq rfl⟩
theorem dn__law_sip {K : PySem.W.Frag} {h : Heap} {mg : Str → Option Value} {f : Addr} {od an : Option Addr} {sl : Array (Option Value)} {oc kV dc pm cd ct : Value} (X : K.In h) (G : h.Ns mainGlobals mg) (a : PySem.W.nsIn K mainGlobals "_law_sip" = some (some (.ref f)))
    (l : K.lookup f = some ⟨oc, od, .func (PySem.W.fnOf "_law_sip" "_law_sip" (defArgs s__law_sip) (defBody s__law_sip) (defScope s__law_sip) .none kV dc pm an cd ct), sl⟩) (c : PySem.W.codeIn K cd "_law_sip" = true) (k : PySem.W.keepIn K (.ref f) = true) : Dn K mg "_law_sip" s__law_sip ["_law_cup_here", "_law_many"] := by
  have F := fun_mk (st := s__law_sip) l c k
  exact ⟨f, _, F, PySem.W.mg_of X G a, F.binds (ps := ["_law_cup_here", "_law_many"]) fun _ _ _ _ _ _ us hl => match us, hl with | [_, _], _ => rfl, fun s us _ hl => match us, hl with | [_, _], _ => .of_eq rfl⟩
theorem dn__law_web {K : PySem.W.Frag} {h : Heap} {mg : Str → Option Value} {f : Addr} {od an : Option Addr} {sl : Array (Option Value)} {oc kV dc pm cd ct : Value} (X : K.In h) (G : h.Ns mainGlobals mg) (a : PySem.W.nsIn K mainGlobals "_law_web" = some (some (.ref f)))
    (l : K.lookup f = some ⟨oc, od, .func (PySem.W.fnOf "_law_web" "_law_web" (defArgs s__law_web) (defBody s__law_web) (defScope s__law_web) .none kV dc pm an cd ct), sl⟩) (c : PySem.W.codeIn K cd "_law_web" = true) (k : PySem.W.keepIn K (.ref f) = true) : Dn K mg "_law_web" s__law_web ["_law_cup_here", "_law_many"] := by
  have F := fun_mk (st := s__law_web) l c k
  exact ⟨f, _, F, PySem.W.mg_of X G a, F.binds (ps := ["_law_cup_here", "_law_many"]) fun _ _ _ _ _ _ us hl => match us, hl with | [_, _], _ => rfl, fun s us _ hl => match us, hl with | [_, _], _ => .of_eq rfl⟩
theorem dn__law_bad_web {K : PySem.W.Frag} {h : Heap} {mg : Str → Option Value} {f : Addr} {od an : Option Addr} {sl : Array (Option Value)} {oc kV dc pm cd ct : Value} (X : K.In h) (G : h.Ns mainGlobals mg) (a : PySem.W.nsIn K mainGlobals "_law_bad_web" = some (some (.ref f)))
    (l : K.lookup f = some ⟨oc, od, .func (PySem.W.fnOf "_law_bad_web" "_law_bad_web" (defArgs s__law_bad_web) (defBody s__law_bad_web) (defScope s__law_bad_web) .none kV dc pm an cd ct), sl⟩) (c : PySem.W.codeIn K cd "_law_bad_web" = true) (k : PySem.W.keepIn K (.ref f) = true) : Dn K mg "_law_bad_web" s__law_bad_web ["_law_cup_here", "_law_web_here"] := by
  have F := fun_mk (st := s__law_bad_web) l c k
  exact ⟨f, _, F, PySem.W.mg_of X G a, F.binds (ps := ["_law_cup_here", "_law_web_here"]) fun _ _ _ _ _ _ us hl => match us, hl with | [_, _], _ => rfl, fun s us _ hl => match us, hl with | [_, _], _ => .of_eq rfl⟩
theorem dn__law_ahead {K : PySem.W.Frag} {h : Heap} {mg : Str → Option Value} {f : Addr} {od an : Option Addr} {sl : Array (Option Value)} {oc kV dc pm cd ct : Value} (X : K.In h) (G : h.Ns mainGlobals mg) (a : PySem.W.nsIn K mainGlobals "_law_ahead" = some (some (.ref f)))
    (l : K.lookup f = some ⟨oc, od, .func (PySem.W.fnOf "_law_ahead" "_law_ahead" (defArgs s__law_ahead) (defBody s__law_ahead) (defScope s__law_ahead) .none kV dc pm an cd ct), sl⟩) (c : PySem.W.codeIn K cd "_law_ahead" = true) (k : PySem.W.keepIn K (.ref f) = true) : Dn K mg "_law_ahead" s__law_ahead ["_law_many", "_law_ties", "_law_first"] := by
  have F := fun_mk (st := s__law_ahead) l c k
  exact ⟨f, _, F, PySem.W.mg_of X G a, F.binds (ps := ["_law_many", "_law_ties", "_law_first"]) fun _ _ _ _ _ _ us hl => match us, hl with | [_, _, _], _ => rfl, fun s us _ hl => match us, hl with | [_, _, _], _ => .of_eq rfl⟩
theorem dn__law_read {K : PySem.W.Frag} {h : Heap} {mg : Str → Option Value} {f : Addr} {od an : Option Addr} {sl : Array (Option Value)} {oc kV dc pm cd ct : Value} (X : K.In h) (G : h.Ns mainGlobals mg) (a : PySem.W.nsIn K mainGlobals "_law_read" = some (some (.ref f)))
    (l : K.lookup f = some ⟨oc, od, .func (PySem.W.fnOf "_law_read" "_law_read" (defArgs s__law_read) (defBody s__law_read) (defScope s__law_read) .none kV dc pm an cd ct), sl⟩) (c : PySem.W.codeIn K cd "_law_read" = true) (k : PySem.W.keepIn K (.ref f) = true) : Dn K mg "_law_read" s__law_read ["_law_text"] := by
  have F := fun_mk (st := s__law_read) l c k
  exact ⟨f, _, F, PySem.W.mg_of X G a, F.binds (ps := ["_law_text"]) fun _ _ _ _ _ _ us hl => match us, hl with | [_], _ => rfl, fun s us _ hl => match us, hl with | [_], _ => .of_eq rfl⟩
theorem dn__law_written {K : PySem.W.Frag} {h : Heap} {mg : Str → Option Value} {f : Addr} {od an : Option Addr} {sl : Array (Option Value)} {oc kV dc pm cd ct : Value} (X : K.In h) (G : h.Ns mainGlobals mg) (a : PySem.W.nsIn K mainGlobals "_law_written" = some (some (.ref f)))
    (l : K.lookup f = some ⟨oc, od, .func (PySem.W.fnOf "_law_written" "_law_written" (defArgs s__law_written) (defBody s__law_written) (defScope s__law_written) .none kV dc pm an cd ct), sl⟩) (c : PySem.W.codeIn K cd "_law_written" = true) (k : PySem.W.keepIn K (.ref f) = true) : Dn K mg "_law_written" s__law_written ["_law_web_here"] := by
  have F := fun_mk (st := s__law_written) l c k
  exact ⟨f, _, F, PySem.W.mg_of X G a, F.binds (ps := ["_law_web_here"]) fun _ _ _ _ _ _ us hl => match us, hl with | [_], _ => rfl, fun s us _ hl => match us, hl with | [_], _ => .of_eq rfl⟩
theorem dn__law_bent {K : PySem.W.Frag} {h : Heap} {mg : Str → Option Value} {f : Addr} {od an : Option Addr} {sl : Array (Option Value)} {oc kV dc pm cd ct : Value} (X : K.In h) (G : h.Ns mainGlobals mg) (a : PySem.W.nsIn K mainGlobals "_law_bent" = some (some (.ref f)))
    (l : K.lookup f = some ⟨oc, od, .func (PySem.W.fnOf "_law_bent" "_law_bent" (defArgs s__law_bent) (defBody s__law_bent) (defScope s__law_bent) .none kV dc pm an cd ct), sl⟩) (c : PySem.W.codeIn K cd "_law_bent" = true) (k : PySem.W.keepIn K (.ref f) = true) : Dn K mg "_law_bent" s__law_bent ["_law_cup_here", "_law_text"] := by
  have F := fun_mk (st := s__law_bent) l c k
  exact ⟨f, _, F, PySem.W.mg_of X G a, F.binds (ps := ["_law_cup_here", "_law_text"]) fun _ _ _ _ _ _ us hl => match us, hl with | [_, _], _ => rfl, fun s us _ hl => match us, hl with | [_, _], _ => .of_eq rfl⟩
theorem dn__law_told {K : PySem.W.Frag} {h : Heap} {mg : Str → Option Value} {f : Addr} {od an : Option Addr} {sl : Array (Option Value)} {oc kV dc pm cd ct : Value} (X : K.In h) (G : h.Ns mainGlobals mg) (a : PySem.W.nsIn K mainGlobals "_law_told" = some (some (.ref f)))
    (l : K.lookup f = some ⟨oc, od, .func (PySem.W.fnOf "_law_told" "_law_told" (defArgs s__law_told) (defBody s__law_told) (defScope s__law_told) .none kV dc pm an cd ct), sl⟩) (c : PySem.W.codeIn K cd "_law_told" = true) (k : PySem.W.keepIn K (.ref f) = true) : Dn K mg "_law_told" s__law_told ["_law_value"] := by
  have F := fun_mk (st := s__law_told) l c k
  exact ⟨f, _, F, PySem.W.mg_of X G a, F.binds (ps := ["_law_value"]) fun _ _ _ _ _ _ us hl => match us, hl with | [_], _ => rfl, fun s us _ hl => match us, hl with | [_], _ => .of_eq rfl⟩
theorem dn__law_refused {K : PySem.W.Frag} {h : Heap} {mg : Str → Option Value} {f : Addr} {od an : Option Addr} {sl : Array (Option Value)} {oc kV dc pm cd ct : Value} (X : K.In h) (G : h.Ns mainGlobals mg) (a : PySem.W.nsIn K mainGlobals "_law_refused" = some (some (.ref f)))
    (l : K.lookup f = some ⟨oc, od, .func (PySem.W.fnOf "_law_refused" "_law_refused" (defArgs s__law_refused) (defBody s__law_refused) (defScope s__law_refused) .none kV dc pm an cd ct), sl⟩) (c : PySem.W.codeIn K cd "_law_refused" = true) (k : PySem.W.keepIn K (.ref f) = true) : Dn K mg "_law_refused" s__law_refused ["_law_value"] := by
  have F := fun_mk (st := s__law_refused) l c k
  exact ⟨f, _, F, PySem.W.mg_of X G a, F.binds (ps := ["_law_value"]) fun _ _ _ _ _ _ us hl => match us, hl with | [_], _ => rfl, fun s us _ hl => match us, hl with | [_], _ => .of_eq rfl⟩
end Lk02
/-! All defs together: the law's own call. -/
namespace Lk02
open PySem PySem.Spec PyProof.Rows L2 LV
theorem exm_self {K : PySem.W.Frag} {S : Addr} (h1 : PySem.W.subIn K (.ref S) (.type "BaseException") = some true) (h2 : PySem.W.isClsIn K S = true) (h3 : PySem.W.typeIn K (.ref S) = some (.type "type")) (h4 : PySem.W.subIn K (.ref S) (.ref S) = some true) :
    PySem.W.exmOne K (.ref S) (.ref S) = some true := by
  have e1 : (PySem.W.subIn K (.ref S) (.type "BaseException") == some true) = true := by rw [h1]; rfl
  have e2 : ((PySem.W.clsIn K S).isSome && PySem.W.typeIn K (.ref S) == some (.type "type")) = true := by
    have h2' : (PySem.W.clsIn K S).isSome = true := h2
    rw [h2', h3]; rfl
  show (if (PySem.W.subIn K (.ref S) (.type "BaseException") == some true) = true then (if ((PySem.W.clsIn K S).isSome && PySem.W.typeIn K (.ref S) == some (.type "type")) = true then PySem.W.subIn K (.ref S) (.ref S) else none) else none) = some true
  rw [if_pos e1, if_pos e2]
  exact h4
theorem all_mk {P : Program} {w : World} {K : PySem.W.Frag} {h : Heap} {mg : Str → Option Value} {fa f L CW CT fI : Addr} {tkL tkM : Tok} {od an : Option Addr} {sl : Array (Option Value)} {oc kV dc pm cd ct : Value} (X : K.In h) (G : h.Ns mainGlobals mg) (hfa : mg "law" = some (.ref fa))
    (a : PySem.W.nsIn K mainGlobals "law" = some (some (.ref f))) (l : K.lookup f = some ⟨oc, od, .func (PySem.W.fnOf "law" "law" (defArgs s_law) (defBody s_law) (defScope s_law) .none kV dc pm an cd ct), sl⟩) (c : PySem.W.codeIn K cd "law" = true) (k : PySem.W.keepIn K (.ref f) = true)
    (d1 : Dn K mg "is_int" s_is_int ["value"]) (d2 : Dn K mg "is_text" s_is_text ["value"]) (d3 : Dn K mg "is_tuple" s_is_tuple ["value"]) (d4 : Dn K mg "is_within" s_is_within ["value", "low", "high"]) (d5 : Dn K mg "is_ascending" s_is_ascending ["values"])
    (d6 : Dn K mg "is_places" s_is_places ["count", "value"]) (d7 : Dn K mg "is_lot_form" s_is_lot_form ["count", "value"]) (d8 : Dn K mg "is_pair_form" s_is_pair_form ["count", "value"]) (d9 : Dn K mg "is_web_form" s_is_web_form ["value"]) (d10 : Dn K mg "check_web" s_check_web ["web"])
    (d11 : Dn K mg "web_text" s_web_text ["web"]) (d12 : Dn K mg "web_told" s_web_told ["text"]) (d13 : Dn K mg "web_told_at" s_web_told_at ["text", "at", "least"]) (d14 : Dn K mg "tie_told" s_tie_told ["text", "at", "left"]) (d15 : Dn K mg "all_pairs" s_all_pairs ["count"])
    (d16 : Dn K mg "_law_cup" s__law_cup ["_law_cell"]) (d17 : Dn K mg "_law_sip" s__law_sip ["_law_cup_here", "_law_many"]) (d18 : Dn K mg "_law_web" s__law_web ["_law_cup_here", "_law_many"]) (d19 : Dn K mg "_law_bad_web" s__law_bad_web ["_law_cup_here", "_law_web_here"])
    (d20 : Dn K mg "_law_ahead" s__law_ahead ["_law_many", "_law_ties", "_law_first"]) (d21 : Dn K mg "_law_read" s__law_read ["_law_text"]) (d22 : Dn K mg "_law_written" s__law_written ["_law_web_here"]) (d23 : Dn K mg "_law_bent" s__law_bent ["_law_cup_here", "_law_text"])
    (d24 : Dn K mg "_law_told" s__law_told ["_law_value"]) (d25 : Dn K mg "_law_refused" s__law_refused ["_law_value"]) (d26 : Dn K mg "pairs_told" s_pairs_told ["text", "at", "count"])
    (z1 : PySem.W.nsIn K mainGlobals "isinstance" = some none) (z2 : PySem.W.nsIn K mainGlobals "int" = some none) (z3 : PySem.W.nsIn K mainGlobals "str" = some none) (z4 : PySem.W.nsIn K mainGlobals "tuple" = some none) (z5 : PySem.W.nsIn K mainGlobals "list" = some none)
    (z6 : PySem.W.nsIn K mainGlobals "len" = some none) (z7 : PySem.W.nsIn K mainGlobals "all" = some none) (z8 : PySem.W.nsIn K mainGlobals "zip" = some none) (z9 : PySem.W.nsIn K mainGlobals "range" = some none) (z10 : PySem.W.nsIn K mainGlobals "repr" = some none)
    (aL : PySem.W.nsIn K mainGlobals "LETTERS" = some (some (.str letters tkL))) (aM : PySem.W.nsIn K mainGlobals "MOST_PLACES" = some (some (.int 12 tkM))) (aE : PySem.W.nsIn K mainGlobals "LeaveError" = some (some (.ref L)))
    (TW : OwnE K mg "InvalidWeb" CW) (iW : PySem.W.isClsIn K CW = true) (sW : PySem.W.subIn K (.ref CW) (.ref CW) = some true)
    (TT : EIX.ExTxt P K mg "InvalidText" "index" ixParts CT fI) (xf : XfC K CT) (iT : PySem.W.isClsIn K CT = true) (sT : PySem.W.subIn K (.ref CT) (.ref CT) = some true) :
    ∃ fd : FuncData, (∀ (s : Shared) (u : Value), BindsTo s fd ⟨[u], []⟩ [("_law_script", u)]) ∧ ∀ base : Heap, K.In base → base.Ns mainGlobals mg → RunsG P w K mg base (L2.CX P w) 10 fa fd ["_law_script"] (spLaw K) := by
  have e := hfa.symm.trans (PySem.W.mg_of X G a)
  cases e
  have FL := fun_mk (st := s_law) l c k
  refine ⟨PySem.W.fnOf "law" "law" (defArgs s_law) (defBody s_law) (defScope s_law) .none kV dc pm an cd ct, fun s v => .of_eq rfl, fun base _ _ => ?_⟩
  have mi := PySem.W.mg_none_of X G z1
  have mint := PySem.W.mg_none_of X G z2
  have mstr := PySem.W.mg_none_of X G z3
  have mtup := PySem.W.mg_none_of X G z4
  have mlst := PySem.W.mg_none_of X G z5
  have mlen := PySem.W.mg_none_of X G z6
  have mall := PySem.W.mg_none_of X G z7
  have mzip := PySem.W.mg_none_of X G z8
  have mrng := PySem.W.mg_none_of X G z9
  have mrep := PySem.W.mg_none_of X G z10
  have mL := PySem.W.mg_of X G aL
  have mM := PySem.W.mg_of X G aM
  have mE := PySem.W.mg_of X G aE
  have eW := exm_self TW.b iW TW.t sW
  have eT := exm_self TT.exC iT TT.tyC sT
  have o1 := ok_is_int (P := P) (w := w) (base := base) d1 mi mint
  have o2 := ok_is_text (P := P) (w := w) (base := base) d2 mi mstr
  have o3 := ok_is_tuple (P := P) (w := w) (base := base) d3 mi mtup
  have o4 := ok_is_within d4 o1
  have o5 := ok_is_ascending (P := P) (w := w) (base := base) d5 mall mzip
  have o6 := ok_is_places d6 mall o3 o4
  have o7 := ok_is_lot_form d7 o6 o5
  have o8 := ok_is_pair_form d8 mlen o7
  have o9 := ok_is_web_form d9 mlen mall mM o3 o4 o8 o5
  have o10 := ok_check_web d10 TW o9
  have o11 := ok_web_text d11 mL o10
  have o14 := ok_tie_told (P := P) (w := w) (base := base) d14 mL TT
  have o15 := ok_all_pairs (P := P) (w := w) (base := base) d15 mrng
  have o26 := ok_pairs_told (fI := fI) d26 mL mlen mtup o15 o14
  have o13 := ok_told_at d13 TT mL mM mrng o26
  have o12 := ok_web_told d12 TT mlen o2 o13
  have o16 := ok_cup (P := P) (w := w) (base := base) d16 mint
  have o17 := ok_sip (P := P) (w := w) (base := base) d17 mint
  have o18 := ok_web d18 mrng mtup o17
  have o19 := ok_bad_web d19 mlst mtup mlen o17
  have o20 := ok_ahead (P := P) (w := w) (base := base) d20 mrng
  have o21 := ok_read d21 mrng mlen mtup o20
  have o22 := ok_written (P := P) (w := w) (base := base) d22
  have o23 := ok_bent d23 mrng mlen o17
  have o24 := ok_told d24 TT xf eT mE o12
  have o25 := ok_refused d25 TW eW mE o11
  exact run_law (fI := fI) FL mrep mlen o16 o17 o18 o22 o11 o12 o23 o24 o21 o25 o19
end Lk02
/-! What the written part says of the error with its field. -/
namespace Lk02
open PySem PySem.Spec PyProof.Rows L2 LV
open PySem.W PySem.Calls PySem.HandSPX
theorem tt_mk {P : Program} {K : Frag} {h : Heap} {mg : Str → Option Value} {C fI : Addr} (X : K.In h) (G : h.Ns mainGlobals mg)
    {nm q : Str} {N : Addr} {bs bm : List Value} {sn : List Str} {sub : List Value} {ab : Bool} {col : Option Bool} {dd : Option Addr} {m0 m1 m2 m3 m5 : Option Value}
    {qual : Str} {oc doc pm ct cl ccl : Value} {an od cld cdd : Option Addr} {osl csl ccs : Array (Option Value)} {cc cda : Addr} {vs : Array Value} {file : Str} {tf : Tok} {p1 p2 jp s0 s1 s2 s3 s4 q1 q2 q3 q4 : Pos}
    (gC : nsIn K mainGlobals "InvalidText" = some (some (.ref C)))
    (xL : K.lookup C = some (excClassObj nm q C N bs bm true sn sub ab col dd m0 m1 m2 m3 m5 "ValueError.__new__")) (hb : refsVE bm = true)
    (sa : findIn K (.ref C) "__setattr__" = some (some (.builtin "object.__setattr__"))) (noN : findIn K (.ref C) "index" = some none) (iC : findIn K (.ref C) "__init__" = some (some (.ref fI))) (tC : typeIn K (.ref fI) = some (.type "function"))
    (kC : keepIn K (.ref C) = true) (exC : subIn K (.ref C) (.type "BaseException") = some true) (tyC : typeIn K (.ref C) = some (.type "type")) (sup : ks_superIn K C C "__init__" = some (some (.builtin "ValueError.__init__"))) (subV : subIn K (.ref C) (.type "ValueError") = some true)
    (mroC : mroIn K C (.ref C) = some true) (thp : nsIn K cStatics "thirdparty.any" = some none) (mgS : nsIn K mainGlobals "super" = some none) (top : (P.main.scope.names.lookup ("super" : Str)).isSome = false)
    (lf : K.lookup fI = some ⟨oc, od, .func (ksFn "__init__" qual (EIX.eA "index" p1 p2) (EIX.eB "index" ixParts jp s0 s1 s2 s3 s4 q1 q2 q3 q4) (EIX.eS "index") .none .none doc pm an (.ref cda) ct cc), osl⟩) (cd : codeIn K (.ref cda) qual = true)
    (lc : K.lookup cc = some ⟨cl, cld, .cell (some (.ref C)), csl⟩) (ld : K.lookup cda = some ⟨ccl, cdd, .fields vs, ccs⟩) (hv : vs[2]? = some (.str file tf)) (hf : ((P.main.file : Str) == file) = true) (hl : (s2.endLine == s3.line) = true) : EIX.ExTxt P K mg "InvalidText" "index" ixParts C fI :=
  { gC := PySem.W.mg_of X G gC, cls := ⟨nm, q, N, bs, bm, sn, sub, ab, col, dd, m0, m1, m2, m3, m5, xL, hb⟩, sa := sa, noN := noN, iC := iC, tC := tC, kC := kC, exC := exC, tyC := tyC, sup := sup, subV := subV, mroC := mroC, thp := thp, mgS := PySem.W.mg_none_of X G mgS, top := top,
    fn := ⟨qual, oc, doc, pm, ct, cl, ccl, an, od, cld, cdd, osl, csl, ccs, cc, cda, vs, file, tf, p1, p2, jp, s0, s1, s2, s3, s4, q1, q2, q3, q4, lf, cd, lc, ld, hv, hf, hl⟩ }
end Lk02
open PySem PySem.W PyProof.Rows
set_option maxHeartbeats 0 in
theorem PySem.Challenge.cw_leaveorder_k02_texts_of_webs_holds : PySem.Challenge.rw_leaveorder_k02_texts_of_webs.Holds := by
  w_on; o_law; k_head; (case hw => w_witness2)
  k_fill
  refine LV.walk_ofG (l := PySem.Challenge.rw_leaveorder_k02_texts_of_webs) (n := 63) (k := 10) (x := "_law_script") (CX := fun w => L2.CX PySem.Challenge.rw_leaveorder_k02_texts_of_webs.prog w) (sp := fun w => Lk02.spLaw _) rfl (by decide) rfl ⟨rfl, by decide, by decide⟩ (fun w h Y => PySem.W.kIn_of Y) ?F (fun _ _ a ns hl _ hS => ⟨a, ns, rfl, hS, fun _ => rfl⟩) ?E
  case E =>
    rintro w H s e s' ⟨_, _, _, _, _, _, _, _, _, _, _, _, h⟩
    exact h
  case F =>
    intro w mg fa h KX G hmg
    refine' Lk02.all_mk KX G hmg ?a0 ?l0 ?c0 ?k0
      (Lk02.dn_is_int KX G ?a1 ?l1 ?c1 ?k1)
      (Lk02.dn_is_text KX G ?a2 ?l2 ?c2 ?k2)
      (Lk02.dn_is_tuple KX G ?a3 ?l3 ?c3 ?k3)
      (Lk02.dn_is_within KX G ?a4 ?l4 ?c4 ?k4)
      (Lk02.dn_is_ascending KX G ?a5 ?l5 ?c5 ?k5)
      (Lk02.dn_is_places KX G ?a6 ?l6 ?c6 ?k6)
      (Lk02.dn_is_lot_form KX G ?a7 ?l7 ?c7 ?k7)
      (Lk02.dn_is_pair_form KX G ?a8 ?l8 ?c8 ?k8)
      (Lk02.dn_is_web_form KX G ?a9 ?l9 ?c9 ?k9)
      (Lk02.dn_check_web KX G ?a10 ?l10 ?c10 ?k10)
      (Lk02.dn_web_text KX G ?a11 ?l11 ?c11 ?k11)
      (Lk02.dn_web_told KX G ?a12 ?l12 ?c12 ?k12)
      (Lk02.dn_web_told_at KX G ?a13 ?l13 ?c13 ?k13)
      (Lk02.dn_tie_told KX G ?a14 ?l14 ?c14 ?k14)
      (Lk02.dn_all_pairs KX G ?a15 ?l15 ?c15 ?k15)
      (Lk02.dn__law_cup KX G ?a16 ?l16 ?c16 ?k16)
      (Lk02.dn__law_sip KX G ?a17 ?l17 ?c17 ?k17)
      (Lk02.dn__law_web KX G ?a18 ?l18 ?c18 ?k18)
      (Lk02.dn__law_bad_web KX G ?a19 ?l19 ?c19 ?k19)
      (Lk02.dn__law_ahead KX G ?a20 ?l20 ?c20 ?k20)
      (Lk02.dn__law_read KX G ?a21 ?l21 ?c21 ?k21)
      (Lk02.dn__law_written KX G ?a22 ?l22 ?c22 ?k22)
      (Lk02.dn__law_bent KX G ?a23 ?l23 ?c23 ?k23)
      (Lk02.dn__law_told KX G ?a24 ?l24 ?c24 ?k24)
      (Lk02.dn__law_refused KX G ?a25 ?l25 ?c25 ?k25)
      (Lk02.dn_pairs_told KX G ?a26 ?l26 ?c26 ?k26)
      ?z1 ?z2 ?z3 ?z4 ?z5 ?z6 ?z7 ?z8 ?z9 ?z10
      ?aL ?aM ?aE
      ⟨PySem.W.mg_of KX G ?w1, ?w2, ?w3, ?w4, ?w5⟩ ?w6 ?w7
      (Lk02.tt_mk KX G ?t1 ?t2 ?t3 ?t4 ?t5 ?t6 ?t7 ?t8 ?t9 ?t10 ?t11 ?t12 ?t13 ?t14 ?t15 ?t16 ?t17 ?t18 ?t19 ?t20 ?t21 ?t22 ?t23) ⟨?t24, ?t25, ?t26, ?t27⟩ ?t28 ?t29
    (case a0 => k_is); (case l0 => k_is); (case c0 => k_is); (case k0 => k_is)
    (case a1 => k_is); (case l1 => k_is); (case c1 => k_is); (case k1 => k_is)
    (case a2 => k_is); (case l2 => k_is); (case c2 => k_is); (case k2 => k_is)
    (case a3 => k_is); (case l3 => k_is); (case c3 => k_is); (case k3 => k_is)
    (case a4 => k_is); (case l4 => k_is); (case c4 => k_is); (case k4 => k_is)
    (case a5 => k_is); (case l5 => k_is); (case c5 => k_is); (case k5 => k_is)
    (case a6 => k_is); (case l6 => k_is); (case c6 => k_is); (case k6 => k_is)
    (case a7 => k_is); (case l7 => k_is); (case c7 => k_is); (case k7 => k_is)
    (case a8 => k_is); (case l8 => k_is); (case c8 => k_is); (case k8 => k_is)
    (case a9 => k_is); (case l9 => k_is); (case c9 => k_is); (case k9 => k_is)
    (case a10 => k_is); (case l10 => k_is); (case c10 => k_is); (case k10 => k_is)
    (case a11 => k_is); (case l11 => k_is); (case c11 => k_is); (case k11 => k_is)
    (case a12 => k_is); (case l12 => k_is); (case c12 => k_is); (case k12 => k_is)
    (case a13 => k_is); (case l13 => k_is); (case c13 => k_is); (case k13 => k_is)
    (case a14 => k_is); (case l14 => k_is); (case c14 => k_is); (case k14 => k_is)
    (case a15 => k_is); (case l15 => k_is); (case c15 => k_is); (case k15 => k_is)
    (case a16 => k_is); (case l16 => k_is); (case c16 => k_is); (case k16 => k_is)
    (case a17 => k_is); (case l17 => k_is); (case c17 => k_is); (case k17 => k_is)
    (case a18 => k_is); (case l18 => k_is); (case c18 => k_is); (case k18 => k_is)
    (case a19 => k_is); (case l19 => k_is); (case c19 => k_is); (case k19 => k_is)
    (case a20 => k_is); (case l20 => k_is); (case c20 => k_is); (case k20 => k_is)
    (case a21 => k_is); (case l21 => k_is); (case c21 => k_is); (case k21 => k_is)
    (case a22 => k_is); (case l22 => k_is); (case c22 => k_is); (case k22 => k_is)
    (case a23 => k_is); (case l23 => k_is); (case c23 => k_is); (case k23 => k_is)
    (case a24 => k_is); (case l24 => k_is); (case c24 => k_is); (case k24 => k_is)
    (case a25 => k_is); (case l25 => k_is); (case c25 => k_is); (case k25 => k_is)
    (case a26 => k_is); (case l26 => k_is); (case c26 => k_is); (case k26 => k_is)
    (case z1 => k_is)
    (case z2 => k_is)
    (case z3 => k_is)
    (case z4 => k_is)
    (case z5 => k_is)
    (case z6 => k_is)
    (case z7 => k_is)
    (case z8 => k_is)
    (case z9 => k_is)
    (case z10 => k_is)
    (case aL => k_is)
    (case aM => k_is)
    (case aE => k_is)
    (case w1 => k_is)
    (case w2 => k_exc)
    (case w3 => k_is)
    (case w4 => k_is)
    (case w5 => k_is)
    (case w6 => k_is)
    (case w7 => first | rfl | k_is)
    (case t1 => k_is)
    (case t2 => k_is)
    (case t3 => decide +kernel)
    (case t4 => k_is)
    (case t5 => k_is)
    (case t6 => k_is)
    (case t7 => k_is)
    (case t8 => k_is)
    (case t9 => k_is)
    (case t10 => k_is)
    (case t11 => ks_is)
    (case t12 => k_is)
    (case t13 => k_is)
    (case t14 => k_is)
    (case t15 => k_is)
    (case t16 => first | rfl | decide +kernel)
    (case t17 => k_is)
    (case t18 => k_is)
    (case t19 => k_is)
    (case t20 => k_is)
    (case t21 => first | rfl | decide +kernel)
    (case t22 => first | rfl | decide +kernel)
    (case t23 => first | rfl | decide +kernel)
    (case t24 => k_is)
    (case t25 => k_is)
    (case t26 => k_is)
    (case t27 => k_is)
    (case t28 => k_is)
    (case t29 => first | rfl | k_is)
