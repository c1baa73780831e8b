import PyProof.Rows.All
import Wide.All
import OpenK.AllK
import Wide.FinOn
import PyProof.ReprRoads
import PyProof.ReprLen
import HandS.Base
import HandS.Call
import HandS.List
import HandS.Comp
import HandS.Ends
import HandS.Dict
import HandS.Iter
import HandS.Text
import HandS.Words
import HandS.WordsList
import HandS.ForMost
import HandS.Style
import HandS.Wide
import HandS.Evl
import KE.GoesMore
import HandS.Zip
import KE.KDictZip
import HandS.ListItems
import HandS.More
import HandS.IsInst
import HandS.Steps
import HandS.Star
import HandS.SortInts
import HandS.TupAny
import HandS.DictComp
import PyProof.AutoSeq1
import HandS.ExcInit
import HandS.ExcField
import HandS.WordsExc
import HandS.Lambda
import HandS.Rev
import HandS.CallLocal
import HandS.WrittenGet
import HandS.Conv
import KE.KIntText
import HandS.TupMul
import HandS.Codes
import PySem.Challenge.RW_keptrest_k96_whole_rule_faults
set_option Elab.async false
set_option linter.all false
set_option maxRecDepth 100000
/-! Kt, part A: defs that are known to run while no repr is under way, so that repr of data can be told. -/
namespace Kt
open PySem PySem.Spec PyProof.Rows L2

/-- as FnOk, for calls while nothing guarded is under way -/
structure FnG (P : Program) (w : World) (K : PySem.W.Frag) (mg : Str → Option Value) (base : Heap) (CX : CXT) (k : Nat) (f : Addr) (fd : FuncData) (ps : List Str) (sp : Sp) : Prop where
  len : ∀ vs H Q E, sp vs H Q E → vs.length = ps.length
  run : ∀ (A : Around) (outer : List Env) (s : Shared) (H : Hp) (args : Args) (us : List Value) (vs : List V) (Q : VK) (E : XK), A.guards = some [] → Room k A → Env0 P w K mg base A outer s H →
    BindsTo s fd args (ps.zip us) → Vals vs us → sp vs H Q E → codeAny (model P w) A (.call (.ref f) args) (CR CX outer P w H s Q E) s

section
variable {P : Program} {w : World} {K : PySem.W.Frag} {mg : Str → Option Value} {base : Heap}

theorem FnG.mono {CX : CXT} {j k : Nat} {f : Addr} {fd : FuncData} {ps : List Str} {sp : Sp} (F : FnG P w K mg base CX j f fd ps sp) (h : j ≤ k) : FnG P w K mg base CX k f fd ps sp :=
  ⟨F.len, fun A outer s H args us vs Q E hg hr => F.run A outer s H args us vs Q E hg (hr.mono h)⟩

theorem FnG.of {CX : CXT} {k : Nat} {f : Addr} {fd : FuncData} {ps : List Str} {sp : Sp} (F : FnOk P w K mg base CX k f fd ps sp) : FnG P w K mg base CX k f fd ps sp :=
  ⟨F.len, fun A outer s H args us vs Q E _ hr => F.run A outer s H args us vs Q E hr⟩

/-- a def by its body, while no repr is under way -/
theorem FunG {x qual : Str} {st : Stmt} {f : Addr} {fd : FuncData} {N ps : List Str} {k : Nat} {sp : Sp} (F : Fun K x qual st f fd) (S : FnScope N ps (defScope st))
    (len : ∀ vs H Q E, sp vs H Q E → vs.length = ps.length)
    (hbody : ∀ (cdv : Value) (A : Around) (outer : List Env) (s : Shared) (H : Hp) (vs : List V) (Q : VK) (E : XK), A.guards = some [] → Room k (A.deeper (envOfC qual (defScope st) s.heap.objs.size f cdv)) → sp vs H Q E →
      ∃ t, PSs (cxOf CX0 P w K mg base N qual (defScope st) f cdv A outer s H E).nox (defBody st) t ∧ t { nx := fun _ H' => Q .non H', rt := Q } (start N vs) H) : FnG P w K mg base CX0 (k + 1) f fd ps sp := by
  obtain ⟨oc, od, kV, doc, pm, an, cdv, ct, osl, rfl, lk, hcd⟩ := F.ex
  refine ⟨len, ?_⟩
  intro A outer s H args us vs Q E hg hr e0 hb r hsp
  have keepB : ∀ b o, base.get? b = some o → s.heap.get? b = some o := fun b o e => (e0.bs b o e).1
  have KX := e0.mod.kin.keeps keepB
  have lim := e0.mod.nolimit.keeps keepB
  refine codeAny_call_function hr.depth (KX _ _ lk) rfl S.co S.gen rfl (PySem.W.codeRec_of KX hcd) (hb _ _ _ _ ?_)
  refine wpAny_newFunctionEnv_cells S.kind (fun y hy => ?_) fun env he s1 x1 => ?_
  · obtain ⟨n, v⟩ := y
    exact (S.par n (List.of_mem_zip hy).1).imp id fun q => ⟨q, PySem.W.cellsFrom_some _ _ _ (.inl q)⟩
  subst he
  refine ⟨lim.keeps x1.toInCall.keep, codeAny_func ?_⟩
  obtain ⟨t, ht, hq⟩ := hbody cdv A outer s H vs Q E hg (hr.deeper _) hsp
  refine wpAny_mono (ht.nox.run [] s1 (start N vs) H _ (inv_start (P := P) (w := w) S hr.hd e0 (len _ _ _ _ hsp) r x1) hq) (fun fl s' hs => ?_) fun _ _ hs => hs
  cases fl with
  | ret u =>
    obtain ⟨v, σ', H', J, rv, q⟩ := hs
    exact ⟨v, H', J.os, J.bare, J.base, J.hok, rv, q⟩
  | next =>
    obtain ⟨σ', H', J, q⟩ := hs
    exact ⟨V.non, H', J.os, J.bare, J.base, J.hok, rfl, q⟩
  | brk =>
    obtain ⟨_, _, _, q⟩ := hs
    exact q.elim
  | cont =>
    obtain ⟨_, _, _, q⟩ := hs
    exact q.elim

/-- a def that may be called by its name -/
structure CalG (P : Program) (w : World) (K : PySem.W.Frag) (mg : Str → Option Value) (base : Heap) (k : Nat) (x : Str) (sp : Sp) : Prop where
  ex : ∃ (f : Addr) (fd : FuncData) (ps : List Str), FnG P w K mg base CX0 k f fd ps sp ∧ mg x = some (.ref f) ∧ PySem.W.keepIn K (.ref f) = true ∧ Binds K fd ps []
/-- a def of the module's text, under its name -/
structure DefG (K : PySem.W.Frag) (mg : Str → Option Value) (x : Str) (st : Stmt) (ps : List Str) : Prop where
  ex : ∃ (f : Addr) (fd : FuncData), Fun K x x st f fd ∧ mg x = some (.ref f) ∧ Binds K fd ps []
theorem calG {x : Str} {st : Stmt} {N ps : List Str} {k : Nat} {sp : Sp} (D : DefG K mg x st ps) (S : FnScope N ps (defScope st)) (len : ∀ vs H Q E, sp vs H Q E → vs.length = ps.length)
    (hbody : ∀ (cdv : Value) (f : Addr) (A : Around) (outer : List Env) (s : Shared) (H : Hp) (vs : List V) (Q : VK) (E : XK), A.guards = some [] → Room k (A.deeper (envOfC x (defScope st) s.heap.objs.size f cdv)) → sp vs H Q E →
      ∃ t, PSs (cxOf CX0 P w K mg base N x (defScope st) f cdv A outer s H E).nox (defBody st) t ∧ t { nx := fun _ H' => Q .non H', rt := Q } (start N vs) H) : CalG P w K mg base (k + 1) x sp := by
  obtain ⟨f, fd, F, m, b⟩ := D.ex
  exact ⟨f, fd, ps, FunG F S len fun cdv => hbody cdv f, m, F.kp, b⟩
end

section
variable {X : Cx} {k j : Nat} {x : Str} {sp : Sp} {p pos : Pos} {e : Expr} {es : List Expr} {t : TA}
theorem run_fnG {f : Addr} {fd : FuncData} {ps : List Str} {pins : List (Addr × Obj)} {σ : L2.St} {H : Hp} {s : Shared} {Q : VK} {us : List Value} {vs : List V} (F : FnG X.prog X.w X.K X.mg X.base CX0 k f fd ps sp) (hA : X.A.guards = some []) (hr : Room k X.A) (hb : Binds X.K fd ps [])
    (I : Inv X pins σ H s) (r : Vals vs us) (h : sp vs H Q E0) : wpAny (model X.prog X.w) X.A (call (.ref f) us) (EP X pins σ Q) X.xe s := by
  have e0 : us ++ [] = us := List.append_nil us
  have hl : (us ++ []).length = ps.length := by rw [e0, ← r.length]; exact F.len _ _ _ _ h
  have hbs := hb s us I.kIn hl
  rw [e0] at hbs
  refine wpAny_call (codeAny_mono (F.run X.A X.stack s H ⟨us, []⟩ us vs Q E0 hA hr I.env0 hbs r h) fun r' s' hq => ?_)
  match r', hq with
  | .error _, hq => exact hq.elim
  | .ok (.ret _), hq => exact I.after hq
  | .ok .next, hq => exact False.elim hq
  | .ok .brk, hq => exact False.elim hq
  | .ok .cont, hq => exact False.elim hq
/-- f(e, ..) -/
theorem pe_cG (c : CalG X.prog X.w X.K X.mg X.base k x sp) (hA : X.A.guards = some []) (hr : Room j X.A) (hk : k ≤ j) (hg : Gl X x) (ha : PA X (e :: es) t) (hdb : (x == ("__debug__" : Str)) = false := by decide)
    (he : starEach (e :: es) X.env = (false, eval e X.env) :: starEach es X.env := by rfl) (hpl : (backTo pos (starEach es X.env)).any (·.1) = false := by rfl) :
    PE X (.Call (.Name x p) (e :: es) [] pos) (fun σ H Q => t σ H fun vs H1 => sp vs H1 Q E0) := by
  obtain ⟨f, fd, ps, F, m, kp, b⟩ := c.ex
  refine ⟨fun pins s σ H Q I h => ?_⟩
  refine wpAny_Call_Name_kw (ld_glob I hg m ?_ hdb)
  refine PySem.W.callWith_K (h₀ := X.base) I.ok.mod.kin kp (thn (ha.run pos pins s σ H _ I h) fun us s1 ⟨vs, H1, I1, r, q⟩ => ⟨I1.kIn, ?_⟩) he hpl
  exact run_fnG F hA (hr.mono hk) b I1 r q
end

/-! ### repr of data -/
section
variable {X : Cx}
def rReprD (K : PySem.W.Frag) : List V → Hp → VK → Prop := fun vs H Q => ∃ (a : Addr) (d : PyData), vs = [.ref a] ∧ Dp K H (.ref a) d ∧ d.showable = true ∧ d.canLay0 = true ∧ d.depth ≤ 128 ∧ d.shown.length ≤ sizeLine ∧ Q (.str d.shown) H
theorem call_reprD (hA : X.A.guards = some []) (hu : X.A.units + 129 < cLine) : CallR X (.builtin "repr") (rReprD X.K) := by
  intro pins s σ H vs us Q I r h
  obtain ⟨a, d, rfl, hd, hs, hc, hdp, hz, q⟩ := h
  obtain ⟨u, rfl, ru⟩ := vals1 r
  cases ru
  obtain ⟨as, rd⟩ := Dp.reads I d _ _ hd rfl
  refine repr_of_reads' rd hs (PyData.noDict_hsm (PyData.hasDict_of_canLay d hc)) hA (by omega) (fun _ _ e => e) (fun h' u tk hk => ?_) hz
  exact ⟨.str d.shown, H, I.kept hk, ⟨u, rfl⟩, q⟩
end
/-! ### the end of a law's row -/
section
variable {P : Program} {w : World} {K : PySem.W.Frag} {mg mb : Str → Option Value}
/-- what stands while the law is called: True, nothing old changed -/
def LawEnd (s₁ : Shared) (r : Result) (s' : Shared) : Prop := r = .ok (.ret (.bool true)) ∧ OldK s₁.heap s'.heap ∧ s'.os = s₁.os ∧ AllBare s'.gens
/-- the heap in which the script alone is tracked -/
def scriptHp (a : Addr) (vs : List Value) (ns : List Int) : Hp := fun b => if b = a then some (.frz { cls := .type "list", data := .seq vs.toArray } (.lst (ns.map V.int))) else none
theorem scriptHp_self {a : Addr} {vs : List Value} {ns : List Int} : scriptHp a vs ns a = some (.frz { cls := .type "list", data := .seq vs.toArray } (.lst (ns.map V.int))) := if_pos rfl
theorem scriptHp_other {a b : Addr} {vs : List Value} {ns : List Int} (h : b ≠ a) : scriptHp a vs ns b = none := if_neg h

theorem lawG_core {k : Nat} {fa a : Addr} {fd : FuncData} {x : Str} {sp : Sp} {s₁ : Shared} {vs : List Value} {ns : List Int} {H : Hp}
    (KX : K.In s₁.heap) (hns : s₁.heap.Ns mainGlobals mg) (hb : s₁.heap.Ns builtinsNs mb) (hbb : ∀ x : Str, x ≠ "__name__" → mb x = bootBuiltins x) (hlim : s₁.heap.NoLimit) (hg : s₁.gens = #[])
    (ha : s₁.heap.get? a = some { cls := .type "list", data := .seq vs.toArray }) (hr : Room k callerA)
    (F : ∀ base : Heap, K.In base → base.Ns mainGlobals mg → FnG P w K mg base CX0 k fa fd [x] sp) (hbind : ∀ (s : Shared) (u : Value), BindsTo s fd ⟨[u], []⟩ [(x, u)])
    (hsp : sp [.ref a] H (fun v _ => v = .bl true) E0)
    (hO : ∀ b, H b = none ∨ (b = a ∧ K.lookup a = none ∧ H b = some (.frz { cls := .type "list", data := .seq vs.toArray } (.lst (ns.map V.int))))) (hok : HOk P w H s₁.heap) :
    codeAny (model P w) callerA (.call (.ref fa) ⟨[.ref a], []⟩) (LawEnd s₁) s₁ := by
  have isA : ∀ {b : Addr} {u : HO}, H b = some u → b = a ∧ K.lookup a = none := fun {b u} e => by
    rcases hO b with z | ⟨z1, z2, _⟩
    · rw [e] at z; cases z
    · exact ⟨z1, z2⟩
  have seen : ∀ {b : Addr} {o : Obj}, s₁.heap.get? b = some o → (b = a → False) → (hidT s₁.heap H).get? b = some o := fun {b o} e n => hidT_get e (by
    cases q : H b with
    | none => rfl
    | some u => exact (n (isA q).1).elim)
  have nsK : ∀ {b : Addr} {m : Str → Option Value}, s₁.heap.Ns b m → (hidT s₁.heap H).Ns b m := fun {b m} ⟨o, es, ep, e, d, r⟩ => ⟨o, es, ep, seen e (fun z => by
    subst z
    rw [ha] at e
    cases e
    cases d), d, r⟩
  have hKb : K.In (hidT s₁.heap H) := fun b o e => hidT_get (KX b o e) (by
    cases q : H b with
    | none => rfl
    | some u =>
      obtain ⟨z1, z2⟩ := isA q
      subst z1
      rw [z2] at e
      cases e)
  obtain ⟨mc, l1, l2⟩ := hlim
  have hM : Mod K mg (hidT s₁.heap H) := ⟨hKb, nsK hns, ⟨mb, nsK hb, hbb⟩, ⟨mc, nsK l1, l2⟩⟩
  have none_in : ∀ {b : Addr}, b ∉ frs ([] : List Env) := fun z => by cases z
  have e0 : Env0 P w K mg (hidT s₁.heap H) callerA [] s₁ H := ⟨rfl, hM, fun b o e => of_hidT e, Nat.le_of_eq (hidT_size _ _), trivial, fun b z => (none_in z).elim, hok, .of_eq hg⟩
  refine codeAny_mono ((F _ hKb (nsK hns)).run callerA [] s₁ H ⟨[.ref a], []⟩ [.ref a] [.ref a] _ _ rfl hr e0 (hbind s₁ (.ref a)) (.cons rfl .nil) hsp) fun r s' h => ?_
  match r, h with
  | .error _, h => exact h.elim
  | .ok .next, h => exact False.elim h
  | .ok .brk, h => exact False.elim h
  | .ok .cont, h => exact False.elim h
  | .ok (.ret u), h =>
    obtain ⟨v, H', os, bare, un, hok', rv, q⟩ := h
    have q' : v = .bl true := q
    subst q'
    cases (show u = Value.bool true from rv)
    refine ⟨rfl, OldK.of_keep fun b o e => ?_, os, bare⟩
    rcases hO b with z | ⟨z1, _, z⟩
    · exact un.keep b o e z none_in (fun y => by cases y)
    · obtain ⟨e1, _⟩ := hok b _ z
      obtain ⟨e2, _⟩ := hok' b _ (un.frzs b _ _ z)
      rw [e] at e1
      cases e1
      exact e2

theorem walk_ofG {l : PySem.W.OpenLaw} {n k : Nat} {q : Program} {loose : List Str} {XP : (Str → Option Value) → Heap → Prop} {YP : World → Heap → Prop} {d : DefRec} {K : Params → PySem.W.Frag} {sp : PySem.W.Frag → Sp} {x : Str}
    (hn : l.most = some n) (hn2 : n ≤ sizeLine) (hdf : d.params.defaults = []) (hr : Room k callerA) (hY : ∀ (w : World) (h : Heap), YP w h → (K w.params).In h)
    (F : ∀ (w : World) (mg : Str → Option Value) (fa : Addr) (h : Heap), (K w.params).In h → h.Ns mainGlobals mg → mg d.name = some (.ref fa) →
      ∃ fd : FuncData, (∀ (s : Shared) (u : Value), BindsTo s fd ⟨[u], []⟩ [(x, u)]) ∧ ∀ base : Heap, (K w.params).In base → base.Ns mainGlobals mg → FnG l.prog w (K w.params) mg base CX0 k fa fd [x] (sp (K w.params)))
    (hsp : ∀ (K : PySem.W.Frag) (H : Hp) (a : Addr) (ns : List Int), ns.length ≤ n → SqL K H a (ns.map V.int) → sp K [.ref a] H (fun v _ => v = .bl true) E0) :
    PySem.W.WalkO q loose XP YP l.row.toRowW d [] (fun f vs => PySem.call f vs) := by
  refine Att.attach_call hn hdf fun w s₀ s₁ mg mb fa o pm cd doc a vs ns G Y ho hd hcd hmg hobj hints hlen hg => ?_
  have KX := hY w _ Y
  obtain ⟨fd, hb, hF⟩ := F w mg fa _ KX G.T.g hmg
  have rv := vals_ints hints
  have hl2 : ns.length ≤ sizeLine := Nat.le_trans hlen hn2
  cases hk : (K w.params).lookup a with
  | some oo =>
    have e := KX a oo hk
    rw [hobj] at e
    cases e
    refine lawG_core (ns := ns) (H := fun _ => none) KX G.T.g G.T.b G.T.builtins G.T.nolimit hg hobj hr hF hb (hsp _ _ a ns hlen (.inr ⟨_, vs.toArray, _, hk, rfl, rfl, rfl, ?_, by simpa using rv⟩)) (fun b => .inl rfl) (fun b u z => by cases z)
    rw [List.size_toArray, hints.length]
    exact hl2
  | none =>
    refine lawG_core (ns := ns) (H := scriptHp a vs ns) KX G.T.g G.T.b G.T.builtins G.T.nolimit hg hobj hr hF hb (hsp _ _ a ns hlen (.inl (.inr ⟨_, scriptHp_self⟩))) (fun b => ?_) (fun b u z => ?_)
    · by_cases hb' : b = a
      · subst hb'
        exact .inr ⟨rfl, hk, scriptHp_self⟩
      · exact .inl (scriptHp_other hb')
    · by_cases hb' : b = a
      · subst hb'
        rw [scriptHp_self] at z
        cases z
        exact ⟨hobj, by rw [List.length_map]; exact hl2, vs, _, rv, hobj⟩
      · rw [scriptHp_other hb'] at z
        cases z
end
end Kt

/-! Kt, part B: one small step a combinator, and a walk over them. -/
namespace Kt
open PySem PySem.Spec PyProof.Rows L2 Evl
/-! ### readings under a name -/
/-- a new tuple, a new list, whose size is asked; and whose size is not -/
def NewT (xs : List V) (H : Hp) (Q : VK) : Prop := xs.length ≤ sizeLine ∧ ∀ p, H p = none → Q (.ref p) (upd H p (.tup xs))
def NewL (xs : List V) (H : Hp) (Q : VK) : Prop := xs.length ≤ sizeLine ∧ ∀ p, H p = none → Q (.ref p) (upd H p (.lst xs))
def MakT (xs : List V) (H : Hp) (Q : VK) : Prop := ∀ p, H p = none → Q (.ref p) (upd H p (.tup xs))
def MakL (xs : List V) (H : Hp) (Q : VK) : Prop := ∀ p, H p = none → Q (.ref p) (upd H p (.lst xs))
def rTupO (K : PySem.W.Frag) : List V → Hp → VK → Prop := fun vs H Q => ∃ p ys, vs = [.ref p] ∧ ((SqL K H p ys ∧ MakT ys H Q) ∨ (SqT K H p ys ∧ Q (.ref p) H))
def rLstO (K : PySem.W.Frag) : List V → Hp → VK → Prop := fun vs H Q => ∃ p ys, vs = [.ref p] ∧ (SqL K H p ys ∨ SqT K H p ys) ∧ MakL ys H Q
def rLenO (K : PySem.W.Frag) : List V → Hp → VK → Prop := fun vs H Q => ∃ p ys, vs = [.ref p] ∧ (SqL K H p ys ∨ SqT K H p ys) ∧ Q (.int ys.length) H
def rIntO : List V → Hp → VK → Prop := fun vs H Q => (∃ i, vs = [.int i] ∧ Q (.int i) H) ∨ ∃ k, vs = [.bl k] ∧ Q (.int (if k then 1 else 0)) H
section
variable {X : Cx}
theorem call_tupO : CallR X (.type "tuple") (rTupO X.K) := call_tuple_of
theorem call_lstO : CallR X (.type "list") (rLstO X.K) := call_list_of
theorem call_lenO : CallR X (.builtin "len") (rLenO X.K) := call_len_seq
theorem call_intO : CallR X (.type "int") rIntO := call_int1
end
/-! their steps -/
section
variable {H : Hp} {Q : VK} {K : PySem.W.Frag}
theorem rd_newT {xs : List V} (q : ∀ p H', H p = none → Ex H H' → H' p = some (.tup xs) → Q (.ref p) H') (hz : xs.length ≤ sizeLine := by exact Nat.le_of_ble_eq_true rfl) : NewT xs H Q := ⟨hz, fun p hp => q p _ hp (Ex.new hp) upd_same⟩
theorem rd_newL {xs : List V} (q : ∀ p H', H p = none → Ex H H' → H' p = some (.lst xs) → Q (.ref p) H') (hz : xs.length ≤ sizeLine := by exact Nat.le_of_ble_eq_true rfl) : NewL xs H Q := ⟨hz, fun p hp => q p _ hp (Ex.new hp) upd_same⟩
theorem rd_makT {xs : List V} (q : ∀ p H', H p = none → Ex H H' → H' p = some (.tup xs) → Q (.ref p) H') : MakT xs H Q := fun p hp => q p _ hp (Ex.new hp) upd_same
theorem rd_makL {xs : List V} (q : ∀ p H', H p = none → Ex H H' → H' p = some (.lst xs) → Q (.ref p) H') : MakL xs H Q := fun p hp => q p _ hp (Ex.new hp) upd_same
theorem rd_tupO {p : Addr} {ys : List V} (h : SqL K H p ys) (q : ∀ p H', H p = none → Ex H H' → H' p = some (.tup ys) → Q (.ref p) H') : rTupO K [.ref p] H Q := ⟨p, ys, rfl, Or.inl ⟨h, rd_makT q⟩⟩
theorem rd_tupT {p : Addr} {ys : List V} (h : SqT K H p ys) (q : Q (.ref p) H) : rTupO K [.ref p] H Q := ⟨p, ys, rfl, Or.inr ⟨h, q⟩⟩
theorem rd_lstO {p : Addr} {ys : List V} (h : SqL K H p ys ∨ SqT K H p ys) (q : ∀ p H', H p = none → Ex H H' → H' p = some (.lst ys) → Q (.ref p) H') : rLstO K [.ref p] H Q := ⟨p, ys, rfl, h, rd_makL q⟩
theorem rd_lenO {p : Addr} {ys : List V} (h : SqL K H p ys ∨ SqT K H p ys) (q : Q (.int ys.length) H) : rLenO K [.ref p] H Q := ⟨p, ys, rfl, h, q⟩
theorem rd_intO {a : Int} (q : Q (.int a) H) : rIntO [.int a] H Q := Or.inl ⟨a, rfl, q⟩
theorem rd_slL {a : Addr} {xs : List V} {lo hi : Option Int} (h : SqL K H a xs) (q : ∀ p H', H p = none → Ex H H' → H' p = some (.lst (cutV xs lo hi)) → Q (.ref p) H') : rSlL K (.ref a) lo hi H Q := ⟨a, xs, rfl, h, rd_makL q⟩
theorem rd_cat {l b : Addr} {xs zs : List V} (h1 : H l = some (.lst xs)) (h2 : H b = some (.lst zs)) (hz : xs.length + zs.length ≤ sizeLine) (q : ∀ p H', H p = none → Ex H H' → H' p = some (.lst (xs ++ zs)) → Q (.ref p) H') : rCat (.ref l) (.ref b) H Q := ⟨l, b, xs, zs, rfl, rfl, h1, h2, hz, rd_makL q⟩
end
section
variable {K : PySem.W.Frag} {σ : L2.St} {H : Hp} {Q : VK} {QB : Bool → Hp → Prop} {QA : List V → Hp → Prop} {D : Ends} {v x y : V} {ta tb te tc : TE} {tt tu : TT} {tr : TA} {s u z : TS} {r : R2} {i : Nat}
theorem rd_var (h : σ[i]? = some (some v)) (q : Q v H) : tVar i σ H Q := ⟨v, h, q⟩
theorem rd_c (q : Q v H) : tC v σ H Q := q
theorem rd_nil (q : QA [] H) : tNil σ H QA := q
theorem rd_cons (q : ta σ H fun x H1 => tr σ H1 fun xs H2 => QA (x :: xs) H2) : tCons ta tr σ H QA := q
theorem rd_op (q : ta σ H fun x H1 => tb σ H1 fun y H2 => r x y H2 Q) : tOp r ta tb σ H Q := q
theorem rd_un {r : V → Hp → VK → Prop} (q : ta σ H fun x H1 => r x H1 Q) : tUn r ta σ H Q := q
theorem rd_I0 {g : Int → Int → V} {a b : Int} (q : Q (g a b) H) : rI0 g (.int a) (.int b) H Q := ⟨a, b, rfl, rfl, q⟩
theorem rd_I {C : Int → Int → Prop} {g : Int → Int → V} {a b : Int} (c : C a b) (q : Q (g a b) H) : rI C g (.int a) (.int b) H Q := ⟨a, b, rfl, rfl, c, q⟩
theorem rd_U {g : Int → V} {a : Int} (q : Q (g a) H) : rU g (.int a) H Q := ⟨a, rfl, q⟩
theorem rd_cb {r : List V → Hp → VK → Prop} (q : tr σ H fun vs H1 => r vs H1 Q) : tCB r tr σ H Q := q
theorem rd_test (q : ta σ H fun x H' => ∃ k, x = .bl k ∧ QB k H') : tTest ta σ H QB := q
theorem rd_tB (q : ta σ H fun x H' => ∃ k, x = .bl k ∧ QB k H') : tB ta σ H QB := q
theorem rd_bl {b : Bool} {P : Bool → Prop} (q : P b) : ∃ k, V.bl b = .bl k ∧ P k := ⟨b, rfl, q⟩
theorem rd_eq (h : scal x y = true) (q : Q (.bl (decide (x = y))) H) : rEq x y H Q := ⟨h, q⟩
theorem rd_ne (h : scal x y = true) (q : Q (.bl (!decide (x = y))) H) : rNe x y H Q := ⟨h, q⟩
theorem rd_tup (q : tr σ H fun xs H1 => NewT xs H1 Q) : tTup tr σ H Q := q
theorem rd_lst (q : tr σ H fun xs H1 => NewL xs H1 Q) : tLst tr σ H Q := q
theorem rd_ifE (q : tt σ H fun c H1 => if c = true then ta σ H1 Q else tb σ H1 Q) : tIf tt ta tb σ H Q := q
theorem rd_and (q : tt σ H fun c H1 => if c = true then tu σ H1 QB else QB false H1) : tAnd tt tu σ H QB := q
theorem rd_or (q : tt σ H fun c H1 => if c = true then QB true H1 else tu σ H1 QB) : tOr tt tu σ H QB := q
theorem rd_not (q : tt σ H fun c H1 => QB (!c) H1) : tNot tt σ H QB := q
theorem rd_seq (q : s { D with nx := u D } σ H) : tSeq s u D σ H := q
theorem rd_next (q : D.nx σ H) : tNext D σ H := q
theorem rd_asg {g : TG} (q : te σ H fun x H1 => g x σ H1 D.nx) : tAsg te g D σ H := q
theorem rd_name {QS : L2.St → Hp → Prop} (q : QS (σ.set i (some v)) H) : gName i v σ H QS := q
theorem rd_par {j : Nat} (q : tr σ H fun vs H1 => ∃ v w, vs = [v, w] ∧ D.nx ((σ.set i (some v)).set j (some w)) H1) : tPar i j tr D σ H := q
theorem rd_par1 {P : V → V → Prop} {w : V} (q : P v w) : ∃ v' w', [v, w] = [v', w'] ∧ P v' w' := ⟨v, w, rfl, q⟩
theorem rd_ifS (q : tt σ H fun b H1 => if b = true then s D σ H1 else u D σ H1) : tIfS tt s u D σ H := q
theorem rd_ret (q : te σ H D.rt) : tRet te D σ H := q
theorem rd_drop (q : te σ H fun _ H1 => D.nx σ H1) : tDrop te D σ H := q
theorem rd_bm {T : String} {r : V → List V → Hp → VK → Prop} (q : ta σ H fun x H1 => tyV K T x H1 ∧ tr σ H1 fun xs H2 => r x xs H2 Q) : tBM K T r ta tr σ H Q := q
theorem rd_bm0 {T : String} {r : V → List V → Hp → VK → Prop} (q : ta σ H fun x H1 => tyV K T x H1 ∧ r x [] H1 Q) : tBM0 K T r ta σ H Q := q
theorem rd_dget (q : ta σ H fun x H1 => tb σ H1 fun y H2 => ∃ a v, x = .ref a ∧ DGet H2 a y (some v) ∧ Q v H2) : tDGet ta tb σ H Q := q
theorem rd_dput (q : tc σ H fun v H1 => ta σ H1 fun x H2 => tb σ H2 fun y H3 => ∃ a H4, x = .ref a ∧ DPut H3 a y v H4 ∧ D.nx σ H4) : sDPut ta tb tc D σ H := q
theorem rd_sl {r : V → Option Int → Option Int → Hp → VK → Prop} {tl th : TO} (q : te σ H fun x H1 => tl σ H1 fun l H2 => th σ H2 fun u H3 => r x l u H3 Q) : tSl r te tl th σ H Q := q
theorem rd_no {QO : Option Int → Hp → Prop} (q : QO none H) : tNoPart σ H QO := q
theorem rd_some {QO : Option Int → Hp → Prop} (q : te σ H fun x H1 => ∃ i, x = .int i ∧ QO (some i) H1) : tPart te σ H QO := q
theorem rd_some1 {P : Int → Prop} {a : Int} (q : P a) : ∃ i, V.int a = .int i ∧ P i := ⟨a, rfl, q⟩
theorem rd_yes (q : QB true H) : tYes σ H QB := q
/-! what the heap is asked -/
theorem rd_ixT {p : Addr} {xs : List V} {a : Int} (h : SqT K H p xs) (e : atI xs a = some v) (q : Q v H) : rIxT K (.ref p) (.int a) H Q := ⟨p, xs, a, v, rfl, rfl, h, e, q⟩
theorem rd_ixL {p : Addr} {xs : List V} {a : Int} (h : SqL K H p xs) (e : atI xs a = some v) (q : Q v H) : rIxL K (.ref p) (.int a) H Q := ⟨p, xs, a, v, rfl, rfl, h, e, q⟩
theorem rd_neD {d e : PyData} (h1 : Dp K H x d) (h2 : Dp K H y e) (s1 : SeqAt.shaped d = true) (s2 : SeqAt.shaped e = true) (q : Q (.bl (!PyData.eqv d e)) H) : rNeD K x y H Q := ⟨d, e, h1, h2, s1, s2, q⟩
theorem rd_eqD {d e : PyData} (h1 : Dp K H x d) (h2 : Dp K H y e) (s1 : SeqAt.shaped d = true) (s2 : SeqAt.shaped e = true) (q : Q (.bl (PyData.eqv d e)) H) : rEqD K x y H Q := ⟨d, e, h1, h2, s1, s2, q⟩
theorem rd_app {l : Addr} {xs : List V} (h : H l = some (.lst xs)) (hz : xs.length < sizeLine) (q : Q .non (upd H l (.lst (xs ++ [v])))) : rAppend (.ref l) [v] H Q := ⟨l, xs, v, rfl, rfl, h, hz, q⟩
theorem rd_tyL {l : Addr} {xs : List V} {P : Prop} (h : SqL K H l xs) (q : P) : tyV K "list" (.ref l) H ∧ P := ⟨Or.inl ⟨rfl, xs, h⟩, q⟩
theorem rd_dg {p : Addr} {kvs : List (Key × V)} {k : Key} (e : H p = some (.dK kvs)) {P : V → Prop} (l : valV kvs k = some v) (q : P v) : ∃ a v', V.ref p = .ref a ∧ DGet H a (kV k) (some v') ∧ P v' := ⟨p, v, rfl, l ▸ DGet.k (k := k) e, q⟩
theorem rd_dp {p : Addr} {kvs : List (Key × V)} {k : Key} {QH : Hp → Prop} (e : H p = some (.dK kvs)) (hl : kvs.length < sizeLine) (q : QH (upd H p (.dK (putK kvs k v)))) : ∃ a H4, V.ref p = .ref a ∧ DPut H a (kV k) v H4 ∧ QH H4 := ⟨p, _, rfl, DPut.k (k := k) e hl, q⟩
theorem rd_repr {a : Addr} {d : PyData} (h : Dp K H (.ref a) d) (h1 : d.showable = true) (h2 : d.canLay0 = true) (h3 : d.depth ≤ 128) (h4 : d.shown.length ≤ sizeLine) (q : Q (.str d.shown) H) : rReprD K [.ref a] H Q := ⟨a, d, rfl, h, h1, h2, h3, h4, q⟩
end
end Kt
namespace Kt
open PySem PySem.Spec PyProof.Rows L2 Evl
/-! ### heaps of which one object may have changed -/
/-- all that H holds but what stands at m is held by H' -/
def Keeps (m : Addr) (H H' : Hp) : Prop := ∀ b o, b ≠ m → H b = some o → H' b = some o
theorem Keeps.refl (m : Addr) (H : Hp) : Keeps m H H := fun _ _ _ h => h
theorem Keeps.trans {m : Addr} {H H1 H2 : Hp} (a : Keeps m H H1) (b : Keeps m H1 H2) : Keeps m H H2 := fun c o n h => b c o n (a c o n h)
theorem Keeps.ex {m : Addr} {H H' : Hp} (e : Ex H H') : Keeps m H H' := fun b o _ h => e b o h
theorem Keeps.put {m : Addr} {H : Hp} {o : HO} : Keeps m H (upd H m o) := fun b u n h => (upd_ne n).trans h
theorem Keeps.new {m p : Addr} {H : Hp} {o : HO} (h : H p = none) : Keeps m H (upd H p o) := Keeps.ex (Ex.new h)
theorem Keeps.mut {m p : Addr} {H H' : Hp} {o : HO} (e : Keeps m H H') (h : H p = none) : Keeps m H (upd H' p o) := fun b u n hb => (upd_ne (ne_of_none hb h)).trans (e b u n hb)
theorem Keeps.putm {m : Addr} {H H' : Hp} {o : HO} (e : Keeps m H H') : Keeps m H (upd H' m o) := e.trans Keeps.put
theorem Keeps.back {m p : Addr} {H H' : Hp} (e : Keeps m H H') (h : H' p = none) (n : p ≠ m) : H p = none := by
  cases q : H p with
  | none => rfl
  | some o => rw [e p o n q] at h; cases h
theorem Keeps.toEx {m : Addr} {H H' : Hp} (e : Keeps m H H') (h : H m = none) : Ex H H' := fun b o q => e b o (ne_of_none q h) q
/-- a tuple is none of the objects that change -/
theorem Keeps.tup {K : PySem.W.Frag} {m p : Addr} {H H' : Hp} {xs : List V} {kvs : List (Key × V)} (e : Keeps m H H') (hm : H m = some (.dK kvs)) (h : SqT K H p xs) : SqT K H' p xs := by
  rcases h with (h | ⟨o, h⟩) | h
  · exact .inl (.inl (e p _ (ne_of h hm (fun z => by cases z)) h))
  · exact .inl (.inr ⟨o, e p _ (ne_of h hm (fun z => by cases z)) h⟩)
  · exact .inr h
theorem Keeps.lst {K : PySem.W.Frag} {m p : Addr} {H H' : Hp} {xs : List V} {kvs : List (Key × V)} (e : Keeps m H H') (hm : H m = some (.dK kvs)) (h : SqL K H p xs) : SqL K H' p xs := by
  rcases h with (h | ⟨o, h⟩) | h
  · exact .inl (.inl (e p _ (ne_of h hm (fun z => by cases z)) h))
  · exact .inl (.inr ⟨o, e p _ (ne_of h hm (fun z => by cases z)) h⟩)
  · exact .inr h

/-! ### the state of the draws -/
abbrev kLeft : Key := Sum.inr "left"
abbrev kSeed : Key := Sum.inr "seed"
abbrev kCells : Key := Sum.inr "cells"
abbrev kSpot : Key := Sum.inr "spot"
theorem sum_ne {a b : Str} (h : ¬ a = b) : ¬ (Sum.inr a : Key) = Sum.inr b := fun e => h (Sum.inr.inj e)
theorem n_ls : ¬ kLeft = kSpot := sum_ne (by decide +kernel)
theorem n_ld : ¬ kLeft = kSeed := sum_ne (by decide +kernel)
theorem n_lc : ¬ kLeft = kCells := sum_ne (by decide +kernel)
theorem n_sd : ¬ kSpot = kSeed := sum_ne (by decide +kernel)
theorem n_sc : ¬ kSpot = kCells := sum_ne (by decide +kernel)
theorem n_dc : ¬ kSeed = kCells := sum_ne (by decide +kernel)
/-- at m stands the state of the draws, of which at most n have been drawn, its cells at c -/
structure Drw (H : Hp) (m c : Addr) (n : Nat) : Prop where
  ex : ∃ (kvs : List (Key × V)) (l sd sp : Int), H m = some (.dK kvs) ∧ kvs.length ≤ 10 + n ∧
    valV kvs kLeft = some (.int l) ∧ valV kvs kSeed = some (.int sd) ∧ valV kvs kSpot = some (.int sp) ∧ valV kvs kCells = some (.ref c) ∧ 0 ≤ sd ∧ sd < 2147483647 ∧ 0 ≤ sp ∧ sp ≤ n
/-- at c stand cells -/
def Cel (K : PySem.W.Frag) (H : Hp) (c : Addr) : Prop := ∃ ns : List Int, SqL K H c (ns.map V.int) ∧ 0 < ns.length ∧ ns.length ≤ 1000
theorem Drw.keep {H H' : Hp} {m c : Addr} {n : Nat} (d : Drw H m c n) (e : Ex H H') : Drw H' m c n := by
  obtain ⟨kvs, l, sd, sp, h1, h2⟩ := d.ex
  exact ⟨kvs, l, sd, sp, e _ _ h1, h2⟩
theorem Drw.mono {H : Hp} {m c : Addr} {n n' : Nat} (d : Drw H m c n) (h : n ≤ n') : Drw H m c n' := by
  obtain ⟨kvs, l, sd, sp, h1, h2, h3, h4, h5, h6, h10, h11, h12, h13⟩ := d.ex
  exact ⟨kvs, l, sd, sp, h1, by omega, h3, h4, h5, h6, h10, h11, h12, by omega⟩
theorem Drw.at {H : Hp} {m c : Addr} {n : Nat} (d : Drw H m c n) : ∃ kvs, H m = some (.dK kvs) := by
  obtain ⟨kvs, l, sd, sp, h1, _⟩ := d.ex
  exact ⟨kvs, h1⟩
/-- another object may change -/
theorem Drw.oth {H : Hp} {m c p : Addr} {n : Nat} {o : HO} (d : Drw H m c n) (h : m ≠ p) : Drw (upd H p o) m c n := by
  obtain ⟨kvs, l, sd, sp, h1, h2⟩ := d.ex
  exact ⟨kvs, l, sd, sp, (upd_ne h).trans h1, h2⟩
theorem Drw.tup {K : PySem.W.Frag} {H H' : Hp} {m c p : Addr} {n : Nat} {xs : List V} (d : Drw H m c n) (e : Keeps m H H') (h : SqT K H p xs) : SqT K H' p xs := let ⟨_, h1⟩ := d.at; e.tup h1 h
theorem Drw.lst {K : PySem.W.Frag} {H H' : Hp} {m c p : Addr} {n : Nat} {xs : List V} (d : Drw H m c n) (e : Keeps m H H') (h : SqL K H p xs) : SqL K H' p xs := let ⟨_, h1⟩ := d.at; e.lst h1 h
theorem Drw.cel {K : PySem.W.Frag} {H H' : Hp} {m c : Addr} {n : Nat} (d : Drw H m c n) (e : Keeps m H H') (h : Cel K H c) : Cel K H' c := let ⟨ns, h1, h2⟩ := h; ⟨ns, d.lst e h1, h2⟩
theorem Cel.keep {K : PySem.W.Frag} {H H' : Hp} {c : Addr} (h : Cel K H c) (e : Ex H H') : Cel K H' c := let ⟨ns, h1, h2⟩ := h; ⟨ns, ex_l e h1, h2⟩
theorem Drw.lne {H : Hp} {m c p : Addr} {n : Nat} {xs : List V} (d : Drw H m c n) (h : H p = some (.lst xs)) : p ≠ m := let ⟨_, h1⟩ := d.at; ne_of h h1 (fun z => by cases z)
/-! ### heaps in which no tuple has changed -/
structure Tx (H H' : Hp) : Prop where
  t : ∀ p xs, H p = some (.tup xs) → H' p = some (.tup xs)
  f : ∀ p o xs, H p = some (.frz o (.tup xs)) → H' p = some (.frz o (.tup xs))
  i : ∀ p C dx fs, H p = some (.ins C dx fs) → H' p = some (.ins C dx fs)
theorem Tx.ex {H H' : Hp} (e : Ex H H') : Tx H H' := ⟨fun _ _ h => e _ _ h, fun _ _ _ h => e _ _ h, fun _ _ _ _ h => e _ _ h⟩
theorem Tx.trans {H H1 H2 : Hp} (a : Tx H H1) (b : Tx H1 H2) : Tx H H2 := ⟨fun _ _ h => b.t _ _ (a.t _ _ h), fun _ _ _ h => b.f _ _ _ (a.f _ _ _ h), fun _ _ _ _ h => b.i _ _ _ _ (a.i _ _ _ _ h)⟩
theorem Tx.lst {H : Hp} {p : Addr} {ys : List V} {o : HO} (h : H p = some (.lst ys)) : Tx H (upd H p o) :=
  ⟨fun q xs h' => (upd_ne (ne_of h' h (fun z => by cases z))).trans h', fun q u xs h' => (upd_ne (ne_of h' h (fun z => by cases z))).trans h', fun q C dx fs h' => (upd_ne (ne_of h' h (fun z => by cases z))).trans h'⟩
theorem Drw.tx {H H' : Hp} {m c : Addr} {n : Nat} (d : Drw H m c n) (e : Keeps m H H') : Tx H H' := by
  obtain ⟨kvs, h⟩ := d.at
  exact ⟨fun q xs h' => e _ _ (ne_of h' h (fun z => by cases z)) h', fun q u xs h' => e _ _ (ne_of h' h (fun z => by cases z)) h', fun q C dx fs h' => e _ _ (ne_of h' h (fun z => by cases z)) h'⟩
theorem tx_t {K : PySem.W.Frag} {H H' : Hp} {a : Addr} {xs : List V} (e : Tx H H') (h : SqT K H a xs) : SqT K H' a xs := by
  rcases h with (h | ⟨o, h⟩) | h
  · exact .inl (.inl (e.t _ _ h))
  · exact .inl (.inr ⟨o, e.f _ _ _ h⟩)
  · exact .inr h
abbrev kNext : Key := Sum.inr "next"
theorem n_nl : ¬ kNext = kLeft := sum_ne (by decide +kernel)
theorem n_nd : ¬ kNext = kSeed := sum_ne (by decide +kernel)
theorem n_nc : ¬ kNext = kCells := sum_ne (by decide +kernel)
theorem n_ns : ¬ kNext = kSpot := sum_ne (by decide +kernel)
theorem merge4 (a b c d : V) : (mergeK [] [(kLeft, a), (kSeed, b), (kCells, c), (kSpot, d)]).length ≤ 5 ∧ valV (mergeK [] [(kLeft, a), (kSeed, b), (kCells, c), (kSpot, d)]) kLeft = some a ∧ valV (mergeK [] [(kLeft, a), (kSeed, b), (kCells, c), (kSpot, d)]) kSeed = some b ∧
    valV (mergeK [] [(kLeft, a), (kSeed, b), (kCells, c), (kSpot, d)]) kSpot = some d ∧ valV (mergeK [] [(kLeft, a), (kSeed, b), (kCells, c), (kSpot, d)]) kCells = some c := by
  show (putK (putK (putK (putK [] kLeft a) kSeed b) kCells c) kSpot d).length ≤ 5 ∧ valV (putK (putK (putK (putK [] kLeft a) kSeed b) kCells c) kSpot d) kLeft = some a ∧ valV (putK (putK (putK (putK [] kLeft a) kSeed b) kCells c) kSpot d) kSeed = some b ∧
    valV (putK (putK (putK (putK [] kLeft a) kSeed b) kCells c) kSpot d) kSpot = some d ∧ valV (putK (putK (putK (putK [] kLeft a) kSeed b) kCells c) kSpot d) kCells = some c
  have l1 := length_putK [] kLeft a
  have l2 := length_putK (putK [] kLeft a) kSeed b
  have l3 := length_putK (putK (putK [] kLeft a) kSeed b) kCells c
  have l4 := length_putK (putK (putK (putK [] kLeft a) kSeed b) kCells c) kSpot d
  refine ⟨by rw [List.length_nil] at l1; omega, ?_, ?_, ?_, ?_⟩
  · rw [valV_put, if_neg n_ls, valV_put, if_neg n_lc, valV_put, if_neg n_ld, valV_put, if_pos rfl]
  · rw [valV_put, if_neg (fun z => n_sd z.symm), valV_put, if_neg n_dc, valV_put, if_pos rfl]
  · rw [valV_put, if_pos rfl]
  · rw [valV_put, if_neg (fun z => n_sc z.symm), valV_put, if_pos rfl]
theorem merge5 (a b c d e : V) : (mergeK [] [(kLeft, a), (kSeed, b), (kCells, c), (kSpot, d), (kNext, e)]).length ≤ 6 ∧ valV (mergeK [] [(kLeft, a), (kSeed, b), (kCells, c), (kSpot, d), (kNext, e)]) kLeft = some a ∧ valV (mergeK [] [(kLeft, a), (kSeed, b), (kCells, c), (kSpot, d), (kNext, e)]) kSeed = some b ∧
    valV (mergeK [] [(kLeft, a), (kSeed, b), (kCells, c), (kSpot, d), (kNext, e)]) kSpot = some d ∧ valV (mergeK [] [(kLeft, a), (kSeed, b), (kCells, c), (kSpot, d), (kNext, e)]) kCells = some c := by
  obtain ⟨h1, h2, h3, h4, h5⟩ := merge4 a b c d
  show (putK (mergeK [] [(kLeft, a), (kSeed, b), (kCells, c), (kSpot, d)]) kNext e).length ≤ 6 ∧ valV (putK (mergeK [] [(kLeft, a), (kSeed, b), (kCells, c), (kSpot, d)]) kNext e) kLeft = some a ∧ valV (putK (mergeK [] [(kLeft, a), (kSeed, b), (kCells, c), (kSpot, d)]) kNext e) kSeed = some b ∧
    valV (putK (mergeK [] [(kLeft, a), (kSeed, b), (kCells, c), (kSpot, d)]) kNext e) kSpot = some d ∧ valV (putK (mergeK [] [(kLeft, a), (kSeed, b), (kCells, c), (kSpot, d)]) kNext e) kCells = some c
  have l5 := length_putK (mergeK [] [(kLeft, a), (kSeed, b), (kCells, c), (kSpot, d)]) kNext e
  refine ⟨by omega, ?_, ?_, ?_, ?_⟩
  · rw [valV_put, if_neg (fun z => n_nl z.symm)]; exact h2
  · rw [valV_put, if_neg (fun z => n_nd z.symm)]; exact h3
  · rw [valV_put, if_neg (fun z => n_ns z.symm)]; exact h4
  · rw [valV_put, if_neg (fun z => n_nc z.symm)]; exact h5
theorem cut_ints (ns : List Int) (lo hi : Option Int) : ∃ ms : List Int, cutV (ns.map V.int) lo hi = ms.map V.int ∧ ms.length ≤ ns.length := by
  refine ⟨(ns.drop (HT.sIx (ns.map V.int).length 0 lo)).take (HT.sIx (ns.map V.int).length (ns.map V.int).length hi - HT.sIx (ns.map V.int).length 0 lo), ?_, ?_⟩
  · unfold cutV
    rw [List.map_take, List.map_drop]
  · rw [List.length_take, List.length_drop]
    omega
theorem get_ints {ns : List Int} {i : Nat} {x : V} (h : (ns.map V.int)[i]? = some x) : ∃ z, x = .int z ∧ ns[i]? = some z := by
  rw [List.getElem?_map] at h
  cases e : ns[i]? with
  | none => rw [e] at h; cases h
  | some z => rw [e] at h; exact ⟨z, (Option.some.inj h).symm, rfl⟩
section
variable {σ : L2.St} {H : Hp} {Q : VK} {tk tv : TE} {trs : List (TE × TE)}
theorem rd_pnil {QP : List (V × V) → Hp → Prop} (q : QP [] H) : tPairs [] σ H QP := q
theorem rd_pcons {QP : List (V × V) → Hp → Prop} (q : tk σ H fun x H1 => tv σ H1 fun y H2 => tPairs trs σ H2 fun ps H3 => QP ((x, y) :: ps) H3) : tPairs ((tk, tv) :: trs) σ H QP := q
end
/-- a conditional expression whose two ways give a value of one kind: what follows is shown once -/
theorem rd_ifE2 {α : Type} {f : α → V} {tt : TT} {ta tb : TE} {σ : L2.St} {H : Hp} {Q : VK} (all : ∀ z : α, Q (f z) H) (h : (∀ z : α, Q (f z) H) → tIf tt ta tb σ H Q) : tIf tt ta tb σ H Q := h all
theorem rd_ifE3 {tt : TT} {ta tb : TE} {σ : L2.St} {H : Hp} {Q : VK} (P : V → Hp → Prop) (all : ∀ v H', P v H' → Q v H') (h : (∀ v H', P v H' → Q v H') → tIf tt ta tb σ H Q) : tIf tt ta tb σ H Q := h all
/-- _law_begun(script, k): the state of the draws, none drawn yet -/
def spBegun (K : PySem.W.Frag) : Sp := fun vs H Q _ => ∃ (a : Addr) (ns : List Int) (k : Int), vs = [.ref a, .int k] ∧ SqL K H a (ns.map V.int) ∧ ns.length ≤ 63 ∧ 0 ≤ k ∧ k ≤ 100 ∧
  ∀ (m c : Addr) (H' : Hp), H m = none → Ex H H' → Drw H' m c 0 → Cel K H' c → Q (.ref m) H'
/-- _law_draw(m, below) -/
def spDraw (K : PySem.W.Frag) : Sp := fun vs H Q _ => ∃ (m c : Addr) (b : Int) (n : Nat), vs = [.ref m, .int b] ∧ Drw H m c n ∧ Cel K H c ∧ n < 1000000 ∧ 0 < b ∧ b < 1000000 ∧
  ∀ (r : Int) (H' : Hp), 0 ≤ r → r < b → Keeps m H H' → Drw H' m c (n + 1) → Q (.int r) H'
/-- _law_of(m, some) -/
def spOf (K : PySem.W.Frag) : Sp := fun vs H Q _ => ∃ (m c p : Addr) (xs : List V) (n : Nat), vs = [.ref m, .ref p] ∧ SqL K H p xs ∧ 0 < xs.length ∧ xs.length < 1000000 ∧ Drw H m c n ∧ Cel K H c ∧ n < 1000000 ∧
  ∀ (i : Nat) (x : V) (H' : Hp), xs[i]? = some x → Keeps m H H' → Drw H' m c (n + 1) → Q x H'
end Kt

/-! Kt, part C: t[::-1] of a tuple. -/
namespace Kt
open PySem PySem.Spec PyProof.Rows L2
section
variable {prog : Program} {w : World} {A : Around} {E : Value → Shared → Prop} {s : Shared}
theorem adjust_back (n : Nat) : Builtin.Slice.sliceAdjust none none (-1) (n : Int) = ((n : Int) - 1, -1) := by
  unfold Builtin.Slice.sliceAdjust
  rfl
theorem places_back (n : Nat) : Builtin.Slice.slicePlaces ((n : Int) - 1) (-1) (-1) = n := by
  unfold Builtin.Slice.slicePlaces
  have h1 : ¬ ((-1 : Int) > 0) := by decide
  rw [if_neg h1]
  by_cases h : (n : Int) - 1 > -1
  · rw [if_pos h, show -(-1 : Int) = 1 by decide, Int.ediv_one]
    omega
  · rw [if_neg h]
    omega
theorem applied_back {sl : Addr} {tk : Tok} {n : Nat} {Q : Int × Int × Nat → Shared → Prop} (hs : s.heap.IsSliceOf sl .none .none (.int (-1) tk)) (h : Q ((n : Int) - 1, -1, n) s) :
    wpAny (model prog w) A (Builtin.Slice.sliceApplied (.ref sl) (pure (n : Int))) Q E s := by
  obtain ⟨os, hos, hcs, hds⟩ := id hs
  unfold Builtin.Slice.sliceApplied Builtin.Slice.sliceFields
  refine wpAny_bind (wpAny_bind (wpAny_field hos hds (x := .none) rfl (wpAny_bind (wpAny_field hos hds (x := .none) rfl (wpAny_bind (wpAny_field hos hds (x := .int (-1) tk) rfl (wpAny_pure ?_)))))))
  refine wpAny_bind (slicePart_int ?_)
  show wpAny _ _ (if ((-1 : Int) == 0) = true then _ else _) _ _ s
  rw [if_neg (by decide)]
  refine wpAny_bind (slicePart_none (wpAny_bind (slicePart_none (wpAny_bind (wpAny_pure ?_)))))
  show wpAny _ _ (match Builtin.Slice.sliceAdjust none none (-1) (n : Int) with | (lo, hi) => pure (lo, (-1 : Int), Builtin.Slice.slicePlaces lo hi (-1))) _ _ s
  rw [adjust_back]
  show wpAny _ _ (pure ((n : Int) - 1, (-1 : Int), Builtin.Slice.slicePlaces ((n : Int) - 1) (-1) (-1))) _ _ s
  rw [places_back]
  exact wpAny_pure h
theorem pick_back (xs : Array Value) : ((List.range xs.size).filterMap fun (k : Nat) => xs[((xs.size : Int) - 1 + (k : Int) * -1).toNat]?).toArray = xs.toList.reverse.toArray := by
  have e : (List.range xs.size).filterMap (fun (k : Nat) => xs[((xs.size : Int) - 1 + (k : Int) * -1).toNat]?) = ((List.range xs.size).map fun k => xs.size - 1 - k).filterMap (xs[·]?) := by
    rw [List.filterMap_map]
    have ef : (fun (k : Nat) => xs[((xs.size : Int) - 1 + (k : Int) * -1).toNat]?) = (xs[·]?) ∘ fun k => xs.size - 1 - k := by
      funext k
      have : ((xs.size : Int) - 1 + (k : Int) * -1).toNat = xs.size - 1 - k := by omega
      rw [this]
      rfl
    rw [ef]
  rw [e, PySem.W.krv_range, List.filterMap_reverse, PySem.W.krv_all]
theorem getItem_tuple_back {t sl : Addr} {items : Array Value} {tk : Tok} {Q : Value → Shared → Prop} (ht : IsTup s.heap t items) (hs : s.heap.IsSliceOf sl .none .none (.int (-1) tk))
    (h : Q (.ref s.heap.objs.size) { s with heap := s.heap.push { cls := .type "tuple", data := .seq items.toList.reverse.toArray } })
    (hsz : items.size ≤ sizeLine) : wpAny (model prog w) A (getItem (.ref t) (.ref sl)) Q E s := by
  have hz : sizeOk (.seq items.toList.reverse.toArray) := by
    show items.toList.reverse.toArray.size ≤ sizeLine
    rw [List.size_toArray, List.length_reverse, Array.length_toList]
    exact hsz
  obtain ⟨os, hos, hcs, hds⟩ := id hs
  have hTs : s.TypeIs (.ref sl) "slice" := ⟨os, hos, hcs⟩
  unfold getItem
  try with_reducible refine wpAny_holding ?_
  first | refine wpAny_bind (wpAny_pure ?_) | skip
  refine wpAny_bind (wpAny_sequenceKey ht.typeIs (by decide) ?_)
  refine wpAny_bind (wpAny_callSpecial?_slot (name := Str.ofString "__getitem__") ht.typeIs PyProof.Rows.slot_tuple_getitem
    (wpAny_call_entry PyProof.Rows.slot_tuple_getitem ht.typeIs entry_tuple_getitem ?_ (args_tuple_getitem _ _)))
  show wpAny _ _ (Builtin.Tuple.tupleItemsOf (.ref t) >>= _) _ _ s
  refine wpAny_bind (tupleItemsOf_ ht ?_)
  refine wpAny_bind (wpAny_typeOf hTs ?_)
  rw [if_pos (by decide)]
  refine wpAny_bind (applied_back (n := items.size) hs ?_)
  have hno : ¬ (((items.size : Int) - 1 == 0 && (-1 : Int) == 1 && items.size == items.size) = true) := by
    intro q
    rw [Bool.and_eq_true, Bool.and_eq_true] at q
    exact absurd q.1.2 (by decide)
  show wpAny _ _ (if ((items.size : Int) - 1 == 0 && (-1 : Int) == 1 && items.size == items.size) = true then _ else _) _ _ s
  rw [if_neg hno, pick_back]
  first
    | exact wpAny_bind (m := Builtin.Tuple.tupleExact _) (wpAny_newObj_type (wpAny_pure ⟨_, rfl, wpAny_pure h⟩) hz)
    | exact wpAny_bind (m := Builtin.Tuple.tupleExact _) (wpAny_newObj_type (wpAny_bind (wpAny_pure (wpAny_pure ⟨_, rfl, wpAny_pure h⟩))) hz)
    | exact wpAny_bind (wpAny_bind (m := Builtin.Tuple.tupleExact _) (wpAny_newObj_type (wpAny_pure (wpAny_pure ⟨_, rfl, wpAny_pure h⟩)) hz))
    | exact wpAny_bind (wpAny_bind (m := Builtin.Tuple.tupleExact _) (wpAny_newObj_type (wpAny_pure ⟨_, rfl, wpAny_pure h⟩) hz))
end
section
variable {X : Cx}
/-- t[::-1], t a tuple -/
def tRevT (K : PySem.W.Frag) (te : TE) : TE := fun σ H Q => te σ H fun x H1 => ∃ a xs, x = .ref a ∧ SqT K H1 a xs ∧ ∀ p, H1 p = none → Q (.ref p) (upd H1 p (.tup xs.reverse))
theorem pe_revT {e : Expr} {te : TE} {k : Nat} {p1 p2 p3 pos : Pos} (he : PE X e te) : PE X (.Subscript e (.Slice none none (some (.UnaryOp .USub (.Constant (.int 1) k p1) p2)) p3) pos) (tRevT X.K te) := by
  refine ⟨fun pins s σ H Q I h => ?_⟩
  refine Subscript_ (thn (he.run pins s σ H _ I h) fun v s1 ⟨x, H1, I1, r1, a, xs, ex, hx, q⟩ => ?_)
  subst ex
  cases r1
  refine wpAny_Slice (thn (po_none.run pins s1 σ H1 (fun o H2 => o = none ∧ H2 = H1) I1 ⟨rfl, rfl⟩) fun vl s2 ⟨l, H2, I2, pl, el, e2⟩ => ?_)
  subst el e2
  refine thn (po_none.run pins s2 σ H2 (fun o H3 => o = none ∧ H3 = H2) I2 ⟨rfl, rfl⟩) fun vu s3 ⟨u, H3, I3, pu, eu, e3⟩ => ?_
  subst eu e3
  refine thn ((po_some (pe_un un_neg pe_int)).run pins s3 σ H3 (fun o H4 => o = some (-1) ∧ H4 = H3) I3 ⟨1, rfl, -1, rfl, rfl, rfl⟩) fun vs s4 ⟨o, H4, I4, ps, eo, e4⟩ => ?_
  subst eo e4
  cases pl
  cases pu
  cases ps with
  | int _ tk =>
    have I5 : Inv X pins σ H4 { s4 with heap := s4.heap.push { cls := .type "slice", data := .fields #[.none, .none, .int (-1) tk] } } := I4.kept (t' := s4.toks) fun b ob q => Heap.get?_push_of_some _ q
    obtain ⟨its, r, ht, hz⟩ := I5.tuple hx
    show wpAny (model X.prog X.w) X.A (subscriptTail e (.Slice none none (some (.UnaryOp .USub (.Constant (.int 1) k p1) p2)) p3) (.ref a) (.ref s4.heap.objs.size)) (EP X pins σ Q) X.xe { s4 with heap := s4.heap.push { cls := .type "slice", data := .fields #[.none, .none, .int (-1) tk] } }
    refine tail_any (ops := [.ref a, .ref s4.heap.objs.size]) ht.typeIs PyProof.Rows.slot_tuple_getitem.lookup ?_ (by with_unfolding_all rfl)
    refine getItem_tuple_back ht (Heap.IsSliceOf.new _ _ _ _) ?_ (by rw [List.size_toArray, ← r.length]; exact hz)
    refine ⟨.ref _, _, I5.laid (t' := s4.toks) (o := .tup xs.reverse) (fun b ob q => Heap.get?_push_of_some _ q) (Nat.le_refl _) ?_, rfl, q _ (I5.hok.fresh (Nat.le_refl _))⟩
    exact ⟨by rw [List.length_reverse]; exact hz, _, r.reverse, IsTup.new _ _⟩
end
/-! ### loops -/
def ForW (J : It) (g : TG) (tb : TS) (D : Ends) (σ : L2.St) (H : Hp) : Prop := ∃ W : Nat → Nat → L2.St → Hp → Prop, (∃ m, W 0 m σ H) ∧ ∀ i m σ H, W i m σ H →
  (J.stop i H ∧ D.nx σ H) ∨ (J.go i H ∧ ∃ N : L2.St → Hp → Prop, (∀ σ' H', N σ' H' → ∃ m', m' < m ∧ W (i + 1) m' σ' H') ∧ ∀ x H', J.yld i H x H' → g x σ H' fun σ2 H2 => tb { D with nx := N, ct := N, bk := D.nx } σ2 H2)
def LcW (J : It) (g : TG) (tt : TT) (te : TE) (vs : List Nat) (σ : L2.St) (H1 : Hp) (Q : VK) : Prop := ∀ D, H1 D = none → ∃ W : Nat → Nat → Hp → Prop, (∃ m, W 0 m (upd H1 D (.lst []))) ∧ ∀ i m H, W i m H →
  (J.stop i H ∧ Q (.ref D) H) ∨ (J.go i H ∧ ∃ Nx : Hp → Prop, (∀ H', Nx H' → ∃ m', m' < m ∧ W (i + 1) m' H') ∧ ∀ x H', J.yld i H x H' → g x (wipe σ vs) H' fun σ2 H2 => wipe σ2 vs = wipe σ vs ∧ tt σ2 H2 fun b H3 =>
    if b = true then te σ2 H3 fun y H4 => ∃ acc, H4 D = some (.lst acc) ∧ acc.length < sizeLine ∧ Nx (upd H4 D (.lst (acc ++ [y]))) else Nx H3)
def RngW (vs : List V) (H : Hp) (R : It → Hp → Prop) : Prop := ∃ j : Int, vs = [.int j] ∧ -(2 ^ 62) ≤ j ∧ j < 2 ^ 62 ∧ R (Itr 0 j.toNat) H
def LstW (K : PySem.W.Frag) (x : V) (H : Hp) (R : It → Hp → Prop) : Prop := ∃ a, x = .ref a ∧ (∃ xs, SqL K H a xs) ∧ R (Itl K a) H
def TupW (K : PySem.W.Frag) (x : V) (H : Hp) (R : It → Hp → Prop) : Prop := ∃ a, x = .ref a ∧ (∃ xs, SqT K H a xs) ∧ R (Itt K a) H
section
variable {K : PySem.W.Frag} {wi : TI} {g : TG} {tb : TS} {D : Ends} {σ : L2.St} {H : Hp} {R : It → Hp → Prop} {ta : TA} {tl te : TE} {tt : TT} {vs : List Nat} {Q : VK}
theorem rd_for (q : wi σ H fun J H1 => ForW J g tb D σ H1) : tFor wi g tb D σ H := q
theorem rd_lc (q : wi σ H fun J H1 => LcW J g tt te vs σ H1 Q) : tLc wi g tt te vs σ H Q := q
theorem rd_irng (q : ta σ H fun vs H1 => RngW vs H1 R) : iRng1 ta σ H R := q
theorem rd_ilst (q : tl σ H fun x H1 => LstW K x H1 R) : iList K tl σ H R := q
theorem rd_itup (q : tl σ H fun x H1 => TupW K x H1 R) : iTup K tl σ H R := q
theorem rd_rngW {j : Int} (h1 : -(2 ^ 62) ≤ j) (h2 : j < 2 ^ 62) (q : R (Itr 0 j.toNat) H) : RngW [.int j] H R := ⟨j, rfl, h1, h2, q⟩
theorem rd_lstW {a : Addr} {xs : List V} (h : SqL K H a xs) (q : R (Itl K a) H) : LstW K (.ref a) H R := ⟨a, rfl, ⟨xs, h⟩, q⟩
theorem rd_tupW {a : Addr} {xs : List V} (h : SqT K H a xs) (q : R (Itt K a) H) : TupW K (.ref a) H R := ⟨a, rfl, ⟨xs, h⟩, q⟩
theorem rd_forN {j n : Nat} (Pv : Nat → L2.St → Hp → Prop) (h0 : Pv 0 σ H) (hs : ∀ i σ' H', i < n → Pv i σ' H' → tb { D with nx := Pv (i + 1), ct := Pv (i + 1), bk := D.nx } (σ'.set j (some (.int (i : Int)))) H')
    (hd : ∀ σ' H', Pv n σ' H' → D.nx σ' H') : ForW (Itr 0 n) (gName j) tb D σ H :=
  for_range (lo := 0) (n := n) Pv h0 (fun i σ' H' hi p => by
    show tb { D with nx := Pv (i + 1), ct := Pv (i + 1), bk := D.nx } (σ'.set j (some (.int ((0 : Int) + (i : Int))))) H'
    rw [Int.zero_add]
    exact hs i σ' H' hi p) hd
theorem rd_forL {a : Addr} {j : Nat} (xs : List V) (Pv : Nat → L2.St → Hp → Prop) (h0 : Pv 0 σ H) (hl : ∀ i σ' H', i ≤ xs.length → Pv i σ' H' → SqL K H' a xs)
    (hs : ∀ i x σ' H', xs[i]? = some x → Pv i σ' H' → tb { D with nx := Pv (i + 1), ct := Pv (i + 1), bk := D.nx } (σ'.set j (some x)) H') (hd : ∀ σ' H', Pv xs.length σ' H' → D.nx σ' H') : ForW (Itl K a) (gName j) tb D σ H :=
  for_list Pv h0 hl hs hd
theorem rd_forLg {a : Addr} (xs : List V) (Pv : Nat → L2.St → Hp → Prop) (h0 : Pv 0 σ H) (hl : ∀ i σ' H', i ≤ xs.length → Pv i σ' H' → SqL K H' a xs)
    (hs : ∀ i x σ' H', xs[i]? = some x → Pv i σ' H' → g x σ' H' fun σ2 H2 => tb { D with nx := Pv (i + 1), ct := Pv (i + 1), bk := D.nx } σ2 H2) (hd : ∀ σ' H', Pv xs.length σ' H' → D.nx σ' H') : ForW (Itl K a) g tb D σ H :=
  for_list Pv h0 hl hs hd
theorem rd_forTg {a : Addr} (xs : List V) (Pv : Nat → L2.St → Hp → Prop) (h0 : Pv 0 σ H) (hl : ∀ i σ' H', i ≤ xs.length → Pv i σ' H' → SqT K H' a xs)
    (hs : ∀ i x σ' H', xs[i]? = some x → Pv i σ' H' → g x σ' H' fun σ2 H2 => tb { D with nx := Pv (i + 1), ct := Pv (i + 1), bk := D.nx } σ2 H2) (hd : ∀ σ' H', Pv xs.length σ' H' → D.nx σ' H') : ForW (Itt K a) g tb D σ H :=
  for_tup Pv h0 hl hs hd
/-- a comprehension that filters a list by a test that changes nothing -/
theorem rd_lcF {a : Addr} {j : Nat} (xs : List V) (keep : V → Bool) (hx : ∀ H', Evl.Ex H H' → SqL K H' a xs) (hw : ∀ x, wipe ((wipe σ vs).set j (some x)) vs = wipe σ vs)
    (ht : ∀ x H', x ∈ xs → Evl.Ex H H' → ∀ Q' : Bool → Hp → Prop, Q' (keep x) H' → tt ((wipe σ vs).set j (some x)) H' Q') (he : ∀ x H', ∀ Q' : VK, Q' x H' → te ((wipe σ vs).set j (some x)) H' Q')
    (hz : xs.length < sizeLine) (q : ∀ p H', H p = none → Evl.Ex H H' → H' p = some (.lst (xs.filter keep)) → Q (.ref p) H') : LcW (Itl K a) (gName j) tt te vs σ H Q := fun Dl hD =>
  lc_list (xs := xs) (fun i H' => Evl.Ex H H' ∧ H' Dl = some (.lst ((xs.take i).filter keep))) ⟨Evl.Ex.new hD, upd_same⟩ (fun i H' _ p => hx H' p.1) (fun i x H' hi p => ⟨hw x, ht x H' (List.mem_of_getElem? hi) p.1 _ (by
    have e : xs.take (i + 1) = xs.take i ++ [x] := by rw [List.take_add_one, hi]; rfl
    have el : ((xs.take i).filter keep).length < sizeLine := Nat.lt_of_le_of_lt (Nat.le_trans (List.length_filter_le _ _) (by rw [List.length_take]; exact Nat.min_le_right _ _)) hz
    cases hk : keep x with
    | true =>
      refine iteT (he x H' _ ⟨_, p.2, el, p.1.mut hD, ?_⟩)
      rw [upd_same, e, List.filter_append, List.filter_cons, if_pos hk]
      rfl
    | false =>
      refine iteF ⟨p.1, ?_⟩
      rw [e, List.filter_append, List.filter_cons, if_neg (by rw [hk]; decide)]
      show H' Dl = some (.lst ((xs.take i).filter keep ++ []))
      rw [List.append_nil]
      exact p.2)⟩)
    (fun H' p => q Dl H' hD p.1 (by rw [← List.take_length (l := xs)]; exact p.2))
theorem rd_truL {p : Addr} {xs : List V} {P : Bool → Prop} (h : SqL K H p xs) (q : P (!xs.isEmpty)) : ∃ k, TruV K (.ref p) H k ∧ P k := ⟨_, .inl ⟨xs, h, rfl⟩, q⟩
theorem rd_pop {l : Addr} {xs : List V} {y : V} (h : H l = some (.lst (xs ++ [y]))) (q : Q y (upd H l (.lst xs))) : rPop (.ref l) [] H Q := ⟨l, xs ++ [y], y, rfl, rfl, h, by simp, by rw [List.dropLast_concat]; exact q⟩
theorem rd_revL {a : Addr} {xs : List V} {P : Addr → List V → Prop} (h : SqL K H a xs) (q : P a xs) : ∃ a' xs', V.ref a = .ref a' ∧ SqL K H a' xs' ∧ P a' xs' := ⟨a, xs, rfl, h, q⟩
def RevLW (K : PySem.W.Frag) (x : V) (H : Hp) (Q : VK) : Prop := ∃ a xs, x = .ref a ∧ SqL K H a xs ∧ MakL xs.reverse H Q
def RevTW (K : PySem.W.Frag) (x : V) (H : Hp) (Q : VK) : Prop := ∃ a xs, x = .ref a ∧ SqT K H a xs ∧ MakT xs.reverse H Q
theorem rd_tRevL (q : te σ H fun x H1 => RevLW K x H1 Q) : tRevL K te σ H Q := q
theorem rd_tRevT (q : te σ H fun x H1 => RevTW K x H1 Q) : tRevT K te σ H Q := q
theorem rd_revLW {a : Addr} {xs : List V} (h : SqL K H a xs) (q : ∀ p H', H p = none → Evl.Ex H H' → H' p = some (.lst xs.reverse) → Q (.ref p) H') : RevLW K (.ref a) H Q := ⟨a, xs, rfl, h, rd_makL q⟩
theorem rd_revTW {a : Addr} {xs : List V} (h : SqT K H a xs) (q : ∀ p H', H p = none → Evl.Ex H H' → H' p = some (.tup xs.reverse) → Q (.ref p) H') : RevTW K (.ref a) H Q := ⟨a, xs, rfl, h, rd_makT q⟩
theorem rd_in {neg : Bool} {x : V} {p : Addr} {xs : List V} (h : SqL K H p xs ∨ SqT K H p xs) (hx : flatV x = true) (ha : xs.all flatV = true) (q : Q (.bl (if neg then !inV x xs else inV x xs)) H) : rIn K neg x (.ref p) H Q := ⟨p, xs, rfl, h, hx, ha, q⟩
theorem flat_ints (ns : List Int) : (ns.map V.int).all flatV = true := by
  rw [List.all_map]
  exact List.all_eq_true.mpr fun _ _ => rfl
theorem in_ints (z : Int) (ns : List Int) : inV (.int z) (ns.map V.int) = decide (z ∈ ns) := by
  unfold inV
  rw [List.any_map]
  rw [Bool.eq_iff_iff]
  rw [List.any_eq_true, decide_eq_true_eq]
  constructor
  · rintro ⟨x, hx, e⟩
    have e' : (x == z) = true := e
    rw [beq_iff_eq] at e'
    exact e' ▸ hx
  · intro h
    exact ⟨z, h, by show (z == z) = true; exact beq_self_eq_true z⟩
theorem rd_whileX {tt : TT} (Exc : L2.St → Hp → Prop) (hd : ∀ σ' H', Exc σ' H' → D.nx σ' H') (h : (∀ σ' H', Exc σ' H' → D.nx σ' H') → tWhile tt tb D σ H) : tWhile tt tb D σ H := h hd
theorem filter_ints (l r : List Int) : (l.map V.int).filter (fun v => !inV v (r.map V.int)) = (l.filter fun z => !decide (z ∈ r)).map V.int := by
  rw [List.filter_map]
  congr 1
  apply List.filter_congr
  intro z _
  show (!inV (V.int z) (r.map V.int)) = _
  rw [in_ints]
theorem rd_gtup {n : Nat} {t : TGs} {a : Addr} {xs : List V} {QS : L2.St → Hp → Prop} (h : SqT K H a xs) (hn : xs.length = n) (q : t xs σ H QS) : gTup K n t (.ref a) σ H QS := ⟨a, xs, rfl, h, hn, q⟩
theorem rd_gcons {t : TG} {u : TGs} {v : V} {r : List V} {QS : L2.St → Hp → Prop} (q : t v σ H fun σ' H' => u r σ' H' QS) : gCons t u (v :: r) σ H QS := ⟨v, r, rfl, q⟩
theorem rd_gnil {QS : L2.St → Hp → Prop} (q : QS σ H) : gNil [] σ H QS := ⟨rfl, q⟩
end
end Kt

/-! Kt, part D: data whose repr is told: how great they are. -/
namespace Kt
open PySem PySem.Spec PyProof.Rows L2
/-- data of short ints and texts, of a weight and a depth of at most so much -/
structure Sm (w dp : Nat) (d : PyData) : Prop where
  sh : d.showable = true
  cl : d.canLay0 = true
  de : d.depth ≤ dp
  wt : d.weight ≤ w
  lf : d.leavesShort 40 = true
structure SmAll (w dp : Nat) (ds : List PyData) : Prop where
  sh : PyData.showableAll ds = true
  cl : PyData.canLayAll0 ds = true
  de : PyData.depthAll ds ≤ dp
  wt : PyData.weightAll ds ≤ w
  lf : PyData.leavesShortAll 40 ds = true
theorem log2_small {n : Nat} (h : n < 10 ^ 38) : n.log2 < 129 := by
  by_cases h0 : n = 0
  · subst h0; decide
  · rw [Nat.log2_lt h0]
    exact Nat.lt_of_lt_of_le h (by decide +kernel)
theorem shown_short {i : Int} (h : i.natAbs < 10 ^ 38) : (PyData.shown (.int i)).length ≤ 40 := by
  have e := int_text_length_le10 (k := 38) (by decide) h
  show (Str.ofString (toString i)).length ≤ 40
  rw [PySem.ofString_length]
  omega
theorem Sm.int {i : Int} (h : i.natAbs < 10 ^ 38) : Sm 130 0 (.int i) := by
  have hl := log2_small h
  refine ⟨?_, rfl, Nat.le_refl _, ?_, ?_⟩
  · simp only [PyData.showable, decide_eq_true_eq]
    omega
  · simp only [PyData.weight]
    split <;> omega
  · simp only [PyData.leavesShort, decide_eq_true_eq]
    exact shown_short h
theorem Sm.bool {b : Bool} : Sm 0 0 (.bool b) := ⟨rfl, rfl, Nat.le_refl _, Nat.le_refl _, rfl⟩
theorem Sm.none : Sm 0 0 .none := ⟨rfl, rfl, Nat.le_refl _, Nat.le_refl _, rfl⟩
theorem Sm.str {x : Str} (h : PyData.strOk x = true) : Sm x.cps.size 0 (.str x) := by
  have hc : PyData.canLay0 (.str x) = true := by simp only [PyData.canLay0]; exact h
  exact ⟨rfl, hc, Nat.le_refl _, by simp only [PyData.weight]; exact Nat.le_refl _, PyData.leavesShort_of_canLay0 40 _ hc rfl⟩
theorem SmAll.nil : SmAll 0 0 [] := ⟨rfl, rfl, Nat.le_refl _, Nat.le_refl _, rfl⟩
theorem SmAll.cons {w dp w' dp' : Nat} {d : PyData} {ds : List PyData} (a : Sm w dp d) (b : SmAll w' dp' ds) : SmAll (w + 1 + w') (max dp dp') (d :: ds) := by
  refine ⟨?_, ?_, ?_, ?_, ?_⟩
  · simp only [PyData.showableAll, a.sh, b.sh, Bool.and_self]
  · simp only [PyData.canLayAll0, a.cl, b.cl, Bool.and_self]
  · simp only [PyData.depthAll]; have := a.de; have := b.de; omega
  · simp only [PyData.weightAll]; have := a.wt; have := b.wt; omega
  · simp only [PyData.leavesShortAll, a.lf, b.lf, Bool.and_self]
theorem Sm.tuple {w dp : Nat} {ds : List PyData} (a : SmAll w dp ds) : Sm w (dp + 1) (.tuple ds) := by
  refine ⟨?_, ?_, ?_, ?_, ?_⟩
  · simp only [PyData.showable, a.sh]
  · simp only [PyData.canLay0, a.cl]
  · simp only [PyData.depth]; have := a.de; omega
  · simp only [PyData.weight]; exact a.wt
  · simp only [PyData.leavesShort, a.lf]
theorem Sm.list {w dp : Nat} {ds : List PyData} (a : SmAll w dp ds) : Sm w (dp + 1) (.list ds) := by
  refine ⟨?_, ?_, ?_, ?_, ?_⟩
  · simp only [PyData.showable, a.sh]
  · simp only [PyData.canLay0, a.cl]
  · simp only [PyData.depth]; have := a.de; omega
  · simp only [PyData.weight]; exact a.wt
  · simp only [PyData.leavesShort, a.lf]
theorem Sm.more {w dp w' dp' : Nat} {d : PyData} (a : Sm w dp d) (h1 : w ≤ w') (h2 : dp ≤ dp') : Sm w' dp' d := ⟨a.sh, a.cl, Nat.le_trans a.de h2, Nat.le_trans a.wt h1, a.lf⟩
theorem SmAll.ints : ∀ ns : List Int, (∀ z ∈ ns, z.natAbs < 10 ^ 38) → SmAll (131 * ns.length) 0 (ns.map .int)
  | [], _ => .nil
  | z :: r, h => by
    have q := SmAll.cons (Sm.int (h z List.mem_cons_self)) (SmAll.ints r fun y hy => h y (List.mem_cons_of_mem _ hy))
    rw [List.map_cons, List.length_cons]
    rw [show 131 * (r.length + 1) = 130 + 1 + 131 * r.length by omega]
    exact q
theorem Sm.fits {w dp : Nat} {d : PyData} (a : Sm w dp d) (h : w ≤ 390000) : d.shown.length ≤ sizeLine := by
  have q := PyData.shown_le 40 (by decide) d a.lf
  have h2 : (40 + 2) * d.weight ≤ 42 * 390000 := Nat.mul_le_mul (by decide) (Nat.le_trans a.wt h)
  have e : 42 * 390000 + 40 ≤ sizeLine := by decide
  omega
section
variable {K : PySem.W.Frag} {H : Hp} {Q : VK}
theorem dp_ints (ns : List Int) : DpAll K H (ns.map V.int) (ns.map .int) := by
  induction ns with
  | nil => exact .nil
  | cons z r ih => exact .cons (.int z) ih
theorem rd_repr' {a : Addr} {d : PyData} {w dp : Nat} (h : Dp K H (.ref a) d) (s : Sm w dp d) (hw : w ≤ 390000) (hd : dp ≤ 128) (q : Q (.str d.shown) H) : rReprD K [.ref a] H Q := ⟨a, d, rfl, h, s.sh, s.cl, Nat.le_trans s.de hd, s.fits hw, q⟩
end
end Kt

/-! Kt, part E: enumerate over a tuple. -/
namespace Kt
open PySem PySem.Spec PyProof.Rows L2
/-- the items of the tuple at a in turn, each in a new pair behind its number -/
def ItEn (K : PySem.W.Frag) (a : Addr) : It where
  go := fun i H => ∃ (xs : List V) (x : V), SqT K H a xs ∧ xs[i]? = some x
  yld := fun i H v H' => ∃ T x, v = .ref T ∧ H T = none ∧ H' = upd H T (.tup [.int (i : Nat), x]) ∧ ∀ xs, SqT K H a xs → xs[i]? = some x
  stop := fun i H => ∃ xs : List V, SqT K H a xs ∧ xs.length ≤ i
theorem enum_off {h : Heap} {e it a : Addr} {i : Int} {old : Value} {xs : Array Value} (he : IsEnum h e it i old) (p : h.IsTuple a xs) : e ≠ a := by
  rintro rfl
  obtain ⟨o, e1, e2, _⟩ := p
  have he' : h.get? e = some _ := he
  rw [he'] at e1
  cases e1
  exact absurd (Value.type.inj e2) (by decide)
theorem turn_en {P : Program} {w : World} {K : PySem.W.Frag} {elts : List Expr} {kk : Nat} {tpos : Pos} (a e it : Addr) :
    Turn P w K (.Tuple elts kk tpos) (ItEn K a) [e, it] e (fun i h => (∃ old, IsEnum h e it ((i : Nat) : Int) old) ∧ h.IsTupleIter it a i ∧ e ≠ it) where
  mem := List.mem_cons_self
  obj := by
    rintro i h ⟨⟨old, he⟩, ⟨o, ho, hc, hd⟩, _⟩ b hb
    rcases List.mem_cons.mp hb with rfl | hb
    · exact ⟨_, he, fun v q => nomatch q⟩
    · rw [List.mem_singleton.mp hb]
      exact ⟨o, ho, fun v q => by rw [hd] at q; cases q⟩
  keep := by
    rintro i h h' ⟨⟨old, he⟩, hi, hne⟩ k
    exact ⟨⟨old, k e List.mem_cons_self _ he⟩, hi.at fun o q => k it (List.mem_cons_of_mem _ List.mem_cons_self) o q, hne⟩
  item := by
    intro X hP hw hK hc i pins s σ H E I hf st hg
    subst hP hw hK
    obtain ⟨⟨old, he⟩, hit, hne⟩ := st
    obtain ⟨xs, x, hq, hx⟩ := hg
    obtain ⟨its, rv, p, hz⟩ := I.tuple hq
    obtain ⟨u, hu, ru⟩ := rv.get hx
    have p' : s.heap.IsTuple a its.toArray := p
    have hea := enum_off he p'
    have lt : i < its.toArray.size := by
      rw [List.size_toArray]
      exact (List.getElem?_eq_some_iff.mp hu).1
    have hia : a ≠ it := by
      rintro rfl
      obtain ⟨o, e1, e2, _⟩ := p'
      obtain ⟨o', f1, f2, _⟩ := hit
      rw [e1] at f1
      cases f1
      rw [e2] at f2
      exact absurd (Value.type.inj f2) (by decide)
    have hel : e < s.heap.objs.size := Heap.lt_size he
    have hil : it < s.heap.objs.size := by obtain ⟨_, q, _⟩ := hit; exact Heap.lt_size q
    refine wpAny_pyNext_enum_itemD (Draws.tuple (A := X.A.in1) (I.ok.hd hc) it a hia its.toArray) he ⟨hit, p'⟩ lt hne (by simp [hne, hea]) fun y h' tk hP ho hs' hT hsz hk => ?_
    have ey : y = u := by
      have q : its.toArray[i]? = some y := hP
      rw [List.getElem?_toArray, hu] at q
      exact (Option.some.inj q).symm
    subst ey
    refine ⟨_, rfl, wpAny_letOwnedTupleGo_enum (s := { s with heap := h', toks := tk + 1 }) ho fun h'' he' sb => ?_⟩
    have off : ∀ b, b ∈ [e, it] → b ≠ s.heap.objs.size := fun b hb => by
      rcases List.mem_cons.mp hb with rfl | hb
      · exact Nat.ne_of_lt hel
      · rw [List.mem_singleton.mp hb]; exact Nat.ne_of_lt hil
    have hT2 : h''.get? s.heap.objs.size = some { cls := .type "tuple", data := .seq #[.int i tk, y] } := (sb.2 _ (Nat.ne_of_gt hel)).trans hT
    have new : ObjOk X.prog X.w (upd H s.heap.objs.size (.tup [.int (i : Nat), x])) h'' s.heap.objs.size (.tup [.int (i : Nat), x]) :=
      ⟨by show 2 ≤ sizeLine; decide, [.int i tk, y], .cons ⟨_, rfl⟩ (.cons ru .nil), ⟨_, hT2, rfl, _, rfl⟩⟩
    have I1 : Inv X pins σ (upd H s.heap.objs.size (.tup [.int (i : Nat), x])) { s with heap := h'', toks := tk + 1 } :=
      I.turnedNew (ch := [e, it]) (fun b ob hb q => (sb.2 b (fun z => hb (by simp [z]))).trans (hk b ob (fun z => hb (by simp [z])) (fun z => hb (by simp [z])) q)) hf (Nat.le_refl _) new
    refine ⟨.ref s.heap.objs.size, _, I1, rfl, ⟨_, x, rfl, I.hok.fresh (Nat.le_refl _), rfl, fun ys hy => by rw [I.tuple_inj hy hq]; exact hx⟩, ⟨⟨y, ?_⟩, hs'.1.at fun o q => (sb.2 it (Ne.symm hne)).trans q, hne⟩, fun b hb => ?_⟩
    · rw [show ((i + 1 : Nat) : Int) = (i : Int) + 1 by omega]
      exact he'
    · rw [upd_ne (off b hb)]
      exact (hf b hb).1
  done := by
    intro X hP hw hK hc i pins s σ H E I hf st hg
    subst hP hw hK
    obtain ⟨⟨old, he⟩, hit, hne⟩ := st
    obtain ⟨xs, hq, hx⟩ := hg
    obtain ⟨its, rv, p, hz⟩ := I.tuple hq
    have p' : s.heap.IsTuple a its.toArray := p
    obtain ⟨f0, f1, f2, f3, f4, f5⟩ := hf it (List.mem_cons_of_mem _ List.mem_cons_self)
    have hl := rv.length
    have hT : s.TypeIs (.ref e) "enumerate" := ⟨_, he, rfl⟩
    unfold pyNext
    refine wpAny_bind (wpAny_attempt (wpAny_callSpecial?_slot (name := Str.ofString "__next__") hT F.slot_enumerate_next (wpAny_call_entry F.slot_enumerate_next hT F.entry_enumerate_next ?_ (F.args_enumerate_next_1 _))))
    show wpAny _ _ (field (.ref e) 2 >>= _) _ _ _
    refine wpAny_bind (wpAny_field he rfl (x := .ref it) rfl ?_)
    refine wpAny_bind (wpAny_nextOf_tuple_end (A := X.A.in1) (I.ok.hd hc) hit p' (by simp; omega) fun h' x he' hx' => ?_)
    obtain ⟨o, ho, hc'⟩ := hx'
    refine wpAny_bind (wpAny_isInstance (T := "StopIteration") (b := true) ⟨o, ho, hc'⟩ isSubtype_stop ?_)
    exact wpAny_pure ⟨rfl, I.turned (t' := s.toks) (fun b o hb q => he' b o hb q) f0 f1 f3 f4 f5⟩
  self := fun A i s Q E st h => let ⟨⟨_, he⟩, _⟩ := st; wpAny_pyIter_enum he h

theorem meets_en_new (l : Addr) (o : Obj) (ho : o.cls = .type "tuple") (items : Array Value) (n : Nat) (hd : o.data = .seq items n) :
    Meets (Builtin.«enumerate.__new__» ⟨[.type "enumerate", .ref l], []⟩) (fun _ R s => s.heap.get? l = some o ∧
      R (.ok (.ret (.ref (s.heap.push { cls := .type "tuple_iterator", data := .fields #[.ref l, .int 0 0] }).objs.size)))
        { s with heap := (s.heap.push { cls := .type "tuple_iterator", data := .fields #[.ref l, .int 0 0] }).push { cls := .type "enumerate", data := .fields #[.none, .bool false, .ref s.heap.objs.size, rawInt 0, .none, .none] } }) :=
  .of_wp fun prog w A R s h => by
    obtain ⟨hp, g, d, tk, os⟩ := s
    obtain ⟨hl, h⟩ := h
    have hsub := sub_enumerate
    have hL : Heap.IsTuple (Shared.heap ⟨hp, g, d, tk, os⟩) l items := ⟨_, hl, ho, n, hd⟩
    wp_walk using wpAny_pyIter_tuple hL
    refine wpAny_stack_any fun st => wpAny_pure ?_
    split
    · rename_i c _ _ _ _ _
      cases (c == Value.type "enumerate") <;> (wp_walk using wpAny_pyIter_tuple hL; exact ⟨_, rfl, h⟩)
    · wp_walk using wpAny_pyIter_tuple hL
      exact ⟨_, rfl, h⟩
section
variable {prog : Program} {w : World} {A : Around} {E : Value → Shared → Prop} {s : Shared}
theorem call_en {l : Addr} {items : Array Value} {Q : Value → Shared → Prop} (hL : s.heap.IsTuple l items)
    (h : ∀ h', IsEnum h' (s.heap.objs.size + 1) s.heap.objs.size 0 .none → h'.IsTupleIter s.heap.objs.size l 0 → (∀ b o, s.heap.get? b = some o → h'.get? b = some o) → Q (.ref (s.heap.objs.size + 1)) { s with heap := h' }) :
    wpAny (model prog w) A (call (.type "enumerate") [.ref l]) Q E s := by
  obtain ⟨o, hl, hc, n, hd⟩ := hL
  refine callType_new F.called_enumerate (by decide) (F.typeCall_enumerate_1 _) (F.newCall_enumerate_1 _) (fun obj => F.args_object_init_2 obj _) F.entry_enumerate_new (meets_en_new l o hc items n hd) ⟨hl, ?_⟩
  have hz : (s.heap.push { cls := .type "tuple_iterator", data := .fields #[.ref l, .int 0 0] }).objs.size = s.heap.objs.size + 1 := Heap.size_push ..
  show _ ∧ _
  rw [hz]
  have he : IsEnum ((s.heap.push { cls := .type "tuple_iterator", data := .fields #[.ref l, .int 0 0] }).push
      { cls := .type "enumerate", data := .fields #[.none, .bool false, .ref s.heap.objs.size, rawInt 0, .none, .none] }) (s.heap.objs.size + 1) s.heap.objs.size 0 .none := by
    rw [← hz]
    exact Heap.get?_push_size _ rfl
  exact ⟨⟨_, he, rfl⟩, h _ he ⟨_, Heap.get?_push_of_some _ (Heap.get?_push_size _ rfl), rfl, rfl⟩ fun b o x => Heap.get?_push_of_some _ (Heap.get?_push_of_some _ x)⟩
end
def EnW (K : PySem.W.Frag) (vs : List V) (H : Hp) (R : It → Hp → Prop) : Prop := ∃ a xs, vs = [.ref a] ∧ SqT K H a xs ∧ R (ItEn K a) H
def iEnT (K : PySem.W.Frag) (ta : TA) : TI := fun σ H R => ta σ H fun vs H1 => EnW K vs H1 R
theorem pi_enT {X : Cx} {e : Expr} {ta : TA} {p pos tpos : Pos} {elts : List Expr} {kk : Nat} (hg : Gl X "enumerate") (hm : X.mg "enumerate" = none) (ha : PA X [e] ta) (hs : starEach [e] X.env = [(false, eval e X.env)] := by rfl) :
    PI X (.Tuple elts kk tpos) (.Call (.Name "enumerate" p) [e] [] pos) (iEnT X.K ta) := by
  refine ⟨fun pins s σ H R I h => ?_⟩
  refine Call_ (ld_blt I hg hm boot_enumerate (PyProof.Rows.callWith_type1 (thn (ha.run pos pins s σ H _ I h) fun us s1 ⟨vs, H1, I1, r1, a, xs, ex, hq, q⟩ => ?_) hs rfl))
  subst ex
  obtain ⟨u, rfl, r⟩ := vals1 r1
  cases r
  obtain ⟨its, rv, p', hz⟩ := I1.tuple hq
  refine call_en (show s1.heap.IsTuple a its.toArray from p') fun h' he hit hk => wpAny_pyIter_enum he ?_
  have I2 : Inv X pins σ H1 { s1 with heap := h' } := I1.kept (t' := s1.toks) hk
  refine ⟨s1.heap.objs.size + 1, [s1.heap.objs.size + 1, s1.heap.objs.size], _, _, H1, rfl, I2, turn_en a (s1.heap.objs.size + 1) s1.heap.objs.size, ⟨⟨.none, he⟩, hit, Nat.succ_ne_self _⟩, fun b hb => ?_, q⟩
  have hle : s1.heap.objs.size ≤ b := by
    rcases List.mem_cons.mp hb with rfl | hb
    · exact Nat.le_add_right _ _
    · rw [List.mem_singleton.mp hb]; exact Nat.le_refl _
  exact I1.fpOk hle (I1.hok.fresh hle)
section
variable {K : PySem.W.Frag} {g : TG} {tb : TS} {D : Ends} {σ : L2.St} {H : Hp} {R : It → Hp → Prop} {ta : TA}
theorem rd_enT (q : ta σ H fun vs H1 => EnW K vs H1 R) : iEnT K ta σ H R := q
theorem rd_enW {a : Addr} {xs : List V} (h : SqT K H a xs) (q : R (ItEn K a) H) : EnW K [.ref a] H R := ⟨a, xs, rfl, h, q⟩
/-- for i, x in enumerate(t) -/
theorem rd_forEn {a : Addr} (xs : List V) (Pv : Nat → L2.St → Hp → Prop) (h0 : Pv 0 σ H) (hl : ∀ i σ' H', i ≤ xs.length → Pv i σ' H' → SqT K H' a xs)
    (hs : ∀ i x T σ' H' H2, xs[i]? = some x → Pv i σ' H' → H' T = none → Evl.Ex H' H2 → H2 T = some (.tup [.int (i : Nat), x]) → g (.ref T) σ' H2 fun σ2 H3 => tb { D with nx := Pv (i + 1), ct := Pv (i + 1), bk := D.nx } σ2 H3)
    (hd : ∀ σ' H', Pv xs.length σ' H' → D.nx σ' H') : ForW (ItEn K a) g tb D σ H := by
  refine ⟨fun i m σ H => m = xs.length - i ∧ i ≤ xs.length ∧ Pv i σ H, ⟨xs.length, rfl, Nat.zero_le _, h0⟩, ?_⟩
  rintro i m σ H ⟨rfl, hi, p⟩
  have q := hl i σ H hi p
  by_cases hlt : i < xs.length
  · have hx : xs[i]? = some xs[i] := List.getElem?_eq_getElem hlt
    refine .inr ⟨⟨xs, _, q, hx⟩, Pv (i + 1), fun σ' H' p' => ⟨xs.length - (i + 1), by omega, rfl, hlt, p'⟩, fun v H' y => ?_⟩
    obtain ⟨T, x', rfl, hT, rfl, f1⟩ := y
    exact hs i x' T σ H _ (f1 xs q) p hT (Evl.Ex.new hT) upd_same
  · have e : i = xs.length := by omega
    subst e
    exact .inl ⟨⟨xs, q, Nat.le_refl _⟩, hd σ H p⟩
end
end Kt

set_option maxHeartbeats 2000000
/-! Kt, part F: list(zip(t, u)) of two tuples of one length. -/
namespace Kt
open PySem PySem.Spec PyProof.Rows L2
/-- a zip of two tuples that has given k pairs, the last of which may still be out -/
structure ZSt (h : Heap) (z TI TO i1 i2 a b S : Addr) (xs ys : Array Value) (k : Nat) : Prop where
  ti : IsPair h TI (.ref i1) (.ref i2)
  t1 : h.IsTupleIter i1 a k
  t2 : h.IsTupleIter i2 b k
  a1 : h.IsTuple a xs
  a2 : h.IsTuple b ys
  st : (IsZip h z TI TO .none ∧ ∃ x y, IsPair h TO x y) ∨ ∃ T f oT, PySem.IsZipHeld h z TI TO T f ∧ h.get? T = some oT ∧ T ≠ z ∧ T ≠ TO ∧ T ≠ i1 ∧ T ≠ i2 ∧ T ≠ S
theorem ZSt.zip {h : Heap} {z TI TO i1 i2 a b S : Addr} {xs ys : Array Value} {k : Nat} (t : ZSt h z TI TO i1 i2 a b S xs ys k) : ∃ o, h.get? z = some o ∧ o.cls = .type "zip" := by
  rcases t.st with ⟨q, _⟩ | ⟨T, f, oT, q, _⟩
  · exact ⟨_, q, rfl⟩
  · exact ⟨_, q, rfl⟩
theorem ZSt.keep {h h' : Heap} {z TI TO i1 i2 a b S : Addr} {xs ys : Array Value} {k : Nat} (t : ZSt h z TI TO i1 i2 a b S xs ys k) (hz : z ≠ S) (hTI : TI ≠ S) (hTO : TO ≠ S) (h1 : i1 ≠ S) (h2 : i2 ≠ S) (ha : a ≠ S) (hb : b ≠ S)
    (kp : ∀ c o, c ≠ S → h.get? c = some o → h'.get? c = some o) : ZSt h' z TI TO i1 i2 a b S xs ys k := by
  refine ⟨kp _ _ hTI t.ti, t.t1.at fun o q => kp _ o h1 q, t.t2.at fun o q => kp _ o h2 q, let ⟨o, q, r⟩ := t.a1; ⟨o, kp _ o ha q, r⟩, let ⟨o, q, r⟩ := t.a2; ⟨o, kp _ o hb q, r⟩, ?_⟩
  rcases t.st with ⟨q, x, y, r⟩ | ⟨T, f, oT, q, r, n1, n2, n3, n4, n5⟩
  · exact .inl ⟨kp _ _ hz q, x, y, kp _ _ hTO r⟩
  · exact .inr ⟨T, f, oT, kp _ _ hz q, kp _ _ n5 r, n1, n2, n3, n4, n5⟩
section
variable {prog : Program} {w : World} {A : Around} {E : Value → Shared → Prop} {s : Shared} {z TI TO i1 i2 a b S : Addr} {xs ys : Array Value} {k : Nat}
theorem zl_held {T : Addr} {f : Bool} {oT : Obj} {x y : Value} {Q : Value → Shared → Prop} (D : ZipApart z TI TO i1 i2 a b) (hz : PySem.IsZipHeld s.heap z TI TO T f) (hT : s.heap.get? T = some oT) (hTI : IsPair s.heap TI (.ref i1) (.ref i2))
    (h1 : s.heap.IsTupleIter i1 a k) (h2 : s.heap.IsTupleIter i2 b k) (hl1 : s.heap.IsTuple a xs) (hl2 : s.heap.IsTuple b ys) (hx : xs[k]? = some x) (hy : ys[k]? = some y)
    (hQ : ∀ h', PySem.IsZipHeld h' z TI TO T true → h'.IsTupleIter i1 a (k + 1) → h'.IsTupleIter i2 b (k + 1) → IsPair h' s.heap.objs.size x y → h'.objs.size = s.heap.objs.size + 1 →
      (∀ c o, c ≠ z → c ≠ i1 → c ≠ i2 → s.heap.get? c = some o → h'.get? c = some o) → Q (.ref s.heap.objs.size) { s with heap := h' }) :
    wpAny (model prog w) A (Builtin.«zip.__next__» ⟨[.ref z], []⟩) (fun fin s' => ∃ v, fin = .done (.ret v) ∧ Q v s') E s := by
  show wpAny _ _ (field (.ref z) 2 >>= _) _ _ _
  refine wpAny_bind (wpAny_field hz rfl (x := .bool false) rfl ?_)
  show wpAny _ _ (field (.ref z) 3 >>= _) _ _ _
  refine wpAny_bind (wpAny_field hz rfl (x := .ref TI) rfl (wpAny_bind (wpAny_seqItems hTI rfl ?_)))
  show wpAny _ _ (Builtin.SmallTypes.ownedTupleIsFree (.ref z) >>= _) _ _ _
  refine wpAny_bind (PySem.wpAny_tupleHeld_zip hz hT fun u1 z1 s1 => ?_)
  simp only [Bool.false_eq_true, if_false]
  refine wpAny_bind ?_
  rw [← Array.forIn_toList]
  simp only [List.forIn_cons, List.forIn_nil]
  refine wpAny_bind (wpAny_bind (wpAny_holding ?_))
  show wpAny _ _ (Builtin.SmallTypes.nextOf (.ref i1) >>= _) _ _ _
  refine wpAny_bind (RZ.nextOf_tuple_item (s := { s with heap := u1 }) (h1.extBut s1.extBut D.i1z) (hl1.extBut s1.extBut D.l1z) hx fun u2 j1 s2 => wpAny_pure (wpAny_pure ?_))
  refine wpAny_bind (wpAny_bind (wpAny_holding ?_))
  show wpAny _ _ (Builtin.SmallTypes.nextOf (.ref i2) >>= _) _ _ _
  refine wpAny_bind (RZ.nextOf_tuple_item (s := { s with heap := u2 }) ((h2.extBut s1.extBut D.i2z).extBut s2.extBut D.i12.symm) ((hl2.extBut s1.extBut D.l2z).extBut s2.extBut D.l2i1) hy fun u3 j2 s3 => wpAny_pure (wpAny_pure (wpAny_pure ?_)))
  show wpAny _ _ (newTuple [x, y] >>= _) _ _ _
  refine wpAny_bind (wpAny_newTuple ?_)
  have sz : u3.objs.size = s.heap.objs.size := by rw [s3.1, s2.1, s1.1]
  have kp : ∀ c o, c ≠ z → c ≠ i1 → c ≠ i2 → s.heap.get? c = some o → u3.get? c = some o := fun c o n1 n2 n3 e => s3.extBut _ _ n3 (s2.extBut _ _ n2 (s1.extBut _ _ n1 e))
  have z3 : PySem.IsZipHeld u3 z TI TO T true := s3.extBut _ _ D.i2z.symm (s2.extBut _ _ D.i1z.symm z1)
  have j3 : u3.IsTupleIter i1 a (k + 1) := j1.extBut s3.extBut D.i12
  refine wpAny_pure ⟨_, rfl, ?_⟩
  have np : IsPair (u3.push { cls := .type "tuple", data := .seq #[x, y] }) u3.objs.size x y := Heap.get?_push_size _ rfl
  have nz : (u3.push { cls := .type "tuple", data := .seq #[x, y] }).objs.size = u3.objs.size + 1 := Heap.size_push ..
  show Q (.ref u3.objs.size) _
  rw [sz] at np nz ⊢
  exact hQ _ (Heap.get?_push_of_some _ z3) (j3.at fun o e => Heap.get?_push_of_some _ e) (j2.at fun o e => Heap.get?_push_of_some _ e) np nz fun c o n1 n2 n3 e => Heap.get?_push_of_some _ (kp c o n1 n2 n3 e)
theorem zl_held_end {T : Addr} {f : Bool} {oT : Obj} {Q : Fin → Shared → Prop} (hh : A.handled = none) (D : ZipApart z TI TO i1 i2 a b) (hz : PySem.IsZipHeld s.heap z TI TO T f) (hT : s.heap.get? T = some oT) (hTI : IsPair s.heap TI (.ref i1) (.ref i2))
    (h1 : s.heap.IsTupleIter i1 a k) (hl1 : s.heap.IsTuple a xs) (hx : xs[k]? = none)
    (hE : ∀ h' e, (∀ c o, c ≠ z → c ≠ i1 → c ≠ i2 → s.heap.get? c = some o → h'.get? c = some o) → (∃ o, h'.get? e = some o ∧ o.cls = .type "StopIteration") → E (.ref e) { s with heap := h' }) :
    wpAny (model prog w) A (Builtin.«zip.__next__» ⟨[.ref z], []⟩) Q E s := by
  show wpAny _ _ (field (.ref z) 2 >>= _) _ _ _
  refine wpAny_bind (wpAny_field hz rfl (x := .bool false) rfl ?_)
  show wpAny _ _ (field (.ref z) 3 >>= _) _ _ _
  refine wpAny_bind (wpAny_field hz rfl (x := .ref TI) rfl (wpAny_bind (wpAny_seqItems hTI rfl ?_)))
  show wpAny _ _ (Builtin.SmallTypes.ownedTupleIsFree (.ref z) >>= _) _ _ _
  refine wpAny_bind (PySem.wpAny_tupleHeld_zip hz hT fun u1 z1 s1 => ?_)
  simp only [Bool.false_eq_true, if_false]
  refine wpAny_bind ?_
  rw [← Array.forIn_toList]
  simp only [List.forIn_cons, List.forIn_nil]
  refine wpAny_bind (wpAny_bind (wpAny_holding ?_))
  show wpAny _ _ (Builtin.SmallTypes.nextOf (.ref i1) >>= _) _ _ _
  refine wpAny_bind (RZ.nextOf_tuple_end (s := { s with heap := u1 }) hh (h1.extBut s1.extBut D.i1z) (hl1.extBut s1.extBut D.l1z) hx fun u2 e s2 he => ?_)
  exact hE u2 e (fun c o n1 n2 _ x => s2 _ _ n2 (s1.extBut _ _ n1 x)) he
theorem zl_item {x y : Value} {Q : Option Value → Shared → Prop} (D : ZipApart z TI TO i1 i2 a b) (t : ZSt s.heap z TI TO i1 i2 a b S xs ys k) (hS : S < s.heap.objs.size) (hx : xs[k]? = some x) (hy : ys[k]? = some y)
    (hQ : ∀ h', ZSt h' z TI TO i1 i2 a b S xs ys (k + 1) → IsPair h' s.heap.objs.size x y → h'.objs.size = s.heap.objs.size + 1 → (∀ c o, c ≠ z → c ≠ TO → c ≠ i1 → c ≠ i2 → s.heap.get? c = some o → h'.get? c = some o) → Q (some (.ref s.heap.objs.size)) { s with heap := h' }) :
    wpAny (model prog w) A (pyNext (.ref z)) Q E s := by
  have lt : ∀ {c o}, s.heap.get? c = some o → s.heap.objs.size ≠ c := fun e => Nat.ne_of_gt (Heap.lt_size e)
  obtain ⟨o1, e1, r1⟩ := id t.t1
  obtain ⟨o2, e2, r2⟩ := id t.t2
  obtain ⟨oa, ea, ra⟩ := id t.a1
  obtain ⟨ob, eb, rb⟩ := id t.a2
  rcases t.st with ⟨q, x0, y0, r⟩ | ⟨T, f, oT, q, r, n1, n2, n3, n4, n5⟩
  · refine RZ.pyNext_zipT_item D q t.ti r t.t1 t.t2 t.a1 t.a2 hx hy fun h' z' TO' j1 j2 p sz kp => ?_
    exact hQ h' ⟨kp _ _ D.TIz D.TITO D.TIi1 D.TIi2 t.ti, j1, j2, ⟨oa, kp _ _ D.l1z D.l1TO D.l1i1 D.l1i2 ea, ra⟩, ⟨ob, kp _ _ D.l2z D.l2TO D.l2i1 D.l2i2 eb, rb⟩, .inr ⟨s.heap.objs.size, false, _, z', p, lt q, lt r, lt e1, lt e2, Nat.ne_of_gt hS⟩⟩ p sz kp
  · have hTy : s.TypeIs (.ref z) "zip" := ⟨_, q, rfl⟩
    unfold pyNext
    refine wpAny_bind (wpAny_attempt (wpAny_callSpecial?_slot (name := Str.ofString "__next__") hTy F.slot_zip_next (wpAny_call_entry F.slot_zip_next hTy F.entry_zip_next
      (zl_held D q r t.ti t.t1 t.t2 t.a1 t.a2 hx hy fun h' z' j1 j2 p sz kp => wpAny_pure ?_) (F.args_zip_next_1 _))))
    exact hQ h' ⟨kp _ _ D.TIz D.TIi1 D.TIi2 t.ti, j1, j2, ⟨oa, kp _ _ D.l1z D.l1i1 D.l1i2 ea, ra⟩, ⟨ob, kp _ _ D.l2z D.l2i1 D.l2i2 eb, rb⟩, .inr ⟨T, true, oT, z', kp _ _ n1 n3 n4 r, n1, n2, n3, n4, n5⟩⟩ p sz fun c o m1 _ m3 m4 e => kp c o m1 m3 m4 e
theorem zl_end {Q : Option Value → Shared → Prop} (hh : A.handled = none) (D : ZipApart z TI TO i1 i2 a b) (t : ZSt s.heap z TI TO i1 i2 a b S xs ys k) (hx : xs[k]? = none)
    (hQ : ∀ h', (∀ c o, c ≠ z → c ≠ TO → c ≠ i1 → c ≠ i2 → s.heap.get? c = some o → h'.get? c = some o) → Q none { s with heap := h' }) : wpAny (model prog w) A (pyNext (.ref z)) Q E s := by
  rcases t.st with ⟨q, x0, y0, r⟩ | ⟨T, f, oT, q, r, n1, n2, n3, n4, n5⟩
  · exact RZ.pyNext_zipT_end hh D q t.ti r t.t1 t.t2 t.a1 t.a2 (.inl hx) hQ
  · have hTy : s.TypeIs (.ref z) "zip" := ⟨_, q, rfl⟩
    unfold pyNext
    refine wpAny_bind (wpAny_attempt (wpAny_callSpecial?_slot (name := Str.ofString "__next__") hTy F.slot_zip_next (wpAny_call_entry F.slot_zip_next hTy F.entry_zip_next
      (zl_held_end (A := A.in1) hh D q r t.ti t.t1 t.a1 hx fun h' e kp he => ?_) (F.args_zip_next_1 _))))
    obtain ⟨o, ho, hc⟩ := he
    refine wpAny_bind (wpAny_isInstance (T := "StopIteration") (b := true) ⟨o, ho, hc⟩ isSubtype_stop ?_)
    exact wpAny_pure (hQ _ fun c o m1 _ m3 m4 e => kp c o m1 m3 m4 e)
end
/-- the pairs laid behind lo at the addresses as -/
structure ZG (xs ys : Array Value) (lo : Addr) (h : Heap) (as : List Addr) : Prop where
  rise : as.Pairwise (· < ·)
  above : ∀ c ∈ as, lo < c
  pairs : ∀ (j : Nat) (c : Addr), as[j]? = some c → ∃ x y, xs[j]? = some x ∧ ys[j]? = some y ∧ IsPair h c x y
theorem ZG.there {xs ys : Array Value} {lo : Addr} {h : Heap} {as : List Addr} (g : ZG xs ys lo h as) {c : Addr} (hc : c ∈ as) : c < h.objs.size := by
  obtain ⟨j, hj⟩ := List.mem_iff_getElem?.mp hc
  obtain ⟨_, _, _, _, e⟩ := g.pairs j c hj
  exact Heap.lt_size e
theorem ZG.keep {xs ys : Array Value} {lo : Addr} {h h' : Heap} {as : List Addr} (g : ZG xs ys lo h as) (k : ∀ c o, lo < c → h.get? c = some o → h'.get? c = some o) : ZG xs ys lo h' as :=
  ⟨g.rise, g.above, fun j c e => let ⟨x, y, e1, e2, e3⟩ := g.pairs j c e; ⟨x, y, e1, e2, k c _ (g.above c (List.mem_of_getElem? e)) e3⟩⟩
theorem ZG.push {xs ys : Array Value} {lo c : Addr} {h : Heap} {as : List Addr} {x y : Value} (g : ZG xs ys lo h as) (hl : ∀ b ∈ as, b < c) (hc : lo < c) (hx : xs[as.length]? = some x) (hy : ys[as.length]? = some y) (p : IsPair h c x y) : ZG xs ys lo h (as ++ [c]) := by
  refine ⟨List.pairwise_append.mpr ⟨g.rise, List.pairwise_singleton _ _, fun b hb d hd => ?_⟩, fun b hb => ?_, fun j d hj => ?_⟩
  · rw [List.mem_singleton.mp hd]; exact hl b hb
  · rcases List.mem_append.mp hb with hb | hb
    · exact g.above b hb
    · rw [List.mem_singleton.mp hb]; exact hc
  · rcases Nat.lt_trichotomy j as.length with q | q | q
    · rw [List.getElem?_append_left q] at hj
      exact g.pairs j d hj
    · subst q
      have e : c = d := by simpa using hj
      subst e
      exact ⟨x, y, hx, hy, p⟩
    · rw [List.getElem?_eq_none (by rw [List.length_append, List.length_singleton]; omega)] at hj
      cases hj
abbrev lstAt (acc : Array Value) (c : Nat) : Obj := { cls := .type "list", dict := none, data := .seq acc c, slots := #[] }
section
variable {prog : Program} {w : World} {A : Around} {s : Shared} {R : Result → Shared → Prop} {z TI TO i1 i2 a b S : Addr} {xs ys : Array Value}
theorem zl_loop (hh : A.handled = none) (D : ZipApart z TI TO i1 i2 a b) (hxy : xs.size = ys.size) (hn : xs.size ≤ sizeLine) (res : Value) {h₁ : Heap} (ns : S ≠ z ∧ S ≠ TI ∧ S ≠ TO ∧ S ≠ i1 ∧ S ≠ i2 ∧ S ≠ a ∧ S ≠ b)
    (lo : Addr) (hlo : S ≤ lo ∧ z ≤ lo ∧ TO ≤ lo ∧ i1 ≤ lo ∧ i2 ≤ lo)
    (hR : ∀ h' tk acc c as, (∀ d o, d ≠ S → d ≠ z → d ≠ TO → d ≠ i1 → d ≠ i2 → h₁.get? d = some o → h'.get? d = some o) → h'.get? S = some (lstAt acc c) → as.length = xs.size → ZG xs ys lo h' as → acc.toList = as.map Value.ref → R (.ok (.ret res)) { s with heap := h', toks := tk }) :
    ∀ (m i : Nat) (h : Heap) (tk c : Nat) (acc : Array Value) (as : List Addr), xs.size - i = m → i ≤ xs.size → ZSt h z TI TO i1 i2 a b S xs ys i → (∀ d o, d ≠ S → d ≠ z → d ≠ TO → d ≠ i1 → d ≠ i2 → h₁.get? d = some o → h.get? d = some o) →
      h.get? S = some (lstAt acc c) → acc.toList = as.map Value.ref → as.length = i → ZG xs ys lo h as → lo < h.objs.size →
      codeAny (model prog w) A (.builtin "list.extend.loop" ⟨[.ref S, .ref z, res], []⟩) R { s with heap := h, toks := tk } := by
  obtain ⟨nz, nTI, nTO, n1, n2, na, nb⟩ := ns
  obtain ⟨l0, l1, l2, l3, l4⟩ := hlo
  have off : ∀ {d y : Addr}, lo < d → y ≤ lo → d ≠ y := fun q l e => Nat.lt_irrefl lo (Nat.lt_of_lt_of_le q (Nat.le_trans (Nat.le_of_eq e) l))
  intro m
  induction m with
  | zero =>
    intro i h tk c acc as hm hi t kp hS hacc hl hG hs
    refine codeAny_builtin F.entry_extend_loop ?_
    rw [Around.under_plainId F.plain_extend_loop _]
    show wpAny _ A.in1 (pyNext (.ref z) >>= _) _ _ _
    refine wpAny_bind (zl_end (s := { s with heap := h, toks := tk }) (A := A.in1) hh D t (Array.getElem?_eq_none (by omega)) fun h' k' => ?_)
    refine wpAny_pure (hR h' tk acc c as (fun d o m1 m2 m3 m4 m5 e => k' d o m2 m3 m4 m5 (kp d o m1 m2 m3 m4 m5 e)) (k' S _ nz nTO n1 n2 hS) (by omega) (hG.keep fun d o q e => k' d o (off q l1) (off q l2) (off q l3) (off q l4) e) hacc)
  | succ m ih =>
    intro i h tk c acc as hm hi t kp hS hacc hl hG hs
    have lt : i < xs.size := by omega
    have hx : xs[i]? = some xs[i] := Array.getElem?_eq_getElem lt
    have hy : ys[i]? = some (ys[i]'(by omega)) := Array.getElem?_eq_getElem (by omega)
    have hsz : acc.size = i := by rw [← Array.length_toList, hacc, List.length_map, hl]
    refine codeAny_builtin F.entry_extend_loop ?_
    rw [Around.under_plainId F.plain_extend_loop _]
    show wpAny _ A.in1 (pyNext (.ref z) >>= _) _ _ _
    refine wpAny_bind (zl_item (s := { s with heap := h, toks := tk }) (S := S) D t (Heap.lt_size hS) hx hy fun h' t' p sz k' => ?_)
    dsimp only at p sz k' ⊢
    have hS' := k' S _ nz nTO n1 n2 hS
    have up : ∀ d o, d ≠ S → h'.get? d = some o → (h'.update S (Obj.mapSeq (·.push (Value.ref h.objs.size)))).get? d = some o := fun d o hd e => (Heap.get?_update_other _ _ (Ne.symm hd)).trans e
    have hSl : S < h.objs.size := Heap.lt_size hS
    have szu : (h'.update S (Obj.mapSeq (·.push (Value.ref h.objs.size)))).get? h.objs.size = _ := up _ _ (Nat.ne_of_gt hSl) p
    show wpAny _ A.in1 (updateSeq S (·.push (Value.ref h.objs.size)) >>= _) _ _ _
    refine wpAny_bind ?_
    refine wpAny_updateSeq hS' rfl (wpAny_pure ⟨plainId_quiet F.plain_extend_loop _, ih (i + 1) _ tk _ (acc.push (Value.ref h.objs.size)) (as ++ [h.objs.size]) (by omega) lt (t'.keep (Ne.symm nz) (Ne.symm nTI) (Ne.symm nTO) (Ne.symm n1) (Ne.symm n2) (Ne.symm na) (Ne.symm nb) up)
      (fun d o m1 m2 m3 m4 m5 e => up d o m1 (k' d o m2 m3 m4 m5 (kp d o m1 m2 m3 m4 m5 e))) (Heap.get?_update_self _ hS' rfl) (by rw [Array.toList_push, hacc, List.map_append]; rfl) (by rw [List.length_append, hl]; rfl) ?_ ?_⟩) (by rw [hsz]; omega) (by show (acc.push (Value.ref h.objs.size)).size ≤ sizeLine + 1; rw [Array.size_push, hsz]; omega)
    · refine ZG.push (hG.keep fun d o q e => up d o (off q l0) (k' d o (off q l1) (off q l2) (off q l3) (off q l4) e)) (fun d hd => hG.there hd) hs (by rw [hl]; exact hx) (by rw [hl]; exact hy) szu
    · exact Nat.lt_trans hs (Heap.lt_size szu)
end
theorem zip_no_len : typeLookup (.type "zip") "__len__" = pure none := am_miss_of_fast (by decide +kernel)
theorem zip_no_hint : typeLookup (.type "zip") "__length_hint__" = pure none := am_miss_of_fast (by decide +kernel)
end Kt

set_option maxHeartbeats 2000000
/-! Kt, part G: list(zip(t, u)): the call, and what is tracked behind it. -/
namespace Kt
open PySem PySem.Spec PyProof.Rows L2
section
variable {prog : Program} {w : World} {A : Around} {E : Value → Shared → Prop} {s : Shared} {z TI TO i1 i2 a b : Addr} {xs ys : Array Value}
theorem zl_extend {R : Result → Shared → Prop} {S : Addr} (hh : A.handled = none) (D : ZipApart z TI TO i1 i2 a b) (hxy : xs.size = ys.size) (hn : xs.size ≤ sizeLine) (res : Value) (t : ZSt s.heap z TI TO i1 i2 a b S xs ys 0) (q0 : IsZip s.heap z TI TO .none) (c₀ : Nat)
    (ns : z < S ∧ TI < S ∧ TO < S ∧ i1 < S ∧ i2 < S ∧ a < S ∧ b < S) (hS : s.heap.get? S = some (lstAt #[] c₀))
    (hR : ∀ h' tk acc c as, (∀ d o, d ≠ S → d ≠ z → d ≠ TO → d ≠ i1 → d ≠ i2 → s.heap.get? d = some o → h'.get? d = some o) → h'.get? S = some (lstAt acc c) → as.length = xs.size → ZG xs ys S h' as → acc.toList = as.map Value.ref → R (.ok (.ret res)) { s with heap := h', toks := tk }) :
    wpAny (model prog w) A.in1 (Builtin.List.listExtendWith (.ref S) (.ref z) res)
      (fun fin s' => match fin with | .done f => R (.ok f) s' | .again c' => c'.quiet = true ∧ codeAny (model prog w) A c' R s') (fun e s' => R (.error e) s') s := by
  obtain ⟨n1, n2, n3, n4, n5, n6, n7⟩ := ns
  have hT : s.TypeIs (.ref z) "zip" := t.zip
  have go : ∀ (h : Heap) (c tk : Nat), (∀ d o, d ≠ S → s.heap.get? d = some o → h.get? d = some o) → h.get? S = some (lstAt #[] c) → codeAny (model prog w) A (.builtin "list.extend.loop" ⟨[.ref S, .ref z, res], []⟩) R { s with heap := h, toks := tk } := fun h c tk k hS' =>
    zl_loop (A := A) (s := s) (R := R) hh D hxy hn res (h₁ := s.heap) ⟨Nat.ne_of_gt n1, Nat.ne_of_gt n2, Nat.ne_of_gt n3, Nat.ne_of_gt n4, Nat.ne_of_gt n5, Nat.ne_of_gt n6, Nat.ne_of_gt n7⟩ S ⟨Nat.le_refl _, Nat.le_of_lt n1, Nat.le_of_lt n3, Nat.le_of_lt n4, Nat.le_of_lt n5⟩ hR xs.size 0 h tk c #[] [] rfl (Nat.zero_le _)
      (t.keep (Nat.ne_of_lt n1) (Nat.ne_of_lt n2) (Nat.ne_of_lt n3) (Nat.ne_of_lt n4) (Nat.ne_of_lt n5) (Nat.ne_of_lt n6) (Nat.ne_of_lt n7) k) (fun d o m1 _ _ _ _ e => k d o m1 e) hS' rfl rfl ⟨List.Pairwise.nil, fun _ q => (nomatch q), fun j c q => by simp at q⟩ (Heap.lt_size hS')
  unfold Builtin.List.listExtendWith
  refine wpAny_bind (wpAny_typeOf hT ?_)
  have h1 : Builtin.List.listSameRef (.ref S) (.ref z) = false := by simp [Builtin.List.listSameRef, Nat.ne_of_gt n1]
  have h2 : (Value.type "zip" == Value.type "list") = false := by decide
  have h3 : (Value.type "zip" == Value.type "tuple") = false := by decide
  simp only [h1, h2, h3, Bool.or_false, Bool.false_eq_true, if_false]
  refine wpAny_bind (wpAny_pyIter_zip q0 ?_)
  refine wpAny_bind (wpAny_holding ?_)
  unfold Builtin.List.listLengthHint
  refine wpAny_bind (wpAny_specialOf hT zip_no_len ?_)
  show wpAny _ A.in1 (specialOf (Value.ref z) (Str.ofString "__length_hint__") >>= _) _ _ _
  refine wpAny_bind (wpAny_specialOf hT zip_no_hint ?_)
  refine wpAny_pure ?_
  show wpAny _ A.in1 (rule "list.extend.makes-room" >>= fun _ => Builtin.List.listTouch (.ref S) >>= fun _ => again (.builtin "list.extend.loop" ⟨[.ref S, .ref z, res], []⟩)) _ _ _
  refine wpAny_bind (wpAny_rule ?_)
  refine wpAny_bind ?_
  show wpAny _ A.in1 (updateSeq S (·.push .none) >>= fun _ => updateSeq S (·.pop)) _ _ _
  refine wpAny_bind (wpAny_updateSeq hS rfl ?_)
  have hS₂ := Heap.get?_update_self (Obj.mapSeq (·.push Value.none)) hS rfl
  refine wpAny_updateSeq (hz := by seq_fits) hS₂ rfl ?_
  have hS₃ := Heap.get?_update_self (Obj.mapSeq (·.pop)) hS₂ rfl
  exact wpAny_pure ⟨plainId_quiet F.plain_extend_loop _, go _ _ _ (fun d o hd e => (Heap.get?_update_other _ _ (Ne.symm hd)).trans ((Heap.get?_update_other _ _ (Ne.symm hd)).trans e)) hS₃⟩
theorem zl_init {R : Result → Shared → Prop} {S : Addr} (hh : A.handled = none) (D : ZipApart z TI TO i1 i2 a b) (hxy : xs.size = ys.size) (hn : xs.size ≤ sizeLine) (t : ZSt s.heap z TI TO i1 i2 a b S xs ys 0) (q0 : IsZip s.heap z TI TO .none)
    (ns : z < S ∧ TI < S ∧ TO < S ∧ i1 < S ∧ i2 < S ∧ a < S ∧ b < S) (hS : s.heap.get? S = some (lstAt #[] 0))
    (hR : ∀ h' tk acc c as, (∀ d o, d ≠ S → d ≠ z → d ≠ TO → d ≠ i1 → d ≠ i2 → s.heap.get? d = some o → h'.get? d = some o) → h'.get? S = some (lstAt acc c) → as.length = xs.size → ZG xs ys S h' as → acc.toList = as.map Value.ref → R (.ok (.ret .none)) { s with heap := h', toks := tk }) :
    wpAny (model prog w) A.in1 (Builtin.«list.__init__» ⟨[.ref S, .ref z], []⟩)
      (fun fin s' => match fin with | .done f => R (.ok f) s' | .again c' => c'.quiet = true ∧ codeAny (model prog w) A c' R s') (fun e s' => R (.error e) s') s := by
  show wpAny _ _ (do let old ← Builtin.List.listItems (.ref S); Builtin.List.listUpdate (.ref S) (fun _ => #[]); letGo old.toList.reverse; Builtin.List.listExtendWith (.ref S) (.ref z) .none) _ _ s
  refine wpAny_bind ?_
  unfold Builtin.List.listItems
  refine wpAny_bind (wpAny_seqItems hS rfl (wpAny_pure ?_))
  show wpAny _ _ (updateSeq S (fun _ => #[]) >>= fun _ => letGo (#[] : Array Value).toList.reverse >>= fun _ => Builtin.List.listExtendWith (.ref S) (.ref z) .none) _ _ s
  refine wpAny_bind (wpAny_updateSeq hS rfl ?_)
  have hS₂ := Heap.get?_update_self (Obj.mapSeq (fun _ => (#[] : Array Value))) hS rfl
  have oth : ∀ d o, d ≠ S → s.heap.get? d = some o → (s.heap.update S (Obj.mapSeq (fun _ => (#[] : Array Value)))).get? d = some o := fun d o hd e => (Heap.get?_update_other _ _ (Ne.symm hd)).trans e
  refine wpAny_bind (wpAny_letGo ?_)
  obtain ⟨n1, n2, n3, n4, n5, n6, n7⟩ := id ns
  refine zl_extend hh D hxy hn .none (t.keep (Nat.ne_of_lt n1) (Nat.ne_of_lt n2) (Nat.ne_of_lt n3) (Nat.ne_of_lt n4) (Nat.ne_of_lt n5) (Nat.ne_of_lt n6) (Nat.ne_of_lt n7) oth) (oth _ _ (Nat.ne_of_lt n1) q0) _ ns hS₂ fun h' tk acc c as hk hS' hl hG hacc => ?_
  exact hR h' tk acc c as (fun d o m1 m2 m3 m4 m5 e => hk d o m1 m2 m3 m4 m5 (oth d o m1 e)) hS' hl hG hacc
/-- list(z), z a new zip of two tuples of one length -/
theorem zl_call {Q : Value → Shared → Prop} (hh : A.handled = none) (D : ZipApart z TI TO i1 i2 a b) (hxy : xs.size = ys.size) (hn : xs.size ≤ sizeLine) (q0 : IsZip s.heap z TI TO .none) (hTI : IsPair s.heap TI (.ref i1) (.ref i2)) (hTO : IsPair s.heap TO .none .none)
    (h1 : s.heap.IsTupleIter i1 a 0) (h2 : s.heap.IsTupleIter i2 b 0) (ha : s.heap.IsTuple a xs) (hb : s.heap.IsTuple b ys)
    (hQ : ∀ h' tk acc c as, (∀ d o, d ≠ z → d ≠ TO → d ≠ i1 → d ≠ i2 → s.heap.get? d = some o → h'.get? d = some o) → h'.get? s.heap.objs.size = some (lstAt acc c) → as.length = xs.size → ZG xs ys s.heap.objs.size h' as → acc.toList = as.map Value.ref →
      Q (.ref s.heap.objs.size) { s with heap := h', toks := tk }) :
    wpAny (model prog w) A (call (.type "list") [.ref z]) Q E s := by
  refine callType_codes (Q₁ := fun obj s₁ => obj = .ref s.heap.objs.size ∧ s₁ = { s with heap := s.heap.push { cls := .type "list", data := .seq #[] } }) F.called_list (F.typeCall_list_1 _) F.entry_list_init (code_list_new _ ⟨rfl, rfl⟩) fun obj s₁ e₁ => ?_
  obtain ⟨rfl, rfl⟩ := e₁
  have hS : (s.heap.push { cls := .type "list", data := .seq #[] }).get? s.heap.objs.size = some { cls := .type "list", data := .seq #[] } := Heap.get?_push_size _ rfl
  have up : ∀ {d : Addr} {o : Obj}, s.heap.get? d = some o → (s.heap.push { cls := .type "list", data := .seq #[] }).get? d = some o := fun e => Heap.get?_push_of_some _ e
  obtain ⟨o1, e1, _⟩ := id h1
  obtain ⟨o2, e2, _⟩ := id h2
  obtain ⟨oa, ea, ra⟩ := id ha
  obtain ⟨ob, eb, rb⟩ := id hb
  have ns : z < s.heap.objs.size ∧ TI < s.heap.objs.size ∧ TO < s.heap.objs.size ∧ i1 < s.heap.objs.size ∧ i2 < s.heap.objs.size ∧ a < s.heap.objs.size ∧ b < s.heap.objs.size :=
    ⟨Heap.lt_size q0, Heap.lt_size hTI, Heap.lt_size hTO, Heap.lt_size e1, Heap.lt_size e2, Heap.lt_size ea, Heap.lt_size eb⟩
  refine ⟨⟨_, hS, rfl⟩, F.args_list_init_2 _ _, zl_init (A := A.in1) hh D hxy hn ⟨up hTI, h1.at fun o e => up e, h2.at fun o e => up e, ⟨oa, up ea, ra⟩, ⟨ob, up eb, rb⟩, .inl ⟨up q0, _, _, up hTO⟩⟩ (up q0) ns hS fun h' tk acc c as hk hS' hl hG hacc => ?_⟩
  exact ⟨rfl, hQ h' tk acc c as (fun d o m2 m3 m4 m5 e => hk d o (Nat.ne_of_lt (Heap.lt_size e)) m2 m3 m4 m5 (up e)) hS' hl hG hacc⟩
end
/-- the pairs tracked at their addresses -/
def putP : Hp → List Addr → List (V × V) → Hp
  | H, c :: as, p :: ps => putP (upd H c (.tup [p.1, p.2])) as ps
  | H, _, _ => H
theorem putP_off {d : Addr} : ∀ (as : List Addr) (ps : List (V × V)) (H : Hp), d ∉ as → putP H as ps d = H d
  | [], _, _, _ => rfl
  | _ :: _, [], _, _ => rfl
  | c :: as, p :: ps, H, h => by
    show putP (upd H c (.tup [p.1, p.2])) as ps d = H d
    rw [putP_off as ps _ (fun q => h (List.mem_cons_of_mem _ q)), upd_ne (fun q => h (by rw [q]; exact List.mem_cons_self))]
theorem putP_at : ∀ (as : List Addr) (ps : List (V × V)) (H : Hp), as.Nodup → ∀ (j : Nat) (c : Addr) (p : V × V), as[j]? = some c → ps[j]? = some p → putP H as ps c = some (.tup [p.1, p.2])
  | [], _, _, _, _, _, _, h, _ => by cases h
  | _ :: _, [], _, _, _, _, _, _, h => by cases h
  | d :: as, q :: ps, H, hn, 0, c, p, h, h' => by
    cases Option.some.inj h
    cases Option.some.inj h'
    show putP (upd H d (.tup [q.1, q.2])) as ps d = _
    rw [putP_off as ps _ (List.nodup_cons.mp hn).1, upd_same]
  | d :: as, q :: ps, H, hn, j + 1, c, p, h, h' => putP_at as ps _ (List.nodup_cons.mp hn).2 j c p h h'
def rLZ (K : PySem.W.Frag) (vs : List V) (H : Hp) (Q : VK) : Prop := ∃ (a b : Addr) (xs ys : List V), vs = [.ref a, .ref b] ∧ SqT K H a xs ∧ SqT K H b ys ∧ xs.length = ys.length ∧
  ∀ (H' : Hp) (p : Addr) (ts : List Addr), Evl.Ex H H' → H p = none → H' p = some (.lst (ts.map V.ref)) → ts.length = xs.length → (∀ (j : Nat) (t : Addr) (x y : V), ts[j]? = some t → xs[j]? = some x → ys[j]? = some y → t ≠ p ∧ H t = none ∧ H' t = some (.tup [x, y])) → Q (.ref p) H'
def tLZ (K : PySem.W.Frag) (ta : TA) : TE := fun σ H Q => ta σ H fun vs H1 => rLZ K vs H1 Q
section
variable {X : Cx} {e e2 : Expr} {ta : TA} {p p2 pos pos2 : Pos}
theorem zl_laid {pins : List (Addr × Obj)} {σ : L2.St} {H : Hp} {s s0 : Shared} {h' : Heap} {tk : Nat} {xs ys : List V} {us vs : List Value} {acc : Array Value} {c : Nat} {as : List Addr} (I : Inv X pins σ H s) (hz : xs.length ≤ sizeLine) (hxy : xs.length = ys.length) (rx : Vals xs us) (ry : Vals ys vs) {S : Addr} (hSz : s.heap.objs.size ≤ S)
    (hk : ∀ d o, s.heap.get? d = some o → h'.get? d = some o) (hS : h'.get? S = some (lstAt acc c)) (hl : as.length = us.length) (hG : ZG us.toArray vs.toArray S h' as) (hacc : acc.toList = as.map Value.ref) :
    ∃ H' : Hp, Evl.Ex H H' ∧ H S = none ∧ H' S = some (.lst (as.map V.ref)) ∧ (∀ (j : Nat) (t : Addr) (x y : V), as[j]? = some t → xs[j]? = some x → ys[j]? = some y → t ≠ S ∧ H t = none ∧ H' t = some (.tup [x, y])) ∧ Inv X pins σ H' { s with heap := h', toks := tk } := by
  have lx := rx.length
  have ly := ry.length
  have hSn : S ∉ as := fun q => Nat.lt_irrefl _ (hG.above _ q)
  have nd : as.Nodup := List.Pairwise.imp (fun {a b} (h : a < b) => Nat.ne_of_lt h) hG.rise
  have new : ∀ t ∈ as, H t = none := fun t ht => I.hok.fresh (Nat.le_trans hSz (Nat.le_of_lt (hG.above t ht)))
  have newS : H S = none := I.hok.fresh hSz
  have off : ∀ d, d ∉ as → d ≠ S → putP (upd H S (.lst (as.map V.ref))) as (xs.zip ys) d = H d := fun d h1 h2 => by rw [putP_off as _ _ h1, upd_ne h2]
  have kp : Evl.Ex H (putP (upd H S (.lst (as.map V.ref))) as (xs.zip ys)) := fun d u e => by
    rw [off d (fun q => by rw [new d q] at e; cases e) (fun q => by rw [q, newS] at e; cases e)]
    exact e
  have eS : putP (upd H S (.lst (as.map V.ref))) as (xs.zip ys) S = some (.lst (as.map V.ref)) := by rw [putP_off as _ _ hSn, upd_same]
  have at' : ∀ (j : Nat) (t : Addr) (x y : V), as[j]? = some t → xs[j]? = some x → ys[j]? = some y → putP (upd H S (.lst (as.map V.ref))) as (xs.zip ys) t = some (.tup [x, y]) := fun j t x y e1 e2 e3 =>
    putP_at as (xs.zip ys) _ nd j t (x, y) e1 (by rw [List.getElem?_zip_eq_some]; exact ⟨e2, e3⟩)
  refine ⟨putP (upd H S (.lst (as.map V.ref))) as (xs.zip ys), kp, newS, eS, fun j t x y e1 e2 e3 => ⟨fun q => hSn (q ▸ List.mem_of_getElem? e1), new t (List.mem_of_getElem? e1), at' j t x y e1 e2 e3⟩, ?_⟩
  have low : ∀ d o, s.heap.get? d = some o → d ∉ as ∧ d ≠ S := fun d o e => ⟨fun q => absurd (Heap.lt_size e) (Nat.not_lt.mpr (Nat.le_trans hSz (Nat.le_of_lt (hG.above d q)))), fun q => absurd (Heap.lt_size e) (Nat.not_lt.mpr (q ▸ hSz))⟩
  refine I.call' (ch := []) rfl ⟨fun d o q _ _ _ => hk d o q, fun d o q _ _ _ => ⟨o.slots, hk d o q⟩, fun d o q n _ => ?_, fun d o q _ => ⟨o, hk d o q⟩, fun d xs q => kp d _ q, fun d o u q => kp d _ q, fun d ps q => ⟨#[], by rw [kp d _ q]; simp⟩⟩ (fun d u q => ?_) I.bare fun d q => by cases q
  · obtain ⟨z1, z2⟩ := low d o q
    rw [off d z1 z2]
    exact n
  · by_cases hd : d ∈ as
    · obtain ⟨j, e1⟩ := List.mem_iff_getElem?.mp hd
      have hj : j < as.length := (List.getElem?_eq_some_iff.mp e1).1
      have ex : xs[j]? = some (xs[j]'(by omega)) := List.getElem?_eq_getElem _
      have ey : ys[j]? = some (ys[j]'(by omega)) := List.getElem?_eq_getElem _
      rw [at' j d _ _ e1 ex ey] at q
      cases q
      obtain ⟨x, y, f1, f2, f3⟩ := hG.pairs j d e1
      obtain ⟨u1, g1, g2⟩ := rx.get ex
      obtain ⟨u2, g3, g4⟩ := ry.get ey
      rw [List.getElem?_toArray] at f1 f2
      rw [f1] at g1
      rw [f2] at g3
      cases g1
      cases g3
      exact ⟨by show 2 ≤ sizeLine; decide, [x, y], .cons g2 (.cons g4 .nil), ⟨_, f3, rfl, _, rfl⟩⟩
    · by_cases hd2 : d = S
      · subst hd2
        rw [eS] at q
        cases q
        refine ⟨by rw [List.length_map]; omega, acc.toList, c, by rw [hacc]; exact LiI.vals_refs as, ?_⟩
        rw [Array.toArray_toList]
        exact hS
      · rw [off d hd hd2] at q
        exact (I.hok d u q).stay (fun d v _ y => hk d v y) (fun d y => kp d _ y) fun d xs y => kp d _ y
/-- list(zip(e, e2)), two tuples of one length -/
theorem pe_listZip (hc : X.calm = true) (ha : PA X [e, e2] ta) (hgl : Gl X "list") (hml : X.mg "list" = none) (hg : Gl X "zip") (hm : X.mg "zip" = none) (hvl : bootBuiltins "list" = some (.type "list") := by decide +kernel)
    (hs : starEach [e, e2] X.env = (false, eval e X.env) :: starEach [e2] X.env := by rfl) (hpl : (backTo pos2 (starEach [e2] X.env)).any (·.1) = false := by rfl)
    (hs1 : starEach [.Call (.Name "zip" p2) [e, e2] [] pos2] X.env = (false, eval (.Call (.Name "zip" p2) [e, e2] [] pos2) X.env) :: starEach [] X.env := by rfl) :
    PE X (.Call (.Name "list" p) [.Call (.Name "zip" p2) [e, e2] [] pos2] [] pos) (tLZ X.K ta) := by
  refine ⟨fun pins s σ H Q I hq => ?_⟩
  refine wpAny_Call_Name_kw (ld_blt I hgl hml hvl ?_)
  refine PyProof.Rows.callWith_type1 ?_ hs1 rfl
  rw [hs1]
  show wpAny _ _ (spliced ((false, eval (.Call (.Name "zip" p2) [e, e2] [] pos2) X.env) :: backTo pos (starEach [] X.env))) _ _ s
  refine Calls.spliced_cons ?_
  refine Call_ (ld_blt I hg hm PyProof.Rows.boot_zip (PyProof.Rows.callWith_type1 (thn (ha.run pos2 pins s σ H _ I hq) fun us s1 ⟨vs, H1, I1, r1, a, b, xs, ys, ex, ha1, hb1, hxy, q⟩ => ?_) hs hpl))
  subst ex
  cases r1 with
  | cons r rr =>
    cases rr with
    | cons r' rr =>
      cases rr
      cases r
      cases r'
      obtain ⟨its, rv, p1, hz⟩ := I1.tuple ha1
      obtain ⟨its2, rv2, p3, _⟩ := I1.tuple hb1
      have l1 := rv.length
      have l2 := rv2.length
      obtain ⟨o1, ho1, r1⟩ := id p1
      obtain ⟨o2, ho2, r2⟩ := id p3
      refine RZ.call_zipT (show s1.heap.IsTuple a its.toArray from p1) (show s1.heap.IsTuple b its2.toArray from p3) fun h' hz' hTI hTO h1 h2 hsz hk => ?_
      refine Calls.spliced_nil ?_
      refine zl_call (s := { s1 with heap := h' }) (A := X.A) (I1.ok.hd hc) (PySem.W.ktu_apart s1.heap.objs.size a b (Heap.lt_size ho1) (Heap.lt_size ho2)) (by simp; omega) (by simp; omega) hz' hTI hTO h1 h2 ⟨o1, hk _ _ ho1, r1⟩ ⟨o2, hk _ _ ho2, r2⟩ fun h'' tk acc c as hk' hS hl hG hacc => ?_
      have lt : ∀ {d o}, s1.heap.get? d = some o → ∀ n, d ≠ s1.heap.objs.size + n := fun e n q => absurd (Heap.lt_size e) (by rw [q]; exact Nat.not_lt.mpr (Nat.le_add_right _ _))
      obtain ⟨H', k1, k2, k3, k4, J⟩ := zl_laid (S := h'.objs.size) (tk := tk) (h' := h'') (s0 := s1) I1 hz hxy rv rv2 (by rw [hsz]; exact Nat.le_add_right _ _) (fun d o e => hk' d o (lt e 4) (lt e 3) (lt e 0) (lt e 1) (hk d o e)) hS (by simpa using hl) hG hacc
      exact ⟨.ref _, H', J, rfl, q H' _ as k1 k2 k3 (by simp at hl; omega) k4⟩
end
section
variable {K : PySem.W.Frag} {σ : L2.St} {H : Hp} {Q : VK} {ta : TA}
theorem rd_LZ (q : ta σ H fun vs H1 => rLZ K vs H1 Q) : tLZ K ta σ H Q := q
theorem rd_lzW {a b : Addr} {xs ys : List V} (ha : SqT K H a xs) (hb : SqT K H b ys) (hl : xs.length = ys.length)
    (q : ∀ (H' : Hp) (p : Addr) (ts : List Addr), Evl.Ex H H' → H p = none → H' p = some (.lst (ts.map V.ref)) → ts.length = xs.length → (∀ (j : Nat) (t : Addr) (x y : V), ts[j]? = some t → xs[j]? = some x → ys[j]? = some y → t ≠ p ∧ H t = none ∧ H' t = some (.tup [x, y])) → Q (.ref p) H') : rLZ K [.ref a, .ref b] H Q :=
  ⟨a, b, xs, ys, rfl, ha, hb, hl, q⟩
end
end Kt

/-! Kt, part H: types, t + u with an empty t, defs that may be called anywhere. -/
namespace Kt
open PySem PySem.Spec PyProof.Rows L2
theorem tup_add0 (l b : Addr) (n n2 : Nat) (ys : Array Value) (dd dd2 : Option Addr) (sl sl2 : Array (Option Value)) :
    Meets (Builtin.«tuple.__add__» ⟨[.ref l, .ref b], []⟩) (fun _ R s => s.heap.get? l = some { cls := .type "tuple", dict := dd, data := .seq #[] n, slots := sl } ∧ s.heap.get? b = some { cls := .type "tuple", dict := dd2, data := .seq ys n2, slots := sl2 } ∧ R (.ok (.ret (.ref b))) s) :=
  .of_wp fun prog w A R s h => by
    obtain ⟨hp, g, d, tk, os⟩ := s
    obtain ⟨hl, hb, h⟩ := h
    have f2 := AutoSeq1.sub_tuple_tuple
    wp_walk using AutoSeq1.wpAny_loadPart' hl, AutoSeq1.wpAny_loadPart' hb
    exact ⟨_, rfl, h⟩
theorem cat_tup0 {prog : Program} {w : World} {A : Around} {E : Value → Shared → Prop} {s : Shared} {t b : Addr} {ws : List Value} {Q : Value → Shared → Prop} (ht : IsTup s.heap t #[]) (hb : IsTup s.heap b ws.toArray) (h : Q (.ref b) s) : wpAny (model prog w) A (binaryOp .Add (.ref t) (.ref b)) Q E s := by
  obtain ⟨⟨cls, dd, data, sl⟩, ho, hc, n, hd⟩ := id ht
  obtain ⟨⟨cls2, dd2, data2, sl2⟩, ho2, hc2, n2, hd2⟩ := id hb
  simp only at hc hd hc2 hd2
  subst hc hd hc2 hd2
  exact concat_meets ⟨_, ho, rfl⟩ ⟨_, ho2, rfl⟩ noFill_tuple_add seq_tuple_add PySem.F.slot_tuple_add PySem.F.entry_tuple_add (PySem.F.args_tuple_add_2 _ _) (tup_add0 t b n n2 ws.toArray dd dd2 sl sl2) ⟨ho, ho2, h⟩
/-- t + u, u not empty -/
def rCatT' (K : PySem.W.Frag) : R2 := fun x y H Q => ∃ a b xs ys, x = .ref a ∧ y = .ref b ∧ SqT K H a xs ∧ SqT K H b ys ∧ ys ≠ [] ∧ xs.length + ys.length ≤ sizeLine ∧
  (xs = [] → Q (.ref b) H) ∧ (xs ≠ [] → MakT (xs ++ ys) H Q)
section
variable {X : Cx}
theorem op_catT' : OpR X (binaryOp .Add) (rCatT' X.K) := by
  intro pins s σ H x y v u Q I rx ry h
  obtain ⟨a, b, xs, ys, rfl, rfl, ha, hb, hy, hz, q1, q2⟩ := h
  by_cases hx : xs = []
  · subst hx
    cases rx
    cases ry
    obtain ⟨its, r1, p1, _⟩ := I.tuple ha
    obtain ⟨its2, r2, p2, _⟩ := I.tuple hb
    cases r1
    exact cat_tup0 p1 p2 ⟨.ref b, H, I, rfl, q1 rfl⟩
  · exact op_catT pins s σ H _ _ v u Q I rx ry ⟨a, b, xs, ys, rfl, rfl, ha, hb, hx, hz, fun e => absurd e hy, fun _ => q2 hx⟩
def rIsTy : R2 := fun x y H Q => ∃ a b, x = .ty a ∧ y = .ty b ∧ Q (.bl (decide (a = b))) H
theorem op_isTy' : OpR X (compareOp .Is) rIsTy := op_isTyB
end
section
variable {K : PySem.W.Frag} {H : Hp} {Q : VK}
theorem rd_catT {a b : Addr} {xs ys : List V} (ha : SqT K H a xs) (hb : H b = some (.tup ys)) (hy : ys ≠ []) (hz : xs.length + ys.length ≤ sizeLine) (q : ∀ p H', Evl.Ex H H' → H' p = some (.tup (xs ++ ys)) → Q (.ref p) H') : rCatT' K (.ref a) (.ref b) H Q :=
  ⟨a, b, xs, ys, rfl, rfl, ha, .inl (.inl hb), hy, hz, fun e => q b H (Evl.Ex.refl _) (by subst e; exact hb), fun _ p hp => q p _ (Evl.Ex.new hp) upd_same⟩
theorem rd_typ {x : V} {T : String} (t : TyB K H x T) (q : Q (.ty T) H) : rTyp K [x] H Q := ⟨x, T, rfl, t, q⟩
theorem rd_isTy {a b : String} (q : Q (.bl (decide (a = b))) H) : rIsTy (.ty a) (.ty b) H Q := ⟨a, b, rfl, rfl, q⟩
theorem rd_notTy {a b : String} (q : Q (.bl (!decide (a = b))) H) : rNT (.ty a) (.ty b) H Q := ⟨a, b, rfl, rfl, q⟩
theorem rd_isN {x : V} (q : Q (.bl (decide (x = .non))) H) : rIsN x .non H Q := ⟨rfl, q⟩
theorem rd_notN {x : V} (q : Q (.bl (!decide (x = .non))) H) : rNotN x .non H Q := ⟨rfl, q⟩
theorem rd_isi {x c : V} {t u : Value} {b : Bool} (k : ClsV c u) (ty : TyX K H x t) (e : PySem.W.kitOne K t u = some b) (q : Q (.bl b) H) : rIsi K [x, c] H Q := ⟨x, c, t, u, b, rfl, k, ty, e, q⟩
end
section
variable {σ : L2.St} {H : Hp} {Q : VK} {ta tb : TE}
theorem rd_andV (q : ta σ H fun x H1 => ∃ c, x = .bl c ∧ if c = true then tb σ H1 Q else Q (.bl false) H1) : tAndV ta tb σ H Q := q
theorem rd_orV (q : ta σ H fun x H1 => ∃ c, x = .bl c ∧ if c = true then Q (.bl true) H1 else tb σ H1 Q) : tOrV ta tb σ H Q := q
theorem rd_notV (q : ta σ H fun x H1 => ∃ c, x = .bl c ∧ Q (.bl (!c)) H1) : tNotV ta σ H Q := q
end
theorem if_yes {c : Prop} [Decidable c] {A B : Prop} (hc : c) (h : A) : if decide c = true then A else B := by rw [if_pos (decide_eq_true hc)]; exact h
theorem if_no {c : Prop} [Decidable c] {A B : Prop} (hc : ¬ c) (h : B) : if decide c = true then A else B := by rw [if_neg (by rw [decide_eq_false hc]; decide)]; exact h
theorem if_nyes {c : Prop} [Decidable c] {A B : Prop} (hc : c) (h : B) : if (!decide c) = true then A else B := by rw [decide_eq_true hc]; exact h
theorem if_nno {c : Prop} [Decidable c] {A B : Prop} (hc : ¬ c) (h : A) : if (!decide c) = true then A else B := by rw [decide_eq_false hc]; exact h
/-! ### defs that may be called anywhere -/
section
variable {P : Program} {w : World} {K : PySem.W.Frag} {mg : Str → Option Value} {base : Heap}
structure CalO (P : Program) (w : World) (K : PySem.W.Frag) (mg : Str → Option Value) (base : Heap) (k : Nat) (x : Str) (sp : Sp) : Prop where
  ex : ∃ (f : Addr) (fd : FuncData) (ps : List Str), FnOk P w K mg base CX0 k f fd ps sp ∧ mg x = some (.ref f) ∧ PySem.W.keepIn K (.ref f) = true ∧ Binds K fd ps []
theorem CalO.g {k : Nat} {x : Str} {sp : Sp} (c : CalO P w K mg base k x sp) : CalG P w K mg base k x sp := by
  obtain ⟨f, fd, ps, F, m, kp, b⟩ := c.ex
  exact ⟨f, fd, ps, FnG.of F, m, kp, b⟩
theorem calO {x : Str} {st : Stmt} {N ps : List Str} {k : Nat} {sp : Sp} (D : DefG K mg x st ps) (S : FnScope N ps (defScope st)) (len : ∀ vs H Q E, sp vs H Q E → vs.length = ps.length)
    (hbody : ∀ (cdv : Value) (f : Addr) (A : Around) (outer : List Env) (s : Shared) (H : Hp) (vs : List V) (Q : VK) (E : XK), Room k (A.deeper (envOfC x (defScope st) s.heap.objs.size f cdv)) → sp vs H Q E →
      ∃ t, PSs (cxOf CX0 P w K mg base N x (defScope st) f cdv A outer s H E).nox (defBody st) t ∧ t { nx := fun _ H' => Q .non H', rt := Q } (start N vs) H) : CalO P w K mg base (k + 1) x sp := by
  obtain ⟨f, fd, F, m, b⟩ := D.ex
  exact ⟨f, fd, ps, F.ok S len fun cdv A outer s H vs Q E hr h => hbody cdv f A outer s H vs Q E hr h, m, F.kp, b⟩
end
section
variable {X : Cx} {k j : Nat} {x : Str} {sp : Sp} {p pos : Pos} {e : Expr} {es : List Expr} {t : TA}
/-- f(e, ..) -/
theorem pe_cO (c : CalO X.prog X.w X.K X.mg X.base k x sp) (hr : Room j X.A) (hk : k ≤ j) (hg : Gl X x) (ha : PA X (e :: es) t) (hdb : (x == ("__debug__" : Str)) = false := by decide)
    (he : starEach (e :: es) X.env = (false, eval e X.env) :: starEach es X.env := by rfl) (hpl : (backTo pos (starEach es X.env)).any (·.1) = false := by rfl) :
    PE X (.Call (.Name x p) (e :: es) [] pos) (fun σ H Q => t σ H fun vs H1 => sp vs H1 Q E0) := by
  obtain ⟨f, fd, ps, F, m, kp, b⟩ := c.ex
  have q := pe_call (p := p) (pos := pos) F (hr.mono hk) hg m kp b .nil pass0 ha hdb he hpl
  refine ⟨fun pins s σ H Q I h => q.run pins s σ H Q I ?_⟩
  have e : (fun vs (H1 : Hp) => sp (vs ++ []) H1 Q E0) = fun vs H1 => sp vs H1 Q E0 := by funext vs H1; rw [List.append_nil]
  show t σ H fun vs H1 => sp (vs ++ []) H1 Q E0
  rw [e]
  exact h
end
end Kt

/-! Kt, part V: what a def does, told by data alone: no heap, no address. -/
namespace Kt
open PySem PySem.Spec PyProof.Rows L2 Evl
/-! ### data in a heap -/
/-- an object of the class at C, its attributes in order -/
def objD (C : Addr) (fs : List (PyData × PyData)) : PyData := .dict ((.int (C : Int), .none) :: fs)
mutual
/-- v is the data d, made of tuples and of objects that do not change -/
inductive Tw (K : PySem.W.Frag) (H : Hp) : V → PyData → Prop
  | non : Tw K H .non .none
  | bl (b : Bool) : Tw K H (.bl b) (.bool b)
  | int (i : Int) : Tw K H (.int i) (.int i)
  | str (x : Str) : Tw K H (.str x) (.str x)
  | tup {a : Addr} {xs : List V} {ds : List PyData} : SqT K H a xs → TwL K H xs ds → Tw K H (.ref a) (.tuple ds)
  | obj {a C dx : Addr} {fs : List (Str × V)} {ds : List (PyData × PyData)} : H a = some (.ins C dx fs) → FwL K H fs ds → Tw K H (.ref a) (objD C ds)
inductive TwL (K : PySem.W.Frag) (H : Hp) : List V → List PyData → Prop
  | nil : TwL K H [] []
  | cons {v : V} {vs : List V} {d : PyData} {ds : List PyData} : Tw K H v d → TwL K H vs ds → TwL K H (v :: vs) (d :: ds)
inductive FwL (K : PySem.W.Frag) (H : Hp) : List (Str × V) → List (PyData × PyData) → Prop
  | nil : FwL K H [] []
  | cons {n : Str} {v : V} {fs : List (Str × V)} {d : PyData} {ds : List (PyData × PyData)} : Tw K H v d → FwL K H fs ds → FwL K H ((n, v) :: fs) ((.str n, d) :: ds)
end
section
variable {K : PySem.W.Frag} {H H' : Hp}
mutual
theorem Tw.mono (e : Tx H H') : ∀ {v : V} {d : PyData}, Tw K H v d → Tw K H' v d
  | _, _, .non => .non
  | _, _, .bl b => .bl b
  | _, _, .int i => .int i
  | _, _, .str x => .str x
  | _, _, .tup h t => .tup (tx_t e h) (TwL.mono e t)
  | _, _, .obj h t => .obj (e.i _ _ _ _ h) (FwL.mono e t)
theorem TwL.mono (e : Tx H H') : ∀ {vs : List V} {ds : List PyData}, TwL K H vs ds → TwL K H' vs ds
  | _, _, .nil => .nil
  | _, _, .cons h t => .cons (Tw.mono e h) (TwL.mono e t)
theorem FwL.mono (e : Tx H H') : ∀ {vs : List (Str × V)} {ds : List (PyData × PyData)}, FwL K H vs ds → FwL K H' vs ds
  | _, _, .nil => .nil
  | _, _, .cons h t => .cons (Tw.mono e h) (FwL.mono e t)
end
mutual
theorem Tw.dp : ∀ {v : V} {d : PyData}, Tw K H v d → PyData.canLay0 d = true → Dp K H v d
  | _, _, .non, _ => .non
  | _, _, .bl b, _ => .bl b
  | _, _, .int i, _ => .int i
  | _, _, .str x, _ => .str x
  | _, _, .tup h t, l => .tup h (TwL.dp t (by simpa only [PyData.canLay0] using l))
  | _, _, .obj h t, l => by simp [objD, PyData.canLay0] at l
theorem TwL.dp : ∀ {vs : List V} {ds : List PyData}, TwL K H vs ds → PyData.canLayAll0 ds = true → DpAll K H vs ds
  | _, _, .nil, _ => .nil
  | _, _, .cons h t, l => by
    simp only [PyData.canLayAll0, Bool.and_eq_true] at l
    exact .cons (Tw.dp h l.1) (TwL.dp t l.2)
end
theorem TwL.length : ∀ {vs : List V} {ds : List PyData}, TwL K H vs ds → vs.length = ds.length
  | _, _, .nil => rfl
  | _, _, .cons _ t => congrArg (· + 1) t.length
theorem TwL.app : ∀ {vs us : List V} {ds es : List PyData}, TwL K H vs ds → TwL K H us es → TwL K H (vs ++ us) (ds ++ es)
  | _, _, _, _, .nil, h => h
  | _, _, _, _, .cons a t, h => .cons a (t.app h)
theorem TwL.one {v : V} {d : PyData} (h : Tw K H v d) : TwL K H [v] [d] := .cons h .nil
theorem TwL.get : ∀ {vs : List V} {ds : List PyData} {i : Nat} {d : PyData}, TwL K H vs ds → ds[i]? = some d → ∃ v, vs[i]? = some v ∧ Tw K H v d
  | _, _, 0, _, .cons a _, h => ⟨_, rfl, by cases h; exact a⟩
  | _, _, i + 1, _, .cons _ t, h => t.get (i := i) h
theorem TwL.getV : ∀ {vs : List V} {ds : List PyData} {i : Nat} {v : V}, TwL K H vs ds → vs[i]? = some v → ∃ d, ds[i]? = some d ∧ Tw K H v d
  | _, _, 0, _, .cons a _, h => ⟨_, rfl, by cases h; exact a⟩
  | _, _, i + 1, _, .cons _ t, h => t.getV (i := i) h
theorem TwL.drop : ∀ {vs : List V} {ds : List PyData} (n : Nat), TwL K H vs ds → TwL K H (vs.drop n) (ds.drop n)
  | _, _, 0, h => h
  | _, _, _ + 1, .nil => .nil
  | _, _, n + 1, .cons _ t => t.drop n
theorem TwL.take : ∀ {vs : List V} {ds : List PyData} (n : Nat), TwL K H vs ds → TwL K H (vs.take n) (ds.take n)
  | _, _, 0, _ => .nil
  | _, _, _ + 1, .nil => .nil
  | _, _, n + 1, .cons a t => .cons a (t.take n)
theorem TwL.rev : ∀ {vs : List V} {ds : List PyData}, TwL K H vs ds → TwL K H vs.reverse ds.reverse
  | _, _, .nil => .nil
  | _, _, .cons (v := v) (vs := vs) (d := d) (ds := ds) a t => by
    rw [List.reverse_cons, List.reverse_cons]
    exact t.rev.app (.one a)
theorem TwL.split {us : List V} : ∀ {vs : List V} {ds : List PyData}, TwL K H (vs ++ us) ds → ∃ d1 d2, ds = d1 ++ d2 ∧ TwL K H vs d1 ∧ TwL K H us d2
  | [], ds, h => ⟨[], ds, rfl, .nil, h⟩
  | v :: vs, _, .cons a t => let ⟨d1, d2, e, h1, h2⟩ := TwL.split (vs := vs) t; ⟨_ :: d1, d2, by rw [e]; rfl, .cons a h1, h2⟩
theorem TwL.ints : ∀ ns : List Int, TwL K H (ns.map V.int) (ns.map .int)
  | [] => .nil
  | z :: r => .cons (.int z) (TwL.ints r)
theorem TwL.ofInts : ∀ {vs : List V} (ns : List Int), TwL K H vs (ns.map .int) → vs = ns.map V.int
  | _, [], .nil => rfl
  | _, _ :: r, .cons (.int _) t => by rw [TwL.ofInts r t]; rfl
theorem Tw.tupI {v : V} {ds : List PyData} (h : Tw K H v (.tuple ds)) : ∃ a xs, v = .ref a ∧ SqT K H a xs ∧ TwL K H xs ds := by
  cases h with
  | tup h t => exact ⟨_, _, rfl, h, t⟩
end
/-! ### the world of a def: objects that callers hand on and that it may change -/
/-- all but the objects of M stay -/
def ExM (M : List Addr) (H H' : Hp) : Prop := ∀ b o, b ∉ M → H b = some o → H' b = some o
theorem ExM.refl {M : List Addr} (H : Hp) : ExM M H H := fun _ _ _ h => h
theorem ExM.trans {M : List Addr} {H H1 H2 : Hp} (a : ExM M H H1) (b : ExM M H1 H2) : ExM M H H2 := fun c o n h => b c o n (a c o n h)
theorem ExM.of {M : List Addr} {H H' : Hp} (e : Ex H H') : ExM M H H' := fun b o _ h => e b o h
theorem ExM.ex {H H' : Hp} (e : ExM [] H H') : Ex H H' := fun b o h => e b o (by simp) h
/-- γ tells how they stand; A: what this hangs on; M: dicts, of A, that may change -/
structure Wo (γ : Type) where
  M : List Addr
  A : List Addr
  J : γ → Hp → Prop
  sub : ∀ a ∈ M, a ∈ A
  dic : ∀ g H a, J g H → a ∈ M → ∃ kvs, H a = some (.dK kvs)
  stay : ∀ g H H', J g H → (∀ b o, b ∈ A → H b = some o → H' b = some o) → J g H'
def Wo0 : Wo Unit := ⟨[], [], fun _ _ => True, fun _ h => h, fun _ _ a _ h => by simp at h, fun _ _ _ _ _ => True.intro⟩
section
variable {γ : Type} {ω : Wo γ} {g : γ} {H H1 H2 : Hp}
theorem Wo.tx (ω : Wo γ) (j : ω.J g H) (e : ExM ω.M H H1) : Tx H H1 := by
  have ne : ∀ p o, H p = some o → (∀ kvs, o ≠ .dK kvs) → p ∉ ω.M := fun p o h n z => by
    obtain ⟨kvs, q⟩ := ω.dic g H p j z
    rw [h] at q
    exact n kvs (Option.some.inj q)
  exact ⟨fun p xs h => e p _ (ne p _ h (fun _ z => by cases z)) h, fun p o xs h => e p _ (ne p _ h (fun _ z => by cases z)) h, fun p C dx fs h => e p _ (ne p _ h (fun _ z => by cases z)) h⟩
theorem Wo.lst {K : PySem.W.Frag} (ω : Wo γ) (j : ω.J g H) (e : ExM ω.M H H1) {a : Addr} {xs : List V} (h : SqL K H a xs) : SqL K H1 a xs := by
  have ne : ∀ p o, H p = some o → (∀ kvs, o ≠ .dK kvs) → p ∉ ω.M := fun p o h n z => by
    obtain ⟨kvs, q⟩ := ω.dic g H p j z
    rw [h] at q
    exact n kvs (Option.some.inj q)
  rcases h with (h | ⟨o, h⟩) | h
  · exact .inl (.inl (e a _ (ne a _ h (fun _ z => by cases z)) h))
  · exact .inl (.inr ⟨o, e a _ (ne a _ h (fun _ z => by cases z)) h⟩)
  · exact .inr h
/-- what is free behind was free ahead -/
theorem Wo.back (ω : Wo γ) {g' : γ} (j : ω.J g' H1) (e : ExM ω.M H H1) {p : Addr} (h : H1 p = none) : H p = none := by
  cases q : H p with
  | none => rfl
  | some o =>
    by_cases hp : p ∈ ω.M
    · obtain ⟨kvs, q2⟩ := ω.dic g' H1 p j hp
      rw [h] at q2; cases q2
    · rw [e p o hp q] at h; cases h
end
/-! ### what a name holds -/
inductive Wd where
  | no
  | d (x : PyData)
  | b (xs : List PyData)
  | l (xs : List PyData)              -- as a value: a list that is read
  | o (xs : List PyData)
  | k (kvs : List (Key × PyData))
  | z (v : V)
  | pt (v : V) (xs : List PyData)     -- a tuple, a list of one's own, a borrowed one: at just this value
  | pl (v : V) (xs : List PyData)
  | pb (v : V) (xs : List PyData)
  | pd (v : V) (kvs : List (Key × PyData))     -- a dict of one's own
def Wd.own : Wd → Bool
  | .o _ | .k _ | .pl _ _ | .pd _ _ => true
  | _ => false
inductive KwL (K : PySem.W.Frag) (H : Hp) : List (Key × V) → List (Key × PyData) → Prop
  | nil : KwL K H [] []
  | cons {k : Key} {v : V} {d : PyData} {r : List (Key × V)} {s : List (Key × PyData)} : Tw K H v d → KwL K H r s → KwL K H ((k, v) :: r) ((k, d) :: s)
theorem KwL.mono {K : PySem.W.Frag} {H H' : Hp} (e : Tx H H') : ∀ {r : List (Key × V)} {s : List (Key × PyData)}, KwL K H r s → KwL K H' r s
  | _, _, .nil => .nil
  | _, _, .cons a t => .cons (a.mono e) (t.mono e)
/-- what a slot holds; H0: the heap as the def was entered -/
def SlOk (K : PySem.W.Frag) (H0 H : Hp) (u : Option V) : Wd → Prop
  | .no => True
  | .d x => ∃ v, u = some v ∧ Tw K H v x
  | .b ds => ∃ a xs, u = some (.ref a) ∧ H0 a = some (.lst xs) ∧ TwL K H0 xs ds
  | .l _ => True
  | .o ds => ∃ a xs, u = some (.ref a) ∧ H0 a = none ∧ H a = some (.lst xs) ∧ TwL K H xs ds
  | .k kvs => ∃ a ks, u = some (.ref a) ∧ H0 a = none ∧ H a = some (.dK ks) ∧ KwL K H ks kvs
  | .z v => u = some v
  | .pt v ds => u = some v ∧ Tw K H v (.tuple ds)
  | .pl v ds => u = some v ∧ ∃ a xs, v = .ref a ∧ H0 a = none ∧ H a = some (.lst xs) ∧ TwL K H xs ds
  | .pb v ds => u = some v ∧ ∃ a xs, v = .ref a ∧ H0 a = some (.lst xs) ∧ TwL K H0 xs ds
  | .pd v kvs => u = some v ∧ ∃ a ks, v = .ref a ∧ H0 a = none ∧ H a = some (.dK ks) ∧ KwL K H ks kvs
/-- a value, readable -/
def Vr (K : PySem.W.Frag) (H : Hp) (v : V) : Wd → Prop
  | .no | .k _ | .pt _ _ | .pl _ _ | .pb _ _ | .pd _ _ => True
  | .d x => Tw K H v x
  | .b ds | .o ds | .l ds => ∃ a xs, v = .ref a ∧ H a = some (.lst xs) ∧ TwL K H xs ds
  | .z u => v = u
/-- a value made between Hs and H: what is own is new -/
def Vw (K : PySem.W.Frag) (Hs H : Hp) (v : V) : Wd → Prop
  | .o ds => ∃ a xs, v = .ref a ∧ Hs a = none ∧ H a = some (.lst xs) ∧ TwL K H xs ds
  | .k kvs => ∃ a ks, v = .ref a ∧ Hs a = none ∧ H a = some (.dK ks) ∧ KwL K H ks kvs
  | w => Vr K H v w
structure Rel {γ : Type} (K : PySem.W.Frag) (ω : Wo γ) (H0 H : Hp) (g : γ) (σ : L2.St) (ρ : List Wd) : Prop where
  ex : ExM ω.M H0 H
  j0 : ∃ g0, ω.J g0 H0
  j : ω.J g H
  ln : σ.length = ρ.length
  sl : ∀ (i : Nat) (w : Wd), ρ[i]? = some w → ∃ u, σ[i]? = some u ∧ SlOk K H0 H u w
  dj : ∀ (i j : Nat) (a : Addr) (w w' : Wd), ρ[i]? = some w → ρ[j]? = some w' → w.own = true → w'.own = true → σ[i]? = some (some (.ref a)) → σ[j]? = some (some (.ref a)) → i = j
  sup : ∀ a ∈ ω.A, H0 a ≠ none
section
variable {γ : Type} {K : PySem.W.Frag} {ω : Wo γ} {H0 H H1 H2 : Hp} {g g1 g2 : γ} {σ : L2.St} {ρ : List Wd}
theorem Wo.ktx (ω : Wo γ) (j : ω.J g H) (e : ExM ω.M H H1) {a : Addr} {xs : List V} (n : a ∉ ω.M) (h : H a = some (.lst xs)) : H1 a = some (.lst xs) := e a _ n h
theorem Rel.nM (r : Rel K ω H0 H g σ ρ) {a : Addr} (h : H0 a = none) : a ∉ ω.A := fun z => r.sup a z h
theorem Rel.grow (r : Rel K ω H0 H g σ ρ) (e : ExM ω.M H H1) (j : ω.J g1 H1) : Rel K ω H0 H1 g1 σ ρ := by
  have t := ω.tx r.j e
  refine ⟨r.ex.trans e, r.j0, j, r.ln, fun i w h => ?_, r.dj, r.sup⟩
  obtain ⟨u, hu, s⟩ := r.sl i w h
  refine ⟨u, hu, ?_⟩
  cases w with
  | no => trivial
  | d x => obtain ⟨v, h1, h2⟩ := s; exact ⟨v, h1, h2.mono t⟩
  | b ds => exact s
  | l ds => trivial
  | o ds => obtain ⟨a, xs, h1, h2, h3, h4⟩ := s; exact ⟨a, xs, h1, h2, e a _ (fun z => r.nM h2 (ω.sub a z)) h3, h4.mono t⟩
  | k kvs => obtain ⟨a, xs, h1, h2, h3, h4⟩ := s; exact ⟨a, xs, h1, h2, e a _ (fun z => r.nM h2 (ω.sub a z)) h3, h4.mono t⟩
  | z v => exact s
  | pt v ds => exact ⟨s.1, s.2.mono t⟩
  | pl v ds => obtain ⟨q, a, xs, h1, h2, h3, h4⟩ := s; exact ⟨q, a, xs, h1, h2, e a _ (fun z => r.nM h2 (ω.sub a z)) h3, h4.mono t⟩
  | pb v ds => exact s
  | pd v ds => obtain ⟨q, a, xs, h1, h2, h3, h4⟩ := s; exact ⟨q, a, xs, h1, h2, e a _ (fun z => r.nM h2 (ω.sub a z)) h3, h4.mono t⟩
theorem Rel.new (r : Rel K ω H0 H g σ ρ) {p : Addr} {o : HO} (h : H p = none) : ω.J g (upd H p o) := by
  refine ω.stay g H _ r.j fun b u hb e => (upd_ne (ne_of_none e h)).trans e
theorem Rel.free (r : Rel K ω H0 H g σ ρ) {p : Addr} (h : H p = none) : H0 p = none := ω.back r.j r.ex h
theorem Rel.alloc (r : Rel K ω H0 H g σ ρ) {p : Addr} {o : HO} (h : H p = none) : Rel K ω H0 (upd H p o) g σ ρ := r.grow (ExM.of (Ex.new h)) (r.new h)
/-- an own object at the slot i is written -/
theorem Rel.put (r : Rel K ω H0 H g σ ρ) {i : Nat} {a : Addr} {w w' : Wd} {o : HO} (hw : ρ[i]? = some w) (ho : w.own = true) (hs : σ[i]? = some (some (.ref a))) (h0 : H0 a = none) (hk : (∃ xs, H a = some (.lst xs)) ∨ ∃ ks, H a = some (.dK ks))
    (ho' : w'.own = true) (hn : SlOk K H0 (upd H a o) (some (.ref a)) w') : Rel K ω H0 (upd H a o) g σ (ρ.set i w') := by
  have na : a ∉ ω.A := r.nM h0
  have t : Tx H (upd H a o) := by
    rcases hk with ⟨xs, hk⟩ | ⟨ks, hk⟩
    · exact Tx.lst hk
    · exact ⟨fun q xs h' => (upd_ne (ne_of h' hk (fun z => by cases z))).trans h', fun q u xs h' => (upd_ne (ne_of h' hk (fun z => by cases z))).trans h', fun q C dx fs h' => (upd_ne (ne_of h' hk (fun z => by cases z))).trans h'⟩
  have hi : i < ρ.length := (List.getElem?_eq_some_iff.mp hw).1
  refine ⟨fun b u n e => (upd_ne (ne_of_none e h0)).trans (r.ex b u n e), r.j0, ω.stay g H _ r.j fun b u hb e => (upd_ne (fun z => na (by rw [← z]; exact hb))).trans e, by rw [List.length_set]; exact r.ln, fun k v h => ?_, fun k l b x y h1 h2 o1 o2 s1 s2 => ?_, r.sup⟩
  · rw [List.getElem?_set] at h
    by_cases hk : i = k
    · subst hk
      rw [if_pos rfl, if_pos hi] at h
      cases h
      exact ⟨_, hs, hn⟩
    · rw [if_neg hk] at h
      obtain ⟨u, hu, s⟩ := r.sl k v h
      refine ⟨u, hu, ?_⟩
      cases v with
      | no => trivial
      | d x => obtain ⟨v, h1, h2⟩ := s; exact ⟨v, h1, h2.mono t⟩
      | b ds => exact s
      | l ds => trivial
      | o ds =>
        obtain ⟨b, xs, h1, h2, h3, h4⟩ := s
        refine ⟨b, xs, h1, h2, (upd_ne fun z => hk (r.dj i k a w _ hw h ho rfl hs (by rw [hu, h1, z]))).trans h3, h4.mono t⟩
      | k kvs =>
        obtain ⟨b, xs, h1, h2, h3, h4⟩ := s
        refine ⟨b, xs, h1, h2, (upd_ne fun z => hk (r.dj i k a w _ hw h ho rfl hs (by rw [hu, h1, z]))).trans h3, h4.mono t⟩
      | z v => exact s
      | pt v ds => exact ⟨s.1, s.2.mono t⟩
      | pl v ds =>
        obtain ⟨q, b, xs, h1, h2, h3, h4⟩ := s
        refine ⟨q, b, xs, h1, h2, (upd_ne fun z => hk (r.dj i k a w _ hw h ho rfl hs (by rw [hu, q, h1, z]))).trans h3, h4.mono t⟩
      | pb v ds => exact s
      | pd v ds =>
        obtain ⟨q, b, xs, h1, h2, h3, h4⟩ := s
        refine ⟨q, b, xs, h1, h2, (upd_ne fun z => hk (r.dj i k a w _ hw h ho rfl hs (by rw [hu, q, h1, z]))).trans h3, h4.mono t⟩
  · have lift : ∀ (n : Nat) (q : Wd), (ρ.set i w')[n]? = some q → q.own = true → ∃ q', ρ[n]? = some q' ∧ q'.own = true := fun n q hq oq => by
      rw [List.getElem?_set] at hq
      by_cases hn : i = n
      · subst hn
        exact ⟨w, hw, ho⟩
      · rw [if_neg hn] at hq
        exact ⟨q, hq, oq⟩
    obtain ⟨x', e1, p1⟩ := lift k x h1 o1
    obtain ⟨y', e2, p2⟩ := lift l y h2 o2
    exact r.dj k l b x' y' e1 e2 p1 p2 s1 s2
/-- a slot is stored -/
theorem Rel.set (r : Rel K ω H0 H g σ ρ) {i : Nat} {v : Option V} {w : Wd} (hi : i < ρ.length) (hn : SlOk K H0 H v w) (hf : w.own = true → ∀ a, v = some (.ref a) → ∀ (j : Nat) (w' : Wd), j ≠ i → ρ[j]? = some w' → w'.own = true → σ[j]? ≠ some (some (.ref a))) : Rel K ω H0 H g (σ.set i v) (ρ.set i w) := by
  have his : i < σ.length := by rw [r.ln]; exact hi
  refine ⟨r.ex, r.j0, r.j, by rw [List.length_set, List.length_set]; exact r.ln, fun k x h => ?_, fun k l b x y h1 h2 o1 o2 s1 s2 => ?_, r.sup⟩
  · rw [List.getElem?_set] at h ⊢
    by_cases hk : i = k
    · subst hk
      rw [if_pos rfl, if_pos hi] at h
      rw [if_pos rfl, if_pos his]
      cases h
      exact ⟨_, rfl, hn⟩
    · rw [if_neg hk] at h ⊢
      exact r.sl k x h
  · rw [List.getElem?_set] at h1 h2 s1 s2
    by_cases hk : i = k
    · by_cases hl : i = l
      · exact hk.symm.trans hl
      · rw [if_pos hk, if_pos hi] at h1
        rw [if_pos hk, if_pos his] at s1
        rw [if_neg hl] at h2 s2
        cases h1
        cases s1
        exact absurd s2 (hf o1 b rfl l y (fun z => hl z.symm) h2 o2)
    · rw [if_neg hk] at h1 s1
      by_cases hl : i = l
      · rw [if_pos hl, if_pos hi] at h2
        rw [if_pos hl, if_pos his] at s2
        cases h2
        cases s2
        exact absurd s1 (hf o2 b rfl k x (fun z => hk z.symm) h1 o1)
      · rw [if_neg hl] at h2 s2
        exact r.dj k l b x y h1 h2 o1 o2 s1 s2
/-- a slot is told by another word of the same kind -/
theorem Rel.label (r : Rel K ω H0 H g σ ρ) {i : Nat} {w w' : Wd} {u : Option V} (h : ρ[i]? = some w) (hu : σ[i]? = some u) (hn : SlOk K H0 H u w') (ho : w'.own = true → w.own = true) : Rel K ω H0 H g σ (ρ.set i w') := by
  have hi : i < ρ.length := (List.getElem?_eq_some_iff.mp h).1
  refine ⟨r.ex, r.j0, r.j, by rw [List.length_set]; exact r.ln, fun k x hx => ?_, fun k l b x y h1 h2 o1 o2 s1 s2 => ?_, r.sup⟩
  · rw [List.getElem?_set] at hx
    by_cases hk : i = k
    · subst hk
      rw [if_pos rfl, if_pos hi] at hx
      cases hx
      exact ⟨u, hu, hn⟩
    · rw [if_neg hk] at hx
      exact r.sl k x hx
  · have lift : ∀ (n : Nat) (q : Wd), (ρ.set i w')[n]? = some q → q.own = true → ∃ q', ρ[n]? = some q' ∧ q'.own = true := fun n q hq oq => by
      rw [List.getElem?_set] at hq
      by_cases hn : i = n
      · subst hn
        rw [if_pos rfl, if_pos hi] at hq
        cases hq
        exact ⟨w, h, ho oq⟩
      · rw [if_neg hn] at hq
        exact ⟨q, hq, oq⟩
    obtain ⟨x', e1, p1⟩ := lift k x h1 o1
    obtain ⟨y', e2, p2⟩ := lift l y h2 o2
    exact r.dj k l b x' y' e1 e2 p1 p2 s1 s2
/-- slots may be forgotten -/
def Wk (ρ ρ' : List Wd) : Prop := ρ.length = ρ'.length ∧ ∀ (i : Nat) (w : Wd), ρ'[i]? = some w → w = .no ∨ ρ[i]? = some w
theorem Wk.refl (ρ : List Wd) : Wk ρ ρ := ⟨rfl, fun _ _ h => .inr h⟩
theorem Rel.wk (r : Rel K ω H0 H g σ ρ) {ρ' : List Wd} (k : Wk ρ ρ') : Rel K ω H0 H g σ ρ' := by
  refine ⟨r.ex, r.j0, r.j, r.ln.trans k.1, fun i w h => ?_, fun i j a w w' h1 h2 o1 o2 => ?_, r.sup⟩
  · rcases k.2 i w h with e | e
    · subst e
      have hi : i < σ.length := by rw [r.ln, k.1]; exact (List.getElem?_eq_some_iff.mp h).1
      exact ⟨_, List.getElem?_eq_getElem hi, trivial⟩
    · exact r.sl i w e
  · have q1 : ρ[i]? = some w := (k.2 i w h1).resolve_left fun z => by rw [z] at o1; cases o1
    have q2 : ρ[j]? = some w' := (k.2 j w' h2).resolve_left fun z => by rw [z] at o2; cases o2
    exact r.dj i j a w w' q1 q2 o1 o2
theorem Wo.lstM (ω : Wo γ) (j : ω.J g H) (e : ExM ω.M H H1) {a : Addr} {xs : List V} (h : H a = some (.lst xs)) : H1 a = some (.lst xs) := by
  refine e a _ (fun z => ?_) h
  obtain ⟨kvs, q⟩ := ω.dic g H a j z
  rw [h] at q
  cases q
theorem Vr.grow (j : ω.J g H) (e : ExM ω.M H H1) {v : V} {w : Wd} (h : Vr K H v w) : Vr K H1 v w := by
  have t := ω.tx j e
  cases w with
  | d x => exact h.mono t
  | b ds => obtain ⟨a, xs, h1, h2, h3⟩ := h; exact ⟨a, xs, h1, ω.lstM j e h2, h3.mono t⟩
  | l ds => obtain ⟨a, xs, h1, h2, h3⟩ := h; exact ⟨a, xs, h1, ω.lstM j e h2, h3.mono t⟩
  | o ds => obtain ⟨a, xs, h1, h2, h3⟩ := h; exact ⟨a, xs, h1, ω.lstM j e h2, h3.mono t⟩
  | z u => exact h
  | _ => trivial
theorem Vw.vr {Hs : Hp} {v : V} {w : Wd} (h : Vw K Hs H v w) : Vr K H v w := by
  cases w with
  | o ds => obtain ⟨a, xs, h1, h2, h3, h4⟩ := h; exact ⟨a, xs, h1, h3, h4⟩
  | k kvs => trivial
  | _ => exact h
/-- new since H2, so new since H -/
theorem Vw.back (j : ω.J g H1) (e : ExM ω.M H H1) {v : V} {w : Wd} (h : Vw K H1 H2 v w) : Vw K H H2 v w := by
  cases w with
  | o ds => obtain ⟨a, xs, h1, h2, h3⟩ := h; exact ⟨a, xs, h1, ω.back j e h2, h3⟩
  | k ds => obtain ⟨a, xs, h1, h2, h3⟩ := h; exact ⟨a, xs, h1, ω.back j e h2, h3⟩
  | _ => exact h
/-- the slots of a def, the first n; hidden ones behind -/
def RelN {γ : Type} (K : PySem.W.Frag) (ω : Wo γ) (H0 : Hp) (n : Nat) (H : Hp) (g : γ) (σ : L2.St) (ρ : List Wd) : Prop := σ.length = n ∧ ∃ τ, Rel K ω H0 H g (σ ++ τ) ρ
variable {n : Nat}
theorem RelN.grow (r : RelN K ω H0 n H g σ ρ) (e : ExM ω.M H H1) (j : ω.J g1 H1) : RelN K ω H0 n H1 g1 σ ρ := ⟨r.1, let ⟨τ, q⟩ := r.2; ⟨τ, q.grow e j⟩⟩
theorem RelN.j (r : RelN K ω H0 n H g σ ρ) : ω.J g H := let ⟨_, q⟩ := r.2; q.j
theorem RelN.ex (r : RelN K ω H0 n H g σ ρ) : ExM ω.M H0 H := let ⟨_, q⟩ := r.2; q.ex
theorem RelN.new (r : RelN K ω H0 n H g σ ρ) {p : Addr} {o : HO} (h : H p = none) : ω.J g (upd H p o) := let ⟨_, q⟩ := r.2; q.new h
theorem RelN.free (r : RelN K ω H0 n H g σ ρ) {p : Addr} (h : H p = none) : H0 p = none := let ⟨_, q⟩ := r.2; q.free h
theorem RelN.wk (r : RelN K ω H0 n H g σ ρ) {ρ' : List Wd} (k : Wk ρ ρ') : RelN K ω H0 n H g σ ρ' := ⟨r.1, let ⟨τ, q⟩ := r.2; ⟨τ, q.wk k⟩⟩
theorem RelN.stayG (r : RelN K ω H0 n H g σ ρ) (e : Ex H H1) : ω.J g H1 := ω.stay g H _ r.j fun b o _ h => e b o h
theorem RelN.sl (r : RelN K ω H0 n H g σ ρ) {i : Nat} {w : Wd} (h : ρ[i]? = some w) (hi : i < n) : ∃ u, σ[i]? = some u ∧ SlOk K H0 H u w := by
  obtain ⟨e, τ, q⟩ := r
  obtain ⟨u, h1, h2⟩ := q.sl i w h
  rw [List.getElem?_append_left (by rw [e]; exact hi)] at h1
  exact ⟨u, h1, h2⟩
theorem RelN.lt (r : RelN K ω H0 n H g σ ρ) {i : Nat} (hi : i < n) : i < ρ.length := by
  obtain ⟨e, τ, q⟩ := r
  rw [← q.ln, List.length_append]
  omega
theorem RelN.set (r : RelN K ω H0 n H g σ ρ) {i : Nat} {v : Option V} {w : Wd} (hi : i < n) (hn : SlOk K H0 H v w) (ho : w.own = false) : RelN K ω H0 n H g (σ.set i v) (ρ.set i w) := by
  have hl := r.lt hi
  obtain ⟨e, τ, q⟩ := r
  refine ⟨by rw [List.length_set]; exact e, τ, ?_⟩
  rw [← List.set_append_left _ _ (by rw [e]; exact hi)]
  exact q.set hl hn fun z => by rw [ho] at z; cases z
/-- a new object is stored -/
theorem RelN.setNew (r : RelN K ω H0 n H g σ ρ) {i : Nat} {a : Addr} {w : Wd} (hi : i < n) (e1 : ExM ω.M H H1) (j : ω.J g1 H1) (hn : SlOk K H0 H1 (some (.ref a)) w) (hf : H a = none) : RelN K ω H0 n H1 g1 (σ.set i (some (.ref a))) (ρ.set i w) := by
  have hl := r.lt hi
  obtain ⟨e, τ, q⟩ := r
  refine ⟨by rw [List.length_set]; exact e, τ, ?_⟩
  rw [← List.set_append_left _ _ (by rw [e]; exact hi)]
  refine (q.grow e1 j).set hl hn fun _ b hb k w' hk hw' ow z => ?_
  cases hb
  obtain ⟨u, h1, h2⟩ := q.sl k w' hw'
  rw [z] at h1
  cases h1
  cases w' with
  | o ds => obtain ⟨b, xs, h1, h2, h3, h4⟩ := h2; cases h1; rw [hf] at h3; cases h3
  | k ds => obtain ⟨b, xs, h1, h2, h3, h4⟩ := h2; cases h1; rw [hf] at h3; cases h3
  | pl v ds => obtain ⟨q0, b, xs, h1, h2, h3, h4⟩ := h2; cases q0; cases h1; rw [hf] at h3; cases h3
  | pd v ds => obtain ⟨q0, b, xs, h1, h2, h3, h4⟩ := h2; cases q0; cases h1; rw [hf] at h3; cases h3
  | no => cases ow
  | d x => cases ow
  | b x => cases ow
  | l x => cases ow
  | z x => cases ow
  | pt v x => cases ow
  | pb v x => cases ow
theorem RelN.put (r : RelN K ω H0 n H g σ ρ) {i : Nat} {a : Addr} {w w' : Wd} {o : HO} (hi : i < n) (hw : ρ[i]? = some w) (ho : w.own = true) (hs : σ[i]? = some (some (.ref a))) (h0 : H0 a = none) (hk : (∃ xs, H a = some (.lst xs)) ∨ ∃ ks, H a = some (.dK ks))
    (ho' : w'.own = true) (hn : SlOk K H0 (upd H a o) (some (.ref a)) w') : RelN K ω H0 n (upd H a o) g σ (ρ.set i w') := by
  obtain ⟨e, τ, q⟩ := r
  refine ⟨e, τ, q.put hw ho ?_ h0 hk ho' hn⟩
  rw [List.getElem?_append_left (by rw [e]; exact hi)]
  exact hs
theorem Rel.push (q : Rel K ω H0 H g σ ρ) {v : V} {w : Wd} (hn : SlOk K H0 H (some v) w) (hf : w.own = true → ∀ a, v = .ref a → ∀ (j : Nat) (w' : Wd), ρ[j]? = some w' → w'.own = true → σ[j]? ≠ some (some (.ref a))) : Rel K ω H0 H g (σ ++ [some v]) (ρ ++ [w]) := by
  have cs : ∀ (k : Nat) (x : Wd), (ρ ++ [w])[k]? = some x → (ρ[k]? = some x ∧ k < ρ.length) ∨ (k = ρ.length ∧ x = w) := fun k x h => by
    rw [List.getElem?_append] at h
    by_cases hk : k < ρ.length
    · rw [if_pos hk] at h
      exact .inl ⟨h, hk⟩
    · rw [if_neg hk] at h
      have : k - ρ.length = 0 := by
        cases z : k - ρ.length with
        | zero => rfl
        | succ m => rw [z] at h; cases h
      rw [this] at h
      cases h
      exact .inr ⟨by omega, rfl⟩
  have at1 : ∀ k, k < ρ.length → (σ ++ [some v])[k]? = σ[k]? := fun k hk => List.getElem?_append_left (by rw [q.ln]; exact hk)
  have at2 : (σ ++ [some v])[ρ.length]? = some (some v) := by
    rw [← q.ln, List.getElem?_append_right (Nat.le_refl _), Nat.sub_self]
    rfl
  refine ⟨q.ex, q.j0, q.j, by rw [List.length_append, List.length_append, q.ln]; rfl, fun k x h => ?_, fun k l b x y h1 h2 o1 o2 s1 s2 => ?_, q.sup⟩
  · rcases cs k x h with ⟨h', hk⟩ | ⟨rfl, rfl⟩
    · rw [at1 k hk]; exact q.sl k x h'
    · exact ⟨_, at2, hn⟩
  · rcases cs k x h1 with ⟨h1', hk⟩ | ⟨rfl, rfl⟩ <;> rcases cs l y h2 with ⟨h2', hl⟩ | ⟨e2, e3⟩
    · rw [at1 k hk] at s1; rw [at1 l hl] at s2
      exact q.dj k l b x y h1' h2' o1 o2 s1 s2
    · subst e2 e3
      rw [at2] at s2; cases s2
      rw [at1 k hk] at s1
      exact absurd s1 (hf o2 b rfl k x h1' o1)
    · rw [at2] at s1; cases s1
      rw [at1 l hl] at s2
      exact absurd s2 (hf o1 b rfl l y h2' o2)
    · exact e2.symm
theorem RelN.push (r : RelN K ω H0 n H g σ ρ) {v : V} {w : Wd} (hn : SlOk K H0 H (some v) w) (ho : w.own = false) : RelN K ω H0 n H g σ (ρ ++ [w]) := by
  obtain ⟨e, τ, q⟩ := r
  refine ⟨e, τ ++ [some v], ?_⟩
  rw [← List.append_assoc]
  exact q.push hn fun z => by rw [ho] at z; cases z
theorem Rel.notNew (q : Rel K ω H0 H g σ ρ) {a : Addr} (hf : H a = none) {j : Nat} {w' : Wd} (hw' : ρ[j]? = some w') (ow : w'.own = true) : σ[j]? ≠ some (some (.ref a)) := fun z => by
  obtain ⟨u, h1, h2⟩ := q.sl j w' hw'
  rw [z] at h1
  cases h1
  cases w' with
  | o ds => obtain ⟨b, xs, h1, h2, h3, h4⟩ := h2; cases h1; rw [hf] at h3; cases h3
  | k ds => obtain ⟨b, xs, h1, h2, h3, h4⟩ := h2; cases h1; rw [hf] at h3; cases h3
  | pl v ds => obtain ⟨q0, b, xs, h1, h2, h3, h4⟩ := h2; cases q0; cases h1; rw [hf] at h3; cases h3
  | pd v ds => obtain ⟨q0, b, xs, h1, h2, h3, h4⟩ := h2; cases q0; cases h1; rw [hf] at h3; cases h3
  | _ => cases ow
theorem RelN.pushNew (r : RelN K ω H0 n H g σ ρ) {a : Addr} {w : Wd} (e1 : ExM ω.M H H1) (j : ω.J g1 H1) (hn : SlOk K H0 H1 (some (.ref a)) w) (hf : H a = none) : RelN K ω H0 n H1 g1 σ (ρ ++ [w]) := by
  obtain ⟨e, τ, q⟩ := r
  refine ⟨e, τ ++ [some (.ref a)], ?_⟩
  rw [← List.append_assoc]
  exact (q.grow e1 j).push hn fun _ b hb k w' hw' ow => by cases hb; exact q.notNew hf hw' ow
theorem Wk.set {ρ ρ' : List Wd} {i : Nat} {w : Wd} (k : Wk ρ ρ') : Wk (ρ.set i w) (ρ'.set i w) := by
  refine ⟨by rw [List.length_set, List.length_set]; exact k.1, fun j x h => ?_⟩
  rw [List.getElem?_set] at h ⊢
  by_cases hij : i = j
  · subst hij
    rw [if_pos rfl] at h ⊢
    rw [k.1]
    exact .inr h
  · rw [if_neg hij] at h ⊢
    exact k.2 j x h
/-- hidden slots are dropped -/
theorem RelN.take (r : RelN K ω H0 n H g σ ρ) {m : Nat} (hm : n ≤ m) : RelN K ω H0 n H g σ (ρ.take m) := by
  obtain ⟨e, τ, q⟩ := r
  refine ⟨e, τ.take (m - n), ?_⟩
  have es : σ ++ τ.take (m - n) = (σ ++ τ).take m := by
    rw [List.take_append, List.take_of_length_le (i := m) (l := σ) (by rw [e]; exact hm), e]
  rw [es]
  have tk : ∀ (k : Nat) (x : Wd), (ρ.take m)[k]? = some x → ρ[k]? = some x ∧ k < m := fun k x h => by
    rw [List.getElem?_take] at h
    by_cases hk : k < m
    · rw [if_pos hk] at h; exact ⟨h, hk⟩
    · rw [if_neg hk] at h; cases h
  have ts : ∀ k, k < m → ((σ ++ τ).take m)[k]? = (σ ++ τ)[k]? := fun k hk => by rw [List.getElem?_take, if_pos hk]
  refine ⟨q.ex, q.j0, q.j, by rw [List.length_take, List.length_take, q.ln], fun k x h => ?_, fun k l b x y h1 h2 o1 o2 s1 s2 => ?_, q.sup⟩
  · obtain ⟨h', hk⟩ := tk k x h
    rw [ts k hk]
    exact q.sl k x h'
  · obtain ⟨h1', hk⟩ := tk k x h1
    obtain ⟨h2', hl⟩ := tk l y h2
    rw [ts k hk] at s1
    rw [ts l hl] at s2
    exact q.dj k l b x y h1' h2' o1 o2 s1 s2
end
end Kt

/-! Kt, part W: readings told by data alone. -/
namespace Kt
open PySem PySem.Spec PyProof.Rows L2 Evl
/-- where a def stands: the written part, its world, the heap at its entry, how many slots it has -/
structure Wc (γ : Type) where
  K : PySem.W.Frag
  ω : Wo γ
  H0 : Hp
  n : Nat
inductive VrL (K : PySem.W.Frag) (H : Hp) : List V → List Wd → Prop
  | nil : VrL K H [] []
  | cons {v : V} {vs : List V} {w : Wd} {ws : List Wd} : Vr K H v w → VrL K H vs ws → VrL K H (v :: vs) (w :: ws)
theorem VrL.len {K : PySem.W.Frag} {H : Hp} : ∀ {vs : List V} {ws : List Wd}, VrL K H vs ws → vs.length = ws.length
  | _, _, .nil => rfl
  | _, _, .cons _ t => congrArg (· + 1) t.len
/-- what may follow a statement -/
structure WO (γ : Type) where
  nx : List Wd → γ → Prop
  rt : Wd → γ → Prop
  bk : List Wd → γ → Prop := fun _ _ => False
  ct : List Wd → γ → Prop := fun _ _ => False
section
variable {γ : Type} (W : Wc γ)
abbrev Wc.R (H : Hp) (g : γ) (σ : L2.St) (ρ : List Wd) : Prop := RelN W.K W.ω W.H0 W.n H g σ ρ
def wE (te : TE) (ρ : List Wd) (g : γ) (Q : Wd → γ → Prop) : Prop := ∀ (σ : L2.St) (H : Hp) (C : VK), W.R H g σ ρ → (∀ v H' w g', ExM W.ω.M H H' → W.ω.J g' H' → Vw W.K H H' v w → Q w g' → C v H') → te σ H C
def wT (t : TT) (ρ : List Wd) (g : γ) (Q : Bool → γ → Prop) : Prop := ∀ (σ : L2.St) (H : Hp) (C : Bool → Hp → Prop), W.R H g σ ρ → (∀ b H' g', ExM W.ω.M H H' → W.ω.J g' H' → Q b g' → C b H') → t σ H C
def wA (t : TA) (ρ : List Wd) (g : γ) (Q : List Wd → γ → Prop) : Prop := ∀ (σ : L2.St) (H : Hp) (C : List V → Hp → Prop), W.R H g σ ρ → (∀ vs H' ws g', ExM W.ω.M H H' → W.ω.J g' H' → VrL W.K H' vs ws → Q ws g' → C vs H') → t σ H C
/-- arguments that are data -/
def wD (t : TA) (ρ : List Wd) (g : γ) (Q : List PyData → γ → Prop) : Prop := ∀ (σ : L2.St) (H : Hp) (C : List V → Hp → Prop), W.R H g σ ρ → (∀ vs H' ds g', ExM W.ω.M H H' → W.ω.J g' H' → TwL W.K H' vs ds → Q ds g' → C vs H') → t σ H C
def wO (t : TO) (ρ : List Wd) (g : γ) (Q : Option Int → γ → Prop) : Prop := ∀ (σ : L2.St) (H : Hp) (C : Option Int → Hp → Prop), W.R H g σ ρ → (∀ o H' g', ExM W.ω.M H H' → W.ω.J g' H' → Q o g' → C o H') → t σ H C
def wS (ts : TS) (ρ : List Wd) (g : γ) (O : WO γ) : Prop := ∀ (σ : L2.St) (H : Hp) (D : Ends), W.R H g σ ρ → (∀ ρ' σ' H' g', W.R H' g' σ' ρ' → O.nx ρ' g' → D.nx σ' H') → (∀ w v H' g', ExM W.ω.M W.H0 H' → W.ω.J g' H' → Vw W.K W.H0 H' v w → O.rt w g' → D.rt v H') →
  (∀ ρ' σ' H' g', W.R H' g' σ' ρ' → O.bk ρ' g' → D.bk σ' H') → (∀ ρ' σ' H' g', W.R H' g' σ' ρ' → O.ct ρ' g' → D.ct σ' H') → ts D σ H
/-- a target that takes data -/
def wG (t : TG) (d : PyData) (ρ : List Wd) (Q : List Wd → Prop) : Prop := ∀ (v : V) (σ : L2.St) (H : Hp) (g : γ) (C : L2.St → Hp → Prop), W.R H g σ ρ → Tw W.K H v d → (∀ σ' ρ', W.R H g σ' ρ' → Q ρ' → C σ' H) → t v σ H C
def wGs (t : TGs) (ds : List PyData) (ρ : List Wd) (Q : List Wd → Prop) : Prop := ∀ (vs : List V) (σ : L2.St) (H : Hp) (g : γ) (C : L2.St → Hp → Prop), W.R H g σ ρ → TwL W.K H vs ds → (∀ σ' ρ', W.R H g σ' ρ' → Q ρ' → C σ' H) → t vs σ H C
/-- what J gives, while Pn holds of the slots: the items ds -/
def ItOk (J : It) (Pn : List Wd → Prop) (ds : List PyData) : Prop := ∀ (i : Nat) (H : Hp) (g : γ) (σ : L2.St) (ρ : List Wd), W.R H g σ ρ → Pn ρ → (ds.length ≤ i → J.stop i H) ∧ ∀ d, ds[i]? = some d → J.go i H ∧ ∀ x H', J.yld i H x H' → Ex H H' ∧ Tw W.K H' x d
def wI (wi : TI) (ρ : List Wd) (g : γ) (Q : List Wd → (List Wd → Prop) → List PyData → γ → Prop) : Prop := ∀ (σ : L2.St) (H : Hp) (C : It → Hp → Prop), W.R H g σ ρ → (∀ J H' ρ' Pn ds g', ExM W.ω.M H H' → W.R H' g' σ ρ' → ItOk W J Pn ds → Q ρ' Pn ds g' → C J H') → wi σ H C
end
def wR (K : PySem.W.Frag) (r : R2) (x y : Wd) (Q : Wd → Prop) : Prop := ∀ (H : Hp) (v u : V) (C : VK), Vr K H v x → Vr K H u y → (∀ z H' w, Ex H H' → Vw K H H' z w → Q w → C z H') → r v u H C
def wC (K : PySem.W.Frag) (r : List V → Hp → VK → Prop) (ws : List Wd) (Q : Wd → Prop) : Prop := ∀ (H : Hp) (vs : List V) (C : VK), VrL K H vs ws → (∀ z H' w, Ex H H' → Vw K H H' z w → Q w → C z H') → r vs H C
def wL (K : PySem.W.Frag) (r : V → Option Int → Option Int → Hp → VK → Prop) (x : Wd) (lo hi : Option Int) (Q : Wd → Prop) : Prop := ∀ (H : Hp) (v : V) (C : VK), Vr K H v x → (∀ z H' w, Ex H H' → Vw K H H' z w → Q w → C z H') → r v lo hi H C
/-! what is asked on the way -/
def Dd (P : PyData → Prop) (w : Wd) : Prop := ∃ d, w = .d d ∧ P d
def Bd (P : Bool → Prop) (w : Wd) : Prop := ∃ b, w = .d (.bool b) ∧ P b
def Id' (P : Int → Prop) (w : Wd) : Prop := ∃ i, w = .d (.int i) ∧ P i
def Wd.tl : Wd → Option (List PyData)
  | .o ds | .l ds => some ds
  | _ => none
def Sd (P : List PyData → Prop) (w : Wd) : Prop := ∃ ds, (w = .d (.tuple ds) ∨ w.tl = some ds) ∧ P ds
def Ld (P : List PyData → Prop) (w : Wd) : Prop := ∃ ds, w.tl = some ds ∧ P ds
def Sz (n : Nat) (P : Prop) : Prop := n ≤ sizeLine ∧ P
theorem q_D {P : PyData → Prop} {d : PyData} (q : P d) : Dd P (.d d) := ⟨d, rfl, q⟩
theorem q_B {P : Bool → Prop} {b : Bool} (q : P b) : Bd P (.d (.bool b)) := ⟨b, rfl, q⟩
theorem q_I {P : Int → Prop} {i : Int} (q : P i) : Id' P (.d (.int i)) := ⟨i, rfl, q⟩
theorem q_St {P : List PyData → Prop} {ds : List PyData} (q : P ds) : Sd P (.d (.tuple ds)) := ⟨ds, .inl rfl, q⟩
theorem q_So {P : List PyData → Prop} {ds : List PyData} (q : P ds) : Sd P (.o ds) := ⟨ds, .inr rfl, q⟩
theorem q_Sl {P : List PyData → Prop} {ds : List PyData} (q : P ds) : Sd P (.l ds) := ⟨ds, .inr rfl, q⟩
theorem q_Lo {P : List PyData → Prop} {ds : List PyData} (q : P ds) : Ld P (.o ds) := ⟨ds, rfl, q⟩
theorem q_Ll {P : List PyData → Prop} {ds : List PyData} (q : P ds) : Ld P (.l ds) := ⟨ds, rfl, q⟩
theorem q_Sz {n : Nat} {P : Prop} (q : P) (h : n ≤ sizeLine := by exact Nat.le_of_ble_eq_true rfl) : Sz n P := ⟨h, q⟩
theorem tl_at {K : PySem.W.Frag} {H : Hp} {v : V} {w : Wd} {ds : List PyData} (h : Vr K H v w) (e : w.tl = some ds) : ∃ a xs, v = .ref a ∧ H a = some (.lst xs) ∧ TwL K H xs ds := by
  cases w with
  | o es => cases e; exact h
  | l es => cases e; exact h
  | _ => cases e
section
variable {γ : Type} {W : Wc γ} {ρ : List Wd} {g : γ} {Q : Wd → γ → Prop} {ta tb te tc : TE} {tt tu : TT} {i : Nat}
theorem wE.mono {Q' : Wd → γ → Prop} (h : wE W te ρ g Q) (k : ∀ w g, Q w g → Q' w g) : wE W te ρ g Q' := fun σ H C R q => h σ H C R fun v H' w g' e j vw z => q v H' w g' e j vw (k w g' z)
theorem wE_at {w : Wd} {f : V → Prop} (hi : i < W.n) (h : ρ[i]? = some w) (hs : ∀ H u, SlOk W.K W.H0 H u w → (∃ g0, W.ω.J g0 W.H0) → ExM W.ω.M W.H0 H → ∃ v w', u = some v ∧ Vr W.K H v w' ∧ Vw W.K H H v w' ∧ Q w' g) : wE W (tVar i) ρ g Q := fun σ H C R q => by
  obtain ⟨u, h1, h2⟩ := R.sl h hi
  obtain ⟨_, τ, r⟩ := id R
  obtain ⟨v, w', e, _, hv, z⟩ := hs H u h2 r.j0 r.ex
  subst e
  exact ⟨v, h1, q v H w' g (ExM.refl H) R.j hv z⟩
theorem wE_varD {x : PyData} (h : ρ[i]? = some (.d x)) (hi : i < W.n) (q : Q (.d x) g) : wE W (tVar i) ρ g Q := fun σ H C R k => by
  obtain ⟨u, h1, v, rfl, h2⟩ := R.sl h hi
  exact ⟨v, h1, k v H (.d x) g (ExM.refl H) R.j h2 q⟩
theorem wE_varT {v : V} {xs : List PyData} (h : ρ[i]? = some (.pt v xs)) (hi : i < W.n) (q : Q (.d (.tuple xs)) g) : wE W (tVar i) ρ g Q := fun σ H C R k => by
  obtain ⟨u, h1, rfl, h2⟩ := R.sl h hi
  exact ⟨v, h1, k v H (.d (.tuple xs)) g (ExM.refl H) R.j h2 q⟩
theorem wE_varO {xs : List PyData} (h : ρ[i]? = some (.o xs)) (hi : i < W.n) (q : Q (.l xs) g) : wE W (tVar i) ρ g Q := fun σ H C R k => by
  obtain ⟨u, h1, a, ys, rfl, h2, h3, h4⟩ := R.sl h hi
  exact ⟨_, h1, k _ H (.l xs) g (ExM.refl H) R.j ⟨a, ys, rfl, h3, h4⟩ q⟩
theorem wE_varP {v : V} {xs : List PyData} (h : ρ[i]? = some (.pl v xs)) (hi : i < W.n) (q : Q (.l xs) g) : wE W (tVar i) ρ g Q := fun σ H C R k => by
  obtain ⟨u, h1, rfl, a, ys, rfl, h2, h3, h4⟩ := R.sl h hi
  exact ⟨_, h1, k _ H (.l xs) g (ExM.refl H) R.j ⟨a, ys, rfl, h3, h4⟩ q⟩
theorem RelN.brw {K : PySem.W.Frag} {ω : Wo γ} {H0 H : Hp} {n : Nat} {σ : L2.St} (R : RelN K ω H0 n H g σ ρ) {a : Addr} {ys : List V} {xs : List PyData} (h2 : H0 a = some (.lst ys)) (h3 : TwL K H0 ys xs) : H a = some (.lst ys) ∧ TwL K H ys xs := by
  obtain ⟨_, τ, r⟩ := R
  obtain ⟨g0, j0⟩ := r.j0
  exact ⟨ω.lstM j0 r.ex h2, h3.mono (ω.tx j0 r.ex)⟩
theorem wE_varB {xs : List PyData} (h : ρ[i]? = some (.b xs)) (hi : i < W.n) (q : Q (.l xs) g) : wE W (tVar i) ρ g Q := fun σ H C R k => by
  obtain ⟨u, h1, a, ys, rfl, h2, h3⟩ := R.sl h hi
  obtain ⟨z1, z2⟩ := R.brw h2 h3
  exact ⟨_, h1, k _ H (.l xs) g (ExM.refl H) R.j ⟨a, ys, rfl, z1, z2⟩ q⟩
theorem wE_varQ {v : V} {xs : List PyData} (h : ρ[i]? = some (.pb v xs)) (hi : i < W.n) (q : Q (.l xs) g) : wE W (tVar i) ρ g Q := fun σ H C R k => by
  obtain ⟨u, h1, rfl, a, ys, rfl, h2, h3⟩ := R.sl h hi
  obtain ⟨z1, z2⟩ := R.brw h2 h3
  exact ⟨_, h1, k _ H (.l xs) g (ExM.refl H) R.j ⟨a, ys, rfl, z1, z2⟩ q⟩
theorem wE_varZ {v : V} (h : ρ[i]? = some (.z v)) (hi : i < W.n) (q : Q (.z v) g) : wE W (tVar i) ρ g Q := fun σ H C R k => by
  obtain ⟨u, h1, h2⟩ := R.sl h hi
  obtain rfl : u = some v := h2
  exact ⟨v, h1, k v H (.z v) g (ExM.refl H) R.j rfl q⟩
theorem wE_cI {z : Int} (q : Q (.d (.int z)) g) : wE W (tC (.int z)) ρ g Q := fun σ H C R k => k _ H (.d (.int z)) g (ExM.refl H) R.j (.int z) q
theorem wE_cB {z : Bool} (q : Q (.d (.bool z)) g) : wE W (tC (.bl z)) ρ g Q := fun σ H C R k => k _ H (.d (.bool z)) g (ExM.refl H) R.j (.bl z) q
theorem wE_cS {z : Str} (q : Q (.d (.str z)) g) : wE W (tC (.str z)) ρ g Q := fun σ H C R k => k _ H (.d (.str z)) g (ExM.refl H) R.j (.str z) q
theorem wE_cN (q : Q (.d .none) g) : wE W (tC .non) ρ g Q := fun σ H C R k => k _ H (.d .none) g (ExM.refl H) R.j .non q
theorem wE_cT {T : String} (q : Q (.z (.ty T)) g) : wE W (tC (.ty T)) ρ g Q := fun σ H C R k => k _ H (.z (.ty T)) g (ExM.refl H) R.j rfl q
theorem wE_op {r : R2} (q : wE W ta ρ g fun x g1 => wE W tb ρ g1 fun y g2 => wR W.K r x y fun w => Q w g2) : wE W (tOp r ta tb) ρ g Q := fun σ H C R k =>
  q σ H _ R fun v H1 x g1 e1 j1 vx q1 => q1 σ H1 _ (R.grow e1 j1) fun u H2 y g2 e2 j2 vy q2 => q2 H2 v u _ (Vr.grow j1 e2 vx.vr) vy.vr fun z H3 w e3 vz qz =>
    k z H3 w g2 ((e1.trans e2).trans (ExM.of e3)) (((R.grow e1 j1).grow e2 j2).stayG e3) (Vw.back j1 e1 (Vw.back j2 e2 vz)) qz
def Un (r : V → Hp → VK → Prop) (P : Int → Prop) (x : Wd) : Prop := ∃ (i : Int) (f : Int → Int), x = .d (.int i) ∧ r = (rU fun i => .int (f i)) ∧ P (f i)
theorem wE_un {r : V → Hp → VK → Prop} (q : wE W ta ρ g fun x g1 => Un r (fun z => Q (.d (.int z)) g1) x) : wE W (tUn r ta) ρ g Q := fun σ H C R k =>
  q σ H _ R fun v H1 x g1 e1 j1 vx ⟨i, f, ex, er, q1⟩ => by
    subst ex er
    cases vx
    exact ⟨i, rfl, k _ H1 (.d (.int (f i))) g1 e1 j1 (Tw.int (f i)) q1⟩
theorem q_un {f : Int → Int} {i : Int} {P : Int → Prop} (q : P (f i)) : Un (rU fun i => .int (f i)) P (.d (.int i)) := ⟨i, f, rfl, rfl, q⟩
/-! arguments -/
theorem wA_nil {QA : List Wd → γ → Prop} (q : QA [] g) : wA W tNil ρ g QA := fun σ H C R k => k [] H [] g (ExM.refl H) R.j .nil q
theorem VrL.grow {K : PySem.W.Frag} {ω : Wo γ} {H H1 : Hp} {g : γ} (j : ω.J g H) (e : ExM ω.M H H1) : ∀ {vs : List V} {ws : List Wd}, VrL K H vs ws → VrL K H1 vs ws
  | _, _, .nil => .nil
  | _, _, .cons a t => .cons (a.grow j e) (t.grow j e)
theorem wA_cons {tr : TA} {QA : List Wd → γ → Prop} (q : wE W ta ρ g fun x g1 => wA W tr ρ g1 fun ws g2 => QA (x :: ws) g2) : wA W (tCons ta tr) ρ g QA := fun σ H C R k =>
  q σ H _ R fun v H1 x g1 e1 j1 vx q1 => q1 σ H1 _ (R.grow e1 j1) fun vs H2 ws g2 e2 j2 vws q2 => k (v :: vs) H2 (x :: ws) g2 (e1.trans e2) j2 (.cons (vx.vr.grow j1 e2) vws) q2
theorem wD_nil {QD : List PyData → γ → Prop} (q : QD [] g) : wD W tNil ρ g QD := fun σ H C R k => k [] H [] g (ExM.refl H) R.j .nil q
theorem wD_cons {tr : TA} {QD : List PyData → γ → Prop} (q : wE W ta ρ g fun x g1 => Dd (fun d => wD W tr ρ g1 fun ds g2 => QD (d :: ds) g2) x) : wD W (tCons ta tr) ρ g QD := fun σ H C R k =>
  q σ H _ R fun v H1 x g1 e1 j1 vx ⟨d, ex, q1⟩ => by
    subst ex
    exact q1 σ H1 _ (R.grow e1 j1) fun vs H2 ds g2 e2 j2 vds q2 => k (v :: vs) H2 (d :: ds) g2 (e1.trans e2) j2 (.cons (Tw.mono (W.ω.tx j1 e2) vx) vds) q2
theorem wD_star {tr : TA} {QD : List PyData → γ → Prop} (q : wE W ta ρ g fun x g1 => Sd (fun xs => wD W tr ρ g1 fun ds g2 => QD (xs ++ ds) g2) x) : wD W (StX.tStar W.K ta tr) ρ g QD := fun σ H C R k =>
  q σ H _ R fun v H1 x g1 e1 j1 vx ⟨xs, ex, q1⟩ => by
    have key : ∃ p ys, v = V.ref p ∧ (SqT W.K H1 p ys ∨ SqL W.K H1 p ys) ∧ TwL W.K H1 ys xs := by
      rcases ex with ex | ex
      · subst ex
        obtain ⟨a, ys, h1, h2, h3⟩ := Tw.tupI vx
        exact ⟨a, ys, h1, .inl h2, h3⟩
      · obtain ⟨a, ys, h1, h2, h3⟩ := tl_at vx.vr ex
        exact ⟨a, ys, h1, .inr (sq_of h2), h3⟩
    obtain ⟨p, ys, rfl, h2, h3⟩ := key
    exact ⟨p, ys, rfl, h2, q1 σ H1 _ (R.grow e1 j1) fun vs H2 ds g2 e2 j2 vds q2 => k (ys ++ vs) H2 (xs ++ ds) g2 (e1.trans e2) j2 ((h3.mono (W.ω.tx j1 e2)).app vds) q2⟩
theorem wE_tup {t : TA} (q : wD W t ρ g fun ds g1 => Sz ds.length (Q (.d (.tuple ds)) g1)) : wE W (tTup t) ρ g Q := fun σ H C R k =>
  q σ H _ R fun vs H1 ds g1 e1 j1 vds ⟨hz, q1⟩ => ⟨by rw [vds.length]; exact hz, fun p hp =>
    k _ _ (.d (.tuple ds)) g1 (e1.trans (ExM.of (Ex.new hp))) ((R.grow e1 j1).stayG (Ex.new hp)) (.tup (st_of upd_same) (vds.mono (Tx.ex (Ex.new hp)))) q1⟩
theorem wE_lst {t : TA} (q : wD W t ρ g fun ds g1 => Sz ds.length (Q (.o ds) g1)) : wE W (tLst t) ρ g Q := fun σ H C R k =>
  q σ H _ R fun vs H1 ds g1 e1 j1 vds ⟨hz, q1⟩ => ⟨by rw [vds.length]; exact hz, fun p hp =>
    k _ _ (.o ds) g1 (e1.trans (ExM.of (Ex.new hp))) ((R.grow e1 j1).stayG (Ex.new hp)) ⟨p, vs, rfl, W.ω.back j1 e1 hp, upd_same, vds.mono (Tx.ex (Ex.new hp))⟩ q1⟩
theorem wE_dnew (q : Q (.k []) g) : wE W tDNewK ρ g Q := fun σ H C R k p hp => k _ _ (.k []) g (ExM.of (Ex.new hp)) (R.stayG (Ex.new hp)) ⟨p, [], rfl, hp, upd_same, .nil⟩ q
theorem wE_cb {r : List V → Hp → VK → Prop} {t : TA} (q : wA W t ρ g fun ws g1 => wC W.K r ws fun w => Q w g1) : wE W (tCB r t) ρ g Q := fun σ H C R k =>
  q σ H _ R fun vs H1 ws g1 e1 j1 vws q1 => q1 H1 vs _ vws fun z H2 w e2 vz qz => k z H2 w g1 (e1.trans (ExM.of e2)) ((R.grow e1 j1).stayG e2) (Vw.back j1 e1 vz) qz
theorem wE_if (q : wT W tt ρ g fun b g1 => if b = true then wE W ta ρ g1 Q else wE W tb ρ g1 Q) : wE W (tIf tt ta tb) ρ g Q := fun σ H C R k =>
  q σ H _ R fun b H1 g1 e1 j1 q1 => by
    cases b with
    | true => exact (show wE W ta ρ g1 Q from q1) σ H1 _ (R.grow e1 j1) fun v H2 w g2 e2 j2 vw z => k v H2 w g2 (e1.trans e2) j2 (Vw.back j1 e1 vw) z
    | false => exact (show wE W tb ρ g1 Q from q1) σ H1 _ (R.grow e1 j1) fun v H2 w g2 e2 j2 vw z => k v H2 w g2 (e1.trans e2) j2 (Vw.back j1 e1 vw) z
theorem wE_andV (q : wE W ta ρ g fun x g1 => Bd (fun b => if b = true then wE W tb ρ g1 Q else Q (.d (.bool false)) g1) x) : wE W (tAndV ta tb) ρ g Q := fun σ H C R k =>
  q σ H _ R fun v H1 x g1 e1 j1 vx ⟨b, ex, q1⟩ => by
    subst ex
    cases vx
    refine ⟨b, rfl, ?_⟩
    cases b with
    | true => exact (show wE W tb ρ g1 Q from q1) σ H1 _ (R.grow e1 j1) fun v H2 w g2 e2 j2 vw z => k v H2 w g2 (e1.trans e2) j2 (Vw.back j1 e1 vw) z
    | false => exact k _ H1 _ g1 e1 j1 (show Vw W.K H H1 (.bl false) (.d (.bool false)) from .bl false) q1
theorem wE_orV (q : wE W ta ρ g fun x g1 => Bd (fun b => if b = true then Q (.d (.bool true)) g1 else wE W tb ρ g1 Q) x) : wE W (tOrV ta tb) ρ g Q := fun σ H C R k =>
  q σ H _ R fun v H1 x g1 e1 j1 vx ⟨b, ex, q1⟩ => by
    subst ex
    cases vx
    refine ⟨b, rfl, ?_⟩
    cases b with
    | false => exact (show wE W tb ρ g1 Q from q1) σ H1 _ (R.grow e1 j1) fun v H2 w g2 e2 j2 vw z => k v H2 w g2 (e1.trans e2) j2 (Vw.back j1 e1 vw) z
    | true => exact k _ H1 _ g1 e1 j1 (show Vw W.K H H1 (.bl true) (.d (.bool true)) from .bl true) q1
theorem wE_notV (q : wE W ta ρ g fun x g1 => Bd (fun b => Q (.d (.bool (!b))) g1) x) : wE W (tNotV ta) ρ g Q := fun σ H C R k =>
  q σ H _ R fun v H1 x g1 e1 j1 vx ⟨b, ex, q1⟩ => by
    subst ex
    cases vx
    exact ⟨b, rfl, k _ H1 _ g1 e1 j1 (show Vw W.K H H1 (.bl (!b)) (.d (.bool (!b))) from .bl _) q1⟩
theorem wE_sl {r : V → Option Int → Option Int → Hp → VK → Prop} {tl th : TO} (q : wE W te ρ g fun x g1 => wO W tl ρ g1 fun lo g2 => wO W th ρ g2 fun hi g3 => wL W.K r x lo hi fun w => Q w g3) : wE W (tSl r te tl th) ρ g Q := fun σ H C R k =>
  q σ H _ R fun v H1 x g1 e1 j1 vx q1 => q1 σ H1 _ (R.grow e1 j1) fun lo H2 g2 e2 j2 q2 => q2 σ H2 _ ((R.grow e1 j1).grow e2 j2) fun hi H3 g3 e3 j3 q3 =>
    q3 H3 v _ ((vx.vr.grow j1 e2).grow j2 e3) fun z H4 w e4 vz qz => k z H4 w g3 (((e1.trans e2).trans e3).trans (ExM.of e4)) ((((R.grow e1 j1).grow e2 j2).grow e3 j3).stayG e4) (Vw.back j1 e1 (Vw.back j2 e2 (Vw.back j3 e3 vz))) qz
theorem wO_no {QO : Option Int → γ → Prop} (q : QO none g) : wO W tNoPart ρ g QO := fun σ H C R k => k none H g (ExM.refl H) R.j q
theorem wO_some {QO : Option Int → γ → Prop} (q : wE W te ρ g fun x g1 => Id' (fun i => QO (some i) g1) x) : wO W (tPart te) ρ g QO := fun σ H C R k =>
  q σ H _ R fun v H1 x g1 e1 j1 vx ⟨i, ex, q1⟩ => by
    subst ex
    cases vx
    exact ⟨i, rfl, k (some i) H1 g1 e1 j1 q1⟩
theorem wE_revT (q : wE W te ρ g fun x g1 => ∃ ds, x = .d (.tuple ds) ∧ Q (.d (.tuple ds.reverse)) g1) : wE W (tRevT W.K te) ρ g Q := fun σ H C R k =>
  q σ H _ R fun v H1 x g1 e1 j1 vx ⟨ds, ex, q1⟩ => by
    subst ex
    obtain ⟨a, xs, h1, h2, h3⟩ := Tw.tupI vx
    exact ⟨a, xs, h1, h2, fun p hp => k _ _ (.d (.tuple ds.reverse)) g1 (e1.trans (ExM.of (Ex.new hp))) ((R.grow e1 j1).stayG (Ex.new hp)) (.tup (st_of upd_same) (h3.rev.mono (Tx.ex (Ex.new hp)))) q1⟩
theorem q_tup {ds : List PyData} {P : List PyData → Prop} (q : P ds) : ∃ es, Wd.d (.tuple ds) = .d (.tuple es) ∧ P es := ⟨ds, rfl, q⟩
/-! tests -/
theorem wT_test {QT : Bool → γ → Prop} (q : wE W te ρ g fun x g1 => Bd (fun b => QT b g1) x) : wT W (tTest te) ρ g QT := fun σ H C R k =>
  q σ H _ R fun v H1 x g1 e1 j1 vx ⟨b, ex, q1⟩ => by
    subst ex
    cases vx
    exact ⟨b, rfl, k b H1 g1 e1 j1 q1⟩
theorem wT_B {QT : Bool → γ → Prop} (q : wE W te ρ g fun x g1 => Bd (fun b => QT b g1) x) : wT W (tB te) ρ g QT := wT_test q
theorem wT_and {QT : Bool → γ → Prop} (q : wT W tt ρ g fun b g1 => if b = true then wT W tu ρ g1 QT else QT false g1) : wT W (tAnd tt tu) ρ g QT := fun σ H C R k =>
  q σ H _ R fun b H1 g1 e1 j1 q1 => by
    cases b with
    | true => exact (show wT W tu ρ g1 QT from q1) σ H1 _ (R.grow e1 j1) fun b H2 g2 e2 j2 z => k b H2 g2 (e1.trans e2) j2 z
    | false => exact k false H1 g1 e1 j1 q1
theorem wT_or {QT : Bool → γ → Prop} (q : wT W tt ρ g fun b g1 => if b = true then QT true g1 else wT W tu ρ g1 QT) : wT W (tOr tt tu) ρ g QT := fun σ H C R k =>
  q σ H _ R fun b H1 g1 e1 j1 q1 => by
    cases b with
    | false => exact (show wT W tu ρ g1 QT from q1) σ H1 _ (R.grow e1 j1) fun b H2 g2 e2 j2 z => k b H2 g2 (e1.trans e2) j2 z
    | true => exact k true H1 g1 e1 j1 q1
theorem wT_not {QT : Bool → γ → Prop} (q : wT W tt ρ g fun b g1 => QT (!b) g1) : wT W (tNot tt) ρ g QT := fun σ H C R k => q σ H _ R fun b H1 g1 e1 j1 q1 => k (!b) H1 g1 e1 j1 q1
theorem wT_yes {QT : Bool → γ → Prop} (q : QT true g) : wT W tYes ρ g QT := fun σ H C R k => k true H g (ExM.refl H) R.j q
/-- the truth of a list -/
theorem wT_tru {QT : Bool → γ → Prop} (q : wE W te ρ g fun x g1 => Sd (fun ds => QT (!ds.isEmpty) g1) x) : wT W (fun σ H Q => te σ H fun x H' => ∃ k, TruV W.K x H' k ∧ Q k H') ρ g QT := fun σ H C R k =>
  q σ H _ R fun v H1 x g1 e1 j1 vx ⟨ds, ex, q1⟩ => by
    rcases ex with ex | ex
    · subst ex
      obtain ⟨a, xs, rfl, h2, h3⟩ := Tw.tupI vx
      have e : xs.isEmpty = ds.isEmpty := by cases h3 <;> rfl
      exact ⟨!ds.isEmpty, .inr (.inl ⟨xs, h2, by rw [e]⟩), k _ H1 g1 e1 j1 q1⟩
    · obtain ⟨a, xs, rfl, h2, h3⟩ := tl_at vx.vr ex
      have e : xs.isEmpty = ds.isEmpty := by cases h3 <;> rfl
      exact ⟨!ds.isEmpty, .inl ⟨xs, sq_of h2, by rw [e]⟩, k _ H1 g1 e1 j1 q1⟩
theorem wE_chain {r r' : R2} (q : wE W ta ρ g fun x g1 => wE W tb ρ g1 fun y g2 => wR W.K r x y fun w => Bd (fun b => if b = true then wE W tc ρ g2 fun z g3 => wR W.K r' y z fun w => Q w g3 else Q (.d (.bool false)) g2) w) : wE W (tChain r r' ta tb tc) ρ g Q := fun σ H C R k => by
  refine q σ H _ R fun v H1 x g1 e1 j1 vx q1 => ?_
  refine q1 σ H1 _ (R.grow e1 j1) fun u H2 y g2 e2 j2 vy q2 => ?_
  refine q2 H2 v u _ (Vr.grow j1 e2 vx.vr) vy.vr fun z H3 w e3 vz qz => ?_
  obtain ⟨b, ew, qz⟩ := qz
  subst ew
  cases vz
  have R2 := (R.grow e1 j1).grow e2 j2
  have j3 := R2.stayG e3
  refine ⟨b, rfl, ?_⟩
  cases b with
  | true =>
    refine (show wE W tc ρ g2 _ from qz) σ H3 _ (R2.grow (ExM.of e3) j3) fun z' H4 w4 g4 e4 j4 vz4 q4 => ?_
    exact q4 H4 u z' _ ((vy.vr.grow j2 (ExM.of e3)).grow j3 e4) vz4.vr fun z5 H5 w5 e5 vz5 q5 =>
      k z5 H5 w5 g4 ((((e1.trans e2).trans (ExM.of e3)).trans e4).trans (ExM.of e5)) (((R2.grow (ExM.of e3) j3).grow e4 j4).stayG e5) (Vw.back j1 e1 (Vw.back j2 e2 (Vw.back j3 (ExM.of e3) (Vw.back j4 e4 vz5)))) q5
  | false => exact k _ H3 _ g2 ((e1.trans e2).trans (ExM.of e3)) j3 (show Vw W.K H H3 (.bl false) (.d (.bool false)) from .bl false) qz
end
/-! ### operations on values -/
section
variable {K : PySem.W.Frag} {Q : Wd → Prop} {x y : Wd}
theorem wR_I {f : Int → Int → Int} {a b : Int} (q : Q (.d (.int (f a b)))) : wR K (rI0 fun i j => .int (f i j)) (.d (.int a)) (.d (.int b)) Q := fun H v u C hv hu k => by
  cases hv; cases hu
  exact ⟨a, b, rfl, rfl, k _ H _ (Ex.refl H) (show Vw K H H (.int (f a b)) (.d (.int (f a b))) from .int _) q⟩
theorem wR_Bo {f : Int → Int → Bool} {a b : Int} (q : Q (.d (.bool (f a b)))) : wR K (rI0 fun i j => .bl (f i j)) (.d (.int a)) (.d (.int b)) Q := fun H v u C hv hu k => by
  cases hv; cases hu
  exact ⟨a, b, rfl, rfl, k _ H _ (Ex.refl H) (show Vw K H H (.bl (f a b)) (.d (.bool (f a b))) from .bl _) q⟩
def Cd (c P : Prop) : Prop := c ∧ P
theorem wR_C {c : Int → Int → Prop} {f : Int → Int → Int} {a b : Int} (q : Cd (c a b) (Q (.d (.int (f a b))))) : wR K (rI c fun i j => .int (f i j)) (.d (.int a)) (.d (.int b)) Q := fun H v u C hv hu k => by
  cases hv; cases hu
  exact ⟨a, b, rfl, rfl, q.1, k _ H _ (Ex.refl H) (show Vw K H H (.int (f a b)) (.d (.int (f a b))) from .int _) q.2⟩
theorem wR_eqI {a b : Int} (q : Q (.d (.bool (decide (a = b))))) : wR K rEq (.d (.int a)) (.d (.int b)) Q := fun H v u C hv hu k => by
  cases hv; cases hu
  have e : decide (V.int a = V.int b) = decide (a = b) := by simp
  exact ⟨rfl, by rw [e]; exact k _ H _ (Ex.refl H) (show Vw K H H (.bl (decide (a = b))) (.d (.bool (decide (a = b)))) from .bl _) q⟩
theorem wR_neI {a b : Int} (q : Q (.d (.bool (!decide (a = b))))) : wR K rNe (.d (.int a)) (.d (.int b)) Q := fun H v u C hv hu k => by
  cases hv; cases hu
  have e : decide (V.int a = V.int b) = decide (a = b) := by simp
  exact ⟨rfl, by rw [e]; exact k _ H _ (Ex.refl H) (show Vw K H H (.bl (!decide (a = b))) (.d (.bool (!decide (a = b)))) from .bl _) q⟩
theorem wR_eqS {a b : Str} (q : Q (.d (.bool (decide (a = b))))) : wR K rEq (.d (.str a)) (.d (.str b)) Q := fun H v u C hv hu k => by
  cases hv; cases hu
  have e : decide (V.str a = V.str b) = decide (a = b) := by simp
  exact ⟨rfl, by rw [e]; exact k _ H _ (Ex.refl H) (show Vw K H H (.bl (decide (a = b))) (.d (.bool (decide (a = b)))) from .bl _) q⟩
theorem wR_neS {a b : Str} (q : Q (.d (.bool (!decide (a = b))))) : wR K rNe (.d (.str a)) (.d (.str b)) Q := fun H v u C hv hu k => by
  cases hv; cases hu
  have e : decide (V.str a = V.str b) = decide (a = b) := by simp
  exact ⟨rfl, by rw [e]; exact k _ H _ (Ex.refl H) (show Vw K H H (.bl (!decide (a = b))) (.d (.bool (!decide (a = b)))) from .bl _) q⟩
theorem wR_eqNI {a : Int} (q : Q (.d (.bool false))) : wR K rEq (.d .none) (.d (.int a)) Q := fun H v u C hv hu k => by
  cases hv; cases hu
  exact ⟨rfl, k _ H _ (Ex.refl H) (show Vw K H H (.bl _) (.d (.bool false)) from .bl _) q⟩
def shp (x y : PyData) (P : Prop) : Prop := SeqAt.shaped x = true ∧ SeqAt.shaped y = true ∧ P
theorem dp_of {H : Hp} {v : V} {w : Wd} {x : PyData} (h : Vr K H v w) (e : w = .d x) (l : SeqAt.shaped x = true) : Dp K H v x := by
  subst e
  exact Tw.dp h (SeqAt.canLay_of_shaped l)
theorem wR_eqD {x y : PyData} (q : shp x y (Q (.d (.bool (PyData.eqv x y))))) : wR K (rEqD K) (.d x) (.d y) Q := fun H v u C hv hu k =>
  ⟨x, y, dp_of hv rfl q.1, dp_of hu rfl q.2.1, q.1, q.2.1, k _ H _ (Ex.refl H) (show Vw K H H (.bl (PyData.eqv x y)) (.d (.bool (PyData.eqv x y))) from .bl _) q.2.2⟩
theorem wR_neD {x y : PyData} (q : shp x y (Q (.d (.bool (!PyData.eqv x y))))) : wR K (rNeD K) (.d x) (.d y) Q := fun H v u C hv hu k =>
  ⟨x, y, dp_of hv rfl q.1, dp_of hu rfl q.2.1, q.1, q.2.1, k _ H _ (Ex.refl H) (show Vw K H H (.bl (!PyData.eqv x y)) (.d (.bool (!PyData.eqv x y))) from .bl _) q.2.2⟩
/-- a list and [] -/
theorem eqv_nilL (ds : List PyData) : PyData.eqv (.list ds) (.list []) = ds.isEmpty := by cases ds <;> simp [PyData.eqv, PyData.eqvAll]
theorem dpl_of {H : Hp} {v : V} {w : Wd} {ds : List PyData} (h : Vr K H v w) (e : w.tl = some ds) (l : SeqAt.shaped (.list ds) = true) : Dp K H v (.list ds) := by
  obtain ⟨a, xs, h1, h2, h3⟩ := tl_at h e
  subst h1
  exact .lst (sq_of h2) (h3.dp (by have := SeqAt.canLay_of_shaped l; simpa only [PyData.canLay0] using this))
theorem wR_eqL {ds es : List PyData} (hx : x.tl = some ds) (hy : y.tl = some es) (q : shp (.list ds) (.list es) (Q (.d (.bool (PyData.eqv (.list ds) (.list es)))))) : wR K (rEqD K) x y Q := fun H v u C hv hu k =>
  ⟨_, _, dpl_of hv hx q.1, dpl_of hu hy q.2.1, q.1, q.2.1, k _ H _ (Ex.refl H) (show Vw K H H (.bl _) (.d (.bool (PyData.eqv (.list ds) (.list es)))) from .bl _) q.2.2⟩
theorem wR_neL {ds es : List PyData} (hx : x.tl = some ds) (hy : y.tl = some es) (q : shp (.list ds) (.list es) (Q (.d (.bool (!PyData.eqv (.list ds) (.list es)))))) : wR K (rNeD K) x y Q := fun H v u C hv hu k =>
  ⟨_, _, dpl_of hv hx q.1, dpl_of hu hy q.2.1, q.1, q.2.1, k _ H _ (Ex.refl H) (show Vw K H H (.bl _) (.d (.bool (!PyData.eqv (.list ds) (.list es)))) from .bl _) q.2.2⟩
theorem atI_tw {H : Hp} {xs : List V} {ds : List PyData} {i : Int} {d : PyData} (h : TwL K H xs ds) (e : atI ds i = some d) : ∃ v, atI xs i = some v ∧ Tw K H v d := by
  unfold atI at e ⊢
  rw [h.length]
  cases hn : ixN ds.length i with
  | none => rw [hn] at e; cases e
  | some j => rw [hn] at e; exact h.get e
def At (ds : List PyData) (i : Int) (P : PyData → Prop) : Prop := ∃ d, atI ds i = some d ∧ P d
theorem wR_ixT {ds : List PyData} {i : Int} (q : At ds i fun d => Q (.d d)) : wR K (rIxT K) (.d (.tuple ds)) (.d (.int i)) Q := fun H v u C hv hu k => by
  obtain ⟨d, e, q⟩ := q
  obtain ⟨a, xs, rfl, h2, h3⟩ := Tw.tupI hv
  cases hu
  obtain ⟨z, e1, e2⟩ := atI_tw h3 e
  exact ⟨a, xs, i, z, rfl, rfl, h2, e1, k z H (.d d) (Ex.refl H) e2 q⟩
theorem wR_ixL {ds : List PyData} {i : Int} (hx : x.tl = some ds) (q : At ds i fun d => Q (.d d)) : wR K (rIxL K) x (.d (.int i)) Q := fun H v u C hv hu k => by
  obtain ⟨d, e, q⟩ := q
  obtain ⟨a, xs, rfl, h2, h3⟩ := tl_at hv hx
  cases hu
  obtain ⟨z, e1, e2⟩ := atI_tw h3 e
  exact ⟨a, xs, i, z, rfl, rfl, sq_of h2, e1, k z H (.d d) (Ex.refl H) e2 q⟩
theorem TwL.nil_iff {H : Hp} {xs : List V} {ds : List PyData} (h : TwL K H xs ds) : xs = [] ↔ ds = [] := by
  cases h with
  | nil => simp
  | cons a t => simp
theorem wR_catT {a b : List PyData} (q : Sz (a.length + b.length) (Q (.d (.tuple (a ++ b))))) : wR K (rCatA K) (.d (.tuple a)) (.d (.tuple b)) Q := fun H v u C hv hu k => by
  obtain ⟨p, xs, rfl, h2, h3⟩ := Tw.tupI hv
  obtain ⟨r, ys, rfl, h5, h6⟩ := Tw.tupI hu
  refine ⟨p, r, xs, ys, rfl, rfl, h2, h5, by rw [h3.length, h6.length]; exact q.1, fun e => ?_, fun _ e => ?_, fun _ _ w hw => ?_⟩
  · have ea := h3.nil_iff.mp e
    subst ea
    exact k _ H (.d (.tuple b)) (Ex.refl H) hu q.2
  · have ea := h6.nil_iff.mp e
    subst ea
    rw [List.append_nil] at q
    exact k _ H (.d (.tuple a)) (Ex.refl H) hv q.2
  · exact k _ _ (.d (.tuple (a ++ b))) (Ex.new hw) (.tup (st_of upd_same) ((h3.app h6).mono (Tx.ex (Ex.new hw)))) q.2
theorem wR_cat {a b : List PyData} (hx : x.tl = some a) (hy : y.tl = some b) (q : Sz (a.length + b.length) (Q (.o (a ++ b)))) : wR K rCat x y Q := fun H v u C hv hu k => by
  obtain ⟨p, xs, rfl, h2, h3⟩ := tl_at hv hx
  obtain ⟨r, ys, rfl, h5, h6⟩ := tl_at hu hy
  exact ⟨p, r, xs, ys, rfl, rfl, h2, h5, by rw [h3.length, h6.length]; exact q.1, fun w hw => k _ _ (.o (a ++ b)) (Ex.new hw) ⟨w, xs ++ ys, rfl, hw, upd_same, (h3.app h6).mono (Tx.ex (Ex.new hw))⟩ q.2⟩
def flatD : PyData → Bool
  | .none | .bool _ | .int _ | .str _ => true
  | _ => false
theorem flat_tw {H : Hp} {v : V} {d : PyData} (h : Tw K H v d) (f : flatD d = true) : flatV v = true := by
  cases h with
  | tup => cases f
  | obj => cases f
  | _ => rfl
theorem flat_twL {H : Hp} : ∀ {vs : List V} {ds : List PyData}, TwL K H vs ds → ds.all flatD = true → vs.all flatV = true
  | _, _, .nil, _ => rfl
  | _, _, .cons a t, f => by
    rw [List.all_cons, Bool.and_eq_true] at f ⊢
    exact ⟨flat_tw a f.1, flat_twL t f.2⟩
theorem eqV_tw {H : Hp} {v u : V} {d e : PyData} (h : Tw K H v d) (h' : Tw K H u e) (f : flatD d = true) (f' : flatD e = true) : eqV v u = PyData.eqv d e := by
  cases h <;> cases h' <;> first | rfl | cases f | cases f' | skip
theorem in_tw {H : Hp} {v : V} {d : PyData} (h : Tw K H v d) (f : flatD d = true) : ∀ {vs : List V} {ds : List PyData}, TwL K H vs ds → ds.all flatD = true → inV v vs = ds.any fun e => PyData.eqv e d
  | _, _, .nil, _ => rfl
  | _, _, .cons a t, f' => by
    rw [List.all_cons, Bool.and_eq_true] at f'
    have ih := in_tw h f t f'.2
    unfold inV at ih ⊢
    rw [List.any_cons, List.any_cons, ih, eqV_tw a h f'.1 f]
def Fl (d : PyData) (ds : List PyData) (P : Prop) : Prop := flatD d = true ∧ ds.all flatD = true ∧ P
theorem wR_in {neg : Bool} {d : PyData} {ds : List PyData} (hy : y = .d (.tuple ds) ∨ y.tl = some ds) (q : Fl d ds (Q (.d (.bool (if neg then !(ds.any fun e => PyData.eqv e d) else ds.any fun e => PyData.eqv e d))))) : wR K (rIn K neg) (.d d) y Q := fun H v u C hv hu k => by
  have key : ∃ p ys, u = V.ref p ∧ (SqL K H p ys ∨ SqT K H p ys) ∧ TwL K H ys ds := by
    rcases hy with hy | hy
    · subst hy
      obtain ⟨p, ys, h1, h2, h3⟩ := Tw.tupI hu
      exact ⟨p, ys, h1, .inr h2, h3⟩
    · obtain ⟨p, ys, h1, h2, h3⟩ := tl_at hu hy
      exact ⟨p, ys, h1, .inl (sq_of h2), h3⟩
  obtain ⟨p, ys, rfl, h2, h3⟩ := key
  refine ⟨p, ys, rfl, h2, flat_tw hv q.1, flat_twL h3 q.2.1, ?_⟩
  rw [in_tw hv q.1 h3 q.2.1]
  exact k _ H _ (Ex.refl H) (show Vw K H H (.bl _) (.d (.bool _)) from .bl _) q.2.2
def isNoD : PyData → Bool
  | .none => true
  | _ => false
theorem isNo_tw {H : Hp} {v : V} {d : PyData} (h : Tw K H v d) : decide (v = V.non) = isNoD d := by cases h <;> rfl
theorem wR_isN {d : PyData} (q : Q (.d (.bool (isNoD d)))) : wR K rIsN (.d d) (.d .none) Q := fun H v u C hv hu k => by
  cases hu
  exact ⟨rfl, by rw [isNo_tw hv]; exact k _ H _ (Ex.refl H) (show Vw K H H (.bl _) (.d (.bool _)) from .bl _) q⟩
theorem wR_notN {d : PyData} (q : Q (.d (.bool (!isNoD d)))) : wR K rNotN (.d d) (.d .none) Q := fun H v u C hv hu k => by
  cases hu
  exact ⟨rfl, by rw [isNo_tw hv]; exact k _ H _ (Ex.refl H) (show Vw K H H (.bl _) (.d (.bool _)) from .bl _) q⟩
/-! built-ins -/
theorem vr1 {H : Hp} {vs : List V} {w : Wd} (h : VrL K H vs [w]) : ∃ v, vs = [v] ∧ Vr K H v w := by
  cases h with
  | cons a t => cases t; exact ⟨_, rfl, a⟩
theorem wC_lenT {ds : List PyData} (q : Q (.d (.int ds.length))) : wC K (rLenO K) [.d (.tuple ds)] Q := fun H vs C hv k => by
  obtain ⟨v, rfl, h⟩ := vr1 hv
  obtain ⟨p, xs, rfl, h2, h3⟩ := Tw.tupI h
  exact ⟨p, xs, rfl, .inr h2, by rw [h3.length]; exact k _ H _ (Ex.refl H) (show Vw K H H (.int _) (.d (.int _)) from .int _) q⟩
theorem wC_lenL {ds : List PyData} (hx : x.tl = some ds) (q : Q (.d (.int ds.length))) : wC K (rLenO K) [x] Q := fun H vs C hv k => by
  obtain ⟨v, rfl, h⟩ := vr1 hv
  obtain ⟨p, xs, rfl, h2, h3⟩ := tl_at h hx
  exact ⟨p, xs, rfl, .inl (sq_of h2), by rw [h3.length]; exact k _ H _ (Ex.refl H) (show Vw K H H (.int _) (.d (.int _)) from .int _) q⟩
theorem wC_tup {ds : List PyData} (hx : x.tl = some ds) (q : Q (.d (.tuple ds))) : wC K (rTupO K) [x] Q := fun H vs C hv k => by
  obtain ⟨v, rfl, h⟩ := vr1 hv
  obtain ⟨p, xs, rfl, h2, h3⟩ := tl_at h hx
  exact ⟨p, xs, rfl, .inl ⟨sq_of h2, fun r hr => k _ _ (.d (.tuple ds)) (Ex.new hr) (.tup (st_of upd_same) (h3.mono (Tx.ex (Ex.new hr)))) q⟩⟩
theorem wC_tupT {ds : List PyData} (q : Q (.d (.tuple ds))) : wC K (rTupO K) [.d (.tuple ds)] Q := fun H vs C hv k => by
  obtain ⟨v, rfl, h⟩ := vr1 hv
  obtain ⟨p, xs, e, h2, h3⟩ := Tw.tupI h
  subst e
  exact ⟨p, xs, rfl, .inr ⟨h2, k _ H (.d (.tuple ds)) (Ex.refl H) h q⟩⟩
theorem wC_lstT {ds : List PyData} (q : Q (.o ds)) : wC K (rLstO K) [.d (.tuple ds)] Q := fun H vs C hv k => by
  obtain ⟨v, rfl, h⟩ := vr1 hv
  obtain ⟨p, xs, rfl, h2, h3⟩ := Tw.tupI h
  exact ⟨p, xs, rfl, .inr h2, fun r hr => k _ _ (.o ds) (Ex.new hr) ⟨r, xs, rfl, hr, upd_same, h3.mono (Tx.ex (Ex.new hr))⟩ q⟩
theorem wC_lstL {ds : List PyData} (hx : x.tl = some ds) (q : Q (.o ds)) : wC K (rLstO K) [x] Q := fun H vs C hv k => by
  obtain ⟨v, rfl, h⟩ := vr1 hv
  obtain ⟨p, xs, rfl, h2, h3⟩ := tl_at h hx
  exact ⟨p, xs, rfl, .inl (sq_of h2), fun r hr => k _ _ (.o ds) (Ex.new hr) ⟨r, xs, rfl, hr, upd_same, h3.mono (Tx.ex (Ex.new hr))⟩ q⟩
theorem wC_int {a : Int} (q : Q (.d (.int a))) : wC K rIntO [.d (.int a)] Q := fun H vs C hv k => by
  obtain ⟨v, rfl, h⟩ := vr1 hv
  cases h
  exact Or.inl ⟨a, rfl, k _ H _ (Ex.refl H) (show Vw K H H (.int a) (.d (.int a)) from .int a) q⟩
theorem wC_sorted {ns : List Int} (hx : x.tl = some (ns.map .int)) (q : ∀ ms : List Int, ms.Perm ns → ms.Pairwise (· ≤ ·) → Q (.o (ms.map .int))) : wC K (rSortedI K) [x] Q := fun H vs C hv k => by
  obtain ⟨v, rfl, h⟩ := vr1 hv
  obtain ⟨p, xs, rfl, h2, h3⟩ := tl_at h hx
  have e := TwL.ofInts ns h3
  subst e
  exact ⟨p, ns, rfl, sq_of h2, fun ms r hp hs hr => k _ _ (.o (ms.map .int)) (Ex.new hr) ⟨r, _, rfl, hr, upd_same, TwL.ints ms⟩ (q ms hp hs)⟩
theorem wC_max {ns : List Int} (hx : x.tl = some (ns.map .int)) (hn : ns ≠ []) (q : ∀ m : Int, m ∈ ns → (∀ y ∈ ns, y ≤ m) → Q (.d (.int m))) : wC K (rMax K) [x] Q := fun H vs C hv k => by
  obtain ⟨v, rfl, h⟩ := vr1 hv
  obtain ⟨p, xs, rfl, h2, h3⟩ := tl_at h hx
  have e := TwL.ofInts ns h3
  subst e
  exact ⟨p, ns, rfl, sq_of h2, List.length_pos_iff.mpr hn, fun m hm hl => k _ H _ (Ex.refl H) (show Vw K H H (.int m) (.d (.int m)) from .int m) (q m hm hl)⟩
/-! slices -/
def cutD (ds : List PyData) (lo hi : Option Int) : List PyData := (ds.drop (HT.sIx ds.length 0 lo)).take (HT.sIx ds.length ds.length hi - HT.sIx ds.length 0 lo)
theorem cut_tw {H : Hp} {xs : List V} {ds : List PyData} (h : TwL K H xs ds) (lo hi : Option Int) : TwL K H (cutV xs lo hi) (cutD ds lo hi) := by
  unfold cutV cutD
  rw [h.length]
  exact (h.drop _).take _
theorem wL_T {ds : List PyData} {lo hi : Option Int} (q : Q (.d (.tuple (cutD ds lo hi)))) : wL K (rSlA K) (.d (.tuple ds)) lo hi Q := fun H v C hv k => by
  obtain ⟨p, xs, e, h2, h3⟩ := Tw.tupI hv
  subst e
  refine ⟨p, xs, rfl, h2, fun z => ?_, fun z r hr => ?_⟩
  · have e : cutD ds lo hi = ds := by
      unfold cutD
      rw [h3.length] at z
      rw [z.1, z.2, List.drop_zero, Nat.sub_zero, List.take_length]
    rw [e] at q
    exact k _ H (.d (.tuple ds)) (Ex.refl H) hv q
  · exact k _ _ (.d (.tuple (cutD ds lo hi))) (Ex.new hr) (.tup (st_of upd_same) ((cut_tw h3 lo hi).mono (Tx.ex (Ex.new hr)))) q
theorem wL_L {ds : List PyData} {lo hi : Option Int} (hx : x.tl = some ds) (q : Q (.o (cutD ds lo hi))) : wL K (rSlL K) x lo hi Q := fun H v C hv k => by
  obtain ⟨p, xs, rfl, h2, h3⟩ := tl_at hv hx
  exact ⟨p, xs, rfl, sq_of h2, fun r hr => k _ _ (.o (cutD ds lo hi)) (Ex.new hr) ⟨r, _, rfl, hr, upd_same, (cut_tw h3 lo hi).mono (Tx.ex (Ex.new hr))⟩ q⟩
end
end Kt

/-! Kt, part X: statements, loops, comprehensions, calls, told by data alone. -/
namespace Kt
open PySem PySem.Spec PyProof.Rows L2 Evl
/-- what a slot may keep of a value -/
def Wd.st : Wd → Wd
  | .d x => .d x
  | .o xs => .o xs
  | .k kvs => .k kvs
  | .z v => .z v
  | _ => .no
section
variable {γ : Type} {W : Wc γ} {ρ : List Wd} {g g1 : γ} {O : WO γ} {te ta : TE} {tt : TT} {i : Nat} {t u tb : TS} {H H1 : Hp} {σ : L2.St} {gt : TG}
theorem RelN.store (R : W.R H g σ ρ) (e : ExM W.ω.M H H1) (j : W.ω.J g1 H1) {v : V} {w : Wd} (h : Vw W.K H H1 v w) (hi : i < W.n) : W.R H1 g1 (σ.set i (some v)) (ρ.set i w.st) := by
  have R1 := R.grow e j
  cases w with
  | d x => exact R1.set (w := .d x) hi ⟨v, rfl, h⟩ rfl
  | o xs =>
    obtain ⟨a, ys, rfl, h2, h3, h4⟩ := h
    exact R.setNew (w := .o xs) hi e j ⟨a, ys, rfl, R.free h2, h3, h4⟩ h2
  | k xs =>
    obtain ⟨a, ys, rfl, h2, h3, h4⟩ := h
    exact R.setNew (w := .k xs) hi e j ⟨a, ys, rfl, R.free h2, h3, h4⟩ h2
  | z u =>
    obtain rfl : v = u := h
    exact R1.set (w := .z v) hi rfl rfl
  | _ => exact R1.set (w := .no) hi trivial rfl
theorem wS.mono {O' : WO γ} (h : wS W t ρ g O) (h1 : ∀ ρ g, O.nx ρ g → O'.nx ρ g) (h2 : ∀ w g, O.rt w g → O'.rt w g) (h3 : ∀ ρ g, O.bk ρ g → O'.bk ρ g) (h4 : ∀ ρ g, O.ct ρ g → O'.ct ρ g) : wS W t ρ g O' :=
  fun σ H D R kn kr kb kc => h σ H D R (fun a b c d e f => kn a b c d e (h1 _ _ f)) (fun a b c d e f k l => kr a b c d e f k (h2 _ _ l)) (fun a b c d e f => kb a b c d e (h3 _ _ f)) (fun a b c d e f => kc a b c d e (h4 _ _ f))
/-- names may be forgotten ahead -/
theorem wS_wk {ρ' : List Wd} (k : Wk ρ ρ') (h : wS W t ρ' g O) : wS W t ρ g O := fun σ H D R kn kr kb kc => h σ H D (R.wk k) kn kr kb kc
theorem wS_seq (q : wS W t ρ g { O with nx := fun ρ' g' => wS W u ρ' g' O }) : wS W (tSeq t u) ρ g O := fun σ H D R kn kr kb kc =>
  q σ H { D with nx := u D } R (fun ρ' σ' H' g' R' q' => q' σ' H' D R' kn kr kb kc) kr kb kc
theorem wS_next (q : O.nx ρ g) : wS W tNext ρ g O := fun σ H D R kn _ _ _ => kn ρ σ H g R q
theorem wS_break (q : O.bk ρ g) : wS W tBreak ρ g O := fun σ H D R _ _ kb _ => kb ρ σ H g R q
theorem wS_cont (q : O.ct ρ g) : wS W tCont ρ g O := fun σ H D R _ _ _ kc => kc ρ σ H g R q
theorem wS_asg (hi : i < W.n) (q : wE W te ρ g fun w g1 => O.nx (ρ.set i w.st) g1) : wS W (tAsg te (gName i)) ρ g O := fun σ H D R kn _ _ _ =>
  q σ H _ R fun v H1 w g1 e j h z => kn _ _ H1 g1 (R.store e j h hi) z
theorem wS_asgG (q : wE W te ρ g fun w g1 => Dd (fun d => wG W gt d ρ fun ρ' => O.nx ρ' g1) w) : wS W (tAsg te gt) ρ g O := fun σ H D R kn _ _ _ =>
  q σ H _ R fun v H1 w g1 e j h ⟨d, ew, z⟩ => by
    subst ew
    exact z v σ H1 g1 _ (R.grow e j) h fun σ' ρ' R' z' => kn ρ' σ' H1 g1 R' z'
theorem wS_par {j : Nat} {t : TA} (hi : i < W.n) (hj : j < W.n) (hij : i ≠ j) (q : wA W t ρ g fun ws g1 => ∃ a b, ws = [Wd.d a, Wd.d b] ∧ O.nx ((ρ.set i (.d a)).set j (.d b)) g1) : wS W (tPar i j t) ρ g O := fun σ H D R kn _ _ _ =>
  q σ H _ R fun vs H1 ws g1 e jj h ⟨a, b, ew, z⟩ => by
    subst ew
    cases h with
    | cons h1 h => cases h with
      | cons h2 h =>
        cases h
        have R1 := R.grow e jj
        exact ⟨_, _, rfl, kn _ _ H1 g1 ((R1.set (w := .d a) hi ⟨_, rfl, h1⟩ rfl).set (w := .d b) hj ⟨_, rfl, h2⟩ rfl) z⟩
theorem q_par {a b : PyData} {P : PyData → PyData → Prop} (q : P a b) : ∃ c d, [Wd.d a, Wd.d b] = [Wd.d c, Wd.d d] ∧ P c d := ⟨a, b, rfl, q⟩
theorem wS_ret (q : wE W te ρ g fun w g1 => O.rt w g1) : wS W (tRet te) ρ g O := fun σ H D R _ kr _ _ =>
  q σ H _ R fun v H1 w g1 e j h z => kr w v H1 g1 (R.ex.trans e) j (Vw.back R.j R.ex h) z
theorem wS_retO {xs : List PyData} (h : ρ[i]? = some (.o xs)) (hi : i < W.n) (q : O.rt (.o xs) g) : wS W (tRet (tVar i)) ρ g O := fun σ H D R _ kr _ _ => by
  obtain ⟨u, h1, a, ys, rfl, h2, h3, h4⟩ := R.sl h hi
  exact ⟨_, h1, kr (.o xs) _ H g R.ex R.j ⟨a, ys, rfl, h2, h3, h4⟩ q⟩
theorem wS_retN (q : O.rt (.d .none) g) : wS W tRetN ρ g O := fun σ H D R _ kr _ _ => kr (.d .none) .non H g R.ex R.j .non q
theorem wS_if (q : wT W tt ρ g fun b g1 => if b = true then wS W t ρ g1 O else wS W u ρ g1 O) : wS W (tIfS tt t u) ρ g O := fun σ H D R kn kr kb kc =>
  q σ H _ R fun b H1 g1 e j z => by
    have R1 := R.grow e j
    cases b with
    | true => exact (show wS W t ρ g1 O from z) σ H1 D R1 kn kr kb kc
    | false => exact (show wS W u ρ g1 O from z) σ H1 D R1 kn kr kb kc
theorem wS_drop (q : wE W te ρ g fun _ g1 => O.nx ρ g1) : wS W (tDrop te) ρ g O := fun σ H D R kn _ _ _ => q σ H _ R fun v H1 w g1 e j h z => kn ρ σ H1 g1 (R.grow e j) z
theorem wS_aug {f : Int → Int → Int} {a : Int} (h : ρ[i]? = some (.d (.int a))) (hi : i < W.n) (q : wE W te ρ g fun w g1 => Id' (fun b => O.nx (ρ.set i (.d (.int (f a b)))) g1) w) : wS W (tAug i te (ipI f)) ρ g O := fun σ H D R kn _ _ _ => by
  obtain ⟨u, h1, v, rfl, h2⟩ := R.sl h hi
  cases h2
  refine ⟨_, h1, q σ H _ R fun v H1 w g1 e j hv ⟨b, ew, z⟩ => ?_⟩
  subst ew
  cases hv
  exact ⟨a, b, rfl, rfl, kn _ _ H1 g1 ((R.grow e j).set (w := .d (.int (f a b))) hi ⟨_, rfl, .int _⟩ rfl) z⟩
/-- a list of one's own -/
theorem RelN.own (R : W.R H g σ ρ) {xs : List PyData} (h : ρ[i]? = some (.o xs)) (hi : i < W.n) : ∃ a ys, σ[i]? = some (some (.ref a)) ∧ W.H0 a = none ∧ H a = some (.lst ys) ∧ TwL W.K H ys xs := by
  obtain ⟨u, h1, a, ys, rfl, h2, h3, h4⟩ := R.sl h hi
  exact ⟨a, ys, h1, h2, h3, h4⟩
theorem RelN.putO (R : W.R H g σ ρ) {xs zs : List PyData} {a : Addr} {ys us : List V} (h : ρ[i]? = some (.o xs)) (hi : i < W.n) (h1 : σ[i]? = some (some (.ref a))) (h2 : W.H0 a = none) (h3 : H a = some (.lst ys)) (h4 : TwL W.K H us zs) : W.R (upd H a (.lst us)) g σ (ρ.set i (.o zs)) :=
  RelN.put R hi h rfl h1 h2 (.inl ⟨ys, h3⟩) rfl ⟨a, us, rfl, h2, upd_same, h4.mono (Tx.lst h3)⟩
theorem wS_app {xs : List PyData} (h : ρ[i]? = some (.o xs)) (hi : i < W.n) (q : wE W te ρ g fun w g1 => Dd (fun d => Sz (xs.length + 1) (O.nx (ρ.set i (.o (xs ++ [d]))) g1)) w) : wS W (tDrop (tBM W.K "list" rAppend (tVar i) (tCons te tNil))) ρ g O := fun σ H D R kn _ _ _ => by
  obtain ⟨a, ys, h1, h2, h3, h4⟩ := RelN.own R h hi
  refine ⟨_, h1, .inl ⟨rfl, ys, sq_of h3⟩, q σ H _ R fun v H1 w g1 e j hv ⟨d, ew, hz, z⟩ => ?_⟩
  subst ew
  have R1 := R.grow e j
  obtain ⟨a', ys', h1', h2', h3', h4'⟩ := RelN.own R1 h hi
  rw [h1] at h1'
  cases h1'
  exact ⟨a, ys', v, rfl, rfl, h3', by rw [h4'.length]; exact hz, kn _ σ _ g1 (RelN.putO R1 h hi h1 h2 h3' (h4'.app (.one hv))) z⟩
theorem wS_ext {xs : List PyData} (h : ρ[i]? = some (.o xs)) (hi : i < W.n) (q : wE W te ρ g fun w g1 => Ld (fun ds => Sz (xs.length + ds.length) (O.nx (ρ.set i (.o (xs ++ ds))) g1)) w) : wS W (tDrop (tBM W.K "list" rExtend (tVar i) (tCons te tNil))) ρ g O := fun σ H D R kn _ _ _ => by
  obtain ⟨a, ys, h1, h2, h3, h4⟩ := RelN.own R h hi
  refine ⟨_, h1, .inl ⟨rfl, ys, sq_of h3⟩, q σ H _ R fun v H1 w g1 e j hv ⟨ds, ew, hz, z⟩ => ?_⟩
  have R1 := R.grow e j
  obtain ⟨a', ys', h1', h2', h3', h4'⟩ := RelN.own R1 h hi
  rw [h1] at h1'
  cases h1'
  obtain ⟨b, us, rfl, h5, h6⟩ := tl_at hv.vr ew
  exact ⟨a, b, ys', us, rfl, rfl, h3', h5, by rw [h4'.length, h6.length]; exact hz, kn _ σ _ g1 (RelN.putO R1 h hi h1 h2 h3' (h4'.app h6)) z⟩
theorem snoc_tw {K : PySem.W.Frag} {ys : List V} {xs : List PyData} {d : PyData} (h : TwL K H ys (xs ++ [d])) : ∃ us v, ys = us ++ [v] ∧ TwL K H us xs ∧ Tw K H v d := by
  have hr := h.rev
  rw [List.reverse_append] at hr
  have e : ys = ys.reverse.reverse := (List.reverse_reverse ys).symm
  generalize ys.reverse = zs at hr e
  cases hr with
  | cons a t =>
    have t' : TwL K H _ xs.reverse.reverse := t.rev
    rw [List.reverse_reverse] at t'
    rw [List.reverse_cons] at e
    exact ⟨_, _, e, t', a⟩
theorem pop_at {a : Addr} {us : List V} {v : V} (h : H a = some (.lst (us ++ [v]))) {C : VK} (q : C v (upd H a (.lst us))) : rPop (.ref a) [] H C := ⟨a, us ++ [v], v, rfl, rfl, h, by simp, by rw [List.dropLast_concat]; exact q⟩
/-- x = xs.pop(), and with a target of several names -/
theorem wS_popG {xs : List PyData} {d : PyData} (h : ρ[i]? = some (.o (xs ++ [d]))) (hi : i < W.n) (q : wG W gt d (ρ.set i (.o xs)) fun ρ' => O.nx ρ' g) : wS W (tAsg (tBM0 W.K "list" rPop (tVar i)) gt) ρ g O := fun σ H D R kn _ _ _ => by
  obtain ⟨a, ys, h1, h2, h3, h4⟩ := RelN.own R h hi
  obtain ⟨us, v, rfl, h5, h6⟩ := snoc_tw h4
  refine ⟨_, h1, .inl ⟨rfl, _, sq_of h3⟩, pop_at h3 ?_⟩
  exact q v σ _ g _ (RelN.putO R h hi h1 h2 h3 h5) (h6.mono (Tx.lst h3)) fun σ' ρ' R' z => kn ρ' σ' _ g R' z
/-! targets -/
variable {QG : List Wd → Prop} {d : PyData} {ds : List PyData}
theorem wG_name (hi : i < W.n) (q : QG (ρ.set i (.d d))) : wG W (gName i) d ρ QG := fun v σ H g C R h k => k _ _ (R.set (w := .d d) hi ⟨v, rfl, h⟩ rfl) q
theorem wG_tup {n : Nat} {u : TGs} (hn : ds.length = n) (q : wGs W u ds ρ QG) : wG W (gTup W.K n u) (.tuple ds) ρ QG := fun v σ H g C R h k => by
  obtain ⟨a, xs, rfl, h2, h3⟩ := Tw.tupI h
  exact ⟨a, xs, rfl, h2, h3.length.trans hn, q xs σ H g C R h3 k⟩
theorem wGs_nil (q : QG ρ) : wGs W gNil [] ρ QG := fun vs σ H g C R h k => by
  cases h
  exact ⟨rfl, k σ ρ R q⟩
theorem wGs_cons {u : TGs} (q : wG W gt d ρ fun ρ' => wGs W u ds ρ' QG) : wGs W (gCons gt u) (d :: ds) ρ QG := fun vs σ H g C R h k => by
  cases h with
  | cons a t => exact ⟨_, _, rfl, q _ σ H g _ R a fun σ' ρ' R' z => z _ σ' H g C R' t k⟩
/-! ### loops -/
variable {wi : TI}
theorem wS_for (q : wI W wi ρ g fun ρ1 Pn ds g1 => ∃ I : Nat → List Wd → γ → Prop, I 0 ρ1 g1 ∧ (∀ i ρ' g', I i ρ' g' → Pn ρ') ∧
    (∀ i d ρ' g', ds[i]? = some d → I i ρ' g' → wG W gt d ρ' fun ρ2 => wS W tb ρ2 g' { O with nx := I (i + 1), ct := I (i + 1), bk := fun ρ4 g4 => O.nx (ρ4.take ρ.length) g4 }) ∧ ∀ ρ' g', I ds.length ρ' g' → O.nx (ρ'.take ρ.length) g') : wS W (tFor wi gt tb) ρ g O := fun σ H D R kn kr kb kc => by
  have hl : W.n ≤ ρ.length := by
    obtain ⟨e, τ, r⟩ := id R
    have := r.ln
    rw [List.length_append] at this
    omega
  refine q σ H _ R fun J H1 ρ1 Pn ds g1 e1 R1 ok ⟨I, h0, hp, hs, hd⟩ => ?_
  refine ⟨fun i m σ H => m = ds.length - i ∧ i ≤ ds.length ∧ ∃ ρ' g', W.R H g' σ ρ' ∧ I i ρ' g', ⟨_, rfl, Nat.zero_le _, ρ1, g1, R1, h0⟩, ?_⟩
  rintro i m σ' H' ⟨rfl, hi, ρ', g', R', hI⟩
  obtain ⟨ok1, ok2⟩ := ok i H' g' σ' ρ' R' (hp i ρ' g' hI)
  by_cases hlt : i < ds.length
  · obtain ⟨hgo, hy⟩ := ok2 ds[i] (List.getElem?_eq_getElem hlt)
    refine .inr ⟨hgo, fun σ2 H2 => ∃ ρ2 g2, W.R H2 g2 σ2 ρ2 ∧ I (i + 1) ρ2 g2, fun σ2 H2 ⟨ρ2, g2, R2, h2⟩ => ⟨ds.length - (i + 1), by omega, rfl, hlt, ρ2, g2, R2, h2⟩, fun x H2 y => ?_⟩
    obtain ⟨e2, tx⟩ := hy x H2 y
    have R2 := R'.grow (ExM.of e2) (R'.stayG e2)
    refine hs i _ ρ' g' (List.getElem?_eq_getElem hlt) hI x σ' H2 g' _ R2 tx fun σ3 ρ3 R3 hS => ?_
    exact hS σ3 H2 _ R3 (fun ρ4 σ4 H4 g4 R4 q4 => ⟨ρ4, g4, R4, q4⟩) kr (fun ρ4 σ4 H4 g4 R4 q4 => kn _ σ4 H4 g4 (RelN.take R4 hl) q4) (fun ρ4 σ4 H4 g4 R4 q4 => ⟨ρ4, g4, R4, q4⟩)
  · have e : i = ds.length := by omega
    subst e
    exact .inl ⟨ok1 (Nat.le_refl _), kn _ σ' H' g' (RelN.take R' hl) (hd ρ' g' hI)⟩
theorem wS_while (q : ∃ I : Nat → List Wd → γ → Prop, (∃ m0, I m0 ρ g) ∧ ∀ m ρ' g', I m ρ' g' → wT W tt ρ' g' fun b g2 => if b = true then wS W tb ρ' g2 { O with nx := fun ρ2 g3 => ∃ m', m' < m ∧ I m' ρ2 g3, ct := fun ρ2 g3 => ∃ m', m' < m ∧ I m' ρ2 g3, bk := O.nx } else O.nx ρ' g2) : wS W (tWhile tt tb) ρ g O := fun σ H D R kn kr kb kc => by
  obtain ⟨I, ⟨m0, h0⟩, hs⟩ := q
  refine ⟨fun m σ H => ∃ ρ' g', W.R H g' σ ρ' ∧ I m ρ' g', ⟨m0, ρ, g, R, h0⟩, ?_⟩
  rintro m σ' H' ⟨ρ', g', R', hI⟩
  refine hs m ρ' g' hI σ' H' _ R' fun b H2 g2 e j z => ?_
  have R2 := R'.grow e j
  cases b with
  | true =>
    refine ⟨fun σ2 H2 => ∃ m', m' < m ∧ ∃ ρ' g', W.R H2 g' σ2 ρ' ∧ I m' ρ' g', fun σ2 H2 ⟨m', h1, h2⟩ => ⟨m', h1, h2⟩, ?_⟩
    exact (show wS W tb ρ' g2 _ from z) σ' H2 _ R2 (fun ρ4 σ4 H4 g4 R4 ⟨m', h1, h2⟩ => ⟨m', h1, ρ4, g4, R4, h2⟩) kr (fun ρ4 σ4 H4 g4 R4 q4 => kn ρ4 σ4 H4 g4 R4 q4) (fun ρ4 σ4 H4 g4 R4 ⟨m', h1, h2⟩ => ⟨m', h1, ρ4, g4, R4, h2⟩)
  | false => exact kn ρ' σ' H2 g2 R2 z
end
/-! ### what is walked -/
section
variable {γ : Type} {W : Wc γ} {ρ : List Wd} {g : γ} {te : TE} {ta : TA} {QI : List Wd → (List Wd → Prop) → List PyData → γ → Prop} {i : Nat}
theorem at_app {x w : Wd} {ρ : List Wd} : (ρ ++ [w])[ρ.length]? = some w := by
  rw [List.getElem?_append_right (Nat.le_refl _), Nat.sub_self]; rfl
/-- a slot among the hidden ones -/
theorem RelN.slH {K : PySem.W.Frag} {ω : Wo γ} {H0 H : Hp} {n : Nat} {σ : L2.St} (R : RelN K ω H0 n H g σ ρ) {w : Wd} (h : ρ[i]? = some w) : ∃ u, SlOk K H0 H u w := by
  obtain ⟨_, τ, r⟩ := R
  obtain ⟨u, _, h2⟩ := r.sl i w h
  exact ⟨u, h2⟩
theorem wI_tup (q : wE W te ρ g fun x g1 => ∃ ds, x = .d (.tuple ds) ∧ ∀ v, QI (ρ ++ [.pt v ds]) (fun ρ' => ρ'[ρ.length]? = some (.pt v ds)) ds g1) : wI W (iTup W.K te) ρ g QI := fun σ H C R k =>
  q σ H _ R fun v H1 w g1 e j h ⟨ds, ew, z⟩ => by
    subst ew
    have h' : Tw W.K H1 v (.tuple ds) := h
    obtain ⟨a, xs, rfl, h2, h3⟩ := Tw.tupI h'
    have R1 := R.grow e j
    refine ⟨a, rfl, ⟨xs, h2⟩, k (Itt W.K a) H1 _ _ ds g1 e (RelN.push R1 (w := .pt (.ref a) ds) ⟨rfl, h'⟩ rfl) (fun i H2 g2 σ2 ρ2 R2 hp => ?_) (z (.ref a))⟩
    obtain ⟨u, _, s⟩ := RelN.slH R2 hp
    obtain ⟨a', xs', ea, s2, s3⟩ := Tw.tupI s
    cases ea
    refine ⟨fun hl => ⟨xs', s2, by rw [s3.length]; exact hl⟩, fun d hd => ?_⟩
    obtain ⟨v', hv, tv⟩ := s3.get hd
    refine ⟨⟨xs', v', s2, hv⟩, fun x H3 y => ?_⟩
    obtain ⟨rfl, y⟩ := y
    have := y xs' s2
    rw [hv] at this
    cases this
    exact ⟨Ex.refl _, tv⟩
theorem itl_at {H : Hp} {a : Addr} {xs : List V} {ds : List PyData} (s2 : H a = some (.lst xs)) (s3 : TwL W.K H xs ds) : (ds.length ≤ i → (Itl W.K a).stop i H) ∧ ∀ d, ds[i]? = some d → (Itl W.K a).go i H ∧ ∀ x H', (Itl W.K a).yld i H x H' → Ex H H' ∧ Tw W.K H' x d := by
  refine ⟨fun hl => ⟨xs, sq_of s2, by rw [s3.length]; exact hl⟩, fun d hd => ?_⟩
  obtain ⟨v', hv, tv⟩ := s3.get hd
  refine ⟨⟨xs, v', sq_of s2, hv⟩, fun x H3 y => ?_⟩
  obtain ⟨rfl, y⟩ := y
  have := y xs (sq_of s2)
  rw [hv] at this
  cases this
  exact ⟨Ex.refl _, tv⟩
theorem itl_pl {H : Hp} {σ : L2.St} {a : Addr} {ds : List PyData} {m : Nat} (hp : ρ[m]? = some (.pl (.ref a) ds)) (R : W.R H g σ ρ) : (ds.length ≤ i → (Itl W.K a).stop i H) ∧ ∀ d, ds[i]? = some d → (Itl W.K a).go i H ∧ ∀ x H', (Itl W.K a).yld i H x H' → Ex H H' ∧ Tw W.K H' x d := by
  obtain ⟨u, _, a', xs', ea, s1, s2, s3⟩ := RelN.slH R hp
  cases ea
  exact itl_at s2 s3
/-- over a new list -/
theorem wI_new (q : wE W te ρ g fun x g1 => ∃ ds, x = .o ds ∧ ∀ v, QI (ρ ++ [.pl v ds]) (fun ρ' => ρ'[ρ.length]? = some (.pl v ds)) ds g1) : wI W (iList W.K te) ρ g QI := fun σ H C R k =>
  q σ H _ R fun v H1 w g1 e j h ⟨ds, ew, z⟩ => by
    subst ew
    obtain ⟨a, xs, rfl, h1, h2, h3⟩ := h
    refine ⟨a, rfl, ⟨xs, sq_of h2⟩, k (Itl W.K a) H1 _ _ ds g1 e (RelN.pushNew R (w := .pl (.ref a) ds) e j ⟨rfl, a, xs, rfl, R.free h1, h2, h3⟩ h1) (fun i H2 g2 σ2 ρ2 R2 hp => ?_) (z (.ref a))⟩
    exact itl_pl hp R2
end
end Kt

/-! Kt, part Y: walks, comprehensions, dicts, calls. -/
namespace Kt
open PySem PySem.Spec PyProof.Rows L2 Evl
section
variable {γ : Type} {W : Wc γ} {ρ : List Wd} {g : γ} {te : TE} {ta : TA} {QI : List Wd → (List Wd → Prop) → List PyData → γ → Prop} {i : Nat}
theorem RelN.label {K : PySem.W.Frag} {ω : Wo γ} {H0 H : Hp} {n : Nat} {σ : L2.St} (R : RelN K ω H0 n H g σ ρ) {w w' : Wd} {u : Option V} (h : ρ[i]? = some w) (hi : i < n) (hu : σ[i]? = some u) (hn : SlOk K H0 H u w') (ho : w'.own = true → w.own = true) : RelN K ω H0 n H g σ (ρ.set i w') := by
  obtain ⟨e, τ, r⟩ := R
  exact ⟨e, τ, r.label h (by rw [List.getElem?_append_left (by rw [e]; exact hi)]; exact hu) hn ho⟩
theorem set_at {ρ : List Wd} {w w' : Wd} (h : ρ[i]? = some w) : (ρ.set i w')[i]? = some w' := by
  rw [List.getElem?_set, if_pos rfl, if_pos (List.getElem?_eq_some_iff.mp h).1]
/-- over a list of one's own, that is not changed meanwhile -/
theorem wI_own {xs : List PyData} (h : ρ[i]? = some (.o xs)) (hi : i < W.n) (q : ∀ v, QI (ρ.set i (.pl v xs)) (fun ρ' => ρ'[i]? = some (.pl v xs)) xs g) : wI W (iList W.K (tVar i)) ρ g QI := fun σ H C R k => by
  obtain ⟨a, ys, h1, h2, h3, h4⟩ := RelN.own R h hi
  have R' : W.R H g σ (ρ.set i (.pl (.ref a) xs)) := RelN.label R h hi h1 ⟨rfl, a, ys, rfl, h2, h3, h4⟩ fun _ => rfl
  exact ⟨.ref a, h1, a, rfl, ⟨ys, sq_of h3⟩, k (Itl W.K a) H _ _ xs g (ExM.refl H) R' (fun i H2 g2 σ2 ρ2 R2 hp => itl_pl hp R2) (q (.ref a))⟩
theorem wI_prm {xs : List PyData} (h : ρ[i]? = some (.b xs)) (hi : i < W.n) (q : ∀ v, QI (ρ.set i (.pb v xs)) (fun ρ' => ρ'[i]? = some (.pb v xs)) xs g) : wI W (iList W.K (tVar i)) ρ g QI := fun σ H C R k => by
  obtain ⟨u, h1, a, ys, rfl, h2, h3⟩ := R.sl h hi
  obtain ⟨z1, z2⟩ := R.brw h2 h3
  have R' : W.R H g σ (ρ.set i (.pb (.ref a) xs)) := RelN.label R h hi h1 ⟨rfl, a, ys, rfl, h2, h3⟩ fun z => by cases z
  refine ⟨.ref a, h1, a, rfl, ⟨ys, sq_of z1⟩, k (Itl W.K a) H _ _ xs g (ExM.refl H) R' (fun i H2 g2 σ2 ρ2 R2 hp => ?_) (q (.ref a))⟩
  obtain ⟨u, e, a', xs', ea, s1, s2⟩ := RelN.slH R2 hp
  cases ea
  obtain ⟨y1, y2⟩ := RelN.brw R2 s1 s2
  exact itl_at y1 y2
def intsD (lo c : Int) (n : Nat) : List PyData := (List.range n).map fun (i : Nat) => .int (lo + (i : Int) * c)
theorem intsD_get {lo c : Int} {n k : Nat} {d : PyData} (h : (intsD lo c n)[k]? = some d) : d = .int (lo + (k : Int) * c) ∧ k < n := by
  unfold intsD at h
  rw [List.getElem?_map] at h
  by_cases hk : k < n
  · rw [List.getElem?_range hk] at h
    exact ⟨(Option.some.inj h).symm, hk⟩
  · rw [List.getElem?_eq_none (by rw [List.length_range]; omega)] at h
    cases h
theorem wI_rng1 (q : wA W ta ρ g fun ws g1 => ∃ j : Int, ws = [Wd.d (.int j)] ∧ -(2 ^ 62) ≤ j ∧ j < 2 ^ 62 ∧ QI ρ (fun _ => True) (intsD 0 1 j.toNat) g1) : wI W (iRng1 ta) ρ g QI := fun σ H C R k =>
  q σ H _ R fun vs H1 ws g1 e j h ⟨z, ew, b1, b2, q1⟩ => by
    subst ew
    obtain ⟨v, rfl, hx⟩ := vr1 h
    cases hx
    refine ⟨z, rfl, b1, b2, k (Itr 0 z.toNat) H1 ρ _ _ g1 e (R.grow e j) (fun i H2 g2 σ2 ρ2 R2 _ => ?_) q1⟩
    refine ⟨fun hl => ?_, fun d hd => ?_⟩
    · unfold intsD at hl
      rw [List.length_map, List.length_range] at hl
      exact hl
    · obtain ⟨rfl, hk⟩ := intsD_get hd
      refine ⟨hk, fun x H3 ⟨y1, y2⟩ => ?_⟩
      subst y1 y2
      rw [show (0 : Int) + (i : Int) * 1 = 0 + (i : Int) by omega]
      exact ⟨Ex.refl _, .int _⟩
/-- range(lo, hi, -1) -/
theorem wI_down (q : wA W ta ρ g fun ws g1 => ∃ a b : Int, ws = [Wd.d (.int a), Wd.d (.int b), Wd.d (.int (-1))] ∧ (-(2 ^ 62) ≤ a ∧ a < 2 ^ 62 ∧ -(2 ^ 62) ≤ b ∧ b < 2 ^ 62) ∧ QI ρ (fun _ => True) (intsD a (-1) (a - b).toNat) g1) : wI W (iRng3 ta) ρ g QI := fun σ H C R k =>
  q σ H _ R fun vs H1 ws g1 e j h ⟨a, b, ew, ⟨b1, b2, b3, b4⟩, q1⟩ => by
    subst ew
    cases h with
    | cons x1 h => cases h with
      | cons x2 h => cases h with
        | cons x3 h =>
          cases h; cases x1; cases x2; cases x3
          refine ⟨a, b, -1, (a - b).toNat, rfl, RgC.neg b1 b2 b3 b4, k (Itc a (-1) (a - b).toNat) H1 ρ _ _ g1 e (R.grow e j) (fun i H2 g2 σ2 ρ2 R2 _ => ?_) q1⟩
          refine ⟨fun hl => ?_, fun d hd => ?_⟩
          · unfold intsD at hl
            rw [List.length_map, List.length_range] at hl
            exact hl
          · obtain ⟨rfl, hk⟩ := intsD_get hd
            refine ⟨hk, fun x H3 ⟨y1, y2⟩ => ?_⟩
            subst y1 y2
            exact ⟨Ex.refl _, .int _⟩
/-- the pairs that enumerate gives -/
def enumD : Nat → List PyData → List PyData
  | _, [] => []
  | k, d :: r => .tuple [.int (k : Int), d] :: enumD (k + 1) r
theorem enumD_len : ∀ (k : Nat) (ds : List PyData), (enumD k ds).length = ds.length
  | _, [] => rfl
  | k, _ :: r => congrArg (· + 1) (enumD_len (k + 1) r)
theorem enumD_get : ∀ (k : Nat) (ds : List PyData) (i : Nat) (d : PyData), (enumD k ds)[i]? = some d → ∃ x, ds[i]? = some x ∧ d = .tuple [.int ((k + i : Nat) : Int), x]
  | k, x :: _, 0, d, h => ⟨x, rfl, (Option.some.inj h).symm⟩
  | k, _ :: r, i + 1, d, h => by
    obtain ⟨x, h1, h2⟩ := enumD_get (k + 1) r i d h
    exact ⟨x, h1, by rw [h2, show k + 1 + i = k + (i + 1) by omega]⟩
theorem wI_enT (q : wA W ta ρ g fun ws g1 => ∃ ds, ws = [Wd.d (.tuple ds)] ∧ ∀ v, QI (ρ ++ [.pt v ds]) (fun ρ' => ρ'[ρ.length]? = some (.pt v ds)) (enumD 0 ds) g1) : wI W (iEnT W.K ta) ρ g QI := fun σ H C R k =>
  q σ H _ R fun vs H1 ws g1 e j h ⟨ds, ew, q1⟩ => by
    subst ew
    obtain ⟨v, rfl, hx⟩ := vr1 h
    have h' : Tw W.K H1 v (.tuple ds) := hx
    obtain ⟨a, xs, rfl, h2, h3⟩ := Tw.tupI h'
    refine ⟨a, xs, rfl, h2, k (ItEn W.K a) H1 _ _ _ g1 e (RelN.push (R.grow e j) (w := .pt (.ref a) ds) ⟨rfl, h'⟩ rfl) (fun i H2 g2 σ2 ρ2 R2 hp => ?_) (q1 (.ref a))⟩
    obtain ⟨u, _, s⟩ := RelN.slH R2 hp
    obtain ⟨a', xs', ea, s2, s3⟩ := Tw.tupI s
    cases ea
    refine ⟨fun hl => ⟨xs', s2, by rw [s3.length]; rw [enumD_len] at hl; exact hl⟩, fun d hd => ?_⟩
    obtain ⟨x, hx, rfl⟩ := enumD_get 0 ds i d hd
    obtain ⟨v', hv, tv⟩ := s3.get hx
    refine ⟨⟨xs', v', s2, hv⟩, fun y H3 hy => ?_⟩
    obtain ⟨T, x', rfl, hT, rfl, f⟩ := hy
    have := f xs' s2
    rw [hv] at this
    cases this
    rw [Nat.zero_add]
    exact ⟨Ex.new hT, .tup (st_of upd_same) (.cons (.int _) (.cons (tv.mono (Tx.ex (Ex.new hT))) .nil))⟩
theorem ite_at {H : Hp} {a : Addr} {xs : List V} {ds : List PyData} (s2 : H a = some (.lst xs)) (s3 : TwL W.K H xs ds) : ((enumD 0 ds).length ≤ i → (Ite W.K a).stop i H) ∧ ∀ d, (enumD 0 ds)[i]? = some d → (Ite W.K a).go i H ∧ ∀ x H', (Ite W.K a).yld i H x H' → Ex H H' ∧ Tw W.K H' x d := by
  refine ⟨fun hl => ⟨xs, sq_of s2, by rw [s3.length]; rw [enumD_len] at hl; exact hl⟩, fun d hd => ?_⟩
  obtain ⟨x, hx, rfl⟩ := enumD_get 0 ds i d hd
  obtain ⟨v', hv, tv⟩ := s3.get hx
  refine ⟨⟨xs, v', sq_of s2, hv⟩, fun y H3 hy => ?_⟩
  obtain ⟨T, x', rfl, hT, rfl, f⟩ := hy
  have := f xs (sq_of s2)
  rw [hv] at this
  cases this
  rw [Nat.zero_add]
  exact ⟨Ex.new hT, .tup (st_of upd_same) (.cons (.int _) (.cons (tv.mono (Tx.ex (Ex.new hT))) .nil))⟩
/-- enumerate of a new list; of one's own -/
theorem wI_enN (q : wE W te ρ g fun x g1 => ∃ ds, x = .o ds ∧ ∀ v, QI (ρ ++ [.pl v ds]) (fun ρ' => ρ'[ρ.length]? = some (.pl v ds)) (enumD 0 ds) g1) : wI W (iEnum W.K (tCons te tNil)) ρ g QI := fun σ H C R k =>
  q σ H _ R fun v H1 w g1 e j h ⟨ds, ew, z⟩ => by
    subst ew
    obtain ⟨a, xs, rfl, h1, h2, h3⟩ := h
    refine ⟨a, xs, rfl, sq_of h2, k (Ite W.K a) H1 _ _ _ g1 e (RelN.pushNew R (w := .pl (.ref a) ds) e j ⟨rfl, a, xs, rfl, R.free h1, h2, h3⟩ h1) (fun i H2 g2 σ2 ρ2 R2 hp => ?_) (z (.ref a))⟩
    obtain ⟨u, _, a', xs', ea, s1, s2, s3⟩ := RelN.slH R2 hp
    cases ea
    exact ite_at s2 s3
theorem wI_enO {xs : List PyData} (h : ρ[i]? = some (.o xs)) (hi : i < W.n) (q : ∀ v, QI (ρ.set i (.pl v xs)) (fun ρ' => ρ'[i]? = some (.pl v xs)) (enumD 0 xs) g) : wI W (iEnum W.K (tCons (tVar i) tNil)) ρ g QI := fun σ H C R k => by
  obtain ⟨a, ys, h1, h2, h3, h4⟩ := RelN.own R h hi
  have R' : W.R H g σ (ρ.set i (.pl (.ref a) xs)) := RelN.label R h hi h1 ⟨rfl, a, ys, rfl, h2, h3, h4⟩ fun _ => rfl
  refine ⟨.ref a, h1, a, ys, rfl, sq_of h3, k (Ite W.K a) H _ _ _ g (ExM.refl H) R' (fun i H2 g2 σ2 ρ2 R2 hp => ?_) (q (.ref a))⟩
  obtain ⟨u, _, a', xs', ea, s1, s2, s3⟩ := RelN.slH R2 hp
  cases ea
  exact ite_at s2 s3
theorem q_I1 {j : Int} {P : Int → Prop} (h1 : -(2 ^ 62) ≤ j) (h2 : j < 2 ^ 62) (q : P j) : ∃ z : Int, [Wd.d (.int j)] = [Wd.d (.int z)] ∧ -(2 ^ 62) ≤ z ∧ z < 2 ^ 62 ∧ P z := ⟨j, rfl, h1, h2, q⟩
theorem q_T1 {ds : List PyData} {P : List PyData → Prop} (q : P ds) : ∃ es, [Wd.d (.tuple ds)] = [Wd.d (.tuple es)] ∧ P es := ⟨ds, rfl, q⟩
theorem q_o {ds : List PyData} {P : List PyData → Prop} (q : P ds) : ∃ es, Wd.o ds = Wd.o es ∧ P es := ⟨ds, rfl, q⟩
end
/-! ### comprehensions -/
def wipeW (ρ : List Wd) : List Nat → List Wd
  | [] => ρ
  | v :: vs => (wipeW ρ vs).set v .no
section
variable {γ : Type} {W : Wc γ} {ρ : List Wd} {g : γ} {te : TE} {i : Nat} {H : Hp} {σ : L2.St} {vs : List Nat}
theorem RelN.wipe (R : W.R H g σ ρ) : ∀ {vs : List Nat}, (∀ v ∈ vs, v < W.n) → W.R H g (wipe σ vs) (wipeW ρ vs)
  | [], _ => R
  | v :: vs, h => RelN.set (w := .no) (RelN.wipe R fun x hx => h x (List.mem_cons_of_mem _ hx)) (h v List.mem_cons_self) trivial rfl
theorem wipe_get (σ : L2.St) (k : Nat) : ∀ vs : List Nat, (wipe σ vs)[k]? = if k ∈ vs then (if k < σ.length then some none else none) else σ[k]?
  | [] => rfl
  | v :: vs => by
    unfold wipe
    rw [List.getElem?_set, wipe_get σ k vs, wipe_length]
    by_cases hv : v = k
    · subst hv
      simp
    · rw [if_neg hv]
      have : k ∈ v :: vs ↔ k ∈ vs := by
        rw [List.mem_cons]
        exact ⟨fun z => z.resolve_left fun e => hv e.symm, .inr⟩
      by_cases hk : k ∈ vs
      · rw [if_pos hk, if_pos (this.mpr hk)]
      · rw [if_neg hk, if_neg (fun z => hk (this.mp z))]
theorem wipe_set {x : Option V} (h : i ∈ vs) : wipe (σ.set i x) vs = wipe σ vs := by
  apply List.ext_getElem?
  intro k
  rw [wipe_get, wipe_get, List.length_set]
  by_cases hk : k ∈ vs
  · rw [if_pos hk, if_pos hk]
  · rw [if_neg hk, if_neg hk, List.getElem?_set, if_neg (fun e => hk (by rw [← e]; exact h))]
theorem wipe_wipe : wipe (wipe σ vs) vs = wipe σ vs := by
  apply List.ext_getElem?
  intro k
  rw [wipe_get, wipe_get, wipe_length]
  by_cases hk : k ∈ vs
  · rw [if_pos hk, if_pos hk]
  · rw [if_neg hk, if_neg hk]
/-- a target of a comprehension, whose names are vs -/
def wGc (W : Wc γ) (vs : List Nat) (t : TG) (d : PyData) (ρ : List Wd) (Q : List Wd → Prop) : Prop := ∀ (v : V) (σ : L2.St) (H : Hp) (g : γ) (C : L2.St → Hp → Prop), W.R H g σ ρ → Tw W.K H v d → (∀ σ' ρ', W.R H g σ' ρ' → wipe σ' vs = wipe σ vs → Q ρ' → C σ' H) → t v σ H C
def wGcs (W : Wc γ) (vs : List Nat) (t : TGs) (ds : List PyData) (ρ : List Wd) (Q : List Wd → Prop) : Prop := ∀ (us : List V) (σ : L2.St) (H : Hp) (g : γ) (C : L2.St → Hp → Prop), W.R H g σ ρ → TwL W.K H us ds → (∀ σ' ρ', W.R H g σ' ρ' → wipe σ' vs = wipe σ vs → Q ρ' → C σ' H) → t us σ H C
variable {QG : List Wd → Prop} {d : PyData} {ds : List PyData} {gt : TG}
theorem wGc_name (hi : i < W.n) (hv : i ∈ vs) (q : QG (ρ.set i (.d d))) : wGc W vs (gName i) d ρ QG := fun v σ H g C R h k => k _ _ (R.set (w := .d d) hi ⟨v, rfl, h⟩ rfl) (wipe_set hv) q
theorem wGc_tup {n : Nat} {u : TGs} (hn : ds.length = n) (q : wGcs W vs u ds ρ QG) : wGc W vs (gTup W.K n u) (.tuple ds) ρ QG := fun v σ H g C R h k => by
  obtain ⟨a, xs, rfl, h2, h3⟩ := Tw.tupI h
  exact ⟨a, xs, rfl, h2, h3.length.trans hn, q xs σ H g C R h3 k⟩
theorem wGcs_nil (q : QG ρ) : wGcs W vs gNil [] ρ QG := fun vs σ H g C R h k => by
  cases h
  exact ⟨rfl, k σ ρ R rfl q⟩
theorem wGcs_cons {u : TGs} (q : wGc W vs gt d ρ fun ρ' => wGcs W vs u ds ρ' QG) : wGcs W vs (gCons gt u) (d :: ds) ρ QG := fun vs σ H g C R h k => by
  cases h with
  | cons a t => exact ⟨_, _, rfl, q _ σ H g _ R a fun σ' ρ' R' e z => z _ σ' H g C R' t fun σ2 ρ2 R2 e2 z2 => k σ2 ρ2 R2 (e2.trans e) z2⟩
variable {wi : TI} {tt : TT} {Q : Wd → γ → Prop}
/-- the list that a comprehension makes stands in a hidden slot -/
theorem RelN.putH (R : W.R H g σ (ρ ++ [.pl (.ref i) ds])) {ys : List V} {es : List PyData} (h : TwL W.K H ys es) : W.R (upd H i (.lst ys)) g σ (ρ ++ [.pl (.ref i) es]) := by
  obtain ⟨e, τ, r⟩ := R
  obtain ⟨u, h1, h2⟩ := r.sl ρ.length (.pl (.ref i) ds) at_app'
  obtain ⟨rfl, a, xs, ea, s1, s2, s3⟩ := h2
  cases ea
  have q := r.put (i := ρ.length) (w := .pl (.ref i) ds) (w' := .pl (.ref i) es) (o := .lst ys) at_app' rfl h1 s1 (.inl ⟨xs, s2⟩) rfl ⟨rfl, i, ys, rfl, s1, upd_same, h.mono (Tx.lst s2)⟩
  rw [List.set_append_right _ _ (Nat.le_refl _), Nat.sub_self] at q
  exact ⟨e, τ, q⟩
where
  at_app' : ∀ {ρ : List Wd} {w : Wd}, (ρ ++ [w])[ρ.length]? = some w := by
    intro ρ w
    rw [List.getElem?_append_right (Nat.le_refl _), Nat.sub_self]; rfl
end
end Kt

/-! Kt, part Z: comprehensions made, dicts, calls. -/
namespace Kt
open PySem PySem.Spec PyProof.Rows L2 Evl
section
variable {γ : Type} {W : Wc γ} {ρ : List Wd} {g : γ} {te tk tv : TE} {i : Nat} {vs : List Nat} {gt : TG} {wi : TI} {tt : TT} {Q : Wd → γ → Prop}
theorem RelN.nle {H : Hp} {σ : L2.St} (R : W.R H g σ ρ) : W.n ≤ ρ.length := by
  obtain ⟨e, τ, r⟩ := id R
  have := r.ln
  rw [List.length_append] at this
  omega
theorem take_app {ρ1 : List Wd} {w : Wd} : (ρ1 ++ [w]).take ρ1.length = ρ1 := by rw [List.take_append, List.take_length, Nat.sub_self]; simp
theorem wE_lc (hvs0 : (vs.all fun v => Nat.blt v W.n) = true) (q : wI W wi ρ g fun ρ1 Pn ds g1 => ∃ I : Nat → List PyData → γ → Prop, (∀ w, Pn (ρ1 ++ [w])) ∧ I 0 [] g1 ∧
    (∀ (i : Nat) (d : PyData) (acc : List PyData) (g' : γ) (v : V), ds[i]? = some d → I i acc g' → wGc W vs gt d (wipeW (ρ1 ++ [.pl v acc]) vs) fun ρ2 => wT W tt ρ2 g' fun b g2 =>
      if b = true then wE W te ρ2 g2 fun w g3 => Dd (fun x => Sz (acc.length + 1) (I (i + 1) (acc ++ [x]) g3)) w else I (i + 1) acc g2) ∧
    ∀ acc g', I ds.length acc g' → Q (.o acc) g') : wE W (tLc wi gt tt te vs) ρ g Q := fun σ H C R k => by
  have hvs : ∀ v ∈ vs, v < W.n := fun v hv => Nat.le_of_ble_eq_true (List.all_eq_true.mp hvs0 v hv)
  refine q σ H _ R fun J H1 ρ1 Pn ds g1 e1 R1 ok ⟨I, hp, h0, hs, hd⟩ D hD => ?_
  have j1 := R1.j
  have hD0 : H D = none := W.ω.back j1 e1 hD
  have Rn : W.R (upd H1 D (.lst [])) g1 σ (ρ1 ++ [.pl (.ref D) []]) := RelN.pushNew R1 (ExM.of (Ex.new hD)) (R1.stayG (Ex.new hD)) ⟨rfl, D, [], rfl, R1.free hD, upd_same, .nil⟩ hD
  have atR : ∀ {H2 : Hp} {g2 : γ} {σ2 : L2.St} {acc : List PyData}, W.R H2 g2 σ2 (ρ1 ++ [.pl (.ref D) acc]) → ∃ xs, H2 D = some (.lst xs) ∧ TwL W.K H2 xs acc := fun R2 => by
    obtain ⟨u, _, a', xs', ea, s1, s2, s3⟩ := RelN.slH (i := ρ1.length) R2 (by rw [List.getElem?_append_right (Nat.le_refl _), Nat.sub_self]; rfl)
    cases ea
    exact ⟨xs', s2, s3⟩
  refine ⟨fun i m H2 => m = ds.length - i ∧ i ≤ ds.length ∧ ∃ acc g2, W.R H2 g2 σ (ρ1 ++ [.pl (.ref D) acc]) ∧ ExM W.ω.M H H2 ∧ I i acc g2, ⟨_, rfl, Nat.zero_le _, [], g1, Rn, fun b o hb ho => (upd_ne (ne_of_none ho hD0)).trans (e1 b o hb ho), h0⟩, ?_⟩
  rintro i m H2 ⟨rfl, hi, acc, g2, R2, e2, hI⟩
  obtain ⟨ok1, ok2⟩ := ok i H2 g2 σ _ R2 (hp _)
  by_cases hlt : i < ds.length
  · obtain ⟨hgo, hy⟩ := ok2 ds[i] (List.getElem?_eq_getElem hlt)
    refine .inr ⟨hgo, fun H3 => ∃ acc g3, W.R H3 g3 σ (ρ1 ++ [.pl (.ref D) acc]) ∧ ExM W.ω.M H H3 ∧ I (i + 1) acc g3, fun H3 ⟨acc, g3, R3, e3, h3⟩ => ⟨ds.length - (i + 1), by omega, rfl, hlt, acc, g3, R3, e3, h3⟩, fun x H3 y => ?_⟩
    obtain ⟨e3, tx⟩ := hy x H3 y
    have R3 := R2.grow (ExM.of e3) (R2.stayG e3)
    refine hs i _ acc g2 (.ref D) (List.getElem?_eq_getElem hlt) hI x (wipe σ vs) H3 g2 _ (RelN.wipe R3 hvs) tx fun σ4 ρ4 R4 ew hT => ⟨ew.trans wipe_wipe, ?_⟩
    refine hT σ4 H3 _ R4 fun b H5 g5 e5 j5 hb => ?_
    have R5 := R3.grow e5 j5
    have e05 := (e2.trans (ExM.of e3)).trans e5
    cases b with
    | true =>
      refine (show wE W te ρ4 g5 _ from hb) σ4 H5 _ (R4.grow e5 j5) fun y H6 w g6 e6 j6 hv ⟨x6, ew6, hz, h6⟩ => ?_
      subst ew6
      have R6 := R5.grow e6 j6
      obtain ⟨xs, a1, a2⟩ := atR R6
      refine ⟨xs, a1, by rw [a2.length]; exact hz, acc ++ [x6], g6, RelN.putH R6 (a2.app (.one hv)), fun b o hb ho => (upd_ne (ne_of_none ho hD0)).trans ((e05.trans e6) b o hb ho), h6⟩
    | false => exact ⟨acc, g5, R5, e05, hb⟩
  · have e : i = ds.length := by omega
    subst e
    obtain ⟨xs, a1, a2⟩ := atR R2
    exact .inl ⟨ok1 (Nat.le_refl _), k (.ref D) H2 (.o acc) g2 e2 R2.j ⟨D, xs, rfl, hD0, a1, a2⟩ (hd acc g2 hI)⟩
/-! ### dicts -/
def kGet (kvs : List (Key × PyData)) (k : Key) : Option PyData := (kvs.find? fun kv => decide (kv.1 = k)).map (·.2)
def kPut (kvs : List (Key × PyData)) (k : Key) (d : PyData) : List (Key × PyData) := if (kvs.any fun kv => decide (kv.1 = k)) = true then kvs.map (fun kv => if kv.1 = k then (kv.1, d) else kv) else kvs ++ [(k, d)]
def keyD : Key → PyData
  | .inl i => .int i
  | .inr x => .str x
theorem kw_get {K : PySem.W.Frag} {H : Hp} (k : Key) : ∀ {ks : List (Key × V)} {kvs : List (Key × PyData)}, KwL K H ks kvs → (kGet kvs k = none ∧ valV ks k = none) ∨ ∃ d v, kGet kvs k = some d ∧ valV ks k = some v ∧ Tw K H v d
  | _, _, .nil => .inl ⟨rfl, rfl⟩
  | _, _, .cons (k := k') (v := v) (d := d) (r := r) (s := s) a t => by
    by_cases hk : k' = k
    · refine .inr ⟨d, v, ?_, ?_, a⟩
      · unfold kGet; rw [List.find?_cons_of_pos (by simpa using hk)]; rfl
      · exact valV_pos hk
    · have e1 : kGet ((k', d) :: s) k = kGet s k := by unfold kGet; rw [List.find?_cons_of_neg (by simpa using hk)]
      have e2 : valV ((k', v) :: r) k = valV r k := valV_neg hk
      rw [e1, e2]
      exact kw_get k t
theorem kw_any {K : PySem.W.Frag} {H : Hp} (k : Key) : ∀ {ks : List (Key × V)} {kvs : List (Key × PyData)}, KwL K H ks kvs → (ks.any fun kv => decide (kv.1 = k)) = kvs.any fun kv => decide (kv.1 = k)
  | _, _, .nil => rfl
  | _, _, .cons a t => by rw [List.any_cons, List.any_cons, kw_any k t]
theorem kw_map {K : PySem.W.Frag} {H : Hp} {k : Key} {v : V} {d : PyData} (h : Tw K H v d) : ∀ {ks : List (Key × V)} {kvs : List (Key × PyData)}, KwL K H ks kvs → KwL K H (ks.map fun kv => if kv.1 = k then (kv.1, v) else kv) (kvs.map fun kv => if kv.1 = k then (kv.1, d) else kv)
  | _, _, .nil => .nil
  | _, _, .cons (k := k') a t => by
    rw [List.map_cons, List.map_cons]
    by_cases hk : k' = k
    · rw [if_pos hk, if_pos hk]; exact .cons h (kw_map h t)
    · rw [if_neg hk, if_neg hk]; exact .cons a (kw_map h t)
theorem KwL.app {K : PySem.W.Frag} {H : Hp} : ∀ {ks ls : List (Key × V)} {kvs lvs : List (Key × PyData)}, KwL K H ks kvs → KwL K H ls lvs → KwL K H (ks ++ ls) (kvs ++ lvs)
  | _, _, _, _, .nil, h => h
  | _, _, _, _, .cons a t, h => .cons a (t.app h)
theorem kw_put {K : PySem.W.Frag} {H : Hp} {k : Key} {v : V} {d : PyData} {ks : List (Key × V)} {kvs : List (Key × PyData)} (t : KwL K H ks kvs) (h : Tw K H v d) : KwL K H (putK ks k v) (kPut kvs k d) := by
  unfold putK kPut
  rw [kw_any k t]
  split
  · exact kw_map h t
  · exact t.app (.cons h .nil)
theorem kw_len {K : PySem.W.Frag} {H : Hp} : ∀ {ks : List (Key × V)} {kvs : List (Key × PyData)}, KwL K H ks kvs → ks.length = kvs.length
  | _, _, .nil => rfl
  | _, _, .cons _ t => congrArg (· + 1) (kw_len t)
theorem kw_keys {K : PySem.W.Frag} {H : Hp} : ∀ {ks : List (Key × V)} {kvs : List (Key × PyData)}, KwL K H ks kvs → TwL K H (ks.map fun kv => kV kv.1) (kvs.map fun kv => keyD kv.1)
  | _, _, .nil => .nil
  | _, _, .cons (k := k) a t => .cons (by cases k <;> constructor) (kw_keys t)
theorem key_tw {K : PySem.W.Frag} {H : Hp} {v : V} {k : Key} (h : Tw K H v (keyD k)) : v = kV k := by
  cases k <;> (cases h; rfl)
theorem RelN.putD {i : Addr} {H : Hp} {σ : L2.St} {ds es : List (Key × PyData)} (R : W.R H g σ (ρ ++ [.pd (.ref i) ds])) {ys : List (Key × V)} (h : KwL W.K H ys es) : W.R (upd H i (.dK ys)) g σ (ρ ++ [.pd (.ref i) es]) := by
  have at_a : ∀ {ρ : List Wd} {w : Wd}, (ρ ++ [w])[ρ.length]? = some w := by
    intro ρ w
    rw [List.getElem?_append_right (Nat.le_refl _), Nat.sub_self]; rfl
  obtain ⟨e, τ, r⟩ := R
  obtain ⟨u, h1, h2⟩ := r.sl ρ.length (.pd (.ref i) ds) at_a
  obtain ⟨rfl, a, xs, ea, s1, s2, s3⟩ := h2
  cases ea
  have tx : ∀ o, Tx H (upd H i o) := fun o => ⟨fun q xs h' => (upd_ne (ne_of h' s2 (fun z => by cases z))).trans h', fun q u xs h' => (upd_ne (ne_of h' s2 (fun z => by cases z))).trans h', fun q C dx fs h' => (upd_ne (ne_of h' s2 (fun z => by cases z))).trans h'⟩
  have q := r.put (i := ρ.length) (w := .pd (.ref i) ds) (w' := .pd (.ref i) es) (o := .dK ys) at_a rfl h1 s1 (.inr ⟨xs, s2⟩) rfl ⟨rfl, i, ys, rfl, s1, upd_same, h.mono (tx _)⟩
  rw [List.set_append_right _ _ (Nat.le_refl _), Nat.sub_self] at q
  exact ⟨e, τ, q⟩
def Kd (P : Key → Prop) (w : Wd) : Prop := ∃ k, w = .d (keyD k) ∧ P k
/-- {k: v for ..} -/
theorem wE_dc (hvs0 : (vs.all fun v => Nat.blt v W.n) = true) (q : wI W wi ρ g fun ρ1 Pn ds g1 => ∃ I : Nat → List (Key × PyData) → γ → Prop, (∀ w, Pn (ρ1 ++ [w])) ∧ I 0 [] g1 ∧
    (∀ (i : Nat) (d : PyData) (acc : List (Key × PyData)) (g' : γ) (v : V), ds[i]? = some d → I i acc g' → wGc W vs gt d (wipeW (ρ1 ++ [.pd v acc]) vs) fun ρ2 => wT W tt ρ2 g' fun b g2 =>
      if b = true then wE W tk ρ2 g2 fun w g3 => Kd (fun k => wE W tv ρ2 g3 fun w2 g4 => Dd (fun x => Sz (acc.length + 1) (I (i + 1) (kPut acc k x) g4)) w2) w else I (i + 1) acc g2) ∧
    ∀ acc g', I ds.length acc g' → Q (.k acc) g') : wE W (tDc wi gt tt tk tv vs) ρ g Q := fun σ H C R k => by
  have hvs : ∀ v ∈ vs, v < W.n := fun v hv => Nat.le_of_ble_eq_true (List.all_eq_true.mp hvs0 v hv)
  refine q σ H _ R fun J H1 ρ1 Pn ds g1 e1 R1 ok ⟨I, hp, h0, hs, hd⟩ D hD => ?_
  have j1 := R1.j
  have hD0 : H D = none := W.ω.back j1 e1 hD
  have Rn : W.R (upd H1 D (.dK [])) g1 σ (ρ1 ++ [.pd (.ref D) []]) := RelN.pushNew R1 (ExM.of (Ex.new hD)) (R1.stayG (Ex.new hD)) ⟨rfl, D, [], rfl, R1.free hD, upd_same, .nil⟩ hD
  have atR : ∀ {H2 : Hp} {g2 : γ} {σ2 : L2.St} {acc : List (Key × PyData)}, W.R H2 g2 σ2 (ρ1 ++ [.pd (.ref D) acc]) → ∃ xs, H2 D = some (.dK xs) ∧ KwL W.K H2 xs acc := fun R2 => by
    obtain ⟨u, _, a', xs', ea, s1, s2, s3⟩ := RelN.slH (i := ρ1.length) R2 (by rw [List.getElem?_append_right (Nat.le_refl _), Nat.sub_self]; rfl)
    cases ea
    exact ⟨xs', s2, s3⟩
  refine ⟨fun i m H2 => m = ds.length - i ∧ i ≤ ds.length ∧ ∃ acc g2, W.R H2 g2 σ (ρ1 ++ [.pd (.ref D) acc]) ∧ ExM W.ω.M H H2 ∧ I i acc g2, ⟨_, rfl, Nat.zero_le _, [], g1, Rn, fun b o hb ho => (upd_ne (ne_of_none ho hD0)).trans (e1 b o hb ho), h0⟩, ?_⟩
  rintro i m H2 ⟨rfl, hi, acc, g2, R2, e2, hI⟩
  obtain ⟨ok1, ok2⟩ := ok i H2 g2 σ _ R2 (hp _)
  by_cases hlt : i < ds.length
  · obtain ⟨hgo, hy⟩ := ok2 ds[i] (List.getElem?_eq_getElem hlt)
    refine .inr ⟨hgo, fun H3 => ∃ acc g3, W.R H3 g3 σ (ρ1 ++ [.pd (.ref D) acc]) ∧ ExM W.ω.M H H3 ∧ I (i + 1) acc g3, fun H3 ⟨acc, g3, R3, e3, h3⟩ => ⟨ds.length - (i + 1), by omega, rfl, hlt, acc, g3, R3, e3, h3⟩, fun x H3 y => ?_⟩
    obtain ⟨e3, tx⟩ := hy x H3 y
    have R3 := R2.grow (ExM.of e3) (R2.stayG e3)
    refine hs i _ acc g2 (.ref D) (List.getElem?_eq_getElem hlt) hI x (wipe σ vs) H3 g2 _ (RelN.wipe R3 hvs) tx fun σ4 ρ4 R4 ew hT => ⟨ew.trans wipe_wipe, ?_⟩
    refine hT σ4 H3 _ R4 fun b H5 g5 e5 j5 hb => ?_
    have R5 := R3.grow e5 j5
    have e05 := (e2.trans (ExM.of e3)).trans e5
    cases b with
    | true =>
      refine (show wE W tk ρ4 g5 _ from hb) σ4 H5 _ (R4.grow e5 j5) fun y H6 w g6 e6 j6 hv ⟨kk, ek, h6⟩ => ?_
      subst ek
      have R6 := R5.grow e6 j6
      refine h6 σ4 H6 _ ((R4.grow e5 j5).grow e6 j6) fun z H7 w2 g7 e7 j7 hv2 ⟨x6, ew6, hz, h7⟩ => ?_
      subst ew6
      have R7 := R6.grow e7 j7
      obtain ⟨xs, a1, a2⟩ := atR R7
      refine ⟨xs, kk, key_tw hv, a1, by rw [kw_len a2]; exact hz, kPut acc kk x6, g7, RelN.putD R7 (kw_put a2 hv2), fun b o hb ho => (upd_ne (ne_of_none ho hD0)).trans (((e05.trans e6).trans e7) b o hb ho), h7⟩
    | false => exact ⟨acc, g5, R5, e05, hb⟩
  · have e : i = ds.length := by omega
    subst e
    obtain ⟨xs, a1, a2⟩ := atR R2
    exact .inl ⟨ok1 (Nat.le_refl _), k (.ref D) H2 (.k acc) g2 e2 R2.j ⟨D, xs, rfl, hD0, a1, a2⟩ (hd acc g2 hI)⟩
/-- a name that holds a dict of one's own -/
theorem RelN.dic {H : Hp} {σ : L2.St} (R : W.R H g σ ρ) {kvs : List (Key × PyData)} (h : ρ[i]? = some (.k kvs)) (hi : i < W.n) : ∃ a ks, σ[i]? = some (some (.ref a)) ∧ W.H0 a = none ∧ H a = some (.dK ks) ∧ KwL W.K H ks kvs := by
  obtain ⟨u, h1, a, ys, rfl, h2, h3, h4⟩ := R.sl h hi
  exact ⟨a, ys, h1, h2, h3, h4⟩
theorem q_Ki {P : Key → Prop} {z : Int} (q : P (.inl z)) : Kd P (.d (.int z)) := ⟨.inl z, rfl, q⟩
theorem q_Ks {P : Key → Prop} {z : Str} (q : P (.inr z)) : Kd P (.d (.str z)) := ⟨.inr z, rfl, q⟩
theorem wE_dget2 {kvs : List (Key × PyData)} (h : ρ[i]? = some (.k kvs)) (hi : i < W.n) (q : wE W tk ρ g fun w g1 => Kd (fun k => wE W tv ρ g1 fun w2 g2 => Dd (fun d => Q (.d ((kGet kvs k).getD d)) g2) w2) w) : wE W (tDGet2 (tVar i) tk tv) ρ g Q := fun σ H C R kk => by
  obtain ⟨a, ks, h1, h2, h3, h4⟩ := RelN.dic R h hi
  refine ⟨_, h1, a, rfl, .inl ⟨ks, .inl h3⟩, ?_⟩
  refine q σ H _ R fun v H1 w g1 e1 j1 hv ⟨k, ew, q1⟩ => ?_
  subst ew
  have R1 := R.grow e1 j1
  refine q1 σ H1 _ R1 fun u H2 w2 g2 e2 j2 hu ⟨d, ew, q2⟩ => ?_
  subst ew
  have R2 := R1.grow e2 j2
  obtain ⟨a', ks', h1', h2', h3', h4'⟩ := RelN.dic R2 h hi
  rw [h1] at h1'
  cases h1'
  rw [key_tw hv]
  refine ⟨_, DGet.k h3', ?_⟩
  rcases kw_get k h4' with ⟨z1, z2⟩ | ⟨d', v', z1, z2, z3⟩
  · rw [z1] at q2
    rw [z2]
    exact kk _ H2 (.d d) g2 (e1.trans e2) j2 (show Tw W.K H2 u d from hu) q2
  · rw [z1] at q2
    rw [z2]
    exact kk _ H2 (.d d') g2 (e1.trans e2) j2 z3 q2
theorem wE_din {kvs : List (Key × PyData)} (h : ρ[i]? = some (.k kvs)) (hi : i < W.n) (q : wE W tk ρ g fun w g1 => Kd (fun k => Q (.d (.bool (kGet kvs k).isSome)) g1) w) : wE W (tDIn tk (tVar i)) ρ g Q := fun σ H C R kk => by
  refine q σ H _ R fun v H1 w g1 e1 j1 hv ⟨k, ew, q1⟩ => ?_
  subst ew
  replace q1 : Q (Wd.d (PyData.bool (kGet kvs k).isSome)) g1 := q1
  have R1 := R.grow e1 j1
  obtain ⟨a, ks, h1, h2, h3, h4⟩ := RelN.dic R1 h hi
  refine ⟨_, h1, a, _, rfl, key_tw hv ▸ DGet.k h3, ?_⟩
  rcases kw_get k h4 with ⟨z1, z2⟩ | ⟨d', v', z1, z2, z3⟩
  · rw [z1] at q1; rw [z2]; exact kk _ H1 _ g1 e1 j1 (show Vw W.K H H1 (.bl _) (.d (.bool _)) from .bl _) q1
  · rw [z1] at q1; rw [z2]; exact kk _ H1 _ g1 e1 j1 (show Vw W.K H H1 (.bl _) (.d (.bool _)) from .bl _) q1
theorem wS_dput {O : WO γ} {kvs : List (Key × PyData)} (h : ρ[i]? = some (.k kvs)) (hi : i < W.n) (q : wE W tv ρ g fun w g1 => Dd (fun d => wE W tk ρ g1 fun w2 g2 => Kd (fun k => Sz (kvs.length + 1) (O.nx (ρ.set i (.k (kPut kvs k d))) g2)) w2) w) : wS W (sDPut (tVar i) tk tv) ρ g O := fun σ H D R kn _ _ _ => by
  refine q σ H _ R fun v H1 w g1 e1 j1 hv ⟨d, ew, q1⟩ => ?_
  subst ew
  have R1 := R.grow e1 j1
  obtain ⟨a, ks, h1, h2, h3, h4⟩ := RelN.dic R1 h hi
  refine ⟨_, h1, ?_⟩
  refine q1 σ H1 _ R1 fun u H2 w2 g2 e2 j2 hu ⟨k, ew, hz, q2⟩ => ?_
  subst ew
  have R2 := R1.grow e2 j2
  obtain ⟨a', ks', h1', h2', h3', h4'⟩ := RelN.dic R2 h hi
  rw [h1] at h1'
  cases h1'
  have hv2 : Tw W.K H2 v d := Tw.mono (W.ω.tx j1 e2) hv
  have tx : ∀ o, Tx H2 (upd H2 a o) := fun o => ⟨fun q xs h' => (upd_ne (ne_of h' h3' (fun z => by cases z))).trans h', fun q u xs h' => (upd_ne (ne_of h' h3' (fun z => by cases z))).trans h', fun q C dx fs h' => (upd_ne (ne_of h' h3' (fun z => by cases z))).trans h'⟩
  refine ⟨a, _, rfl, key_tw hu ▸ DPut.k h3' (by rw [kw_len h4']; exact hz), kn _ σ _ g2 (RelN.put (w' := .k (kPut kvs k d)) R2 hi h rfl h1 h2' (.inr ⟨ks', h3'⟩) rfl ⟨a, _, rfl, h2', upd_same, (kw_put h4' hv2).mono (tx _)⟩) q2⟩
/-- list(d) -/
def rListD : List V → Hp → VK → Prop := fun xs H Q => ∃ (a : Addr) (kvs : List (Key × V)), xs = [.ref a] ∧ Rd H a (.dK kvs) ∧ ∀ p, H p = none → Q (.ref p) (upd H p (.lst (kvs.map fun kv => kV kv.1)))
theorem call_lsD {X : Cx} (hcalm : X.calm = true) : CallR X (.type "list") rListD := call_listD hcalm
theorem wE_lstD {kvs : List (Key × PyData)} (h : ρ[i]? = some (.k kvs)) (hi : i < W.n) (q : Q (.o (kvs.map fun kv => keyD kv.1)) g) : wE W (tCB rListD (tCons (tVar i) tNil)) ρ g Q := fun σ H C R kk => by
  obtain ⟨a, ks, h1, h2, h3, h4⟩ := RelN.dic R h hi
  exact ⟨_, h1, a, ks, rfl, .inl h3, fun p hp => kk _ _ (.o _) g (ExM.of (Ex.new hp)) (R.stayG (Ex.new hp)) ⟨p, _, rfl, hp, upd_same, (kw_keys h4).mono (Tx.ex (Ex.new hp))⟩ q⟩
end
/-! ### defs and their calls -/
/-- a def that changes nothing that stood: pre tells, of its arguments and of what is wished of its answer, when the wish holds -/
def spP (K : PySem.W.Frag) (pre : List Wd → (Wd → Prop) → Prop) : Sp := fun vs H Q _ => ∃ ws P, pre ws P ∧ VrL K H vs ws ∧ ∀ v H' w, Ex H H' → Vw K H H' v w → P w → Q v H'
/-- a def in a world -/
def spW {γ θ : Type} (K : PySem.W.Frag) (Ω : θ → Wo γ) (pre : θ → List Wd → γ → (Wd → γ → Prop) → Prop) : Sp := fun vs H Q _ => ∃ t ws g P, pre t ws g P ∧ VrL K H vs ws ∧ (Ω t).J g H ∧ (∀ a ∈ (Ω t).A, H a ≠ none) ∧ ∀ v H' w g', ExM (Ω t).M H H' → (Ω t).J g' H' → Vw K H H' v w → P w g' → Q v H'
def tPC (sp : Sp) (t : TA) : TE := fun σ H Q => t σ H fun vs H1 => sp vs H1 Q E0
section
variable {X : Cx} {k j : Nat} {x : Str} {sp : Sp} {p pos : Pos} {e : Expr} {es : List Expr} {t : TA}
theorem pe_WO (c : CalO X.prog X.w X.K X.mg X.base k x sp) (hr : Room j X.A) (hk : k ≤ j) (hg : Gl X x) (ha : PA X (e :: es) t) (hdb : (x == ("__debug__" : Str)) = false := by decide)
    (he : starEach (e :: es) X.env = (false, eval e X.env) :: starEach es X.env := by rfl) (hpl : (backTo pos (starEach es X.env)).any (·.1) = false := by rfl) : PE X (.Call (.Name x p) (e :: es) [] pos) (tPC sp t) := pe_cO c hr hk hg ha hdb he hpl
theorem pe_WG (c : CalG X.prog X.w X.K X.mg X.base k x sp) (hA : X.A.guards = some []) (hr : Room j X.A) (hk : k ≤ j) (hg : Gl X x) (ha : PA X (e :: es) t) (hdb : (x == ("__debug__" : Str)) = false := by decide)
    (he : starEach (e :: es) X.env = (false, eval e X.env) :: starEach es X.env := by rfl) (hpl : (backTo pos (starEach es X.env)).any (·.1) = false := by rfl) : PE X (.Call (.Name x p) (e :: es) [] pos) (tPC sp t) := pe_cG c hA hr hk hg ha hdb he hpl
end
section
variable {γ : Type} {W : Wc γ} {ρ : List Wd} {g : γ} {t : TA} {Q : Wd → γ → Prop}
theorem RelN.supN {H : Hp} {σ : L2.St} (R : W.R H g σ ρ) : ∀ a ∈ W.ω.A, H a ≠ none := fun a ha z => by
  obtain ⟨_, τ, r⟩ := R
  exact r.sup a ha (W.ω.back r.j r.ex z)
theorem wE_callP {pre : List Wd → (Wd → Prop) → Prop} (q : wA W t ρ g fun ws g1 => pre ws fun w => Q w g1) : wE W (tPC (spP W.K pre) t) ρ g Q := fun σ H C R k =>
  q σ H _ R fun vs H1 ws g1 e1 j1 hv q1 => ⟨ws, _, q1, hv, fun v H' w e2 hw hq => k v H' w g1 (e1.trans (ExM.of e2)) ((R.grow e1 j1).stayG e2) (Vw.back j1 e1 hw) hq⟩
theorem wE_callW {θ : Type} {K : PySem.W.Frag} {Ω : θ → Wo γ} {th : θ} {H0 : Hp} {n : Nat} {pre : θ → List Wd → γ → (Wd → γ → Prop) → Prop} (q : wA ⟨K, Ω th, H0, n⟩ t ρ g fun ws g1 => pre th ws g1 Q) : wE ⟨K, Ω th, H0, n⟩ (tPC (spW K Ω pre) t) ρ g Q := fun σ H C R k =>
  q σ H _ R fun vs H1 ws g1 e1 j1 hv q1 => ⟨th, ws, g1, Q, q1, hv, j1, RelN.supN (RelN.grow R e1 j1), fun v H' w g' e2 j2 hw hq => k v H' w g' (e1.trans e2) j2 (Vw.back j1 e1 hw) hq⟩
/-! a def's body -/
def Wd.pm : Wd → Wd
  | .d x => .d x
  | .l xs | .o xs => .b xs
  | .z v => .z v
  | _ => .no
theorem sl_pm {K : PySem.W.Frag} {H : Hp} {v : V} {w : Wd} (h : Vr K H v w) : SlOk K H H (some v) w.pm := by
  cases w with
  | d x => exact ⟨v, rfl, h⟩
  | l xs => obtain ⟨a, ys, rfl, h2, h3⟩ := h; exact ⟨a, ys, rfl, h2, h3⟩
  | o xs => obtain ⟨a, ys, rfl, h2, h3⟩ := h; exact ⟨a, ys, rfl, h2, h3⟩
  | z u => exact congrArg some h
  | _ => trivial
theorem pm_own {w : Wd} : w.pm.own = false := by cases w <;> rfl
def startW (n : Nat) (ws : List Wd) : List Wd := ws.map Wd.pm ++ List.replicate (n - ws.length) .no
theorem VrL.getV {K : PySem.W.Frag} {H : Hp} : ∀ {vs : List V} {ws : List Wd} {i : Nat} {w : Wd}, VrL K H vs ws → ws[i]? = some w → ∃ v, vs[i]? = some v ∧ Vr K H v w
  | _, _, 0, _, .cons a _, h => ⟨_, rfl, by cases h; exact a⟩
  | _, _, i + 1, _, .cons _ t, h => t.getV (i := i) h
theorem startR {K : PySem.W.Frag} {ω : Wo γ} {H : Hp} {N : List Str} {vs : List V} {ws : List Wd} (j : ω.J g H) (hs : ∀ a ∈ ω.A, H a ≠ none) (h : VrL K H vs ws) (hl : ws.length ≤ N.length) : RelN K ω H N.length H g (L2.start N vs) (startW N.length ws) := by
  have hvl := h.len
  have hlen : (L2.start N vs).length = N.length := by
    unfold L2.start
    rw [List.length_append, List.length_map, List.length_replicate, hvl]
    omega
  refine ⟨hlen, [], ?_⟩
  rw [List.append_nil]
  have hl2 : (startW N.length ws).length = N.length := by
    unfold startW
    rw [List.length_append, List.length_map, List.length_replicate]
    omega
  have noOwn : ∀ (i : Nat) (w : Wd), (startW N.length ws)[i]? = some w → w.own = false := fun i w hw => by
    unfold startW at hw
    rcases List.mem_append.mp (List.mem_of_getElem? hw) with z | z
    · obtain ⟨w0, _, e⟩ := List.mem_map.mp z
      rw [← e]; exact pm_own
    · rw [(List.mem_replicate.mp z).2]; rfl
  refine ⟨ExM.refl H, ⟨g, j⟩, j, hlen.trans hl2.symm, fun i w hw => ?_, fun i j a w w' h1 h2 o1 _ _ _ => ?_, hs⟩
  · have hi : i < N.length := by rw [← hl2]; exact (List.getElem?_eq_some_iff.mp hw).1
    unfold startW at hw
    by_cases hk : i < ws.length
    · rw [List.getElem?_append_left (by rw [List.length_map]; exact hk), List.getElem?_map] at hw
      cases hq : ws[i]? with
      | none => rw [hq] at hw; cases hw
      | some w0 =>
        rw [hq] at hw
        cases hw
        obtain ⟨v, hv, hr⟩ := h.getV hq
        refine ⟨some v, ?_, sl_pm hr⟩
        unfold L2.start
        rw [List.getElem?_append_left (by rw [List.length_map, hvl]; exact hk), List.getElem?_map, hv]
        rfl
    · rw [List.getElem?_append_right (by rw [List.length_map]; omega)] at hw
      have := (List.mem_replicate.mp (List.mem_of_getElem? hw)).2
      subst this
      exact ⟨_, List.getElem?_eq_getElem (by rw [hlen]; exact hi), trivial⟩
  · rw [noOwn i w h1] at o1; cases o1
theorem bodyP {K : PySem.W.Frag} {H : Hp} {N : List Str} {vs : List V} {ws : List Wd} {Q : VK} {P : Wd → Prop} {ts : TS} (h : VrL K H vs ws) (q : ∀ v H' w, Ex H H' → Vw K H H' v w → P w → Q v H') (hl : ws.length ≤ N.length)
    (b : wS ⟨K, Wo0, H, N.length⟩ ts (startW N.length ws) () { nx := fun _ _ => P (.d .none), rt := fun w _ => P w }) : ts { nx := fun _ H' => Q .non H', rt := Q } (L2.start N vs) H := by
  refine b _ H _ (startR (ω := Wo0) True.intro (fun _ z => by cases z) h hl) (fun ρ' σ' H' g' R' z => q .non H' (.d .none) R'.ex.ex .non z) (fun w v H' g' e j hv z => q v H' w (ExM.ex e) hv z) (fun _ _ _ _ _ z => z) (fun _ _ _ _ _ z => z)
theorem bodyW {θ : Type} {K : PySem.W.Frag} {Ω : θ → Wo γ} {th : θ} {H : Hp} {N : List Str} {vs : List V} {ws : List Wd} {Q : VK} {P : Wd → γ → Prop} {ts : TS} (h : VrL K H vs ws) (j : (Ω th).J g H) (hs : ∀ a ∈ (Ω th).A, H a ≠ none) (q : ∀ v H' w g', ExM (Ω th).M H H' → (Ω th).J g' H' → Vw K H H' v w → P w g' → Q v H') (hl : ws.length ≤ N.length)
    (b : wS ⟨K, Ω th, H, N.length⟩ ts (startW N.length ws) g { nx := fun _ g' => P (.d .none) g', rt := P }) : ts { nx := fun _ H' => Q .non H', rt := Q } (L2.start N vs) H := by
  refine b _ H _ (startR j hs h hl) (fun ρ' σ' H' g' R' z => q .non H' (.d .none) g' R'.ex R'.j .non z) (fun w v H' g' e j hv z => q v H' w g' e j hv z) (fun _ _ _ _ _ z => z) (fun _ _ _ _ _ z => z)
end
end Kt

/-! Kt, part U: xs.extend(t), t a tuple; repr. -/
namespace Kt
open PySem PySem.Spec PyProof.Rows L2 Evl
theorem ext_tup (l b : Addr) (xs zs : Array Value) (n m : Nat) (dd : Option Addr) (sl : Array (Option Value)) (h1 : ¬ (!xs.isEmpty && Builtin.List.listTooLong (xs.size + zs.size)) = true) (h2 : xs.size ≤ sizeLine) (h3 : (xs ++ zs).size ≤ sizeLine + 1) :
    Meets (Builtin.«list.extend» ⟨[.ref l, .ref b], []⟩) (fun _ R s => (s.heap.get? l = some { cls := .type "list", dict := none, data := .seq xs n, slots := #[] } ∧ s.heap.get? b = some { cls := .type "tuple", dict := dd, data := .seq zs m, slots := sl }) ∧
      R (.ok (.ret Value.none)) { s with heap := s.heap.update l (Obj.mapSeq fun x => x ++ zs), toks := s.toks }) := by
  refine .of_wp fun prog w A R s h => ?_
  obtain ⟨hp, g, d, tk, os⟩ := s
  obtain ⟨⟨hl, hb⟩, h⟩ := h
  have f1 := AutoSeq1.idx_int
  have f2 := AutoSeq1.sub_tuple_tuple
  have f3 := AutoSeq1.sub_list_list
  have f4 := AutoSeq1.sub_tuple_list
  have f5 := AutoSeq1.sub_list_tuple
  wp_walk using (wpAny_updateSeq hl rfl (hz := h2) (_hz' := h3)), (AutoSeq1.wpAny_loadPart' hl), (AutoSeq1.wpAny_loadPart' hb)
  exact ⟨_, rfl, h⟩
section
variable {X : Cx}
def rExtT (K : PySem.W.Frag) : V → List V → Hp → VK → Prop := fun x vs H Q => ∃ l b xs zs, x = .ref l ∧ vs = [.ref b] ∧ H l = some (.lst xs) ∧ SqT K H b zs ∧ xs.length + zs.length ≤ sizeLine ∧ Q .non (upd H l (.lst (xs ++ zs)))
theorem mt_extT : MtM X "list.extend" (rExtT X.K) := by
  intro pins s σ H x vs v us Q I rx rv h
  obtain ⟨l, b, xs, zs, rfl, rfl, hH, hB, hz, q⟩ := h
  cases rx
  obtain ⟨u, rfl, ru⟩ := rv.one
  cases ru
  obtain ⟨z, its, n, r, hl, e⟩ := I.lstM hH
  obtain ⟨its2, r2, p2, hz2⟩ := I.tuple hB
  obtain ⟨o2, e2, c2, n2, d2⟩ := id p2
  have hl2 := r2.length
  have hsz : its.toArray.size + its2.toArray.size ≤ sizeLine := by rw [List.size_toArray, List.size_toArray]; omega
  have hlong : ¬ (!its.toArray.isEmpty && Builtin.List.listTooLong (its.toArray.size + its2.toArray.size)) = true := by
    rw [notLongL hsz, Bool.and_false]
    exact Bool.false_ne_true
  have eo : o2 = { cls := .type "tuple", dict := o2.dict, data := .seq its2.toArray n2, slots := o2.slots } := by
    cases o2
    cases c2
    cases d2
    rfl
  rw [eo] at e2
  refine call_meets F.slot_list_extend ⟨_, e, rfl⟩ F.entry_list_extend (F.args_list_extend_2 _ _) (ext_tup l b its.toArray its2.toArray n n2 _ _ hlong (by rw [List.size_toArray]; omega) (by rw [Array.size_append]; omega)) ⟨⟨e, e2⟩, ?_⟩
  refine ⟨.non, _, I.lset (its' := its ++ its2) hH e (by simp) (r.append r2) ?_, rfl, q⟩
  rw [List.length_append]
  omega
end
section
variable {γ : Type} {W : Wc γ} {ρ : List Wd} {g : γ} {O : WO γ} {te : TE} {i : Nat}
theorem wS_extT {xs : List PyData} (h : ρ[i]? = some (.o xs)) (hi : i < W.n) (q : wE W te ρ g fun w g1 => ∃ ds, w = .d (.tuple ds) ∧ Sz (xs.length + ds.length) (O.nx (ρ.set i (.o (xs ++ ds))) g1)) : wS W (tDrop (tBM W.K "list" (rExtT W.K) (tVar i) (tCons te tNil))) ρ g O := fun σ H D R kn _ _ _ => by
  obtain ⟨a, ys, h1, h2, h3, h4⟩ := RelN.own R h hi
  refine ⟨_, h1, .inl ⟨rfl, ys, sq_of h3⟩, q σ H _ R fun v H1 w g1 e j hv ⟨ds, ew, hz, z⟩ => ?_⟩
  subst ew
  have R1 := R.grow e j
  obtain ⟨a', ys', h1', h2', h3', h4'⟩ := RelN.own R1 h hi
  rw [h1] at h1'
  cases h1'
  obtain ⟨b, us, rfl, h5, h6⟩ := Tw.tupI hv
  exact ⟨a, b, ys', us, rfl, rfl, h3', h5, by rw [h4'.length, h6.length]; exact hz, kn _ σ _ g1 (RelN.putO R1 h hi h1 h2 h3' (h4'.app h6)) z⟩
/-- repr of data -/
def Smd (w dp : Nat) (d : PyData) (P : Prop) : Prop := Sm w dp d ∧ w ≤ 390000 ∧ dp ≤ 128 ∧ P
theorem wC_repr {K : PySem.W.Frag} {ds : List PyData} {w dp : Nat} {Q : Wd → Prop} (q : Smd w dp (.tuple ds) (Q (.d (.str (PyData.shown (.tuple ds)))))) : wC K (rReprD K) [.d (.tuple ds)] Q := fun H vs C hv k => by
  obtain ⟨v, rfl, h⟩ := vr1 hv
  obtain ⟨s, hw, hd, q⟩ := q
  have h' : Tw K H v (.tuple ds) := h
  obtain ⟨a, xs, rfl, h2, h3⟩ := Tw.tupI h'
  exact ⟨a, _, rfl, h'.dp s.cl, s.sh, s.cl, Nat.le_trans s.de hd, s.fits hw, k _ H _ (Ex.refl H) (show Vw K H H (.str _) (.d (.str _)) from .str _) q⟩
theorem wC_reprL {K : PySem.W.Frag} {x : Wd} {ds : List PyData} {w dp : Nat} {Q : Wd → Prop} (hx : x.tl = some ds) (q : Smd w dp (.list ds) (Q (.d (.str (PyData.shown (.list ds)))))) : wC K (rReprD K) [x] Q := fun H vs C hv k => by
  obtain ⟨v, rfl, h⟩ := vr1 hv
  obtain ⟨s, hw, hd, q⟩ := q
  obtain ⟨a, xs, rfl, h2, h3⟩ := tl_at h hx
  exact ⟨a, _, rfl, .lst (sq_of h2) (h3.dp (by have := s.cl; simpa only [PyData.canLay0] using this)), s.sh, s.cl, Nat.le_trans s.de hd, s.fits hw, k _ H _ (Ex.refl H) (show Vw K H H (.str _) (.d (.str _)) from .str _) q⟩
end
end Kt
namespace Kt
theorem ite_t {b : Bool} {A B : Prop} (h : b = true) (q : A) : if b = true then A else B := by rw [if_pos h]; exact q
theorem ite_f {b : Bool} {A B : Prop} (h : b = false) (q : B) : if b = true then A else B := by rw [if_neg (by rw [h]; decide)]; exact q
theorem ite_b {b : Bool} {A B : Prop} (q1 : b = true → A) (q2 : b = false → B) : if b = true then A else B := by cases b; exact q2 rfl; exact q1 rfl
theorem q_At {ds : List PySem.PyData} {i : Int} {d : PySem.PyData} {P : PySem.PyData → Prop} (e : L2.atI ds i = some d) (q : P d) : At ds i P := ⟨d, e, q⟩
theorem q_Cd {c P : Prop} (h : c) (q : P) : Cd c P := ⟨h, q⟩
theorem q_Fl {d : PySem.PyData} {ds : List PySem.PyData} {P : Prop} (h1 : flatD d = true) (h2 : ds.all flatD = true) (q : P) : Fl d ds P := ⟨h1, h2, q⟩
theorem q_shp {x y : PySem.PyData} {P : Prop} (h1 : PySem.SeqAt.shaped x = true) (h2 : PySem.SeqAt.shaped y = true) (q : P) : shp x y P := ⟨h1, h2, q⟩
end Kt
namespace Kt
open PySem L2
theorem cx_K {CX : CXT} {P : Program} {w : World} {K : PySem.W.Frag} {mg : Str → Option Value} {base : Heap} {N : List Str} {q : Str} {sc : Scope} {f : Addr} {cd : Value} {A : Around} {outer : List Env} {s : Shared} {H : Hp} {E : XK} : ((cxOf CX P w K mg base N q sc f cd A outer s H E).nox).K = K := rfl
end Kt
namespace Kt
open PySem L2
theorem at0 {α : Type} {a : α} {r : List α} : atI (a :: r) 0 = some a := atI_nat (j := 0) rfl
theorem at1 {α : Type} {a b : α} {r : List α} : atI (a :: b :: r) 1 = some b := atI_nat (j := 1) rfl
theorem at2 {α : Type} {a b c : α} {r : List α} : atI (a :: b :: c :: r) 2 = some c := atI_nat (j := 2) rfl
theorem at3 {α : Type} {a b c d : α} {r : List α} : atI (a :: b :: c :: d :: r) 3 = some d := atI_nat (j := 3) rfl
theorem cut_from {ds : List PyData} {k : Nat} (h : k ≤ ds.length) : cutD ds (some (k : Int)) none = ds.drop k := by
  unfold cutD
  have e1 : HT.sIx ds.length 0 (some (k : Int)) = k := (HT.sIx_nat _ _ k).trans (Nat.min_eq_left h)
  rw [e1, HT.sIx_none]
  exact List.take_of_length_le (by rw [List.length_drop]; omega)
theorem cut1 {a : PyData} {r : List PyData} : cutD (a :: r) (some 1) none = r := cut_from (k := 1) (by simp)
theorem cut2 {a b : PyData} {r : List PyData} : cutD (a :: b :: r) (some 2) none = r := cut_from (k := 2) (by simp)
theorem cut3 {a b c : PyData} {r : List PyData} : cutD (a :: b :: c :: r) (some 3) none = r := cut_from (k := 3) (by simp)
end Kt
namespace Kt
theorem wE_join {γ : Type} {W : Wc γ} {te : L2.TE} {ρ : List Wd} {g : γ} {Q : Wd → γ → Prop} (w0 : Wd) (h : wE W te ρ g fun w g1 => w = w0 ∧ g1 = g) (q : Q w0 g) : wE W te ρ g Q := h.mono fun w g1 z => by
  obtain ⟨rfl, rfl⟩ := z
  exact q
end Kt
namespace Kt
theorem wS_cut {γ : Type} {W : Wc γ} {t u : L2.TS} {ρ : List Wd} {g : γ} {O : WO γ} (Mid : List Wd → γ → Prop) (h1 : wS W t ρ g { O with nx := Mid }) (h2 : ∀ ρ' g', Mid ρ' g' → wS W u ρ' g' O) : wS W (L2.tSeq t u) ρ g O :=
  wS_seq (h1.mono (fun ρ g z => h2 ρ g z) (fun _ _ z => z) (fun _ _ z => z) (fun _ _ z => z))
end Kt
namespace Kt
open PySem PySem.Spec PyProof.Rows L2 Evl
section
variable {X : Cx}
/-- y = {k: v for ..} as a statement -/
theorem ps_setDc {i : Nat} {y : Str} {py : Pos} {kx vx tg iter : Expr} {ifs : List Expr} {scope : Scope} {own : List (Str × Nat)} {pos spos : Pos} {wi : TI} {g : TG} {tt : TT} {tk tv : TE} (hc : X.calm = true) (hN : X.N.Nodup) (hy : X.N[i]? = some y) (hyl : X.env.scope.names.lookup y = some .local)
    (hsw : swapsWith (.DictComp kx vx [⟨tg, iter, ifs, 0⟩] scope pos) (some (.Name y py)) spos.line X.env = pure true) (hi : PI X tg iter wi) (ok : BlkOk X.N X.env.scope scope own)
    (hg : ∀ (t : Shared) (G : Hp) (C : Addr) (cl : List (Str × Addr)) (fp : List Addr), PG (X.blk t G scope (compEnvC scope cl C X.env) fp) tg g) (ht : ∀ (t : Shared) (G : Hp) (C : Addr) (cl : List (Str × Addr)) (fp : List Addr), PTs (X.blk t G scope (compEnvC scope cl C X.env) fp) ifs tt)
    (hk : ∀ (t : Shared) (G : Hp) (C : Addr) (cl : List (Str × Addr)) (fp : List Addr), PE (X.blk t G scope (compEnvC scope cl C X.env) fp) kx tk) (he : ∀ (t : Shared) (G : Hp) (C : Addr) (cl : List (Str × Addr)) (fp : List Addr), PE (X.blk t G scope (compEnvC scope cl C X.env) fp) vx tv)
    (hs : ∀ x, foldedSetIterable iter X.env x = pure x := by intro _; rfl) : PS X (.Assign [.Name y py] (.DictComp kx vx [⟨tg, iter, ifs, 0⟩] scope pos) spos) (tAsg (tDc wi g tt tk tv (own.map (·.2))) (gName i)) := by
  constructor
  intro pins s σ H D I h0
  rw [exec_Assign_Name_used _ _ _ _ hsw]
  refine wpAny_bind (wpAny_standAt (wpAny_bind ?go))
  show wpAny _ X.A (do let _ ← comprehension (.DictComp kx vx [⟨tg, iter, ifs, 0⟩] scope pos) scope X.env (firstIterPos [⟨tg, iter, ifs, 0⟩] pos) newDict false (eval iter X.env) (some (assign (.Name y py) X.env))) _ _ s
  have h1 : tDc wi g tt tk tv (own.map (·.2)) σ H (fun x G => gName i x σ G D.nx) := h0
  refine wpAny_bind (thn (dc_core (Qf := fun _ t => SP X pins D .next t) hc hN I hi ok hg ht hk he hs h1 fun L C t m G J q hn f => ?usd) fun _ t hq => wpAny_pure (wpAny_pure hq))
  show wpAny _ _ (assign (.Name y py) X.env (.ref L)) _ _ _
  refine wpAny_assign_Name (store_ok2 (v := V.ref L) J hN hy (.inl hyl) rfl (fun t2 J2 ⟨a, sb, ha⟩ => ?here) (.inr hyl))
  obtain ⟨z0, z1, z2, z3, z4, z5⟩ := f
  have ne : C ≠ a := by
    rcases ha with e | e
    · rw [e]; exact z1
    · exact fun e2 => z4 y a e e2.symm
  exact ⟨m, hn.sameBut sb ne, fun h3 sb3 => ⟨_, G, J2.turned (t' := t2.toks) (fun b o hb e => (sb3.2 b hb).trans e) z0 z1 z3 z4 z5, q⟩⟩
theorem sw_dict {kx vx : Expr} {gs : List Comprehension} {scope : Scope} {pos py : Pos} {y : Str} {l : Nat} {env : Env} (hk : env.scope.kind = .function) (hy : env.scope.names.lookup y = some .local) (hl : (py.line == pos.line) = true)
    (ha : (scope.names.any fun (n, k) => n == y && (k == .local || k == .cell)) = false) : swapsWith (.DictComp kx vx gs scope pos) (some (.Name y py)) l env = pure true := by
  have k1 : env.kindOf y = some .local := hy
  have k2 : env.blockKind = .function := by
    unfold Env.blockKind
    rw [hk]
    rfl
  unfold swapsWith
  simp only [k2, k1, ha, Expr.pos, hl]
  rfl
end
end Kt
namespace Kt
open PySem PySem.Spec PyProof.Rows L2 Evl
section
variable {X : Cx} {s : Shared} {H : Hp} {sc : Scope} {env : Env} {fp : List Addr}
theorem ix_tupB : IxR (X.blk s H sc env fp) (rIxT X.K) := ix_tup
theorem ix_listB : IxR (X.blk s H sc env fp) (rIxL X.K) := ix_list
theorem call_lenB : CallR (X.blk s H sc env fp) (.builtin "len") (rLenO X.K) := call_lenO
theorem call_tupB : CallR (X.blk s H sc env fp) (.type "tuple") (rTupO X.K) := call_tupO
theorem op_inB : OpR (X.blk s H sc env fp) (compareOp .In) (rIn X.K false) := op_in_seq
theorem op_notInB : OpR (X.blk s H sc env fp) (compareOp .NotIn) (rIn X.K true) := op_notIn_seq
theorem op_catB : OpR (X.blk s H sc env fp) (binaryOp .Add) (rCatA X.K) := op_catA
theorem pg_tupB {es : List Expr} {n : Nat} {k : Nat} {pos : Pos} {t : TGs} (h : PG (X.blk s H sc env fp) (.Tuple es k pos) (gTup (X.blk s H sc env fp).K n t)) : PG (X.blk s H sc env fp) (.Tuple es k pos) (gTup X.K n t) := h
end
end Kt
namespace Kt
open PySem PySem.Spec PyProof.Rows L2 Evl
/-- i, j = a, b by way of a tuple: the values may be lists -/
theorem wS_parT {γ : Type} {W : Wc γ} {ρ : List Wd} {g : γ} {O : WO γ} {ta tb : TE} {i j n : Nat} (hi : i < W.n) (hj : j < W.n) (hn : n = 2) (q : wE W ta ρ g fun w1 g1 => wE W tb ρ g1 fun w2 g2 => O.nx ((ρ.set i w1.st).set j w2.st) g2) :
    wS W (tAsg (tTup (tCons ta (tCons tb tNil))) (gTup W.K n (gCons (gName i) (gCons (gName j) gNil)))) ρ g O := fun σ H D R kn _ _ _ => by
  subst hn
  refine q σ H _ R fun v1 H1 w1 g1 e1 j1 h1 q1 => ?_
  refine q1 σ H1 _ (R.grow e1 j1) fun v2 H2 w2 g2 e2 j2 h2 q2 => ?_
  refine ⟨Nat.le_of_ble_eq_true rfl, fun p hp => ⟨p, [v1, v2], rfl, st_of upd_same, rfl, v1, [v2], rfl, v2, [], rfl, rfl, ?_⟩⟩
  have R1 := RelN.store R e1 j1 h1 hi
  have R2 := RelN.store R1 e2 j2 h2 hj
  exact kn _ _ _ g2 (R2.grow (ExM.of (Ex.new hp)) (R2.stayG (Ex.new hp))) q2
end Kt

/-! Kt, part R: an own exception with one field: raising it, calling what may raise it. -/
namespace Kt
open PySem PySem.Spec PyProof.Rows L2 Evl
def spX (K : PySem.W.Frag) (C : Addr) (f : Str) (pre : List Wd → (Wd → Prop) → (PyData → Prop) → Prop) : Sp := fun vs H Q E => ∃ ws P PX, pre ws P PX ∧ VrL K H vs ws ∧ (∀ v H' w, Ex H H' → Vw K H H' v w → P w → Q v H') ∧
  ∀ (v : V) (d : Addr) (H' : Hp) (x : PyData), Ex H H' → Tw K H' v x → PX x → H' d = some (.xd [(f, v)]) → E (.ref C) (some d) H'
structure CalX (P : Program) (w : World) (K : PySem.W.Frag) (mg : Str → Option Value) (base : Heap) (k : Nat) (x : Str) (sp : Sp) : Prop where
  ex : ∃ (f : Addr) (fd : FuncData) (ps : List Str), FnOk P w K mg base (L2.CX P w) k f fd ps sp ∧ mg x = some (.ref f) ∧ PySem.W.keepIn K (.ref f) = true ∧ L2.Binds K fd ps []
theorem calX {P : Program} {w : World} {K : PySem.W.Frag} {mg : Str → Option Value} {base : Heap} {x : Str} {st : Stmt} {N ps : List Str} {k : Nat} {sp : Sp} (D : DefG K mg x st ps) (S : FnScope N ps (defScope st))
    (len : ∀ (vs : List V) (H : Hp) (Q : VK) (E : XK), sp vs H Q E → vs.length = ps.length)
    (hbody : ∀ (cdv : Value) (f : Addr) (A : Around) (outer : List Env) (s : Shared) (H : Hp) (vs : List V) (Q : VK) (E : XK), Room k (A.deeper (envOfC x (defScope st) s.heap.objs.size f cdv)) → sp vs H Q E →
      ∃ t, PSs (cxOf (L2.CX P w) P w K mg base N x (defScope st) f cdv A outer s H E) (defBody st) t ∧ t { nx := fun _ H' => Q .non H', rt := Q } (L2.start N vs) H) : CalX P w K mg base (k + 1) x sp := by
  obtain ⟨f, fd, F, m, b⟩ := D.ex
  exact ⟨f, fd, ps, F.okX S len (fun cdv A outer s0 H vs Q E hr h => hbody cdv f A outer s0 H vs Q E hr h), m, F.kp, b⟩
theorem cx_K2 {CX : CXT} {P : Program} {w : World} {K : PySem.W.Frag} {mg : Str → Option Value} {base : Heap} {N : List Str} {q : Str} {sc : Scope} {f : Addr} {cd : Value} {A : Around} {outer : List Env} {s : Shared} {H : Hp} {E : XK} : (cxOf CX P w K mg base N q sc f cd A outer s H E).K = K := rfl
theorem passE0 {X : Cx} : Passes (L2.CX X.prog X.w) X E0 := fun pins σ H s e s' I h => by
  obtain ⟨a, B, H', cls, d, h1, h2, h3, h4, h5, h6, h7, h8⟩ := h
  exact h8.elim
/-- a call of what may raise, where it doesn't -/
theorem pe_XO {X : Cx} {k j : Nat} {x : Str} {sp : Sp} {p pos : Pos} {e : Expr} {es : List Expr} {t : TA} (c : CalX X.prog X.w X.K X.mg X.base k x sp) (hr : Room j X.A) (hk : k ≤ j) (hg : Gl X x) (ha : PA X (e :: es) t) (hdb : (x == ("__debug__" : Str)) = false := by decide)
    (he : starEach (e :: es) X.env = (false, eval e X.env) :: starEach es X.env := by rfl) (hpl : (backTo pos (starEach es X.env)).any (·.1) = false := by rfl) : PE X (.Call (.Name x p) (e :: es) [] pos) (tPC sp t) := by
  obtain ⟨f, fd, ps, F, m, kp, b⟩ := c.ex
  have q := pe_call (p := p) (pos := pos) F (Room.mono hr hk) hg m kp b Paired.nil passE0 ha hdb he hpl
  refine ⟨fun pins s σ H Q I h => q.run pins s σ H Q I ?_⟩
  have e : (fun vs H1 => sp vs H1 Q E0) = fun vs H1 => sp (vs ++ []) H1 Q E0 := funext fun vs => funext fun H1 => by rw [List.append_nil]
  show t σ H (fun vs H1 => sp (vs ++ []) H1 Q E0)
  rw [← e]
  exact h
theorem wE_callX {γ : Type} {W : Wc γ} {ρ : List Wd} {g : γ} {t : TA} {Q : Wd → γ → Prop} {C : Addr} {f : Str} {pre : List Wd → (Wd → Prop) → (PyData → Prop) → Prop} (q : wA W t ρ g fun ws g1 => pre ws (fun w => Q w g1) fun _ => False) : wE W (tPC (spX W.K C f pre) t) ρ g Q := fun σ H D R k =>
  q σ H _ R fun vs H1 ws g1 e1 j1 hv q1 => ⟨ws, _, _, q1, hv, fun v H' w e2 hw hq => k v H' w g1 (e1.trans (ExM.of e2)) ((R.grow e1 j1).stayG e2) (Vw.back j1 e1 hw) hq, fun v d H' x _ _ z _ => z.elim⟩
def tRs (C : Addr) (sp : Sp) (t : TA) (E : XK) : TS := fun _ σ H => tMkO C sp [] t σ H fun cls d H' => E cls d H'
theorem ps_rs {X : Cx} {E : XK} {e : Expr} {pos : Pos} {C : Addr} {sp : Sp} {t : TA} (hc : X.calm = true) (h1 : Takes X fun cls d _ H => E cls d H) (h2 : PMk X e (tMkO C sp [] t)) : PS X (Stmt.Raise (some e) none pos) (tRs C sp t E) := ps_raise hc h1 h2
def spNR (C : Addr) (f : Str) : Sp := fun vs H Q _ => ∃ (a : Addr) (v : V), vs = [.ref a, v] ∧ H a = some (exo a C none) ∧ ∀ dx, H dx = none → dx ≠ a → Q .non (upd (upd H dx (exd dx [(f, v)])) a (exo a C (some dx)))
section
variable {K : PySem.W.Frag} {H0 : Hp} {n : Nat} {C : Addr} {f : Str} {ρ : List Wd} {O : WO Unit} {te : TE} {PX : PyData → Prop} {E : XK}
theorem wS_raise (hE : ∀ (v : V) (dd : Addr) (H' : Hp) (x : PyData), Ex H0 H' → Tw K H' v x → PX x → H' dd = some (.xd [(f, v)]) → E (.ref C) (some dd) H') (q : wE ⟨K, Wo0, H0, n⟩ te ρ () fun w _ => Dd PX w) :
    wS ⟨K, Wo0, H0, n⟩ (tRs C (spNR C f) (tCons te tNil) E) ρ () O := fun σ H D R _ _ _ _ => by
  refine q σ H _ R fun v H1 w1 g1 e1 j1 h1 ⟨x, ew, hx⟩ => ?_
  subst ew
  refine ⟨Nat.le_of_ble_eq_true rfl, fun a na => ⟨a, v, rfl, upd_same, fun dx ndx nxa => ?_⟩⟩
  have ndx' : H1 dx = none := (upd_ne nxa).symm.trans ndx
  refine ⟨rfl, dx, [(f, v)], upd_same, (upd_ne nxa).trans upd_same, ndx', ?_⟩
  have ex : Ex H1 (upd (del (upd (upd (upd H1 a (exo a C none)) dx (exd dx [(f, v)])) a (exo a C (some dx))) a) dx (.xd [(f, v)])) := fun b o hb => by
    have nb : b ≠ a := ne_of_none hb na
    have nbd : b ≠ dx := ne_of_none hb ndx'
    rw [upd_ne nbd, del_ne nb, upd_ne nb, upd_ne nbd, upd_ne nb]
    exact hb
  have R1 := R.grow e1 j1
  exact hE v dx _ x ((ExM.ex R1.ex).trans ex) (Tw.mono (Tx.ex ex) h1) hx upd_same
end
end Kt

/-! Kt, part Q: calls without arguments, weaker contracts, the world of draws and of a count. -/
namespace Kt
open PySem PySem.Spec PyProof.Rows L2 Evl
section
variable {X : Cx} {k j : Nat} {x : Str} {sp : Sp} {p pos : Pos}
theorem pe_WG0 (c : CalG X.prog X.w X.K X.mg X.base k x sp) (hA : X.A.guards = some []) (hr : Room j X.A) (hk : k ≤ j) (hg : Gl X x) (hdb : (x == ("__debug__" : Str)) = false := by decide) : PE X (.Call (.Name x p) [] [] pos) (tPC sp tNil) := by
  obtain ⟨f, fd, ps, F, m, kp, b⟩ := c.ex
  exact ⟨fun pins s σ H Q I h => wpAny_Call_Name_kw (ld_glob I hg m (PySem.W.callWith_K0 I.kIn kp (run_fnG F hA (hr.mono hk) b I .nil h)) hdb)⟩
end
section
variable {P : Program} {w : World} {K : PySem.W.Frag} {mg : Str → Option Value} {base : Heap} {k : Nat} {x : Str} {sp sp' : Sp}
theorem CalG.weak (c : CalG P w K mg base k x sp) (h : ∀ vs H Q E, sp' vs H Q E → sp vs H Q E) : CalG P w K mg base k x sp' := by
  obtain ⟨f, fd, ps, F, m, kp, b⟩ := c.ex
  exact ⟨f, fd, ps, ⟨fun vs H Q E z => F.len vs H Q E (h _ _ _ _ z), fun A outer s H args us vs Q E h1 h2 h3 h4 h5 h6 => F.run A outer s H args us vs Q E h1 h2 h3 h4 h5 (h _ _ _ _ h6)⟩, m, kp, b⟩
end
/-! ### the world -/
abbrev kCount : Key := Sum.inr "count"
theorem n_lk : ¬ kLeft = kCount := sum_ne (by decide +kernel)
def Cnt (H : Hp) (s : Addr) (k : Int) : Prop := H s = some (.dK [(kCount, .int k)])
structure Dw where
  m : Addr
  c : Addr
  s : Addr
  stat : Bool          -- the cells stand in what is written
def CelB (K : PySem.W.Frag) (stat : Bool) (H : Hp) (c : Addr) : Prop := if stat = true then (∀ H' : Hp, Cel K H' c) else ∃ ns : List Int, Rd H c (.lst (ns.map V.int)) ∧ 0 < ns.length ∧ ns.length ≤ 1000
theorem CelB.cel {K : PySem.W.Frag} {b : Bool} {H : Hp} {c : Addr} (h : CelB K b H c) : Cel K H c := by
  unfold CelB at h
  cases b with
  | true => exact (show ∀ H' : Hp, Cel K H' c from h) H
  | false =>
    obtain ⟨ns, h1, h2⟩ := (show ∃ ns : List Int, Rd H c (.lst (ns.map V.int)) ∧ 0 < ns.length ∧ ns.length ≤ 1000 from h)
    exact ⟨ns, .inl h1, h2⟩
theorem Cel.toB {K : PySem.W.Frag} {H : Hp} {c : Addr} (h : Cel K H c) : ∃ b, CelB K b H c ∧ (b = false → H c ≠ none) := by
  obtain ⟨ns, h1, h2⟩ := h
  rcases h1 with h1 | h1
  · refine ⟨false, ⟨ns, h1, h2⟩, fun _ => ?_⟩
    rcases h1 with h1 | ⟨o, h1⟩ <;> rw [h1] <;> exact fun z => by cases z
  · exact ⟨true, fun H' => ⟨ns, .inr h1, h2⟩, fun z => by cases z⟩
def Dw.J (K : PySem.W.Frag) (t : Dw) (g : Nat × Nat) (H : Hp) : Prop := Drw H t.m t.c g.1 ∧ CelB K t.stat H t.c ∧ Cnt H t.s g.2
theorem Dw.ms {K : PySem.W.Frag} {t : Dw} {g : Nat × Nat} {H : Hp} (j : t.J K g H) : t.m ≠ t.s := fun e => by
  obtain ⟨d, _, c⟩ := j
  obtain ⟨kvs, l, sd, sp, h1, h2, h3, _⟩ := d.ex
  unfold Cnt at c
  rw [← e, h1] at c
  cases c
  have : valV [(kCount, V.int (g.2 : Int))] kLeft = none := by
    unfold valV
    simp
    decide +kernel
  rw [this] at h3
  cases h3
def Om (K : PySem.W.Frag) (t : Dw) : Wo (Nat × Nat) where
  M := [t.m, t.s]
  A := if t.stat = true then [t.m, t.s] else [t.m, t.s, t.c]
  J := t.J K
  sub := fun a h => by
    split
    · exact h
    · rcases List.mem_cons.mp h with h | h
      · rw [h]; simp
      · rw [List.mem_singleton.mp h]; simp
  dic := fun g H a j h => by
    obtain ⟨d, _, c⟩ := j
    rcases List.mem_cons.mp h with h | h
    · rw [h]; exact d.at
    · rw [List.mem_singleton.mp h]; exact ⟨_, c⟩
  stay := fun g H H' j h => by
    obtain ⟨d, cc, c⟩ := j
    have hm : t.m ∈ (if t.stat = true then [t.m, t.s] else [t.m, t.s, t.c]) := by split <;> simp
    have hs : t.s ∈ (if t.stat = true then [t.m, t.s] else [t.m, t.s, t.c]) := by split <;> simp
    refine ⟨?_, ?_, h _ _ hs c⟩
    · obtain ⟨kvs, l, sd, sp, h1, h2⟩ := d.ex
      exact ⟨kvs, l, sd, sp, h _ _ hm h1, h2⟩
    · cases hb : t.stat with
      | true =>
        rw [hb] at cc
        exact (show ∀ H' : Hp, Cel K H' t.c from cc)
      | false =>
        rw [hb] at cc
        obtain ⟨ns, h1, h2⟩ := (show ∃ ns : List Int, Rd H t.c (.lst (ns.map V.int)) ∧ 0 < ns.length ∧ ns.length ≤ 1000 from cc)
        have hc : t.c ∈ (if t.stat = true then [t.m, t.s] else [t.m, t.s, t.c]) := by rw [hb, if_neg (by decide)]; simp
        refine ⟨ns, ?_, h2⟩
        rcases h1 with h1 | ⟨o, h1⟩
        · exact .inl (h _ _ hc h1)
        · exact .inr ⟨o, h _ _ hc h1⟩
def spDr (K : PySem.W.Frag) : Sp := fun vs H Q _ => ∃ (m c : Addr) (b : Int) (n : Nat), vs = [.ref m, .int b] ∧ Drw H m c n ∧ Cel K H c ∧ n < 1000000 ∧ 0 < b ∧ b ≤ 1000000 ∧
  ∀ (r : Int) (H' : Hp), 0 ≤ r → r < b → Keeps m H H' → Drw H' m c (n + 1) → Q (.int r) H'
theorem vrz {K : PySem.W.Frag} {H : Hp} {v u : V} (h : Vr K H v (.z u)) : v = u := h
theorem Dw.drawn {K : PySem.W.Frag} {t : Dw} {g : Nat × Nat} {H H' : Hp} (j : t.J K g H) (k : Keeps t.m H H') (d : Drw H' t.m t.c (g.1 + 1)) : ExM (Om K t).M H H' ∧ (Om K t).J (g.1 + 1, g.2) H' := by
  have ms := Dw.ms j
  obtain ⟨d0, cc, c⟩ := j
  refine ⟨fun b o hb ho => k b o (fun e => hb (by rw [e]; show t.m ∈ [t.m, t.s]; simp)) ho, d, ?_, k _ _ (fun e => ms e.symm) c⟩
  cases hb : t.stat with
  | true =>
    rw [hb] at cc
    exact (show ∀ H' : Hp, Cel K H' t.c from cc)
  | false =>
    rw [hb] at cc
    obtain ⟨ns, h1, h2⟩ := (show ∃ ns : List Int, Rd H t.c (.lst (ns.map V.int)) ∧ 0 < ns.length ∧ ns.length ≤ 1000 from cc)
    obtain ⟨kvs, hm⟩ := d0.at
    refine ⟨ns, ?_, h2⟩
    rcases h1 with h1 | ⟨o, h1⟩
    · exact .inl (k _ _ (ne_of h1 hm (fun z => by cases z)) h1)
    · exact .inr ⟨o, k _ _ (ne_of h1 hm (fun z => by cases z)) h1⟩
def prDraw (t : Dw) : List Wd → Nat × Nat → (Wd → Nat × Nat → Prop) → Prop := fun ws g P => ∃ b : Int, ws = [.z (.ref t.m), .d (.int b)] ∧ g.1 < 1000000 ∧ 0 < b ∧ b ≤ 1000000 ∧ ∀ r : Int, 0 ≤ r → r < b → P (.d (.int r)) (g.1 + 1, g.2)
theorem vr2 {K : PySem.W.Frag} {H : Hp} {vs : List V} {a b : Wd} (h : VrL K H vs [a, b]) : ∃ v u, vs = [v, u] ∧ Vr K H v a ∧ Vr K H u b := by
  cases h with
  | cons h1 h => cases h with
    | cons h2 h => cases h; exact ⟨_, _, rfl, h1, h2⟩
theorem spDr_W {K : PySem.W.Frag} {vs : List V} {H : Hp} {Q : VK} {E : XK} (h : spW K (Om K) prDraw vs H Q E) : spDr K vs H Q E := by
  obtain ⟨t, ws, g, P, ⟨b, rfl, g1, b0, b1, p⟩, hv, j, hs, q⟩ := h
  obtain ⟨v, u, rfl, h1, h2⟩ := vr2 hv
  obtain rfl := vrz h1
  cases (show Tw K H u (.int b) from h2)
  refine ⟨t.m, t.c, b, g.1, rfl, j.1, j.2.1.cel, g1, b0, b1, fun r H' r0 r1 k d => ?_⟩
  obtain ⟨e, j'⟩ := Dw.drawn j k d
  exact q _ H' (.d (.int r)) _ e j' (Tw.int r) (p r r0 r1)
def prOf (t : Dw) : List Wd → Nat × Nat → (Wd → Nat × Nat → Prop) → Prop := fun ws g P => ∃ (x : Wd) (ds : List PyData), ws = [.z (.ref t.m), x] ∧ x.tl = some ds ∧ g.1 < 1000000 ∧ 0 < ds.length ∧ ds.length < 1000000 ∧ ∀ (i : Nat) (d : PyData), ds[i]? = some d → P (.d d) (g.1 + 1, g.2)
theorem spOf_W {K : PySem.W.Frag} {vs : List V} {H : Hp} {Q : VK} {E : XK} (h : spW K (Om K) prOf vs H Q E) : spOf K vs H Q E := by
  obtain ⟨t, ws, g, P, ⟨x, ds, rfl, hx, g1, b0, b1, p⟩, hv, j, hs, q⟩ := h
  obtain ⟨v, u, rfl, h1, h2⟩ := vr2 hv
  obtain rfl := vrz h1
  obtain ⟨a, xs, rfl, h3, h4⟩ := tl_at h2 hx
  have hl := h4.length
  refine ⟨t.m, t.c, a, xs, g.1, rfl, sq_of h3, by omega, by omega, j.1, j.2.1.cel, g1, fun i v H' hi k d => ?_⟩
  obtain ⟨e, j'⟩ := Dw.drawn j k d
  obtain ⟨dd, hd, hw⟩ := h4.getV hi
  exact q _ H' (.d dd) _ e j' (hw.mono ((Om K t).tx j e)) (p i dd hd)
/-! ### the count -/
def spNew : Sp := fun vs H Q _ => ∃ (s : Addr) (k : Nat), vs = [.ref s] ∧ Cnt H s k ∧ Q (.int k) (upd H s (.dK [(kCount, .int (k + 1 : Nat))]))
def prNew (t : Dw) : List Wd → Nat × Nat → (Wd → Nat × Nat → Prop) → Prop := fun ws g P => ws = [.z (.ref t.s)] ∧ P (.d (.int g.2)) (g.1, g.2 + 1)
theorem spNew_W {K : PySem.W.Frag} {vs : List V} {H : Hp} {Q : VK} {E : XK} (h : spW K (Om K) prNew vs H Q E) : spNew vs H Q E := by
  obtain ⟨t, ws, g, P, ⟨rfl, p⟩, hv, j, hs, q⟩ := h
  obtain ⟨v, rfl, h1⟩ := vr1 hv
  obtain rfl := vrz h1
  have ms := Dw.ms j
  obtain ⟨d, cc, c⟩ := j
  have c0 : H t.s = some (.dK [(kCount, .int (g.2 : Int))]) := c
  refine ⟨t.s, g.2, rfl, c, q _ _ (.d (.int g.2)) (g.1, g.2 + 1) (fun b o hb ho => (upd_ne (fun e => hb (by rw [e]; show t.s ∈ [t.m, t.s]; simp))).trans ho) ⟨d.oth ms, ?_, upd_same⟩ (Tw.int _) p⟩
  cases hb : t.stat with
  | true =>
    rw [hb] at cc
    exact (show ∀ H' : Hp, Cel K H' t.c from cc)
  | false =>
    rw [hb] at cc
    obtain ⟨ns, h1, h2⟩ := (show ∃ ns : List Int, Rd H t.c (.lst (ns.map V.int)) ∧ 0 < ns.length ∧ ns.length ≤ 1000 from cc)
    refine ⟨ns, ?_, h2⟩
    rcases h1 with h1 | ⟨o, h1⟩
    · exact .inl ((upd_ne (ne_of h1 c0 (fun z => by cases z))).trans h1)
    · exact .inr ⟨o, (upd_ne (ne_of h1 c0 (fun z => by cases z))).trans h1⟩
end Kt
namespace Kt
open PySem PySem.Spec PyProof.Rows L2 Evl
/-- i, j = a, b, with lists -/
theorem wS_parV {γ : Type} {W : Wc γ} {ρ : List Wd} {g : γ} {O : WO γ} {ta tb : TE} {i j : Nat} (hi : i < W.n) (hj : j < W.n) (q : wE W ta ρ g fun w1 g1 => wE W tb ρ g1 fun w2 g2 => O.nx ((ρ.set i w1.st).set j w2.st) g2) :
    wS W (tPar i j (tCons ta (tCons tb tNil))) ρ g O := fun σ H D R kn _ _ _ => by
  refine q σ H _ R fun v1 H1 w1 g1 e1 j1 h1 q1 => ?_
  refine q1 σ H1 _ (R.grow e1 j1) fun v2 H2 w2 g2 e2 j2 h2 q2 => ?_
  have R1 := RelN.store R e1 j1 h1 hi
  exact ⟨v1, v2, rfl, kn _ _ _ g2 (RelN.store R1 e2 j2 h2 hj) q2⟩
end Kt

/-! Kt, part L: defs that hand on lambdas. -/
namespace Kt
open PySem PySem.Spec PyProof.Rows L2 Evl
section
variable {P : Program} {w : World} {K : PySem.W.Frag} {mg : Str → Option Value} {base : Heap}
theorem FunGc {x qual : Str} {st : Stmt} {f : Addr} {fd : FuncData} {N ps : List Str} {k : Nat} {sp : Sp} (F : Fun K x qual st f fd) (S : FnScope N ps (defScope st))
    (len : ∀ vs H Q E, sp vs H Q E → vs.length = ps.length)
    (hbody : ∀ (cdv : Value), PySem.W.codeIn K cdv qual = true → fd.code = cdv → ∀ (A : Around) (outer : List Env) (s : Shared) (H : Hp) (vs : List V) (Q : VK) (E : XK), A.guards = some [] → Room k (A.deeper (envOfC qual (defScope st) s.heap.objs.size f cdv)) → sp vs H Q E →
      ∃ t, PSs (cxOf CX0 P w K mg base N qual (defScope st) f cdv A outer s H E).nox (defBody st) t ∧ t { nx := fun _ H' => Q .non H', rt := Q } (start N vs) H) : FnG P w K mg base CX0 (k + 1) f fd ps sp := by
  obtain ⟨oc, od, kV, doc, pm, an, cdv, ct, osl, rfl, lk, hcd⟩ := F.ex
  refine ⟨len, ?_⟩
  intro A outer s H args us vs Q E hg hr e0 hb r hsp
  have keepB : ∀ b o, base.get? b = some o → s.heap.get? b = some o := fun b o e => (e0.bs b o e).1
  have KX := e0.mod.kin.keeps keepB
  have lim := e0.mod.nolimit.keeps keepB
  refine codeAny_call_function hr.depth (KX _ _ lk) rfl S.co S.gen rfl (PySem.W.codeRec_of KX hcd) (hb _ _ _ _ ?_)
  refine wpAny_newFunctionEnv_cells S.kind (fun y hy => ?_) fun env he s1 x1 => ?_
  · obtain ⟨n, v⟩ := y
    exact (S.par n (List.of_mem_zip hy).1).imp id fun q => ⟨q, PySem.W.cellsFrom_some _ _ _ (.inl q)⟩
  subst he
  refine ⟨lim.keeps x1.toInCall.keep, codeAny_func ?_⟩
  obtain ⟨t, ht, hq⟩ := hbody cdv hcd rfl A outer s H vs Q E hg (hr.deeper _) hsp
  refine wpAny_mono (ht.nox.run [] s1 (start N vs) H _ (inv_start (P := P) (w := w) S hr.hd e0 (len _ _ _ _ hsp) r x1) hq) (fun fl s' hs => ?_) fun _ _ hs => hs
  cases fl with
  | ret u =>
    obtain ⟨v, σ', H', J, rv, q⟩ := hs
    exact ⟨v, H', J.os, J.bare, J.base, J.hok, rv, q⟩
  | next =>
    obtain ⟨σ', H', J, q⟩ := hs
    exact ⟨V.non, H', J.os, J.bare, J.base, J.hok, rfl, q⟩
  | brk =>
    obtain ⟨_, _, _, q⟩ := hs
    exact q.elim
  | cont =>
    obtain ⟨_, _, _, q⟩ := hs
    exact q.elim

end
theorem pss_len {X : Cx} {ss : List Stmt} {t : TS} (h : PSs X ss t) : PSs X ss (fun D σ H => σ.length = X.N.length → t D σ H) := ⟨fun pins s σ H D I z => h.run pins s σ H D I (z I.len)⟩
/-- what the handler of one clause is left with -/
def EHd (C : Addr) (f : Str) (Q : VK) : XK := fun cls d H' => cls = .ref C ∧ ∃ dd v, d = some dd ∧ H' dd = some (.xd [(f, v)]) ∧ ∀ p, H' p = none → Q (.ref p) (upd H' p (.tup [.str "gone", v]))
def TTh (C : Addr) (f : Str) : (XK → Hp → VK → Prop) → Hp → VK → Prop := fun tl H Q => ∀ (E : XK) (R : VK), (∀ cls d H', EHd C f Q cls d H' → E cls d H') → (∀ v H1, (∀ l, H1 l = none → Q (.ref l) (upd H1 l (.lst [v]))) → R v H1) → tl E H R
end Kt
namespace Kt
open PySem PySem.Spec PyProof.Rows L2 Evl
/-! a body whose end is told by hand -/
def wX {γ : Type} (W : Wc γ) (ts : TS) (ρ : List Wd) (g : γ) (D : Ends) : Prop := ∀ (σ : L2.St) (H : Hp), W.R H g σ ρ → ts D σ H
def RTx {γ : Type} (W : Wc γ) (D : Ends) : Wd → γ → Prop := fun w g' => ∀ (v : V) (H' : Hp), ExM W.ω.M W.H0 H' → W.ω.J g' H' → Vw W.K W.H0 H' v w → D.rt v H'
theorem wX_seq {γ : Type} {W : Wc γ} {t u : TS} {ρ : List Wd} {g : γ} {D : Ends} (h : wS W t ρ g { nx := fun ρ' g' => wX W u ρ' g' D, rt := RTx W D }) : wX W (tSeq t u) ρ g D := fun σ H R =>
  h σ H { D with nx := fun σ' H' => u D σ' H' } R (fun ρ' σ' H' g' R' z => z σ' H' R') (fun w v H' g' e j hv z => z v H' e j hv) (fun _ _ _ _ _ z => z.elim) (fun _ _ _ _ _ z => z.elim)
theorem wX_body {γ : Type} {K : PySem.W.Frag} {ω : Wo γ} {H : Hp} {N : List Str} {vs : List V} {ws : List Wd} {ts : TS} {g : γ} {D : Ends} (h : VrL K H vs ws) (j : ω.J g H) (hs : ∀ a ∈ ω.A, H a ≠ none) (hl : ws.length ≤ N.length) (b : wX ⟨K, ω, H, N.length⟩ ts (startW N.length ws) g D) : ts D (L2.start N vs) H :=
  b _ H (startR j hs h hl)
/-! heaps of which only tables and the objects of M may have changed -/
def ExN (M : List Addr) (H H' : Hp) : Prop := ∀ b o, b ∉ M → H b = some o → (∀ ps, o ≠ .tbl ps) → H' b = some o
theorem ExN.ofM {M : List Addr} {H H' : Hp} (e : ExM M H H') : ExN M H H' := fun b o h1 h2 _ => e b o h1 h2
theorem ExN.ofE {M : List Addr} {H H' : Hp} (e : Ex H H') : ExN M H H' := fun b o _ h2 _ => e b o h2
theorem ExN.ofX {M : List Addr} {H H' : Hp} (e : LamX.ExtN H H') : ExN M H H' := fun b o _ h2 h3 => e b o h2 h3
theorem ExN.trans {M : List Addr} {H H1 H2 : Hp} (a : ExN M H H1) (b : ExN M H1 H2) : ExN M H H2 := fun c o h1 h2 h3 => b c o h1 (a c o h1 h2 h3) h3
theorem ExtN.tx {H H' : Hp} (e : LamX.ExtN H H') : Tx H H' := ⟨fun p xs h => e p _ h (fun _ z => by cases z), fun p u xs h => e p _ h (fun _ z => by cases z), fun p C dx fs h => e p _ h (fun _ z => by cases z)⟩
theorem Wo.tabs {γ : Type} {ω : Wo γ} {g : γ} {H H' : Hp} {T : List (Addr × Str)} (j : ω.J g H) (e : ExM ω.M H H') (t : LamX.Tabs T H) : LamX.Tabs T H' := fun p hp => by
  obtain ⟨ps, h1, h2, h3⟩ := t p hp
  have ne : ∀ (b : Addr) (o : HO), H b = some o → (∀ kvs, o ≠ .dK kvs) → b ∉ ω.M := fun b o h n z => by
    obtain ⟨kvs, q⟩ := ω.dic g H b j z
    rw [h] at q
    exact n kvs (Option.some.inj q)
  refine ⟨ps, e _ _ (ne _ _ h1 (fun _ z => by cases z)) h1, h2, fun pos cv hcv => ?_⟩
  obtain ⟨c, e1, e2⟩ := h3 pos cv hcv
  exact ⟨c, e1, e _ _ (ne _ _ e2 (fun _ z => by cases z)) e2⟩
theorem tabs_ex {H H' : Hp} {T : List (Addr × Str)} (e : Ex H H') (t : LamX.Tabs T H) : LamX.Tabs T H' := fun p hp => by
  obtain ⟨ps, h1, h2, h3⟩ := t p hp
  refine ⟨ps, e _ _ h1, h2, fun pos cv hcv => ?_⟩
  obtain ⟨c, e1, e2⟩ := h3 pos cv hcv
  exact ⟨c, e1, e _ _ e2⟩
end Kt
namespace Kt
open PySem PySem.Spec PyProof.Rows L2 Evl
/-- a def of the module's text whose code object is told -/
structure DefT (K : PySem.W.Frag) (mg : Str → Option Value) (x : Str) (st : Stmt) (ps : List Str) (c : Addr) : Prop where
  ex : ∃ (f : Addr) (fd : FuncData), Fun K x x st f fd ∧ mg x = some (.ref f) ∧ Binds K fd ps [] ∧ fd.code = .ref c
theorem calT {P : Program} {w : World} {K : PySem.W.Frag} {mg : Str → Option Value} {base : Heap} {x : Str} {st : Stmt} {N ps : List Str} {k : Nat} {sp : Sp} {c : Addr} (D : DefT K mg x st ps c) (S : FnScope N ps (defScope st)) (len : ∀ vs H Q E, sp vs H Q E → vs.length = ps.length)
    (hbody : ∀ (f : Addr) (A : Around) (outer : List Env) (s : Shared) (H : Hp) (vs : List V) (Q : VK) (E : XK), A.guards = some [] → Room k (A.deeper (envOfC x (defScope st) s.heap.objs.size f (.ref c))) → sp vs H Q E →
      ∃ t, PSs (cxOf CX0 P w K mg base N x (defScope st) f (.ref c) A outer s H E).nox (defBody st) t ∧ t { nx := fun _ H' => Q .non H', rt := Q } (start N vs) H) : CalG P w K mg base (k + 1) x sp := by
  obtain ⟨f, fd, F, m, b, hc⟩ := D.ex
  exact ⟨f, fd, ps, FunGc F S len fun cdv _ e => by
    rw [hc] at e
    subst e
    exact hbody f, m, F.kp, b⟩
end Kt

/-! Kt, part M: dicts that callers hand on: worlds of one and of two dicts. -/
namespace Kt
open PySem PySem.Spec PyProof.Rows L2 Evl
/-- at a stands a dict that holds kvs -/
def DkAt (K : PySem.W.Frag) (H : Hp) (a : Addr) (kvs : List (Key × PyData)) : Prop := ∃ ks, H a = some (.dK ks) ∧ KwL K H ks kvs
theorem DkAt.put {K : PySem.W.Frag} {H : Hp} {a b : Addr} {o : List (Key × V)} {kvs : List (Key × PyData)} (h : DkAt K H b kvs) (n : b ≠ a) (ha : ∃ z, H a = some (.dK z)) : DkAt K (upd H a (.dK o)) b kvs := by
  obtain ⟨ks, h1, h2⟩ := h
  obtain ⟨z, ha⟩ := ha
  refine ⟨ks, (upd_ne n).trans h1, h2.mono ⟨fun p xs h => (upd_ne (ne_of h ha (fun y => by cases y))).trans h, fun p u xs h => (upd_ne (ne_of h ha (fun y => by cases y))).trans h, fun p C dx fs h => (upd_ne (ne_of h ha (fun y => by cases y))).trans h⟩⟩
theorem dk_tx {H : Hp} {a : Addr} {z o : List (Key × V)} (ha : H a = some (.dK z)) : Tx H (upd H a (.dK o)) := ⟨fun p xs h => (upd_ne (ne_of h ha (fun y => by cases y))).trans h, fun p u xs h => (upd_ne (ne_of h ha (fun y => by cases y))).trans h, fun p C dx fs h => (upd_ne (ne_of h ha (fun y => by cases y))).trans h⟩
theorem DkAt.stay {K : PySem.W.Frag} {H H' : Hp} {a : Addr} {kvs : List (Key × PyData)} (h : DkAt K H a kvs) (tx : Tx H H') (e : ∀ o, H a = some o → H' a = some o) : DkAt K H' a kvs := by
  obtain ⟨ks, h1, h2⟩ := h
  exact ⟨ks, e _ h1, h2.mono tx⟩
/-- the world of two dicts; what they hold changes; tuples stay, so what the dicts hold is told by numbers and truths alone -/
def flatK (kvs : List (Key × PyData)) : Prop := ∀ kv ∈ kvs, flatD kv.2 = true
theorem tw_flat {K : PySem.W.Frag} {H H' : Hp} {v : V} {d : PyData} (fd : flatD d = true) (a : Tw K H v d) : Tw K H' v d := by
  cases a with
  | non => exact .non
  | bl b => exact .bl b
  | int i => exact .int i
  | str x => exact .str x
  | tup h t => cases fd
  | obj h t => cases fd
theorem kw_flat {K : PySem.W.Frag} {H H' : Hp} {ks : List (Key × V)} {kvs : List (Key × PyData)} (f : flatK kvs) (w : KwL K H ks kvs) : KwL K H' ks kvs := by
  induction w with
  | nil => exact .nil
  | cons a t ih => exact .cons (tw_flat (f _ (List.mem_cons_self)) a) (ih fun kv h => f kv (List.mem_cons_of_mem _ h))
structure Da where
  a : Addr
  b : Addr
abbrev Gd : Type := List (Key × PyData) × List (Key × PyData)
def DW (K : PySem.W.Frag) (t : Da) : Wo Gd where
  M := [t.a, t.b]
  A := [t.a, t.b]
  J := fun g H => t.a ≠ t.b ∧ flatK g.1 ∧ flatK g.2 ∧ DkAt K H t.a g.1 ∧ DkAt K H t.b g.2
  sub := fun a h => h
  dic := fun g H a j h => by
    obtain ⟨_, _, _, ⟨k1, h1, _⟩, ⟨k2, h2, _⟩⟩ := j
    rcases List.mem_cons.mp h with h | h
    · rw [h]; exact ⟨k1, h1⟩
    · rw [List.mem_singleton.mp h]; exact ⟨k2, h2⟩
  stay := fun g H H' j h => by
    obtain ⟨ne, f1, f2, ⟨k1, h1, w1⟩, ⟨k2, h2, w2⟩⟩ := j
    exact ⟨ne, f1, f2, ⟨k1, h _ _ (by simp) h1, kw_flat f1 w1⟩, ⟨k2, h _ _ (by simp) h2, kw_flat f2 w2⟩⟩
/-- a dict of the world: which, what it holds, what is left when it holds another thing -/
structure Lens (K : PySem.W.Frag) (ω : Wo Gd) (a : Addr) (get : Gd → List (Key × PyData)) (put : Gd → List (Key × PyData) → Gd) : Prop where
  at_ : ∀ g H, ω.J g H → DkAt K H a (get g)
  inM : a ∈ ω.M
  put_ : ∀ g H ks kvs, ω.J g H → flatK kvs → KwL K H ks kvs → ω.J (put g kvs) (upd H a (.dK ks))
  flat : ∀ g H, ω.J g H → flatK (get g)
theorem lens1 {K : PySem.W.Frag} {t : Da} : Lens K (DW K t) t.a (·.1) (fun g k => (k, g.2)) := by
  refine ⟨fun g H j => j.2.2.2.1, by show t.a ∈ [t.a, t.b]; simp, fun g H ks kvs j f w => ?_, fun g H j => j.2.1⟩
  obtain ⟨ne, f1, f2, ⟨k1, h1, w1⟩, h2⟩ := j
  exact ⟨ne, f, f2, ⟨ks, upd_same, kw_flat f w⟩, h2.put (fun z => ne z.symm) ⟨_, h1⟩⟩
theorem lens2 {K : PySem.W.Frag} {t : Da} : Lens K (DW K t) t.b (·.2) (fun g k => (g.1, k)) := by
  refine ⟨fun g H j => j.2.2.2.2, by show t.b ∈ [t.a, t.b]; simp, fun g H ks kvs j f w => ?_, fun g H j => j.2.2.1⟩
  obtain ⟨ne, f1, f2, h1, ⟨k2, h2, w2⟩⟩ := j
  exact ⟨ne, f1, f, h1.put ne ⟨_, h2⟩, ⟨ks, upd_same, kw_flat f w⟩⟩
theorem flatK_put {kvs : List (Key × PyData)} {k : Key} {d : PyData} (f : flatK kvs) (fd : flatD d = true) : flatK (kPut kvs k d) := by
  intro kv h
  unfold kPut at h
  split at h
  · obtain ⟨q, hq, e⟩ := List.mem_map.mp h
    split at e
    · rw [← e]; exact fd
    · rw [← e]; exact f q hq
  · rcases List.mem_append.mp h with h | h
    · exact f kv h
    · rw [List.mem_singleton.mp h]; exact fd
section
variable {K : PySem.W.Frag} {ω : Wo Gd} {H0 : Hp} {n i : Nat} {a : Addr} {get : Gd → List (Key × PyData)} {put : Gd → List (Key × PyData) → Gd} {ρ : List Wd} {g : Gd} {tk tv : TE} {Q : Wd → Gd → Prop}
/-- d.get(k, x) -/
theorem wE_zget2 (L : Lens K ω a get put) (h : ρ[i]? = some (.z (.ref a))) (hi : i < n) (q : wE ⟨K, ω, H0, n⟩ tk ρ g fun w g1 => Kd (fun k => wE ⟨K, ω, H0, n⟩ tv ρ g1 fun w2 g2 => Dd (fun d => Q (.d ((kGet (get g2) k).getD d)) g2) w2) w) : wE ⟨K, ω, H0, n⟩ (tDGet2 (tVar i) tk tv) ρ g Q := fun σ H C R kk => by
  obtain ⟨u, h1, h2⟩ := RelN.sl R h hi
  obtain rfl : u = some (.ref a) := h2
  obtain ⟨ks0, h30, _⟩ := L.at_ g H (RelN.j R)
  refine ⟨_, h1, a, rfl, .inl ⟨ks0, .inl h30⟩, ?_⟩
  refine q σ H _ R fun v H1 w g1 e1 j1 hv ⟨k, ew, q1⟩ => ?_
  subst ew
  have R1 := RelN.grow R e1 j1
  refine q1 σ H1 _ R1 fun u H2 w2 g2 e2 j2 hu ⟨d, ew, q2⟩ => ?_
  subst ew
  obtain ⟨ks', h3', h4'⟩ := L.at_ g2 H2 j2
  rw [key_tw hv]
  refine ⟨_, DGet.k h3', ?_⟩
  rcases kw_get k h4' with ⟨z1, z2⟩ | ⟨d', v', z1, z2, z3⟩
  · rw [z1] at q2
    rw [z2]
    exact kk _ H2 (.d d) g2 (e1.trans e2) j2 (show Tw K H2 u d from hu) q2
  · rw [z1] at q2
    rw [z2]
    exact kk _ H2 (.d d') g2 (e1.trans e2) j2 z3 q2
/-- k in d -/
theorem wE_zin (L : Lens K ω a get put) (h : ρ[i]? = some (.z (.ref a))) (hi : i < n) (q : wE ⟨K, ω, H0, n⟩ tk ρ g fun w g1 => Kd (fun k => Q (.d (.bool (kGet (get g1) k).isSome)) g1) w) : wE ⟨K, ω, H0, n⟩ (tDIn tk (tVar i)) ρ g Q := fun σ H C R kk => by
  refine q σ H _ R fun v H1 w g1 e1 j1 hv ⟨k, ew, q1⟩ => ?_
  subst ew
  replace q1 : Q (Wd.d (PyData.bool (kGet (get g1) k).isSome)) g1 := q1
  obtain ⟨u, h1, h2⟩ := RelN.sl (RelN.grow R e1 j1) h hi
  obtain rfl : u = some (.ref a) := h2
  obtain ⟨ks, h3, h4⟩ := L.at_ g1 H1 j1
  refine ⟨_, h1, a, _, rfl, key_tw hv ▸ DGet.k h3, ?_⟩
  rcases kw_get k h4 with ⟨z1, z2⟩ | ⟨d', v', z1, z2, z3⟩
  · rw [z1] at q1; rw [z2]; exact kk _ H1 _ g1 e1 j1 (show Vw K H H1 (.bl _) (.d (.bool _)) from .bl _) q1
  · rw [z1] at q1; rw [z2]; exact kk _ H1 _ g1 e1 j1 (show Vw K H H1 (.bl _) (.d (.bool _)) from .bl _) q1
theorem wE_znin (L : Lens K ω a get put) (h : ρ[i]? = some (.z (.ref a))) (hi : i < n) (q : wE ⟨K, ω, H0, n⟩ tk ρ g fun w g1 => Kd (fun k => Q (.d (.bool (!(kGet (get g1) k).isSome))) g1) w) : wE ⟨K, ω, H0, n⟩ (tDNotIn tk (tVar i)) ρ g Q := fun σ H C R kk => by
  refine q σ H _ R fun v H1 w g1 e1 j1 hv ⟨k, ew, q1⟩ => ?_
  subst ew
  replace q1 : Q (Wd.d (PyData.bool (!(kGet (get g1) k).isSome))) g1 := q1
  obtain ⟨u, h1, h2⟩ := RelN.sl (RelN.grow R e1 j1) h hi
  obtain rfl : u = some (.ref a) := h2
  obtain ⟨ks, h3, h4⟩ := L.at_ g1 H1 j1
  refine ⟨_, h1, a, _, rfl, key_tw hv ▸ DGet.k h3, ?_⟩
  rcases kw_get k h4 with ⟨z1, z2⟩ | ⟨d', v', z1, z2, z3⟩
  · rw [z1] at q1; rw [z2]; exact kk _ H1 _ g1 e1 j1 (show Vw K H H1 (.bl _) (.d (.bool _)) from .bl _) q1
  · rw [z1] at q1; rw [z2]; exact kk _ H1 _ g1 e1 j1 (show Vw K H H1 (.bl _) (.d (.bool _)) from .bl _) q1
/-- d[k] = x -/
theorem wS_zput {O : WO Gd} (L : Lens K ω a get put) (h : ρ[i]? = some (.z (.ref a))) (hi : i < n) (q : wE ⟨K, ω, H0, n⟩ tv ρ g fun w g1 => Dd (fun d => flatD d = true ∧ wE ⟨K, ω, H0, n⟩ tk ρ g1 fun w2 g2 => Kd (fun k => Sz ((get g2).length + 1) (O.nx ρ (put g2 (kPut (get g2) k d)))) w2) w) : wS ⟨K, ω, H0, n⟩ (sDPut (tVar i) tk tv) ρ g O := fun σ H D R kn _ _ _ => by
  refine q σ H _ R fun v H1 w g1 e1 j1 hv ⟨d, ew, fd, q1⟩ => ?_
  subst ew
  have R1 := RelN.grow R e1 j1
  obtain ⟨u, h1, h2⟩ := RelN.sl R1 h hi
  obtain rfl : u = some (.ref a) := h2
  refine ⟨_, h1, ?_⟩
  refine q1 σ H1 _ R1 fun u H2 w2 g2 e2 j2 hu ⟨k, ew, hz, q2⟩ => ?_
  subst ew
  have R2 := RelN.grow R1 e2 j2
  obtain ⟨ks', h3', h4'⟩ := L.at_ g2 H2 j2
  have hv2 : Tw K H2 v d := Tw.mono (ω.tx j1 e2) hv
  have fk := flatK_put (k := k) (L.flat g2 H2 j2) fd
  have jn := L.put_ g2 H2 _ _ j2 fk (kw_put (k := k) h4' hv2)
  refine ⟨a, _, rfl, key_tw hu ▸ DPut.k h3' (by rw [kw_len h4']; exact hz), kn ρ σ _ _ (RelN.grow R2 (fun b o hb ho => (upd_ne (fun z => hb (by rw [z]; exact L.inM))).trans ho) jn) q2⟩
end
/-! ### a dict of one's own becomes one that is handed on -/
def DV (K : PySem.W.Frag) (a : Addr) : Wo Gd where
  M := [a]
  A := [a]
  J := fun g H => flatK g.1 ∧ g.2 = [] ∧ DkAt K H a g.1
  sub := fun a h => h
  dic := fun g H b j h => by
    obtain ⟨_, _, ⟨k1, h1, _⟩⟩ := j
    rw [List.mem_singleton.mp h]
    exact ⟨k1, h1⟩
  stay := fun g H H' j h => by
    obtain ⟨f1, f2, ⟨k1, h1, w1⟩⟩ := j
    exact ⟨f1, f2, ⟨k1, h _ _ (by simp) h1, kw_flat f1 w1⟩⟩
theorem lens0 {K : PySem.W.Frag} {a : Addr} : Lens K (DV K a) a (·.1) (fun g k => (k, g.2)) := by
  refine ⟨fun g H j => j.2.2, by show a ∈ [a]; simp, fun g H ks kvs j f w => ?_, fun g H j => j.1⟩
  obtain ⟨f1, f2, k1, h1, w1⟩ := j
  exact ⟨f, f2, ks, upd_same, kw_flat f w⟩
/-- what is left of a name's word when the heap of now is the one of the entry -/
def Wd.bw : Wd → Wd
  | .d x => .d x
  | .o xs => .b xs
  | .b xs => .b xs
  | .z v => .z v
  | .pt v xs => .pt v xs
  | .pl v xs => .pb v xs
  | .pb v xs => .pb v xs
  | _ => .no
theorem bw_own {w : Wd} : w.bw.own = false := by cases w <;> rfl
theorem sl_bw {K : PySem.W.Frag} {H0 H : Hp} {u : Option V} {w : Wd} (e : Ex H0 H) (h : SlOk K H0 H u w) : SlOk K H H u w.bw := by
  have tx : Tx H0 H := Tx.ex e
  cases w with
  | no => trivial
  | d x => exact h
  | b ds => obtain ⟨a, xs, h1, h2, h3⟩ := h; exact ⟨a, xs, h1, e _ _ h2, h3.mono tx⟩
  | l ds => trivial
  | o ds => obtain ⟨a, xs, h1, h2, h3, h4⟩ := h; exact ⟨a, xs, h1, h3, h4⟩
  | k ds => trivial
  | z v => exact h
  | pt v ds => exact h
  | pl v ds => obtain ⟨q, a, xs, h1, h2, h3, h4⟩ := h; exact ⟨q, a, xs, h1, h3, h4⟩
  | pb v ds => obtain ⟨q, a, xs, h1, h2, h3⟩ := h; exact ⟨q, a, xs, h1, e _ _ h2, h3.mono tx⟩
  | pd v ds => trivial
theorem Rel.sw {K : PySem.W.Frag} {ω : Wo Gd} {H0 H : Hp} {g : Gd} {σ : L2.St} {ρ ρ' : List Wd} (r : Rel K Wo0 H0 H () σ ρ) (j : ω.J g H) (hs : ∀ a ∈ ω.A, H a ≠ none) (hl : ρ.length = ρ'.length)
    (hw : ∀ (i : Nat) (w : Wd), ρ'[i]? = some w → w.own = false ∧ (ρ[i]?.map Wd.bw = some w ∨ ∃ u, σ[i]? = some u ∧ SlOk K H H u w)) : Rel K ω H H g σ ρ' := by
  refine ⟨ExM.refl H, ⟨g, j⟩, j, r.ln.trans hl, fun i w h => ?_, fun i k a w w' h1 h2 o1 o2 _ _ => ?_, hs⟩
  · rcases (hw i w h).2 with e | e
    · cases hq : ρ[i]? with
      | none => rw [hq] at e; cases e
      | some w0 =>
        rw [hq] at e
        cases e
        obtain ⟨u, h1, h2⟩ := r.sl i w0 hq
        exact ⟨u, h1, sl_bw (ExM.ex r.ex) h2⟩
    · exact e
  · rw [(hw i w h1).1] at o1
    cases o1
theorem wS_sw1 {K : PySem.W.Frag} {H0 : Hp} {n i : Nat} {ρ : List Wd} {u : TS} {O : WO Unit} {kvs : List (Key × PyData)} (h : ρ[i]? = some (.k kvs)) (hi : i < n) (hf : flatK kvs)
    (q : ∀ (H1 : Hp) (a : Addr), wS ⟨K, DV K a, H1, n⟩ u ((ρ.map Wd.bw).set i (.z (.ref a))) (kvs, []) { nx := fun _ _ => False, rt := fun w _ => O.rt w () }) : wS ⟨K, Wo0, H0, n⟩ u ρ () O := fun σ H D R kn kr kb kc => by
  obtain ⟨a, ks, s1, h0, h3, h4⟩ := RelN.dic (W := ⟨K, Wo0, H0, n⟩) R h hi
  obtain ⟨hn, τ, r⟩ := id R
  have il : i < ρ.length := (List.getElem?_eq_some_iff.mp h).1
  have R' : RelN K (DV K a) H n H (kvs, []) σ ((ρ.map Wd.bw).set i (.z (.ref a))) := ⟨hn, τ, r.sw ⟨hf, rfl, ks, h3, h4⟩ (fun b hb => by rw [List.mem_singleton.mp hb, h3]; exact fun y => by cases y) (by rw [List.length_set, List.length_map]) fun k w hk => by
    rw [List.getElem?_set] at hk
    by_cases e : i = k
    · subst e
      rw [if_pos rfl, if_pos (by rw [List.length_map]; exact il)] at hk
      cases hk
      refine ⟨rfl, .inr ⟨some (.ref a), ?_, rfl⟩⟩
      rw [List.getElem?_append_left (by rw [hn]; exact hi)]
      exact s1
    · rw [if_neg e, List.getElem?_map] at hk
      refine ⟨?_, .inl hk⟩
      cases hq : ρ[k]? with
      | none => rw [hq] at hk; cases hk
      | some w0 => rw [hq] at hk; cases hk; exact bw_own⟩
  refine q H a σ H D R' (fun _ _ _ _ _ z => z.elim) (fun w v H' g' e j hv z => kr w v H' () (fun b o _ hb => ?_) True.intro (Vw.back (ω := Wo0) (g := ()) (RelN.j R) (RelN.ex R) hv) z) (fun _ _ _ _ _ z => z.elim) (fun _ _ _ _ _ z => z.elim)
  refine e b o (fun hm => ?_) (r.ex b o (by simp [Wo0]) hb)
  rw [List.mem_singleton.mp hm, h0] at hb
  cases hb
/-! ### [x.pop() for _ in ..] -/
section
variable {γ : Type} {W : Wc γ} {ρ : List Wd} {g : γ} {i p u : Nat} {vs : List Nat} {wi : TI} {O : WO γ}
theorem set_self {α : Type} {l : List α} {i : Nat} {a : α} (h : l[i]? = some a) : l.set i a = l := by
  apply List.ext_getElem?
  intro k
  rw [List.getElem?_set]
  by_cases e : i = k
  · subst e
    rw [if_pos rfl, if_pos (List.getElem?_eq_some_iff.mp h).1, h]
  · rw [if_neg e]
/-- a hidden list is stored -/
theorem RelN.moveH {H : Hp} {σ : L2.St} {D : Addr} {ds : List PyData} {m : Nat} (R : W.R H g σ (ρ ++ [.pl (.ref D) ds])) (hi : i < W.n) (hm : W.n ≤ m) (hm2 : m ≤ ρ.length) : W.R H g (σ.set i (some (.ref D))) ((ρ.take m).set i (.o ds)) := by
  obtain ⟨e, τ, r⟩ := id R
  obtain ⟨u, h1, h2⟩ := r.sl ρ.length (.pl (.ref D) ds) (at_app (x := .no))
  obtain ⟨rfl, a, xs, ea, s1, s2, s3⟩ := h2
  cases ea
  have R2 : W.R H g σ ((ρ ++ [Wd.pl (.ref D) ds]).take m) := RelN.take R hm
  rw [List.take_append_of_le_length hm2] at R2
  have et : σ ++ τ.take (m - W.n) = (σ ++ τ).take m := by
    rw [List.take_append, List.take_of_length_le (i := m) (l := σ) (by rw [e]; exact hm), e]
  obtain ⟨_, τ2, r2⟩ := id R2
  have l2 : τ2.length = (ρ.take m).length - W.n := by
    have := r2.ln
    rw [List.length_append, e] at this
    omega
  refine ⟨by rw [List.length_set]; exact e, τ.take (m - W.n), ?_⟩
  rw [← List.set_append_left _ _ (by rw [e]; exact hi), et]
  have rt : Rel W.K W.ω W.H0 H g ((σ ++ τ).take m) (ρ.take m) := by
    have tk : ∀ (k : Nat) (x : Wd), (ρ.take m)[k]? = some x → ρ[k]? = some x ∧ k < m := fun k x h => by
      rw [List.getElem?_take] at h
      by_cases hk : k < m
      · rw [if_pos hk] at h; exact ⟨h, hk⟩
      · rw [if_neg hk] at h; cases h
    have up : ∀ (k : Nat) (x : Wd), ρ[k]? = some x → (ρ ++ [Wd.pl (.ref D) ds])[k]? = some x := fun k x h => by
      rw [List.getElem?_append_left (List.getElem?_eq_some_iff.mp h).1]; exact h
    have ts : ∀ k, k < m → ((σ ++ τ).take m)[k]? = (σ ++ τ)[k]? := fun k hk => by rw [List.getElem?_take, if_pos hk]
    have lens := r.ln
    rw [List.length_append (as := ρ)] at lens
    refine ⟨r.ex, r.j0, r.j, by rw [List.length_take, List.length_take, lens]; show min m (ρ.length + 1) = _; omega, fun k x h => ?_, fun k l b x y h1 h2 o1 o2 s1 s2 => ?_, r.sup⟩
    · obtain ⟨h', hk⟩ := tk k x h
      rw [ts k hk]
      exact r.sl k x (up k x h')
    · obtain ⟨h1', hk⟩ := tk k x h1
      obtain ⟨h2', hl⟩ := tk l y h2
      rw [ts k hk] at s1
      rw [ts l hl] at s2
      exact r.dj k l b x y (up _ _ h1') (up _ _ h2') o1 o2 s1 s2
  refine rt.set (by rw [List.length_take]; omega) ⟨D, xs, rfl, s1, s2, s3⟩ fun _ a ha j w' hj hw' ow z => ?_
  cases ha
  rw [List.getElem?_take] at hw' z
  by_cases hk : j < m
  · rw [if_pos hk] at hw' z
    have hj2 : j < ρ.length := by omega
    have := r.dj j ρ.length D w' _ (by rw [List.getElem?_append_left hj2]; exact hw') (at_app (x := .no)) ow rfl z h1
    omega
  · rw [if_neg hk] at hw'; cases hw'
theorem wS_popN (hp : p < W.n) (hi : i < W.n) (hiu : i ≠ u) (q : wI W wi ρ g fun ρ1 Pn ds g1 => ∃ xs ys, ρ1[i]? = some (.o (xs ++ ys.reverse)) ∧ ys.length = ds.length ∧ ds.length ≤ 1000 ∧ ρ.length ≤ ρ1.length ∧ (∀ zs w, Pn ((ρ1.set i (.o zs)) ++ [w])) ∧ O.nx (((ρ1.set i (.o xs)).take ρ.length).set p (.o ys)) g1) :
    wS W (tAsg (tLc wi (gName u) tYes (tBM0 W.K "list" rPop (tVar i)) [u]) (gName p)) ρ g O := fun σ H E R kn _ _ _ => by
  refine q σ H _ R fun J H1 ρ1 Pn ds g1 e1 R1 ok ⟨xs, ys, hx, hl, hz, hlen, hp', hnx⟩ D hD => ?_
  have il : i < ρ1.length := (List.getElem?_eq_some_iff.mp hx).1
  have nle := RelN.nle (W := W) R
  have Rn : W.R (upd H1 D (.lst [])) g1 σ (ρ1 ++ [.pl (.ref D) []]) := RelN.pushNew R1 (ExM.of (Ex.new hD)) (R1.stayG (Ex.new hD)) ⟨rfl, D, [], rfl, R1.free hD, upd_same, .nil⟩ hD
  refine ⟨fun k m H2 => m = ds.length - k ∧ k ≤ ds.length ∧ W.R H2 g1 σ (ρ1.set i (.o (xs ++ (ys.drop k).reverse)) ++ [.pl (.ref D) (ys.take k)]), ⟨_, rfl, Nat.zero_le _, ?_⟩, ?_⟩
  · rw [List.drop_zero, set_self hx]
    exact Rn
  rintro k m H2 ⟨rfl, hk, R2⟩
  obtain ⟨ok1, ok2⟩ := ok k H2 g1 σ _ R2 (hp' _ _)
  by_cases hlt : k < ds.length
  · obtain ⟨hgo, hy⟩ := ok2 ds[k] (List.getElem?_eq_getElem hlt)
    refine .inr ⟨hgo, fun H3 => W.R H3 g1 σ (ρ1.set i (.o (xs ++ (ys.drop (k + 1)).reverse)) ++ [.pl (.ref D) (ys.take (k + 1))]), fun H3 R3 => ⟨ds.length - (k + 1), by omega, rfl, hlt, R3⟩, fun x H3 y => ?_⟩
    obtain ⟨e3, tx⟩ := hy x H3 y
    have R3 := R2.grow (ExM.of e3) (R2.stayG e3)
    have hky : k < ys.length := by omega
    have ed : ys.drop k = ys[k] :: ys.drop (k + 1) := List.drop_eq_getElem_cons hky
    have hw : (ρ1.set i (.o (xs ++ (ys.drop k).reverse)) ++ [.pl (.ref D) (ys.take k)])[i]? = some (.o ((xs ++ (ys.drop (k + 1)).reverse) ++ [ys[k]])) := by
      rw [List.getElem?_append_left (by rw [List.length_set]; exact il), List.getElem?_set_self il, ed, List.reverse_cons, List.append_assoc]
    obtain ⟨a, zs, h1, h2, h3, h4⟩ := RelN.own R3 hw hi
    obtain ⟨us, v, rfl, h5, h6⟩ := snoc_tw h4
    have R4 := RelN.putO R3 hw hi h1 h2 h3 h5
    rw [List.set_append_left _ _ (by rw [List.length_set]; exact il), List.set_set] at R4
    refine ⟨?_, ?_⟩
    · show ((σ.set u none).set u (some x)).set u none = σ.set u none
      rw [List.set_set, List.set_set]
    · have s1 : ((σ.set u none).set u (some x))[i]? = some (some (.ref a)) := by
        rw [List.getElem?_set_ne (fun z => hiu z.symm), List.getElem?_set_ne (fun z => hiu z.symm)]
        exact h1
      refine ⟨_, s1, .inl ⟨rfl, _, sq_of h3⟩, pop_at h3 ?_⟩
      obtain ⟨w, _, a', xs', ea, t1, t2, t3⟩ := RelN.slH (i := (ρ1.set i (.o (xs ++ (ys.drop (k + 1)).reverse))).length) R4 (at_app (x := .no))
      cases ea
      refine ⟨xs', t2, ?_, ?_⟩
      · rw [t3.length, List.length_take]
        exact Nat.lt_of_le_of_lt (by omega : _ ≤ 1000) (Nat.lt_of_lt_of_le (by decide : 1000 < 1001) (Nat.le_of_ble_eq_true rfl))
      · have q5 := RelN.putH R4 (t3.app (.one (h6.mono (Tx.lst h3))))
        rw [List.take_append_getElem hky] at q5
        exact q5
  · have e : k = ds.length := by omega
    subst e
    rw [← hl, List.drop_length, List.take_length, List.reverse_nil, List.append_nil] at R2
    refine .inl ⟨ok1 (Nat.le_refl _), ?_⟩
    exact kn _ _ H2 g1 (RelN.moveH R2 hp nle (by rw [List.length_set]; exact hlen)) hnx
end
end Kt

/-! Kt, part N: types, zips, walks back, texts, functions as values, written dicts, told by data alone. -/
namespace Kt
open PySem PySem.Spec PyProof.Rows L2 Evl
/-! ### types -/
def tyN : PyData → String
  | .none => "NoneType"
  | .bool _ => "bool"
  | .int _ => "int"
  | .str _ => "str"
  | .tuple _ => "tuple"
  | .list _ => "list"
  | .dict _ => "dict"
def notO : PyData → Bool
  | .dict _ => false
  | _ => true
theorem tw_ty {K : PySem.W.Frag} {H : Hp} {v : V} {d : PyData} (h : Tw K H v d) (hn : notO d = true) : TyB K H v (tyN d) := by
  cases h with
  | obj => cases hn
  | non => exact .non
  | bl b => exact .bl b
  | int i => exact .int i
  | str x => exact .str x
  | tup h t => exact .tup h
theorem wC_type {K : PySem.W.Frag} {d : PyData} {Q : Wd → Prop} (q : Q (.z (.ty (tyN d)))) (hn : notO d = true := by rfl) : wC K (rTyp K) [.d d] Q := fun H vs C hv k => by
  obtain ⟨v, rfl, h⟩ := vr1 hv
  exact ⟨v, tyN d, rfl, tw_ty h hn, k _ H (.z (.ty (tyN d))) (Ex.refl H) rfl q⟩
theorem wR_isTy {K : PySem.W.Frag} {a b : String} {Q : Wd → Prop} (q : Q (.d (.bool (decide (a = b))))) : wR K rIsTy (.z (.ty a)) (.z (.ty b)) Q := fun H v u C hv hu k => by
  obtain rfl := vrz hv
  obtain rfl := vrz hu
  exact ⟨a, b, rfl, rfl, k _ H (.d (.bool _)) (Ex.refl H) (.bl _) q⟩
theorem wR_notTy {K : PySem.W.Frag} {a b : String} {Q : Wd → Prop} (q : Q (.d (.bool (!decide (a = b))))) : wR K rNT (.z (.ty a)) (.z (.ty b)) Q := fun H v u C hv hu k => by
  obtain rfl := vrz hv
  obtain rfl := vrz hu
  exact ⟨a, b, rfl, rfl, k _ H (.d (.bool _)) (Ex.refl H) (.bl _) q⟩
/-! ### list(zip(x, y)) -/
def zipD : List PyData → List PyData → List PyData
  | a :: r, b :: s => .tuple [a, b] :: zipD r s
  | _, _ => []
theorem zipD_len : ∀ (xs ys : List PyData), xs.length = ys.length → (zipD xs ys).length = xs.length
  | [], [], _ => rfl
  | a :: r, b :: s, h => by rw [zipD, List.length_cons, zipD_len r s (by simpa using h), List.length_cons]
  | [], _ :: _, h => by cases h
  | _ :: _, [], h => by cases h
theorem twl_zip {K : PySem.W.Frag} {H : Hp} : ∀ (ts : List Addr) {xs ys : List V} {ds es : List PyData}, TwL K H xs ds → TwL K H ys es → xs.length = ys.length → ts.length = xs.length → (∀ (j : Nat) (t : Addr) (x y : V), ts[j]? = some t → xs[j]? = some x → ys[j]? = some y → H t = some (.tup [x, y])) → TwL K H (ts.map V.ref) (zipD ds es)
  | [], _, _, _, _, .nil, .nil, _, _, _ => .nil
  | t :: ts, _, _, _, _, .cons a r, .cons b s, h1, h2, h => by
    rw [zipD]
    refine .cons (.tup (st_of (h 0 t _ _ rfl rfl rfl)) (.cons a (.cons b .nil))) (twl_zip ts r s (by simpa using h1) (by simpa using h2) fun j t' x y e1 e2 e3 => h (j + 1) t' x y e1 e2 e3)
  | [], _, _, _, _, .cons _ _, _, _, h, _ => by cases h
  | _ :: _, _, _, _, _, .nil, _, _, h, _ => by cases h
  | _, _, _, _, _, .nil, .cons _ _, h, _, _ => by cases h
  | _, _, _, _, _, .cons _ _, .nil, h, _, _ => by cases h
section
variable {γ : Type} {W : Wc γ} {ρ : List Wd} {g : γ} {ta : TA} {Q : Wd → γ → Prop}
theorem wE_zip (q : wA W ta ρ g fun ws g1 => ∃ ds es, ws = [.d (.tuple ds), .d (.tuple es)] ∧ ds.length = es.length ∧ Q (.o (zipD ds es)) g1) : wE W (tLZ W.K ta) ρ g Q := fun σ H C R k =>
  q σ H _ R fun vs H1 ws g1 e1 j1 hv ⟨ds, es, ew, hl, q1⟩ => by
    subst ew
    obtain ⟨v, u, rfl, h1, h2⟩ := vr2 hv
    have h1' : Tw W.K H1 v (.tuple ds) := h1
    have h2' : Tw W.K H1 u (.tuple es) := h2
    obtain ⟨a, xs, rfl, a1, a2⟩ := Tw.tupI h1'
    obtain ⟨b, ys, rfl, b1, b2⟩ := Tw.tupI h2'
    refine ⟨a, b, xs, ys, rfl, a1, b1, by rw [a2.length, b2.length]; exact hl, fun H' p ts ex hp hp' hts hj => ?_⟩
    have tz : TwL W.K H' (ts.map V.ref) (zipD ds es) := twl_zip ts (a2.mono (Tx.ex ex)) (b2.mono (Tx.ex ex)) (by rw [a2.length, b2.length]; exact hl) hts fun j t x y e1 e2 e3 => (hj j t x y e1 e2 e3).2.2
    exact k (.ref p) H' (.o (zipD ds es)) g1 (e1.trans (ExM.of ex)) ((R.grow e1 j1).stayG ex) ⟨p, _, rfl, W.ω.back j1 e1 hp, hp', tz⟩ q1
end
/-! ### all, any over a list of truths -/
theorem TwL.ofBools {K : PySem.W.Frag} {H : Hp} : ∀ {vs : List V} (bs : List Bool), TwL K H vs (bs.map .bool) → vs = bs.map V.bl
  | _, [], .nil => rfl
  | _, _ :: r, .cons (.bl _) t => by rw [TwL.ofBools r t]; rfl
theorem wC_all {K : PySem.W.Frag} {x : Wd} {bs : List Bool} {Q : Wd → Prop} (hx : x.tl = some (bs.map .bool)) (q : Q (.d (.bool (bs.all id)))) : wC K (rAll K) [x] Q := fun H vs C hv k => by
  obtain ⟨v, rfl, h⟩ := vr1 hv
  obtain ⟨a, xs, rfl, h1, h2⟩ := tl_at h hx
  rw [TwL.ofBools bs h2] at h1
  exact ⟨a, bs, rfl, sq_of h1, k _ H (.d (.bool _)) (Ex.refl H) (.bl _) q⟩
theorem wC_any {K : PySem.W.Frag} {x : Wd} {bs : List Bool} {Q : Wd → Prop} (hx : x.tl = some (bs.map .bool)) (q : Q (.d (.bool (bs.any id)))) : wC K (rAny K) [x] Q := fun H vs C hv k => by
  obtain ⟨v, rfl, h⟩ := vr1 hv
  obtain ⟨a, xs, rfl, h1, h2⟩ := tl_at h hx
  rw [TwL.ofBools bs h2] at h1
  exact ⟨a, bs, rfl, sq_of h1, k _ H (.d (.bool _)) (Ex.refl H) (.bl _) q⟩
/-! ### for x in reversed(a new list) -/
section
variable {γ : Type} {W : Wc γ} {ρ : List Wd} {g : γ} {ta : TA} {QI : List Wd → (List Wd → Prop) → List PyData → γ → Prop} {i : Nat}
theorem itv_pl {H : Hp} {σ : L2.St} {a : Addr} {ds : List PyData} {m n : Nat} (hn : n = ds.length) (hp : ρ[m]? = some (.pl (.ref a) ds)) (R : W.R H g σ ρ) : (ds.reverse.length ≤ i → (Itv W.K a n).stop i H) ∧ ∀ d, ds.reverse[i]? = some d → (Itv W.K a n).go i H ∧ ∀ x H', (Itv W.K a n).yld i H x H' → Ex H H' ∧ Tw W.K H' x d := by
  obtain ⟨u, _, a', xs', ea, s1, s2, s3⟩ := RelN.slH R hp
  cases ea
  subst hn
  refine ⟨fun h => by rw [List.length_reverse] at h; exact h, fun d hd => ?_⟩
  have hi : i < ds.length := by
    have := (List.getElem?_eq_some_iff.mp hd).1
    rwa [List.length_reverse] at this
  rw [List.getElem?_reverse hi] at hd
  obtain ⟨v', hv, tv⟩ := s3.get hd
  refine ⟨⟨hi, xs', v', sq_of s2, hv⟩, fun x H3 y => ?_⟩
  obtain ⟨rfl, y⟩ := y
  have := y xs' (sq_of s2)
  rw [hv] at this
  cases this
  exact ⟨Ex.refl _, tv⟩
theorem wI_revN {te : TE} (q : wE W te ρ g fun x g1 => ∃ ds, x = .o ds ∧ ∀ v, QI (ρ ++ [.pl v ds]) (fun ρ' => ρ'[ρ.length]? = some (.pl v ds)) ds.reverse g1) : wI W (iRev W.K (tCons te tNil)) ρ g QI := fun σ H C R k =>
  q σ H _ R fun v H1 w g1 e j h ⟨ds, ew, z⟩ => by
    subst ew
    obtain ⟨a, xs, rfl, h1, h2, h3⟩ := h
    refine ⟨a, xs, rfl, sq_of h2, k (Itv W.K a xs.length) H1 _ _ ds.reverse g1 e (RelN.pushNew R (w := .pl (.ref a) ds) e j ⟨rfl, a, xs, rfl, R.free h1, h2, h3⟩ h1) (fun i H2 g2 σ2 ρ2 R2 hp => ?_) (z (.ref a))⟩
    exact itv_pl h3.length hp R2
/-- a text's signs -/
theorem wI_str {te : TE} (q : wE W te ρ g fun x g1 => ∃ z : Str, x = .d (.str z) ∧ QI ρ (fun _ => True) (z.cps.toList.map fun c => .str ⟨#[c]⟩) g1) : wI W (iStr te) ρ g QI := fun σ H C R k =>
  q σ H _ R fun v H1 w g1 e j h ⟨z, ew, q1⟩ => by
    subst ew
    cases (show Tw W.K H1 v (.str z) from h)
    refine ⟨z, rfl, k (Its z) H1 ρ (fun _ => True) _ g1 e (R.grow e j) (fun i H2 g2 σ2 ρ2 R2 _ => ⟨fun hl => ?_, fun d hd => ?_⟩) q1⟩
    · rw [List.length_map] at hl
      exact (by simpa using hl : z.cps.size ≤ i)
    · rw [List.getElem?_map] at hd
      cases hc : z.cps.toList[i]? with
      | none => rw [hc] at hd; cases hd
      | some c =>
        rw [hc] at hd
        cases hd
        have hi : i < z.cps.size := by simpa using (List.getElem?_eq_some_iff.mp hc).1
        refine ⟨hi, fun x H3 y => ?_⟩
        obtain ⟨rfl, c2, h2, rfl⟩ := y
        have e2 : z.cps.toList[i]? = some c2 := by rw [← Array.getElem?_toList] at h2; exact h2
        rw [hc] at e2
        cases e2
        exact ⟨Ex.refl _, .str _⟩
end
/-! ### texts -/
theorem wR_ixS {K : PySem.W.Frag} {z : Str} {i : Int} {c : Nat} {Q : Wd → Prop} (h : atI z.cps.toList i = some c) (hz : z.length ≤ sizeLine) (q : Q (.d (.str ⟨#[c]⟩))) : wR K rIxS (.d (.str z)) (.d (.int i)) Q := fun H v u C hv hu k => by
  cases (show Tw K H v (.str z) from hv)
  cases (show Tw K H u (.int i) from hu)
  exact ⟨z, i, c, rfl, rfl, hz, h, k _ H (.d (.str _)) (Ex.refl H) (.str _) q⟩
theorem wR_inS {K : PySem.W.Frag} {a b : Str} {Q : Wd → Prop} (q : Q (.d (.bool (!(Builtin.Str.occurrences b a 0 b.length 1).isEmpty)))) : wR K (fun x y H Q => ∃ i j, x = .str i ∧ y = .str j ∧ Q (.bl (!(Builtin.Str.occurrences j i 0 j.length 1).isEmpty)) H) (.d (.str a)) (.d (.str b)) Q := fun H v u C hv hu k => by
  cases (show Tw K H v (.str a) from hv)
  cases (show Tw K H u (.str b) from hu)
  exact ⟨a, b, rfl, rfl, k _ H (.d (.bool _)) (Ex.refl H) (.bl _) q⟩
theorem wR_ninS {K : PySem.W.Frag} {a b : Str} {Q : Wd → Prop} (q : Q (.d (.bool (!(!(Builtin.Str.occurrences b a 0 b.length 1).isEmpty))))) : wR K (fun x y H Q => ∃ i j, x = .str i ∧ y = .str j ∧ Q (.bl (!(!(Builtin.Str.occurrences j i 0 j.length 1).isEmpty))) H) (.d (.str a)) (.d (.str b)) Q := fun H v u C hv hu k => by
  cases (show Tw K H v (.str a) from hv)
  cases (show Tw K H u (.str b) from hu)
  exact ⟨a, b, rfl, rfl, k _ H (.d (.bool _)) (Ex.refl H) (.bl _) q⟩
theorem wR_leS {K : PySem.W.Frag} {a b : Str} {Q : Wd → Prop} (q : Q (.d (.bool (!decide (b.cps.toList < a.cps.toList))))) : wR K (fun x y H Q => ∃ i j, x = .str i ∧ y = .str j ∧ Q (.bl (!decide (j.cps.toList < i.cps.toList))) H) (.d (.str a)) (.d (.str b)) Q := fun H v u C hv hu k => by
  cases (show Tw K H v (.str a) from hv)
  cases (show Tw K H u (.str b) from hu)
  exact ⟨a, b, rfl, rfl, k _ H (.d (.bool _)) (Ex.refl H) (.bl _) q⟩
theorem wC_lenS {K : PySem.W.Frag} {z : Str} {Q : Wd → Prop} (hz : z.length ≤ sizeLine) (q : Q (.d (.int z.length))) : wC K (fun xs H Q => ∃ z, xs = [.str z] ∧ z.length ≤ sizeLine ∧ Q (.int z.length) H) [.d (.str z)] Q := fun H vs C hv k => by
  obtain ⟨v, rfl, h⟩ := vr1 hv
  cases (show Tw K H v (.str z) from h)
  exact ⟨z, rfl, hz, k _ H (.d (.int _)) (Ex.refl H) (.int _) q⟩
/-! ### f(x), f being held by a name -/
section
variable {γ : Type} {W : Wc γ} {ρ : List Wd} {g : γ} {t : TA} {Q : Wd → γ → Prop} {i : Nat}
theorem wE_callL {f : Addr} {pre : List Wd → (Wd → Prop) → Prop} {E : XK} (h : ρ[i]? = some (.z (.ref f))) (hi : i < W.n) (q : wA W t ρ g fun ws g1 => pre ws fun w => Q w g1) : wE W (tCallL i f (spP W.K pre) [] E t) ρ g Q := fun σ H C R k => by
  obtain ⟨u, h1, h2⟩ := R.sl h hi
  obtain rfl : u = some (.ref f) := h2
  refine ⟨h1, q σ H _ R fun vs H1 ws g1 e1 j1 hv q1 => ⟨ws, _, q1, ?_, fun v H' w e2 hw hq => k v H' w g1 (e1.trans (ExM.of e2)) ((R.grow e1 j1).stayG e2) (Vw.back j1 e1 hw) hq⟩⟩
  rw [List.append_nil]
  exact hv
end
/-! ### written dicts with texts as keys -/
/-- what stands at x in the written dict a: v, or nothing -/
def KDo (K : PySem.W.Frag) (w : World) (a : Addr) (x : Str) (v : Option V) : Prop :=
  ∃ es n r, K.lookup a = some ⟨.type "dict", none, .dict es n, #[]⟩ ∧ PySem.W.KeysLit w.params es.toList ∧ (a == sysModules) = false ∧ PySem.W.nsIn K a x = some r ∧ ((∃ u v', r = some u ∧ v = some v' ∧ RelV v' u) ∨ (r = none ∧ v = none))
def tKIn (K : PySem.W.Frag) (w : World) (tk td : TE) : TE := fun σ H Q => tk σ H fun y H1 => td σ H1 fun x H2 => ∃ (a : Addr) (z : Str) (o : Option V), x = .ref a ∧ y = .str z ∧ KDo K w a z o ∧ Q (.bl o.isSome) H2
def tKGet (K : PySem.W.Frag) (w : World) (td tk : TE) : TE := fun σ H Q => td σ H fun x H1 => ∃ a, x = .ref a ∧ (∃ es n, K.lookup a = some ⟨.type "dict", none, .dict es n, #[]⟩ ∧ PySem.W.KeysLit w.params es.toList) ∧ tk σ H1 fun y H2 => ∃ (z : Str) (o : Option V), y = .str z ∧ KDo K w a z o ∧ Q (o.getD .non) H2
section
variable {X : Cx} {e i : Expr} {td tk : TE} {apos cpos p pos : Pos}
theorem pc_kin {o : Expr} (hi : PE X i tk) (ho : PE X o td) : PC X .In i o (tKIn X.K X.w tk td) := by
  refine ⟨fun pins s σ H Q I h => ?_⟩
  refine thn (hi.run pins s σ H _ I h) fun iv s1 ⟨y, H1, I1, ry, q1⟩ => thn (ho.run pins s1 σ H1 _ I1 q1) fun u s2 ⟨x, H2, I2, rx, a, z, ov, ex, ey, ⟨es, n, r, hl, hk, lo, hn, hr⟩, q2⟩ => ?_
  subst ex ey
  obtain rfl : u = Value.ref a := rx
  obtain ⟨t, rfl⟩ := ry
  refine wpAny_in_of (strKind_is X.prog X.w z t) lo (PySem.W.mapOf_K (prog := X.prog) I2.kIn hl hk) ?_
  rw [PySem.W.find_K hl hn]
  refine ⟨.bl ov.isSome, H2, I2.tok _, ?_, q2⟩
  rcases hr with ⟨u, v', rfl, rfl, _⟩ | ⟨rfl, rfl⟩ <;> rfl
theorem pe_kget {f : Expr} (ho : PE X e td) (he : PE X f tk) (m : M1 X e "get" apos f cpos) : PE X (.Call (.Attribute e "get" apos) [f] [] cpos) (tKGet X.K X.w td tk) := by
  refine ⟨fun pins s σ H Q I h => ?_⟩
  refine wpAny_Call_method m.base m.few m.line PySem.F.plainAttrs_dict PySem.F.slot_dict_get PySem.F.type_dict_get (thn (ho.run pins s σ H _ I h) fun u s1 ⟨x, H1, I1, rx, a, ex, ⟨es0, n0, hl0, hk0⟩, q1⟩ => ?_)
  subst ex
  obtain rfl : u = Value.ref a := rx
  have hm0 := PySem.W.mapOf_K (prog := X.prog) I1.kIn hl0 hk0
  refine ⟨hm0.typeIs, fun b q => by cases q; exact ⟨_, I1.kIn _ _ hl0, rfl⟩, ?_⟩
  rw [m.trees]
  refine Calls.callWith_builtin rfl (Calls.evalArgs_plain (Calls.spliced_cons (thn (he.run pins s1 σ H1 _ I1 q1) fun iv s2 ⟨y, H2, I2, ry, z, ov, ey, ⟨es, n, r, hl, hk, lo, hn, hr⟩, q2⟩ => Calls.spliced_nil ?_)))
  subst ey
  obtain ⟨t, rfl⟩ := ry
  have hm := PySem.W.mapOf_K (prog := X.prog) I2.kIn hl hk
  refine call_meetsIn PySem.F.slot_dict_get hm.typeIs PySem.F.entry_dict_get (PySem.F.args_dict_get_2 _ _) (meets_dict_get (strKind X.prog X.w) a (strKind_is X.prog X.w z t) lo) ⟨_, hm, ?_⟩
  rw [PySem.W.find_K hl hn]
  refine ⟨_, H2, I2.tok _, ?_, q2⟩
  rcases hr with ⟨u, v', rfl, rfl, hv⟩ | ⟨rfl, rfl⟩
  · exact hv
  · rfl
end
section
variable {X : Cx} {s : Shared} {H : Hp} {sc : Scope} {env : Env} {fp : List Addr}
theorem pe_popB {o : Expr} {to : TE} {apos cpos : Pos} (ho : PE (X.blk s H sc env fp) o to) (hbase : attributeBase o "pop" (X.blk s H sc env fp).env (eval o (X.blk s H sc env fp).env) = eval o (X.blk s H sc env fp).env := by rfl) (hline : (apos.endLine == cpos.line) = true := by rfl) :
    PE (X.blk s H sc env fp) (.Call (.Attribute o "pop" apos) [] [] cpos) (tBM0 X.K "list" rPop to) := pe_bm0 (X := X.blk s H sc env fp) PySem.F.plainAttrs_list PySem.F.slot_list_pop PySem.F.type_list_pop mt_pop ho hbase hline
end
end Kt

/-! Kt, part O: more of dicts that are handed on, of functions that a name holds. -/
namespace Kt
open PySem PySem.Spec PyProof.Rows L2 Evl
def kDrop (kvs : List (Key × PyData)) (k : Key) : List (Key × PyData) := kvs.filter fun kv => !decide (kv.1 = k)
theorem kw_drop {K : PySem.W.Frag} {H : Hp} (k : Key) : ∀ {ks : List (Key × V)} {kvs : List (Key × PyData)}, KwL K H ks kvs → KwL K H (dropK ks k) (kDrop kvs k)
  | _, _, .nil => .nil
  | _, _, .cons (k := k') a t => by
    unfold dropK kDrop
    by_cases hk : k' = k
    · rw [List.filter_cons_of_neg (by simp [hk]), List.filter_cons_of_neg (by simp [hk])]
      exact kw_drop k t
    · rw [List.filter_cons_of_pos (by simp [hk]), List.filter_cons_of_pos (by simp [hk])]
      exact .cons a (kw_drop k t)
theorem flatK_drop {kvs : List (Key × PyData)} {k : Key} (f : flatK kvs) : flatK (kDrop kvs k) := fun kv h => f kv ((List.mem_filter.mp h).1)
section
variable {K : PySem.W.Frag} {ω : Wo Gd} {H0 : Hp} {n i : Nat} {a : Addr} {get : Gd → List (Key × PyData)} {put : Gd → List (Key × PyData) → Gd} {ρ : List Wd} {g : Gd} {tk : TE}
/-- del d[k] -/
theorem wS_zdel {O : WO Gd} (L : Lens K ω a get put) (h : ρ[i]? = some (.z (.ref a))) (hi : i < n) (q : wE ⟨K, ω, H0, n⟩ tk ρ g fun w g1 => Kd (fun k => (kGet (get g1) k).isSome = true ∧ O.nx ρ (put g1 (kDrop (get g1) k))) w) : wS ⟨K, ω, H0, n⟩ (sDDel (tVar i) tk) ρ g O := fun σ H D R kn _ _ _ => by
  obtain ⟨u, h1, h2⟩ := RelN.sl R h hi
  obtain rfl : u = some (.ref a) := h2
  refine ⟨_, h1, ?_⟩
  refine q σ H _ R fun v H1 w g1 e1 j1 hv ⟨k, ew, hs, q1⟩ => ?_
  subst ew
  have R1 := RelN.grow R e1 j1
  obtain ⟨ks, h3, h4⟩ := L.at_ g1 H1 j1
  have jn := L.put_ g1 H1 _ _ j1 (flatK_drop (k := k) (L.flat g1 H1 j1)) (kw_drop k h4)
  refine ⟨a, ks, k, rfl, h3, key_tw hv, ?_, kn ρ σ _ _ (RelN.grow R1 (fun b o hb ho => (upd_ne (fun z => hb (by rw [z]; exact L.inM))).trans ho) jn) q1⟩
  rcases kw_get k h4 with ⟨z1, z2⟩ | ⟨d', v', z1, z2, z3⟩
  · rw [z1] at hs; cases hs
  · rw [z2]; rfl
end
theorem wC_abs {K : PySem.W.Frag} {i : Int} {Q : Wd → Prop} (q : Q (.d (.int (if i < 0 then -i else i)))) : wC K (fun xs H Q => ∃ i, xs = [.int i] ∧ Q (.int (if i < 0 then -i else i)) H) [.d (.int i)] Q := fun H vs C hv k => by
  obtain ⟨v, rfl, h⟩ := vr1 hv
  cases (show Tw K H v (.int i) from h)
  exact ⟨i, rfl, k _ H (.d (.int _)) (Ex.refl H) (.int _) q⟩
/-- a def that a name holds -/
structure CalF (P : Program) (w : World) (K : PySem.W.Frag) (mg : Str → Option Value) (base : Heap) (k : Nat) (f : Addr) (sp : Sp) : Prop where
  ex : ∃ (fd : FuncData) (ps : List Str), FnOk P w K mg base CX0 k f fd ps sp ∧ PySem.W.keepIn K (.ref f) = true ∧ Binds K fd ps []
theorem pe_LO {X : Cx} {k j i : Nat} {f : Addr} {x : Str} {sp : Sp} {p pos : Pos} {e : Expr} {es : List Expr} {t : TA} (c : CalF X.prog X.w X.K X.mg X.base k f sp) (hr : Room j X.A) (hk : k ≤ j) (hN : X.N[i]? = some x) (hv : Vis X.env.scope x) (ha : PA X (e :: es) t)
    (hdb : (x == ("__debug__" : Str)) = false := by decide) (hcd : (x == ("__classdict__" : Str)) = false := by decide) (he : starEach (e :: es) X.env = (false, eval e X.env) :: starEach es X.env := by rfl) (hpl : (backTo pos (starEach es X.env)).any (·.1) = false := by rfl) :
    PE X (.Call (.Name x p) (e :: es) [] pos) (tCallL i f sp [] E0 t) := by
  obtain ⟨fd, ps, F, kp, b⟩ := c.ex
  exact pe_callL F (hr.mono hk) hN hv kp b .nil pass0 ha hdb hcd he hpl
end Kt
namespace Kt
open PySem PySem.Spec PyProof.Rows L2 Evl
section
variable {γ : Type} {W : Wc γ} {ρ : List Wd} {g : γ} {tk td : TE} {Q : Wd → γ → Prop} {w : World}
theorem wE_cV {v : V} (q : Q (.z v) g) : wE W (tC v) ρ g Q := fun σ H C R k => k v H (.z v) g (ExM.refl H) R.j rfl q
/-- x in D, D written -/
theorem wE_kin (q : wE W tk ρ g fun x g1 => ∃ z : Str, x = .d (.str z) ∧ wE W td ρ g1 fun y g2 => ∃ (a : Addr) (o : Option V), y = .z (.ref a) ∧ KDo W.K w a z o ∧ Q (.d (.bool o.isSome)) g2) : wE W (tKIn W.K w tk td) ρ g Q := fun σ H C R k =>
  q σ H _ R fun v H1 x g1 e1 j1 hv ⟨z, ex, q1⟩ => by
    subst ex
    cases (show Tw W.K H1 v (.str z) from hv)
    refine q1 σ H1 _ (R.grow e1 j1) fun u H2 y g2 e2 j2 hu ⟨a, o, ey, hk, q2⟩ => ?_
    subst ey
    obtain rfl : u = .ref a := hu
    exact ⟨a, z, o, rfl, rfl, hk, k _ H2 (.d (.bool o.isSome)) g2 (e1.trans e2) j2 (.bl _) q2⟩
/-- D.get(x), D written, numbers in it -/
theorem wE_kget (q : wE W td ρ g fun y g1 => ∃ a : Addr, y = .z (.ref a) ∧ (∃ es n, W.K.lookup a = some ⟨.type "dict", none, .dict es n, #[]⟩ ∧ PySem.W.KeysLit w.params es.toList) ∧ wE W tk ρ g1 fun x g2 => ∃ (z : Str) (o : Option Int), x = .d (.str z) ∧ KDo W.K w a z (o.map V.int) ∧ Q (.d (match o with | some i => .int i | none => .none)) g2) : wE W (tKGet W.K w td tk) ρ g Q := fun σ H C R k =>
  q σ H _ R fun u H1 y g1 e1 j1 hu ⟨a, ey, hd, q1⟩ => by
    subst ey
    obtain rfl : u = .ref a := hu
    refine ⟨a, rfl, hd, q1 σ H1 _ (R.grow e1 j1) fun v H2 x g2 e2 j2 hv ⟨z, o, ex, hk, q2⟩ => ?_⟩
    subst ex
    cases (show Tw W.K H2 v (.str z) from hv)
    refine ⟨z, _, rfl, hk, ?_⟩
    cases o with
    | none => exact k _ H2 (.d .none) g2 (e1.trans e2) j2 .non q2
    | some i => exact k _ H2 (.d (.int i)) g2 (e1.trans e2) j2 (.int i) q2
end
theorem wR_ixD {K : PySem.W.Frag} {w : World} {a : Addr} {z : Str} {v : V} {Q : Wd → Prop} (h : KDct K w a z v) (q : Q (.z v)) : wR K (rIxD K w) (.z (.ref a)) (.d (.str z)) Q := fun H x y C hx hy k => by
  obtain rfl := vrz hx
  cases (show Tw K H y (.str z) from hy)
  exact ⟨a, z, v, rfl, rfl, h, k v H (.z v) (Ex.refl H) rfl q⟩
end Kt
namespace Kt
open PySem PySem.Spec PyProof.Rows L2 Evl
theorem wC_lenZ {K : PySem.W.Frag} {tp : Addr} {xs : List V} {Q : Wd → Prop} (h : ∀ H : Hp, SqT K H tp xs) (q : Q (.d (.int xs.length))) : wC K (rLenO K) [.z (.ref tp)] Q := fun H vs C hv k => by
  obtain ⟨v, rfl, e⟩ := vr1 hv
  obtain rfl := vrz e
  exact ⟨tp, xs, rfl, .inr (h H), k _ H (.d (.int _)) (Ex.refl H) (.int _) q⟩
end Kt
namespace Kt
open PySem PySem.Spec PyProof.Rows L2 Evl
/-- two dicts of one's own become a world -/
theorem wS_sw2 {K : PySem.W.Frag} {H0 : Hp} {n i l : Nat} {ρ : List Wd} {u : TS} {O : WO Unit} {k1 k2 : List (Key × PyData)} (h1 : ρ[i]? = some (.k k1)) (h2 : ρ[l]? = some (.k k2)) (hil : i ≠ l) (hi : i < n) (hl : l < n) (f1 : flatK k1) (f2 : flatK k2)
    (q : ∀ (H1 : Hp) (a b : Addr), wS ⟨K, DW K ⟨a, b⟩, H1, n⟩ u (((ρ.map Wd.bw).set i (.z (.ref a))).set l (.z (.ref b))) (k1, k2) { nx := fun _ _ => False, rt := fun w _ => O.rt w () }) : wS ⟨K, Wo0, H0, n⟩ u ρ () O := fun σ H D R kn kr kb kc => by
  obtain ⟨a, ks, s1, a0, a3, a4⟩ := RelN.dic (W := ⟨K, Wo0, H0, n⟩) R h1 hi
  obtain ⟨b, ls, t1, b0, b3, b4⟩ := RelN.dic (W := ⟨K, Wo0, H0, n⟩) R h2 hl
  obtain ⟨hn, τ, r⟩ := id R
  have il : i < ρ.length := (List.getElem?_eq_some_iff.mp h1).1
  have ll : l < ρ.length := (List.getElem?_eq_some_iff.mp h2).1
  have g1 : (σ ++ τ)[i]? = some (some (.ref a)) := by rw [List.getElem?_append_left (by rw [hn]; exact hi)]; exact s1
  have g2 : (σ ++ τ)[l]? = some (some (.ref b)) := by rw [List.getElem?_append_left (by rw [hn]; exact hl)]; exact t1
  have ne : a ≠ b := fun z => by
    subst z
    exact hil (r.dj i l a _ _ h1 h2 rfl rfl g1 g2)
  have R' : RelN K (DW K ⟨a, b⟩) H n H (k1, k2) σ (((ρ.map Wd.bw).set i (.z (.ref a))).set l (.z (.ref b))) := ⟨hn, τ, r.sw ⟨ne, f1, f2, ⟨ks, a3, a4⟩, ⟨ls, b3, b4⟩⟩ (fun c hc => by
      rcases List.mem_cons.mp (show c ∈ [a, b] from hc) with z | z
      · rw [z, a3]; exact fun y => by cases y
      · rw [List.mem_singleton.mp z, b3]; exact fun y => by cases y) (by rw [List.length_set, List.length_set, List.length_map]) fun k w hk => by
    rw [List.getElem?_set] at hk
    by_cases e : l = k
    · subst e
      rw [if_pos rfl, if_pos (by rw [List.length_set, List.length_map]; exact ll)] at hk
      cases hk
      exact ⟨rfl, .inr ⟨some (.ref b), g2, rfl⟩⟩
    · rw [if_neg e, List.getElem?_set] at hk
      by_cases e : i = k
      · subst e
        rw [if_pos rfl, if_pos (by rw [List.length_map]; exact il)] at hk
        cases hk
        exact ⟨rfl, .inr ⟨some (.ref a), g1, rfl⟩⟩
      · rw [if_neg e, List.getElem?_map] at hk
        refine ⟨?_, .inl hk⟩
        cases hq : ρ[k]? with
        | none => rw [hq] at hk; cases hk
        | some w0 => rw [hq] at hk; cases hk; exact bw_own⟩
  refine q H a b σ H D R' (fun _ _ _ _ _ z => z.elim) (fun w v H' g' e j hv z => kr w v H' () (fun c o _ hb => ?_) True.intro (Vw.back (ω := Wo0) (g := ()) (RelN.j R) (RelN.ex R) hv) z) (fun _ _ _ _ _ z => z.elim) (fun _ _ _ _ _ z => z.elim)
  refine e c o (fun hm => ?_) (r.ex c o (by simp [Wo0]) hb)
  rcases List.mem_cons.mp (show c ∈ [a, b] from hm) with z | z
  · rw [z, a0] at hb; cases hb
  · rw [List.mem_singleton.mp z, b0] at hb; cases hb
end Kt

/-! Kt, part P: a list's item written, pop at a place, list(range(n)), dict of pairs. -/
namespace Kt
open PySem PySem.Spec PyProof.Rows L2 Evl
theorem TwL.set {K : PySem.W.Frag} {H : Hp} {v : V} {d : PyData} (h : Tw K H v d) : ∀ {vs : List V} {ds : List PyData} (j : Nat), TwL K H vs ds → TwL K H (vs.set j v) (ds.set j d)
  | _, _, _, .nil => .nil
  | _, _, 0, .cons a t => .cons h t
  | _, _, j + 1, .cons a t => .cons a (TwL.set h j t)
theorem TwL.erase {K : PySem.W.Frag} {H : Hp} : ∀ {vs : List V} {ds : List PyData} (j : Nat), TwL K H vs ds → TwL K H (vs.eraseIdx j) (ds.eraseIdx j)
  | _, _, _, .nil => .nil
  | _, _, 0, .cons a t => t
  | _, _, j + 1, .cons a t => .cons a (TwL.erase j t)
section
variable {γ : Type} {W : Wc γ} {ρ : List Wd} {g : γ} {te tk : TE} {Q : Wd → γ → Prop} {O : WO γ} {i : Nat}
/-- xs[k] = d -/
theorem wS_lset {xs : List PyData} (h : ρ[i]? = some (.o xs)) (hi : i < W.n) (q : wE W te ρ g fun w g1 => Dd (fun d => wE W tk ρ g1 fun w2 g2 => ∃ (k : Int) (j : Nat), w2 = .d (.int k) ∧ ixN xs.length k = some j ∧ O.nx (ρ.set i (.o (xs.set j d))) g2) w) : wS W (tAsg te (gSub (tVar i) tk rSetL)) ρ g O := fun σ H D R kn _ _ _ => by
  refine q σ H _ R fun v H1 w g1 e j hv ⟨d, ew, z⟩ => ?_
  subst ew
  have R1 := R.grow e j
  obtain ⟨a, ys, h1, h2, h3, h4⟩ := RelN.own R1 h hi
  refine ⟨_, h1, z σ H1 _ R1 fun u H2 w2 g2 e2 j2 hu ⟨k, jj, ew, ei, z2⟩ => ?_⟩
  subst ew
  cases (show Tw W.K H2 u (.int k) from hu)
  have R2 := R1.grow e2 j2
  obtain ⟨a', ys', h1', h2', h3', h4'⟩ := RelN.own R2 h hi
  rw [h1] at h1'
  cases h1'
  refine ⟨a, ys', k, jj, rfl, rfl, h3', by rw [h4'.length]; exact ei, kn _ σ _ g2 (RelN.putO R2 h hi h1 h2 h3' (TwL.set (Tw.mono (W.ω.tx R1.j e2) hv) jj h4')) z2⟩
/-- x = xs.pop(k) -/
theorem wS_popAt {gt : TG} {xs : List PyData} (h : ρ[i]? = some (.o xs)) (hi : i < W.n) (q : wE W te ρ g fun w g1 => ∃ (k : Nat) (d : PyData), w = .d (.int (k : Int)) ∧ k < 100000 ∧ xs[k]? = some d ∧ wG W gt d (ρ.set i (.o (xs.eraseIdx k))) fun ρ' => O.nx ρ' g1) : wS W (tAsg (tBM W.K "list" rPopAt (tVar i) (tCons te tNil)) gt) ρ g O := fun σ H D R kn _ _ _ => by
  obtain ⟨a, ys, h1, h2, h3, h4⟩ := RelN.own R h hi
  refine ⟨_, h1, .inl ⟨rfl, ys, sq_of h3⟩, q σ H _ R fun v H1 w g1 e j hv ⟨k, d, ew, hk, hd, z⟩ => ?_⟩
  subst ew
  cases (show Tw W.K H1 v (.int k) from hv)
  have R1 := R.grow e j
  obtain ⟨a', ys', h1', h2', h3', h4'⟩ := RelN.own R1 h hi
  rw [h1] at h1'
  cases h1'
  obtain ⟨u, hu, tu⟩ := h4'.get hd
  have kl : k < ys'.length := (List.getElem?_eq_some_iff.mp hu).1
  refine ⟨a, ys', k, k, u, rfl, rfl, h3', by omega, by omega, ?_, hu, ?_⟩
  · exact (seqIndex_of (by omega) (by omega)).trans (by rw [Int.toNat_natCast])
  · exact z u σ _ g1 _ (RelN.putO R1 h hi h1 h2 h3' (TwL.erase k h4')) (tu.mono (Tx.lst h3')) fun σ' ρ' R' z' => kn ρ' σ' _ g1 R' z'
theorem wE_lrg {te : TE} (q : wE W te ρ g fun w g1 => ∃ n : Nat, w = .d (.int (n : Int)) ∧ n ≤ 100000 ∧ Q (.o ((List.range n).map fun k : Nat => .int (k : Int))) g1) : wE W (tLstRg (tRg1 te)) ρ g Q := fun σ H C R k =>
  q σ H _ R fun v H1 w g1 e1 j1 hv ⟨n, ew, hn, q1⟩ => by
    subst ew
    cases (show Tw W.K H1 v (.int n) from hv)
    refine ⟨n, rfl, RgOk.of_le (by omega) (by omega) (by omega) (by omega), fun p hp => ?_⟩
    have e : rgV 0 (n : Int) = ((List.range n).map fun k : Nat => (k : Int)).map V.int := by
      unfold rgV
      rw [Int.sub_zero, Int.toNat_natCast, List.map_map]
      exact List.map_congr_left fun a _ => by simp
    refine k _ _ (.o _) g1 (e1.trans (ExM.of (Ex.new hp))) ((R.grow e1 j1).stayG (Ex.new hp)) ⟨p, _, rfl, W.ω.back j1 e1 hp, upd_same, ?_⟩ q1
    rw [e, show ((List.range n).map fun k : Nat => PyData.int (k : Int)) = ((List.range n).map fun k : Nat => (k : Int)).map .int by rw [List.map_map]; rfl]
    exact TwL.ints _
end
/-- dict(pairs) -/
def rDictP (K : PySem.W.Frag) : List V → Hp → VK → Prop := fun xs H Q => ∃ (a : Addr) (ps : List Addr) (kvs : List (Key × V)), xs = [.ref a] ∧ SqL K H a (ps.map V.ref) ∧ Paired (fun p kv => SqT K H p [kV kv.1, kv.2]) ps kvs ∧ ∀ p, H p = none → Q (.ref p) (upd H p (.dK (mergeK [] kvs)))
theorem call_dP {X : Cx} (hc : X.calm = true) : CallR X (.type "dict") (rDictP X.K) := call_dictP hc
def mergeD (kvs more : List (Key × PyData)) : List (Key × PyData) := more.foldl (fun acc kv => kPut acc kv.1 kv.2) kvs
theorem kw_merge {K : PySem.W.Frag} {H : Hp} : ∀ {ms : List (Key × V)} {ds : List (Key × PyData)} {ks : List (Key × V)} {kvs : List (Key × PyData)}, KwL K H ms ds → KwL K H ks kvs → KwL K H (mergeK ks ms) (mergeD kvs ds)
  | _, _, _, _, .nil, h => h
  | _, _, _, _, .cons (k := k) (v := v) (d := d) a t, h => show KwL K H (mergeK (putK _ k v) _) (mergeD (kPut _ k d) _) from kw_merge t (kw_put h a)
def pairKD (kv : Key × PyData) : PyData := .tuple [keyD kv.1, kv.2]
theorem pairs_tw {K : PySem.W.Frag} {H : Hp} : ∀ {kvs : List (Key × PyData)} {vs : List V}, TwL K H vs (kvs.map pairKD) → ∃ (ps : List Addr) (ks : List (Key × V)), vs = ps.map V.ref ∧ Paired (fun p kv => SqT K H p [kV kv.1, kv.2]) ps ks ∧ KwL K H ks kvs
  | [], vs, h => by cases h; exact ⟨[], [], rfl, .nil, .nil⟩
  | kv :: r, vs, h => by
    cases h with
    | cons a t =>
      obtain ⟨ps, ks, e, h1, h2⟩ := pairs_tw t
      obtain ⟨p, xs, rfl, hp, hx⟩ := Tw.tupI (show Tw K H _ (.tuple _) from a)
      cases hx with
      | cons b c =>
        cases c with
        | cons d z =>
          cases z
          have eb := key_tw b
          subst eb
          exact ⟨p :: ps, (kv.1, _) :: ks, by rw [e]; rfl, .cons hp h1, .cons d h2⟩
theorem wC_dictP {K : PySem.W.Frag} {x : Wd} {kvs : List (Key × PyData)} {Q : Wd → Prop} (hx : x.tl = some (kvs.map pairKD)) (q : Q (.k (mergeD [] kvs))) : wC K (rDictP K) [x] Q := fun H vs C hv k => by
  obtain ⟨v, rfl, h⟩ := vr1 hv
  obtain ⟨p, xs, rfl, h2, h3⟩ := tl_at h hx
  obtain ⟨ps, ks, rfl, h4, h5⟩ := pairs_tw h3
  refine ⟨p, ps, ks, rfl, sq_of h2, h4, fun r hr => k _ _ (.k _) (Ex.new hr) ⟨r, _, rfl, hr, upd_same, (kw_merge h5 .nil).mono (Tx.ex (Ex.new hr))⟩ q⟩
section
variable {K : PySem.W.Frag} {ω : Wo Gd} {H0 : Hp} {n i : Nat} {a : Addr} {get : Gd → List (Key × PyData)} {put : Gd → List (Key × PyData) → Gd} {ρ : List Wd} {g : Gd} {tk : TE} {Q : Wd → Gd → Prop}
/-- d[k] -/
theorem wE_zix (L : Lens K ω a get put) (h : ρ[i]? = some (.z (.ref a))) (hi : i < n) (q : wE ⟨K, ω, H0, n⟩ tk ρ g fun w g1 => Kd (fun k => ∃ d, kGet (get g1) k = some d ∧ Q (.d d) g1) w) : wE ⟨K, ω, H0, n⟩ (tDGet (tVar i) tk) ρ g Q := fun σ H C R kk => by
  obtain ⟨u, h1, h2⟩ := RelN.sl R h hi
  obtain rfl : u = some (.ref a) := h2
  refine ⟨_, h1, q σ H _ R fun v H1 w g1 e1 j1 hv ⟨k, ew, d, hd, q1⟩ => ?_⟩
  subst ew
  obtain ⟨ks', h3', h4'⟩ := L.at_ g1 H1 j1
  rcases kw_get k h4' with ⟨z1, z2⟩ | ⟨d', v', z1, z2, z3⟩
  · rw [z1] at hd; cases hd
  · rw [z1] at hd
    cases hd
    refine ⟨a, v', rfl, ?_, kk _ H1 (.d d) g1 e1 j1 z3 q1⟩
    rw [key_tw hv, ← z2]
    exact DGet.k h3'
end
/-- f(x, d), d a dict just made -/
theorem wE_callDV {K : PySem.W.Frag} {H0 : Hp} {n : Nat} {ρ : List Wd} {ta td : TE} {Q : Wd → Unit → Prop} {pre : Addr → List Wd → Gd → (Wd → Gd → Prop) → Prop}
    (q : wE ⟨K, Wo0, H0, n⟩ ta ρ () fun w1 g1 => wE ⟨K, Wo0, H0, n⟩ td ρ g1 fun w2 _ => ∃ x kvs, w1 = .d x ∧ w2 = .k kvs ∧ flatK kvs ∧ ∀ a, pre a [.d x, .z (.ref a)] (kvs, []) fun w _ => Q w ()) : wE ⟨K, Wo0, H0, n⟩ (tPC (spW K (DV K) pre) (tCons ta (tCons td tNil))) ρ () Q := fun σ H C R k => by
  refine q σ H _ R fun v H1 w1 g1 e1 j1 hv q1 => ?_
  refine q1 σ H1 _ (R.grow e1 j1) fun u H2 w2 g2 e2 j2 hu ⟨x, kvs, ew1, ew2, hf, q2⟩ => ?_
  subst ew1 ew2
  obtain ⟨a, ks, rfl, h0, h3, h4⟩ := hu
  have hv2 : Tw K H2 v x := Tw.mono (Wo0.tx j1 e2) hv
  refine ⟨a, [.d x, .z (.ref a)], (kvs, []), _, q2 a, .cons hv2 (.cons rfl .nil), ⟨hf, rfl, ks, h3, h4⟩, fun b hb => by rw [List.mem_singleton.mp hb, h3]; exact fun y => (by cases y), fun w H' wd g' e j hw hq => ?_⟩
  have hH : H a = none := Wo0.back (g' := ()) j1 e1 h0
  have ee : ExM Wo0.M H2 H' → True := fun _ => trivial
  refine k w H' wd () (fun b o hb ho => ?_) True.intro ?_ hq
  · have hb2 : H2 b = some o := (e1.trans e2) b o hb ho
    exact e b o (fun hm => by rw [List.mem_singleton.mp hm, hH] at ho; cases ho) hb2
  · exact Vw.back (ω := Wo0) (g := ()) True.intro (e1.trans e2) hw
end Kt

/-! Kt, part S: repr tells data apart: tuples of numbers, truths, None and plain texts. -/
namespace Kt
open PySem PySem.Spec PyProof.Rows L2 Evl
def txtOk (x : Str) : Bool := decide ((reprText x).cps.toList = 39 :: (x.cps.toList ++ [39])) && x.cps.toList.all (fun c => c != 39)
mutual
def gdD : PyData → Bool
  | .none | .bool _ | .int _ => true
  | .str x => txtOk x
  | .tuple ds => gdL ds
  | _ => false
def gdL : List PyData → Bool
  | [] => true
  | d :: r => gdD d && gdL r
end
def Lt (d : PyData) : List Nat := d.shown.cps.toList
theorem cps_app (a b : Str) : (a ++ b).cps.toList = a.cps.toList ++ b.cps.toList := by
  show (a.cps ++ b.cps).toList = _
  rw [Array.toList_append]
/-- the items behind the first sign ( -/
def J2 : List PyData → List Nat
  | [] => [41]
  | [a] => Lt a ++ [41]
  | a :: b :: r => Lt a ++ 44 :: 32 :: J2 (b :: r)
def J1 : List PyData → List Nat
  | [] => [41]
  | [a] => Lt a ++ [44, 41]
  | a :: b :: r => Lt a ++ 44 :: 32 :: J2 (b :: r)
theorem join_J2 : ∀ (b : PyData) (r : List PyData), (Str.join ", " (PyData.shownAll (b :: r))).cps.toList ++ [41] = J2 (b :: r)
  | b, [] => by
    simp only [PyData.shownAll, Str.join, J2]
    rfl
  | b, c :: r => by
    have ih := join_J2 c r
    simp only [PyData.shownAll] at ih ⊢
    rw [Str.join, cps_app, cps_app, J2]
    · rw [← ih]
      rw [show ((", " : String) : Str).cps.toList = [44, 32] by decide +kernel]
      simp [Lt]
    · intro h; cases h
theorem shownAll_len : ∀ ds : List PyData, (PyData.shownAll ds).length = ds.length
  | [] => by simp [PyData.shownAll]
  | d :: r => by simp [PyData.shownAll, shownAll_len r]
theorem Lt_tuple (ds : List PyData) : Lt (.tuple ds) = 40 :: J1 ds := by
  unfold Lt
  simp only [PyData.shown]
  unfold tupleText
  rw [cps_app, cps_app, shownAll_len]
  rw [show (("(" : String) : Str).cps.toList = [40] by decide +kernel]
  match ds with
  | [] => simp only [PyData.shownAll]; decide +kernel
  | [a] =>
    rw [if_pos (by rfl), show ((",)" : String) : Str).cps.toList = [44, 41] by decide +kernel]
    simp only [PyData.shownAll, Str.join, J1]
    rfl
  | a :: b :: r =>
    rw [if_neg (by simp), show ((")" : String) : Str).cps.toList = [41] by decide +kernel]
    have h := join_J2 a (b :: r)
    rw [List.append_assoc, h]
    rfl
theorem split_at {P : Nat → Prop} : ∀ {a b u v : List Nat}, a ++ u = b ++ v → (∀ c ∈ a, P c) → (∀ c ∈ b, P c) → (∀ c ∈ u.head?, ¬ P c) → (∀ c ∈ v.head?, ¬ P c) → a = b ∧ u = v
  | [], [], _, _, e, _, _, _, _ => ⟨rfl, e⟩
  | [], c :: b, u, v, e, _, hb, hu, _ => by
    rw [List.nil_append] at e
    subst e
    exact absurd (hb c (by simp)) (hu c rfl)
  | c :: a, [], u, v, e, ha, _, _, hv => by
    rw [List.nil_append] at e
    subst e
    exact absurd (ha c (by simp)) (hv c rfl)
  | c :: a, d :: b, u, v, e, ha, hb, hu, hv => by
    rw [List.cons_append, List.cons_append] at e
    injection e with e1 e2
    obtain ⟨r1, r2⟩ := split_at e2 (fun x hx => ha x (by simp [hx])) (fun x hx => hb x (by simp [hx])) hu hv
    exact ⟨by rw [e1, r1], r2⟩
/-- the signs of a number -/
def nS (c : Nat) : Prop := c = 45 ∨ (48 ≤ c ∧ c ≤ 57)
theorem Lt_nat (m : Nat) : Lt (.int (m : Int)) = (Nat.toDigits 10 m).map Char.toNat := by
  unfold Lt
  simp only [PyData.shown]
  exact PySem.W.KIN.signs_num m
theorem Lt_neg (m : Nat) : Lt (.int (Int.negSucc m)) = 45 :: (Nat.toDigits 10 (m + 1)).map Char.toNat := by
  unfold Lt
  simp only [PyData.shown]
  rw [signs_ofString]
  show ("-" ++ Nat.repr (m + 1)).toList.map Char.toNat = _
  rw [String.toList_append, Nat.toList_repr, List.map_append]
  rfl
theorem dig_nS {m c : Nat} (h : c ∈ (Nat.toDigits 10 m).map Char.toNat) : 48 ≤ c ∧ c ≤ 57 := by
  obtain ⟨ch, hch, e⟩ := List.mem_map.mp h
  have r := Nat.isDigit_of_mem_toDigits (by decide) (by decide) hch
  rw [← e]
  exact digit_range r
theorem dig_inj {m n : Nat} (h : (Nat.toDigits 10 m).map Char.toNat = (Nat.toDigits 10 n).map Char.toNat) : m = n := by
  rw [← PySem.W.KIN.val_back m, h, PySem.W.KIN.val_back]
theorem dig_ne (m : Nat) : (Nat.toDigits 10 m).map Char.toNat ≠ [] := by
  intro e
  have h := toDigits_len_ge 10 m
  rw [List.map_eq_nil_iff.mp e] at h
  exact absurd h (by decide)
theorem Lt_int_nS (i : Int) : ∀ c ∈ Lt (.int i), nS c := fun c hc => by
  cases i with
  | ofNat m => rw [show Int.ofNat m = (m : Int) from rfl, Lt_nat] at hc; exact .inr (dig_nS hc)
  | negSucc m =>
    rw [Lt_neg] at hc
    rcases List.mem_cons.mp hc with rfl | hc
    · exact .inl rfl
    · exact .inr (dig_nS hc)
theorem Lt_int_ne (i : Int) : Lt (.int i) ≠ [] := by
  cases i with
  | ofNat m => rw [show Int.ofNat m = (m : Int) from rfl, Lt_nat]; exact dig_ne m
  | negSucc m => rw [Lt_neg]; exact fun h => by cases h
theorem Lt_int_inj {i j : Int} (h : Lt (.int i) = Lt (.int j)) : i = j := by
  cases i with
  | ofNat m =>
    rw [show Int.ofNat m = (m : Int) from rfl, Lt_nat] at h
    cases j with
    | ofNat n => rw [show Int.ofNat n = (n : Int) from rfl, Lt_nat] at h; rw [dig_inj h]
    | negSucc n =>
      rw [Lt_neg] at h
      have := dig_nS (m := m) (c := 45) (by rw [h]; simp)
      omega
  | negSucc m =>
    rw [Lt_neg] at h
    cases j with
    | ofNat n =>
      rw [show Int.ofNat n = (n : Int) from rfl, Lt_nat] at h
      have := dig_nS (m := n) (c := 45) (by rw [← h]; simp)
      omega
    | negSucc n =>
      rw [Lt_neg] at h
      injection h with _ h
      have := dig_inj h
      rw [show m = n by omega]
/-- what a text of data begins with -/
def kd : PyData → Nat
  | .none => 0 | .bool true => 1 | .bool false => 2 | .int _ => 3 | .str _ => 4 | .tuple _ => 5 | _ => 6
def kc (c : Nat) : Nat := if c = 78 then 0 else if c = 84 then 1 else if c = 70 then 2 else if c = 39 then 4 else if c = 40 then 5 else 3
theorem txtOk_iff {x : Str} (h : txtOk x = true) : Lt (.str x) = 39 :: (x.cps.toList ++ [39]) ∧ ∀ c ∈ x.cps.toList, c ≠ 39 := by
  unfold txtOk at h
  rw [Bool.and_eq_true] at h
  refine ⟨?_, fun c hc => ?_⟩
  · unfold Lt
    simp only [PyData.shown]
    exact of_decide_eq_true h.1
  · have := List.all_eq_true.mp h.2 c hc
    simpa using this
theorem Lt_none : Lt .none = [78, 111, 110, 101] := by unfold Lt; simp only [PyData.shown]; decide +kernel
theorem Lt_true : Lt (.bool true) = [84, 114, 117, 101] := by unfold Lt; simp only [PyData.shown]; decide +kernel
theorem Lt_false : Lt (.bool false) = [70, 97, 108, 115, 101] := by unfold Lt; simp only [PyData.shown]; decide +kernel
theorem Lt_hd {d : PyData} (g : gdD d = true) : ∃ c r, Lt d = c :: r ∧ kc c = kd d ∧ c ≠ 41 := by
  cases d with
  | none => exact ⟨_, _, Lt_none, rfl, by decide⟩
  | bool b =>
    cases b with
    | true => exact ⟨_, _, Lt_true, rfl, by decide⟩
    | false => exact ⟨_, _, Lt_false, rfl, by decide⟩
  | int i =>
    have h := Lt_int_nS i
    cases e : Lt (.int i) with
    | nil => exact absurd e (Lt_int_ne i)
    | cons c r =>
      have := h c (by rw [e]; simp)
      refine ⟨c, r, rfl, ?_, ?_⟩
      · show kc c = 3
        unfold kc
        unfold nS at this
        repeat rw [if_neg (by omega)]
      · unfold nS at this; omega
  | str x => exact ⟨_, _, (txtOk_iff (by simpa [gdD] using g)).1, rfl, by decide⟩
  | tuple ds => exact ⟨_, _, Lt_tuple ds, rfl, by decide⟩
  | list _ => simp [gdD] at g
  | dict _ => simp [gdD] at g
/-- what may follow a text of data -/
def dlm (u : List Nat) : Prop := ∀ c ∈ u.head?, c = 44 ∨ c = 41
theorem dlm_at (c : Nat) (u : List Nat) (h : c = 44 ∨ c = 41) : dlm (c :: u) := fun x hx => by
  cases hx
  exact h
theorem dlm_nS {u : List Nat} (h : dlm u) : ∀ c ∈ u.head?, ¬ nS c := fun c hc z => by
  have := h c hc
  unfold nS at z
  omega
mutual
theorem Lt_inj : ∀ (d e : PyData) (u v : List Nat), gdD d = true → gdD e = true → dlm u → dlm v → Lt d ++ u = Lt e ++ v → d = e ∧ u = v
  | d, e, u, v, gd, ge, hu, hv, h => by
    have hk : kd d = kd e := by
      obtain ⟨c, r, e1, k1, _⟩ := Lt_hd gd
      obtain ⟨c2, r2, e2, k2, _⟩ := Lt_hd ge
      rw [e1, e2, List.cons_append, List.cons_append] at h
      injection h with h1 _
      rw [← k1, ← k2, h1]
    match d with
    | .none =>
      cases e with
      | none => exact ⟨rfl, List.append_cancel_left h⟩
      | bool b => cases b <;> cases hk
      | list _ => simp [gdD] at ge
      | dict _ => simp [gdD] at ge
      | _ => cases hk
    | .bool a =>
      cases e with
      | bool b =>
        cases a <;> cases b
        · exact ⟨rfl, List.append_cancel_left h⟩
        · cases hk
        · cases hk
        · exact ⟨rfl, List.append_cancel_left h⟩
      | list _ => simp [gdD] at ge
      | dict _ => simp [gdD] at ge
      | _ => cases a <;> cases hk
    | .int i =>
      cases e with
      | bool b => cases b <;> cases hk
      | int j =>
        obtain ⟨e1, e2⟩ := split_at h (Lt_int_nS i) (Lt_int_nS j) (dlm_nS hu) (dlm_nS hv)
        exact ⟨by rw [Lt_int_inj e1], e2⟩
      | list _ => simp [gdD] at ge
      | dict _ => simp [gdD] at ge
      | _ => cases hk
    | .str x =>
      cases e with
      | bool b => cases b <;> cases hk
      | str y =>
        obtain ⟨x1, x2⟩ := txtOk_iff (by simpa [gdD] using gd)
        obtain ⟨y1, y2⟩ := txtOk_iff (by simpa [gdD] using ge)
        rw [x1, y1, List.cons_append, List.cons_append, List.append_assoc, List.append_assoc] at h
        injection h with _ h
        obtain ⟨e1, e2⟩ := split_at (P := fun c => c ≠ 39) h x2 y2 (fun c hc z => z (by cases hc; rfl)) (fun c hc z => z (by cases hc; rfl))
        injection e2 with _ e2
        refine ⟨?_, e2⟩
        cases x with
        | mk a =>
          cases y with
          | mk b =>
            have : a = b := Array.toList_inj.mp e1
            rw [this]
      | list _ => simp [gdD] at ge
      | dict _ => simp [gdD] at ge
      | _ => cases hk
    | .tuple xs =>
      cases e with
      | bool b => cases b <;> cases hk
      | tuple ys =>
        rw [Lt_tuple, Lt_tuple, List.cons_append, List.cons_append] at h
        injection h with _ h
        obtain ⟨e1, e2⟩ := J1_inj xs ys u v (by simpa only [gdD] using gd) (by simpa only [gdD] using ge) h
        exact ⟨by rw [e1], e2⟩
      | list _ => simp [gdD] at ge
      | dict _ => simp [gdD] at ge
      | _ => cases hk
    | .list _ => simp [gdD] at gd
    | .dict _ => simp [gdD] at gd
theorem J1_inj : ∀ (xs ys : List PyData) (u v : List Nat), gdL xs = true → gdL ys = true → J1 xs ++ u = J1 ys ++ v → xs = ys ∧ u = v
  | [], [], u, v, _, _, h => ⟨rfl, List.append_cancel_left h⟩
  | [], b :: s, u, v, _, g, h => by
    exfalso
    rw [gdL, Bool.and_eq_true] at g
    obtain ⟨c, r, e1, _, k⟩ := Lt_hd g.1
    cases s with
    | nil => rw [J1, J1, e1] at h; injection h with h _; exact k h.symm
    | cons b2 s => rw [J1, J1, e1] at h; injection h with h _; exact k h.symm
  | [a], ys, u, v, g, g2, h => by
    rw [gdL, Bool.and_eq_true] at g
    cases ys with
    | nil =>
      exfalso
      obtain ⟨c, r, e1, _, k⟩ := Lt_hd g.1
      rw [J1, J1, e1] at h; injection h with h _; exact k h
    | cons b s =>
      rw [gdL, Bool.and_eq_true] at g2
      cases s with
      | nil =>
        rw [J1, J1, List.append_assoc, List.append_assoc] at h
        obtain ⟨e1, e2⟩ := Lt_inj a b _ _ g.1 g2.1 (dlm_at _ _ (.inl rfl)) (dlm_at _ _ (.inl rfl)) h
        injection e2 with _ e2
        injection e2 with _ e2
        exact ⟨by rw [e1], e2⟩
      | cons b2 s =>
        rw [J1, J1, List.append_assoc, List.append_assoc] at h
        obtain ⟨e1, e2⟩ := Lt_inj a b _ _ g.1 g2.1 (dlm_at _ _ (.inl rfl)) (dlm_at _ _ (.inl rfl)) h
        injection e2 with _ e2
        injection e2 with e2 _
        cases e2
  | a :: a2 :: r, ys, u, v, g, g2, h => by
    rw [gdL, Bool.and_eq_true] at g
    cases ys with
    | nil =>
      exfalso
      obtain ⟨c, r, e1, _, k⟩ := Lt_hd g.1
      rw [J1, J1, e1] at h; injection h with h _; exact k h
    | cons b s =>
      rw [gdL, Bool.and_eq_true] at g2
      cases s with
      | nil =>
        rw [J1, J1, List.append_assoc, List.append_assoc] at h
        obtain ⟨e1, e2⟩ := Lt_inj a b _ _ g.1 g2.1 (dlm_at _ _ (.inl rfl)) (dlm_at _ _ (.inl rfl)) h
        injection e2 with _ e2
        injection e2 with e2 _
        cases e2
      | cons b2 s =>
        rw [J1, J1, List.append_assoc, List.append_assoc] at h
        obtain ⟨e1, e2⟩ := Lt_inj a b _ _ g.1 g2.1 (dlm_at _ _ (.inl rfl)) (dlm_at _ _ (.inl rfl)) h
        injection e2 with _ e2
        injection e2 with _ e2
        obtain ⟨e3, e4⟩ := J2_inj (a2 :: r) (b2 :: s) u v (by simp) (by simp) g.2 g2.2 e2
        exact ⟨by rw [e1, e3], e4⟩
theorem J2_inj : ∀ (xs ys : List PyData) (u v : List Nat), xs ≠ [] → ys ≠ [] → gdL xs = true → gdL ys = true → J2 xs ++ u = J2 ys ++ v → xs = ys ∧ u = v
  | [], _, _, _, n, _, _, _, _ => absurd rfl n
  | [a], ys, u, v, _, n2, g, g2, h => by
    rw [gdL, Bool.and_eq_true] at g
    cases ys with
    | nil => exact absurd rfl n2
    | cons b s =>
      rw [gdL, Bool.and_eq_true] at g2
      cases s with
      | nil =>
        rw [J2, J2, List.append_assoc, List.append_assoc] at h
        obtain ⟨e1, e2⟩ := Lt_inj a b _ _ g.1 g2.1 (dlm_at _ _ (.inr rfl)) (dlm_at _ _ (.inr rfl)) h
        injection e2 with _ e2
        exact ⟨by rw [e1], e2⟩
      | cons b2 s =>
        rw [J2, J2, List.append_assoc, List.append_assoc] at h
        obtain ⟨e1, e2⟩ := Lt_inj a b _ _ g.1 g2.1 (dlm_at _ _ (.inr rfl)) (dlm_at _ _ (.inl rfl)) h
        injection e2 with e2 _
        cases e2
  | a :: a2 :: r, ys, u, v, _, n2, g, g2, h => by
    rw [gdL, Bool.and_eq_true] at g
    cases ys with
    | nil => exact absurd rfl n2
    | cons b s =>
      rw [gdL, Bool.and_eq_true] at g2
      cases s with
      | nil =>
        rw [J2, J2, List.append_assoc, List.append_assoc] at h
        obtain ⟨e1, e2⟩ := Lt_inj a b _ _ g.1 g2.1 (dlm_at _ _ (.inl rfl)) (dlm_at _ _ (.inr rfl)) h
        injection e2 with e2 _
        cases e2
      | cons b2 s =>
        rw [J2, J2, List.append_assoc, List.append_assoc] at h
        obtain ⟨e1, e2⟩ := Lt_inj a b _ _ g.1 g2.1 (dlm_at _ _ (.inl rfl)) (dlm_at _ _ (.inl rfl)) h
        injection e2 with _ e2
        injection e2 with _ e2
        obtain ⟨e3, e4⟩ := J2_inj (a2 :: r) (b2 :: s) u v (by simp) (by simp) g.2 g2.2 e2
        exact ⟨by rw [e1, e3], e4⟩
end
theorem shown_inj {d e : PyData} (gd : gdD d = true) (ge : gdD e = true) (h : d.shown = e.shown) : d = e :=
  (Lt_inj d e [] [] gd ge (fun _ h => by cases h) (fun _ h => by cases h) (by unfold Lt; rw [h])).1
end Kt

/-! Kt, part J: isinstance, repr of any data, t * k, written dicts of one's own. -/
namespace Kt
open PySem PySem.Spec PyProof.Rows L2 Evl
/-! ### t * k -/
set_option maxHeartbeats 4000000 in
theorem tup_mul1 (l : Addr) (items : Array Value) (n : Nat) (dd : Option Addr) (sl : Array (Option Value)) (u : Tok) (c0 : (decide ((1 : Int) < -(2 ^ 63)) || decide ((1 : Int) ≥ 2 ^ 63)) = false) (c1 : (items.isEmpty || (1 : Int) == 1) = true) :
    Meets (Builtin.«tuple.__mul__» ⟨[.ref l, .int 1 u], []⟩) (fun _ R s => s.heap.get? l = some { cls := .type "tuple", dict := dd, data := .seq items n, slots := sl } ∧ R (.ok (.ret (Value.ref l))) s) :=
  .of_wp fun prog w A R s h => by
    obtain ⟨hp, g, d, tk, os⟩ := s
    obtain ⟨hl, h⟩ := h
    have f1 := AutoSeq1.idx_int
    wp_walk using wpAny_loadPart' hl
    repeat (first
      | (refine wpAny_ite_false (decide_eq_false (by rw [c0]; exact Bool.false_ne_true)) ?_; wp_walk using wpAny_loadPart' hl)
      | (refine wpAny_ite_true (decide_eq_true c1) ?_; wp_walk using wpAny_loadPart' hl))
    exact ⟨_, rfl, h⟩
set_option maxHeartbeats 4000000 in
theorem tup_mul0 (l : Addr) (items : Array Value) (n : Nat) (dd : Option Addr) (sl : Array (Option Value)) (u : Tok) (c0 : (decide ((0 : Int) < -(2 ^ 63)) || decide ((0 : Int) ≥ 2 ^ 63)) = false) (c1 : (items.isEmpty || (0 : Int) == 1) = false) (c2 : (decide ((0 : Int) ≤ 0) || items.isEmpty) = true) :
    Meets (Builtin.«tuple.__mul__» ⟨[.ref l, .int 0 u], []⟩) (fun _ R s => s.heap.get? l = some { cls := .type "tuple", dict := dd, data := .seq items n, slots := sl } ∧
      R (.ok (.ret (Value.ref s.heap.objs.size))) { s with heap := s.heap.push { cls := Value.type "tuple", data := Data.seq #[] }, toks := s.toks }) :=
  .of_wp fun prog w A R s h => by
    obtain ⟨hp, g, d, tk, os⟩ := s
    obtain ⟨hl, h⟩ := h
    have f1 := AutoSeq1.idx_int
    wp_walk using wpAny_loadPart' hl
    repeat (first
      | (refine wpAny_ite_false (decide_eq_false (by rw [c0]; exact Bool.false_ne_true)) ?_; wp_walk using wpAny_loadPart' hl)
      | (refine wpAny_ite_false (decide_eq_false (by rw [c1]; exact Bool.false_ne_true)) ?_; wp_walk using wpAny_loadPart' hl)
      | (refine wpAny_ite_true (decide_eq_true c2) ?_; wp_walk using wpAny_loadPart' hl))
    exact ⟨_, rfl, h⟩
/-- t * k, t not empty, k not negative -/
def rRepA (K : PySem.W.Frag) : R2 := fun x y H Q => ∃ l k xs, x = .ref l ∧ y = .int k ∧ SqT K H l xs ∧ xs ≠ [] ∧ 0 ≤ k ∧ k ≤ 1000 ∧ xs.length ≤ 1000 ∧
  (k = 1 → Q (.ref l) H) ∧ (k ≠ 1 → ∀ p, H p = none → Q (.ref p) (upd H p (.tup (List.replicate k.toNat xs).flatten)))
section
variable {X : Cx}
set_option maxHeartbeats 4000000 in
theorem op_repA : OpR X (binaryOp .Mult) (rRepA X.K) := by
  intro pins s σ H x y v u Q I rx ry h
  obtain ⟨l, k, xs, rfl, rfl, hT, hne, h1, h2, hz, q1, q2⟩ := h
  by_cases k2 : 2 ≤ k
  · exact op_repT pins s σ H _ _ v u Q I rx ry ⟨l, k, xs, rfl, rfl, hT, hne, k2, h2, hz, q2 (by omega)⟩
  cases rx
  obtain ⟨t, rfl⟩ := ry
  obtain ⟨its, r, ⟨⟨cls, dd, data, sl⟩, ho, hc, n, hd⟩, hs⟩ := I.tuple hT
  simp only at hc hd
  subst hc hd
  have hle : its.length = xs.length := r.length.symm
  have hn : its ≠ [] := fun e => hne (by
    rw [e] at hle
    exact List.eq_nil_of_length_eq_zero hle.symm)
  have hi : its.toArray.isEmpty = false := by
    cases its with
    | nil => exact absurd rfl hn
    | cons a b => rfl
  have hk : k = 1 ∨ k = 0 := by omega
  rcases hk with rfl | rfl
  · refine wpAny_binaryOp_repeat_ref (T := "tuple") (U := "int") (by decide) ⟨_, ho, rfl⟩ (fun s' => typeIs_int s' _ t) noFill_tuple_mul F.fills_int_mul F.slot_int_rmul repeat_tuple F.slot_int_index.lookup
      (call_meets F.slot_int_rmul (typeIs_int s _ t) F.entry_int_rmul (F.args_int_rmul_2 _ _) (int_rmul_tuple _ t l its.toArray n dd sl)
        ⟨ho, rfl, ⟨_, ho, rfl⟩, call_meets F.slot_tuple_mul ⟨_, ho, rfl⟩ F.entry_tuple_mul (F.args_tuple_mul_2 _ _) (tup_mul1 l its.toArray n dd sl t (by decide) (by rw [hi]; decide)) ⟨ho, ?_⟩⟩)
    exact ⟨.ref l, H, I, rfl, q1 rfl⟩
  · refine wpAny_binaryOp_repeat_ref (T := "tuple") (U := "int") (by decide) ⟨_, ho, rfl⟩ (fun s' => typeIs_int s' _ t) noFill_tuple_mul F.fills_int_mul F.slot_int_rmul repeat_tuple F.slot_int_index.lookup
      (call_meets F.slot_int_rmul (typeIs_int s _ t) F.entry_int_rmul (F.args_int_rmul_2 _ _) (int_rmul_tuple _ t l its.toArray n dd sl)
        ⟨ho, rfl, ⟨_, ho, rfl⟩, call_meets F.slot_tuple_mul ⟨_, ho, rfl⟩ F.entry_tuple_mul (F.args_tuple_mul_2 _ _) (tup_mul0 l its.toArray n dd sl t (by decide) (by rw [hi]; decide) rfl) ⟨ho, ?_⟩⟩)
    refine ⟨.ref s.heap.objs.size, _, I.laid (t' := s.toks) (o := .tup (List.replicate (0 : Int).toNat xs).flatten) (fun b ob q => Heap.get?_push_of_some _ q) (Nat.le_refl _) ?_, rfl, q2 (by decide) _ (I.hok.fresh (Nat.le_refl _))⟩
    exact ⟨by show (0 : Nat) ≤ _; exact Nat.zero_le _, [], .nil, IsTup.new _ _⟩
end
theorem TwL.rep {K : PySem.W.Frag} {H : Hp} {vs : List V} {ds : List PyData} (h : TwL K H vs ds) : ∀ k : Nat, TwL K H (List.replicate k vs).flatten (List.replicate k ds).flatten
  | 0 => .nil
  | k + 1 => by
    rw [List.replicate_succ, List.replicate_succ, List.flatten_cons, List.flatten_cons]
    exact h.app (TwL.rep h k)
theorem wR_repT {K : PySem.W.Frag} {ds : List PyData} {k : Nat} {Q : Wd → Prop} (h1 : ds ≠ []) (h2 : k ≤ 1000) (h3 : ds.length ≤ 1000) (q : Q (.d (.tuple (List.replicate k ds).flatten))) : wR K (rRepA K) (.d (.tuple ds)) (.d (.int (k : Int))) Q := fun H v u C hv hu kk => by
  obtain ⟨a, xs, rfl, h5, h6⟩ := Tw.tupI hv
  cases hu
  refine ⟨a, (k : Int), xs, rfl, rfl, h5, fun e => h1 (h6.nil_iff.mp e), by omega, by omega, by rw [h6.length]; exact h3, fun e => ?_, fun _ p hp => ?_⟩
  · have : k = 1 := by omega
    subst this
    have e : (List.replicate 1 ds).flatten = ds := by simp
    rw [e] at q
    exact kk _ H (.d (.tuple ds)) (Ex.refl H) hv q
  · have hf := (h6.rep k).mono (Tx.ex (Ex.new (o := .tup (List.replicate (k : Int).toNat xs).flatten) hp))
    refine kk _ _ (.d (.tuple (List.replicate k ds).flatten)) (Ex.new hp) (.tup (st_of upd_same) ?_) q
    rw [Int.toNat_natCast]
    exact (h6.rep k).mono (Tx.ex (Ex.new hp))
/-! ### isinstance -/
theorem tw_tyX {K : PySem.W.Frag} {H : Hp} {v : V} {d : PyData} (h : Tw K H v d) (hn : notO d = true) : TyX K H v (.type (tyN d)) := by
  cases h with
  | obj => cases hn
  | non => exact .base .non
  | bl b => exact .base (.bl b)
  | int i => exact .base (.int i)
  | str x => exact .base (.str x)
  | tup h t =>
    rcases h with (h | ⟨o, h⟩) | ⟨_, _, _, e, c, _⟩
    · exact .base (.tup h)
    · exact .fTuple h
    · exact .kTuple e c
theorem wC_isi {K : PySem.W.Frag} {d : PyData} {T : String} {b : Bool} {Q : Wd → Prop} (e : kitB (tyN d) T = some b) (q : Q (.d (.bool b))) (hn : notO d = true := by rfl) : wC K (rIsi K) [.d d, .z (.ty T)] Q := fun H vs C hv k => by
  cases hv with
  | cons a t =>
    cases t with
    | cons a2 t2 =>
      cases t2
      obtain rfl := vrz a2
      exact ⟨_, _, _, _, b, rfl, .ty T, tw_tyX a hn, kit_ty e, k _ H (.d (.bool b)) (Ex.refl H) (.bl b) q⟩
/-! ### repr of any data -/
def rReprX (K : PySem.W.Frag) : List V → Hp → VK → Prop := fun vs H Q => rReprD K vs H Q ∨ (∃ i : Int, vs = [.int i] ∧ i.natAbs.log2 < 1920 ∧ Q (.str (toString i)) H) ∨ (vs = [.non] ∧ Q (.str "None") H)
section
variable {X : Cx}
theorem call_reprX (hA : X.A.guards = some []) (hu : X.A.units + 129 < cLine) : CallR X (.builtin "repr") (rReprX X.K) := by
  intro pins s σ H vs us Q I r h
  rcases h with h | ⟨i, rfl, hz, q⟩ | ⟨rfl, q⟩
  · exact call_reprD hA hu pins s σ H vs us Q I r h
  · obtain ⟨u, rfl, t, rfl⟩ := vals1 r
    exact PySem.P.repr_of_int hz ⟨.str _, H, I.tok _, ⟨_, rfl⟩, q⟩
  · obtain ⟨u, rfl, ru⟩ := vals1 r
    cases (show u = Value.none from ru)
    exact PySem.P.repr_of_none ⟨.str _, H, I.tok _, ⟨_, rfl⟩, q⟩
end
theorem wC_reprT {K : PySem.W.Frag} {ds : List PyData} {w dp : Nat} {Q : Wd → Prop} (q : Smd w dp (.tuple ds) (Q (.d (.str (PyData.shown (.tuple ds)))))) : wC K (rReprX K) [.d (.tuple ds)] Q := fun H vs C hv k => .inl (wC_repr q H vs C hv k)
theorem wC_reprI {K : PySem.W.Frag} {i : Int} {Q : Wd → Prop} (hz : i.natAbs.log2 < 1920) (q : Q (.d (.str (toString i)))) : wC K (rReprX K) [.d (.int i)] Q := fun H vs C hv k => by
  obtain ⟨v, rfl, h⟩ := vr1 hv
  cases h
  exact .inr (.inl ⟨i, rfl, hz, k _ H (.d (.str _)) (Ex.refl H) (.str _) q⟩)
theorem wC_reprN {K : PySem.W.Frag} {Q : Wd → Prop} (q : Q (.d (.str "None"))) : wC K (rReprX K) [.d .none] Q := fun H vs C hv k => by
  obtain ⟨v, rfl, h⟩ := vr1 hv
  cases h
  exact .inr (.inr ⟨rfl, k _ H (.d (.str _)) (Ex.refl H) (.str _) q⟩)
/-! ### `is` of truths, texts put together, d[k] of one's own dict, written dicts -/
theorem wR_isBl {K : PySem.W.Frag} {a b : Bool} {Q : Wd → Prop} (q : Q (.d (.bool (decide (a = b))))) : wR K rIsB (.d (.bool a)) (.d (.bool b)) Q := fun H v u C hv hu k => by
  cases hv; cases hu
  exact ⟨a, b, rfl, rfl, k _ H (.d (.bool _)) (Ex.refl H) (.bl _) q⟩
theorem wR_addS {K : PySem.W.Frag} {a b : Str} {Q : Wd → Prop} (hz : a.length + b.length ≤ sizeLine) (q : Q (.d (.str (a ++ b)))) : wR K (fun x y H Q => ∃ i j, x = .str i ∧ y = .str j ∧ i.length + j.length ≤ sizeLine ∧ Q (.str (i ++ j)) H) (.d (.str a)) (.d (.str b)) Q := fun H v u C hv hu k => by
  cases hv; cases hu
  exact ⟨a, b, rfl, rfl, hz, k _ H (.d (.str _)) (Ex.refl H) (.str _) q⟩
section
variable {γ : Type} {W : Wc γ} {ρ : List Wd} {g : γ} {Q : Wd → γ → Prop} {i : Nat} {tk tv : TE}
theorem wE_dix {kvs : List (Key × PyData)} (h : ρ[i]? = some (.k kvs)) (hi : i < W.n) (q : wE W tk ρ g fun w g1 => Kd (fun k => ∃ d, kGet kvs k = some d ∧ Q (.d d) g1) w) : wE W (tDGet (tVar i) tk) ρ g Q := fun σ H C R kk => by
  obtain ⟨a, ks, h1, h2, h3, h4⟩ := RelN.dic R h hi
  refine ⟨_, h1, q σ H _ R fun v H1 w g1 e1 j1 hv ⟨k, ew, d, hd, q1⟩ => ?_⟩
  subst ew
  have R1 := R.grow e1 j1
  obtain ⟨a', ks', h1', h2', h3', h4'⟩ := RelN.dic R1 h hi
  rw [h1] at h1'
  cases h1'
  rcases kw_get k h4' with ⟨z1, z2⟩ | ⟨d', v', z1, z2, z3⟩
  · rw [z1] at hd; cases hd
  · rw [z1] at hd
    cases hd
    refine ⟨a, v', rfl, ?_, kk _ H1 (.d d) g1 e1 j1 z3 q1⟩
    rw [key_tw hv, ← z2]
    exact DGet.k h3'
/-- entries of a written dict -/
def wP (W : Wc γ) (trs : List (TE × TE)) (ρ : List Wd) (g : γ) (Q : List (Key × PyData) → γ → Prop) : Prop := ∀ (σ : L2.St) (H : Hp) (C : List (V × V) → Hp → Prop), W.R H g σ ρ → (∀ (ks : List (Key × V)) (kvs : List (Key × PyData)) H' g', ExM W.ω.M H H' → W.ω.J g' H' → KwL W.K H' ks kvs → Q kvs g' → C (ks.map fun kv => (kV kv.1, kv.2)) H') → tPairs trs σ H C
theorem wP_nil {QP : List (Key × PyData) → γ → Prop} (q : QP [] g) : wP W [] ρ g QP := fun σ H C R k => k [] [] H g (ExM.refl H) R.j .nil q
theorem wP_cons {trs : List (TE × TE)} {QP : List (Key × PyData) → γ → Prop} (q : wE W tk ρ g fun w g1 => Kd (fun k => wE W tv ρ g1 fun w2 g2 => Dd (fun d => wP W trs ρ g2 fun kvs g3 => QP ((k, d) :: kvs) g3) w2) w) : wP W ((tk, tv) :: trs) ρ g QP := fun σ H C R kk =>
  q σ H _ R fun v H1 w g1 e1 j1 hv ⟨k, ew, q1⟩ => by
    subst ew
    refine q1 σ H1 _ (R.grow e1 j1) fun u H2 w2 g2 e2 j2 hu ⟨d, ew, q2⟩ => ?_
    subst ew
    refine q2 σ H2 _ ((R.grow e1 j1).grow e2 j2) fun ks kvs H3 g3 e3 j3 hk q3 => ?_
    have := kk ((k, u) :: ks) ((k, d) :: kvs) H3 g3 ((e1.trans e2).trans e3) j3 (.cons (Tw.mono (W.ω.tx j2 e3) hu) hk) q3
    rw [key_tw hv]
    exact this
theorem wE_disp {trs : List (TE × TE)} (q : wP W trs ρ g fun kvs g1 => kvs.length ≤ 15 ∧ Q (.k (mergeD [] kvs)) g1) : wE W (tDisp trs) ρ g Q := fun σ H C R k p hp => by
  have R1 : W.R (upd H p (.dK [])) g σ ρ := R.grow (ExM.of (Ex.new hp)) (R.stayG (Ex.new hp))
  refine q σ _ _ R1 fun ks kvs H2 g2 e2 j2 hk ⟨hl, q2⟩ => ?_
  have h0 : W.H0 p = none := R.free hp
  obtain ⟨_, τ, rr⟩ := id R
  have hM : p ∉ W.ω.A := rr.nM h0
  have e0 : H2 p = some (.dK []) := e2 p _ (fun z => hM (W.ω.sub p z)) upd_same
  have hkl : ∀ {ks : List (Key × V)} {kvs : List (Key × PyData)}, KwL W.K H2 ks kvs → ks.length = kvs.length := by
    intro ks kvs hk
    induction hk with
    | nil => rfl
    | cons a t ih => exact congrArg (· + 1) ih
  refine ⟨e0, ks, rfl, by rw [hkl hk]; exact hl, ?_⟩
  have tx : Tx H2 (upd H2 p (.dK (mergeK [] ks))) := dk_tx e0
  have ex : ExM W.ω.M H (upd H2 p (.dK (mergeK [] ks))) := fun b o n hb => by
    have hne : b ≠ p := fun z => by rw [z] at hb; rw [hp] at hb; cases hb
    rw [upd_ne hne]
    exact e2 b o n ((upd_ne hne).trans hb)
  refine k _ _ (.k (mergeD [] kvs)) g2 ex (W.ω.stay g2 H2 _ j2 fun b o hb e => (upd_ne (fun z => hM (by rw [← z]; exact hb))).trans e) ⟨p, _, rfl, hp, upd_same, ?_⟩ q2
  exact (kw_merge hk .nil).mono tx
end
end Kt
namespace Kt
open PySem PySem.Spec PyProof.Rows L2 Evl
theorem wR_neNI {K : PySem.W.Frag} {Q : Wd → Prop} {a : Int} (q : Q (.d (.bool true))) : wR K rNe (.d .none) (.d (.int a)) Q := fun H v u C hv hu k => by
  cases hv; cases hu
  exact ⟨rfl, k _ H _ (Ex.refl H) (show Vw K H H (.bl _) (.d (.bool true)) from .bl _) q⟩
end Kt

/-! Kt, part I: loops in a heap: enumerate of a list, downward ranges; readings of the data layer used in a heap. -/
namespace Kt
open PySem PySem.Spec PyProof.Rows L2 Evl
section
variable {K : PySem.W.Frag} {g : TG} {tb : TS} {D : Ends} {σ : L2.St} {H : Hp} {R : It → Hp → Prop} {ta : TA}
theorem rd_iEnum (q : ta σ H fun vs H1 => ∃ a xs, vs = [.ref a] ∧ SqL K H1 a xs ∧ R (Ite K a) H1) : iEnum K ta σ H R := q
theorem rd_enL {a : Addr} {xs : List V} (h : SqL K H a xs) (q : R (Ite K a) H) : ∃ a' xs', [V.ref a] = [.ref a'] ∧ SqL K H a' xs' ∧ R (Ite K a') H := ⟨a, xs, rfl, h, q⟩
theorem rd_forE {a : Addr} (xs : List V) (Pv : Nat → L2.St → Hp → Prop) (h0 : Pv 0 σ H) (hl : ∀ i σ' H', i ≤ xs.length → Pv i σ' H' → H' a = some (.lst xs))
    (hs : ∀ i x T σ' H', xs[i]? = some x → Pv i σ' H' → H' T = none → g (.ref T) σ' (upd H' T (.tup [.int (i : Nat), x])) fun σ2 H3 => tb { D with nx := Pv (i + 1), ct := Pv (i + 1), bk := D.nx } σ2 H3)
    (hd : ∀ σ' H', Pv xs.length σ' H' → D.nx σ' H') : ForW (Ite K a) g tb D σ H := by
  refine ⟨fun i m σ H => m = xs.length - i ∧ i ≤ xs.length ∧ Pv i σ H, ⟨xs.length, rfl, Nat.zero_le _, h0⟩, ?_⟩
  rintro i m σ H ⟨rfl, hi, p⟩
  have q := hl i σ H hi p
  by_cases hlt : i < xs.length
  · have hx : xs[i]? = some xs[i] := List.getElem?_eq_getElem hlt
    refine .inr ⟨⟨xs, _, sq_of q, hx⟩, Pv (i + 1), fun σ' H' p' => ⟨xs.length - (i + 1), by omega, rfl, hlt, p'⟩, fun v H' y => ?_⟩
    obtain ⟨T, x', rfl, hT, rfl, f⟩ := y
    have := f xs (sq_of q)
    rw [hx] at this
    cases this
    exact hs i _ T σ H hx p hT
  · have e : i = xs.length := by omega
    subst e
    exact .inl ⟨⟨xs, sq_of q, Nat.le_refl _⟩, hd σ H p⟩
theorem rd_iRng3 (q : ta σ H fun vs H1 => ∃ i j k n, vs = [.int i, .int j, .int k] ∧ RgC i j k n ∧ R (Itc i k n) H1) : iRng3 ta σ H R := q
theorem rd_dn {a b : Int} (b1 : -(2 ^ 62) ≤ a) (b2 : a < 2 ^ 62) (b3 : -(2 ^ 62) ≤ b) (b4 : b < 2 ^ 62) (q : R (Itc a (-1) (a - b).toNat) H) : ∃ i j k n, [V.int a, V.int b, V.int (-1)] = [.int i, .int j, .int k] ∧ RgC i j k n ∧ R (Itc i k n) H := ⟨a, b, -1, _, rfl, RgC.neg b1 b2 b3 b4, q⟩
theorem rd_forD {a : Int} {n j : Nat} (Pv : Nat → L2.St → Hp → Prop) (h0 : Pv 0 σ H) (hs : ∀ i σ' H', i < n → Pv i σ' H' → tb { D with nx := Pv (i + 1), ct := Pv (i + 1), bk := D.nx } (σ'.set j (some (.int (a + (i : Int) * -1)))) H')
    (hd : ∀ σ' H', Pv n σ' H' → D.nx σ' H') : ForW (Itc a (-1) n) (gName j) tb D σ H := by
  refine ⟨fun i m σ H => m = n - i ∧ i ≤ n ∧ Pv i σ H, ⟨n, rfl, Nat.zero_le _, h0⟩, ?_⟩
  rintro i m σ H ⟨rfl, hi, p⟩
  by_cases hlt : i < n
  · refine .inr ⟨hlt, Pv (i + 1), fun σ' H' p' => ⟨n - (i + 1), by omega, rfl, hlt, p'⟩, fun v H' y => ?_⟩
    obtain ⟨y1, y2⟩ := y
    subst y1 y2
    exact hs i σ H' hlt p
  · have e : i = n := by omega
    subst e
    exact .inl ⟨Nat.le_refl _, hd σ H p⟩
end
/-- all but the list at p stays -/
theorem keep_tx {p : Addr} {H H' : Hp} {zs : List V} (k : Keeps p H H') (h : H p = some (.lst zs)) : Tx H H' :=
  ⟨fun q xs e => k q _ (fun z => by subst z; rw [h] at e; cases e) e, fun q o xs e => k q _ (fun z => by subst z; rw [h] at e; cases e) e, fun q C dx fs e => k q _ (fun z => by subst z; rw [h] at e; cases e) e⟩
end Kt

/-! Kt, part K: objects: those that do not change are data, others are told by the world. -/
namespace Kt
open PySem PySem.Spec PyProof.Rows L2 Evl
/-! ### fields of data -/
def fdG : List (PyData × PyData) → Str → Option PyData
  | (.str n, d) :: r, f => if f = n then some d else fdG r f
  | _, _ => none
theorem fw_get {K : PySem.W.Frag} {H : Hp} {f : Str} : ∀ {fs : List (Str × V)} {ds : List (PyData × PyData)} {d : PyData}, FwL K H fs ds → fdG ds f = some d → ∃ v, fs.lookup f = some v ∧ Tw K H v d
  | _, _, _, .nil, h => by cases h
  | _, _, d', .cons (n := n) (v := v) (d := d) (fs := fs) (ds := ds) a t, h => by
    unfold fdG at h
    rw [List.lookup_cons]
    by_cases e : f = n
    · rw [if_pos e] at h
      cases h
      rw [beq_iff_eq.mpr e]
      exact ⟨v, rfl, a⟩
    · rw [if_neg e] at h
      rw [beq_eq_false_iff_ne.mpr e]
      exact fw_get t h
theorem Tw.objI {K : PySem.W.Frag} {H : Hp} {v : V} {C : Addr} {ds : List (PyData × PyData)} (h : Tw K H v (objD C ds)) : ∃ a dx fs, v = .ref a ∧ H a = some (.ins C dx fs) ∧ FwL K H fs ds := by
  unfold objD at h
  generalize e : PyData.dict ((.int (C : Int), .none) :: ds) = d at h
  cases h with
  | obj h t =>
    unfold objD at e
    cases e
    exact ⟨_, _, _, rfl, h, t⟩
  | _ => cases e
def Fld (K : PySem.W.Frag) (f : Str) (P : PyData → Prop) (w : Wd) : Prop := ∃ (C : Addr) (ds : List (PyData × PyData)) (d : PyData), w = .d (objD C ds) ∧ Cls K C ∧ NoAttr K C f ∧ fdG ds f = some d ∧ P d
section
variable {γ δ : Type} {W : Wc γ} {ρ : List Wd} {g : γ} {ta tk td tv : TE} {t : TA} {Q : Wd → γ → Prop} {f m : Str}
theorem wE_fld (q : wE W ta ρ g fun x g1 => Fld W.K f (fun d => Q (.d d) g1) x) : wE W (tFld W.K ta f) ρ g Q := fun σ H C R k =>
  q σ H _ R fun v H1 x g1 e1 j1 vx ⟨C, ds, d, ex, c, n, l, q1⟩ => by
    subst ex
    obtain ⟨a, dx, fs, rfl, h1, h2⟩ := Tw.objI (show Tw W.K H1 v (objD C ds) from vx)
    obtain ⟨u, h3, h4⟩ := fw_get h2 l
    exact ⟨a, C, dx, fs, u, rfl, h1, c, n, h3, k u H1 (.d d) g1 e1 j1 h4 q1⟩
theorem wE_cZ {v : V} (q : Q (.z v) g) : wE W (tC v) ρ g Q := fun σ H C R k => k v H (.z v) g (ExM.refl H) R.j rfl q
/-! ### what kind of object -/
theorem wC_isO {K : PySem.W.Frag} {C D : Addr} {ds : List (PyData × PyData)} {b : Bool} {Q : Wd → Prop} (i : C8.InsC K C) (e : PySem.W.kitOne K (.ref C) (.ref D) = some b) (q : Q (.d (.bool b))) : wC K (rIsi K) [.d (objD C ds), .z (.ref D)] Q := fun H vs C' hv k => by
  cases hv with
  | cons a t =>
    cases t with
    | cons a2 t2 =>
      cases t2
      obtain rfl := vrz a2
      obtain ⟨p, dx, fs, rfl, h1, h2⟩ := Tw.objI (show Tw K H _ (objD C ds) from a)
      exact ⟨_, _, _, _, b, rfl, .own D, .base (.ins h1 i.cl i.ha i.hn i.htk i.hm), e, k _ H (.d (.bool b)) (Ex.refl H) (.bl b) q⟩
/-! ### objects of the world -/
/-- at p the world has an object of the class at C whose f is v -/
def ObF (ω : Wo γ) (p C : Addr) (f : Str) (v : V) : Prop := ∀ g H, ω.J g H → ∃ dx fs, H p = some (.ins C dx fs) ∧ fs.lookup f = some v
def ObN (ω : Wo γ) (p C : Addr) (f : Str) : Prop := ∀ g H, ω.J g H → ∃ dx fs, H p = some (.ins C dx fs) ∧ fs.lookup f = none
def Zd (v : V) (P : Prop) (w : Wd) : Prop := w = .z v ∧ P
theorem q_Z {v : V} {P : Prop} (q : P) : Zd v P (.z v) := ⟨rfl, q⟩
theorem wE_fldZ {p C : Addr} {v : V} (o : ObF W.ω p C f v) (c : Cls W.K C) (n : NoAttr W.K C f) (q : wE W ta ρ g fun x g1 => Zd (.ref p) (Q (.z v) g1) x) : wE W (tFld W.K ta f) ρ g Q := fun σ H C' R k =>
  q σ H _ R fun u H1 x g1 e1 j1 vx ⟨ex, q1⟩ => by
    subst ex
    obtain rfl : u = V.ref p := vx
    obtain ⟨dx, fs, h1, h2⟩ := o g1 H1 j1
    exact ⟨p, C, dx, fs, v, rfl, h1, c, n, h2, k v H1 (.z v) g1 e1 j1 rfl q1⟩
/-- a field of the world that is data -/
theorem wE_fldD {p C : Addr} {d : PyData} (o : ∀ g H, W.ω.J g H → ∃ dx fs v, H p = some (.ins C dx fs) ∧ fs.lookup f = some v ∧ Tw W.K H v d) (c : Cls W.K C) (n : NoAttr W.K C f) (q : wE W ta ρ g fun x g1 => Zd (.ref p) (Q (.d d) g1) x) : wE W (tFld W.K ta f) ρ g Q := fun σ H C' R k =>
  q σ H _ R fun u H1 x g1 e1 j1 vx ⟨ex, q1⟩ => by
    subst ex
    obtain rfl : u = V.ref p := vx
    obtain ⟨dx, fs, v, h1, h2, h3⟩ := o g1 H1 j1
    exact ⟨p, C, dx, fs, v, rfl, h1, c, n, h2, k v H1 (.d d) g1 e1 j1 h3 q1⟩
/-- at a the world has a dict, that holds get g -/
def LensR (K : PySem.W.Frag) (ω : Wo γ) (a : Addr) (get : γ → List (Key × PyData)) : Prop := ∀ g H, ω.J g H → DkAt K H a (get g)
structure LensW (K : PySem.W.Frag) (ω : Wo γ) (a : Addr) (get : γ → List (Key × PyData)) (put : γ → List (Key × PyData) → γ) : Prop where
  at_ : LensR K ω a get
  inM : a ∈ ω.M
  put_ : ∀ g H ks kvs, ω.J g H → flatK kvs → KwL K H ks kvs → ω.J (put g kvs) (upd H a (.dK ks))
  flat : ∀ g H, ω.J g H → flatK (get g)
variable {a : Addr} {get : γ → List (Key × PyData)} {put : γ → List (Key × PyData) → γ}
theorem wE_yin (L : LensR W.K W.ω a get) (q : wE W tk ρ g fun w g1 => Kd (fun k => wE W td ρ g1 fun w2 g2 => Zd (.ref a) (Q (.d (.bool (kGet (get g2) k).isSome)) g2) w2) w) : wE W (tDIn tk td) ρ g Q := fun σ H C R kk => by
  refine q σ H _ R fun v H1 w g1 e1 j1 hv ⟨k, ew, q1⟩ => ?_
  subst ew
  refine q1 σ H1 _ (R.grow e1 j1) fun u H2 w2 g2 e2 j2 hu ⟨ew2, q2⟩ => ?_
  subst ew2
  obtain rfl : u = V.ref a := hu
  obtain ⟨ks, h3, h4⟩ := L g2 H2 j2
  refine ⟨a, _, rfl, key_tw hv ▸ DGet.k h3, ?_⟩
  rcases kw_get k h4 with ⟨z1, z2⟩ | ⟨d', v', z1, z2, z3⟩
  · rw [z1] at q2; rw [z2]; exact kk _ H2 _ g2 (e1.trans e2) j2 (show Vw W.K H H2 (.bl _) (.d (.bool _)) from .bl _) q2
  · rw [z1] at q2; rw [z2]; exact kk _ H2 _ g2 (e1.trans e2) j2 (show Vw W.K H H2 (.bl _) (.d (.bool _)) from .bl _) q2
theorem wE_ynin (L : LensR W.K W.ω a get) (q : wE W tk ρ g fun w g1 => Kd (fun k => wE W td ρ g1 fun w2 g2 => Zd (.ref a) (Q (.d (.bool (!(kGet (get g2) k).isSome))) g2) w2) w) : wE W (tDNotIn tk td) ρ g Q := fun σ H C R kk => by
  refine q σ H _ R fun v H1 w g1 e1 j1 hv ⟨k, ew, q1⟩ => ?_
  subst ew
  refine q1 σ H1 _ (R.grow e1 j1) fun u H2 w2 g2 e2 j2 hu ⟨ew2, q2⟩ => ?_
  subst ew2
  obtain rfl : u = V.ref a := hu
  obtain ⟨ks, h3, h4⟩ := L g2 H2 j2
  refine ⟨a, _, rfl, key_tw hv ▸ DGet.k h3, ?_⟩
  rcases kw_get k h4 with ⟨z1, z2⟩ | ⟨d', v', z1, z2, z3⟩
  · rw [z1] at q2; rw [z2]; exact kk _ H2 _ g2 (e1.trans e2) j2 (show Vw W.K H H2 (.bl _) (.d (.bool _)) from .bl _) q2
  · rw [z1] at q2; rw [z2]; exact kk _ H2 _ g2 (e1.trans e2) j2 (show Vw W.K H H2 (.bl _) (.d (.bool _)) from .bl _) q2
/-- d.get(k, x) -/
theorem wE_yget2 (L : LensR W.K W.ω a get) (q : wE W td ρ g fun w0 g0 => Zd (.ref a) (wE W tk ρ g0 fun w g1 => Kd (fun k => wE W tv ρ g1 fun w2 g2 => Dd (fun d => Q (.d ((kGet (get g2) k).getD d)) g2) w2) w) w0) : wE W (tDGet2 td tk tv) ρ g Q := fun σ H C R kk => by
  refine q σ H _ R fun v0 H0 w0 g0 e0 j0 hv0 ⟨ew0, q0⟩ => ?_
  subst ew0
  obtain rfl : v0 = V.ref a := hv0
  obtain ⟨ks0, h30, _⟩ := L g0 H0 j0
  refine ⟨a, rfl, .inl ⟨ks0, .inl h30⟩, ?_⟩
  have R0 := R.grow e0 j0
  refine q0 σ H0 _ R0 fun v H1 w g1 e1 j1 hv ⟨k, ew, q1⟩ => ?_
  subst ew
  have R1 := R0.grow e1 j1
  refine q1 σ H1 _ R1 fun u H2 w2 g2 e2 j2 hu ⟨d, ew, q2⟩ => ?_
  subst ew
  obtain ⟨ks', h3', h4'⟩ := L g2 H2 j2
  rw [key_tw hv]
  refine ⟨_, DGet.k h3', ?_⟩
  rcases kw_get k h4' with ⟨z1, z2⟩ | ⟨d', v', z1, z2, z3⟩
  · rw [z1] at q2
    rw [z2]
    exact kk _ H2 (.d d) g2 ((e0.trans e1).trans e2) j2 (show Tw W.K H2 u d from hu) q2
  · rw [z1] at q2
    rw [z2]
    exact kk _ H2 (.d d') g2 ((e0.trans e1).trans e2) j2 z3 q2
/-- d[k] -/
theorem wE_yix (L : LensR W.K W.ω a get) (q : wE W td ρ g fun w0 g0 => Zd (.ref a) (wE W tk ρ g0 fun w g1 => Kd (fun k => ∃ d, kGet (get g1) k = some d ∧ Q (.d d) g1) w) w0) : wE W (tDGet td tk) ρ g Q := fun σ H C R kk => by
  refine q σ H _ R fun v0 H0 w0 g0 e0 j0 hv0 ⟨ew0, q0⟩ => ?_
  subst ew0
  obtain rfl : v0 = V.ref a := hv0
  have R0 := R.grow e0 j0
  refine q0 σ H0 _ R0 fun v H1 w g1 e1 j1 hv ⟨k, ew, d, hd, q1⟩ => ?_
  subst ew
  obtain ⟨ks', h3', h4'⟩ := L g1 H1 j1
  rcases kw_get k h4' with ⟨z1, z2⟩ | ⟨d', v', z1, z2, z3⟩
  · rw [z1] at hd; cases hd
  · rw [z1] at hd; cases hd
    rw [key_tw hv]
    exact ⟨a, v', rfl, z2 ▸ DGet.k h3', kk _ H1 (.d d) g1 (e0.trans e1) j1 z3 q1⟩
/-- d[k] = x -/
theorem wS_yput {O : WO γ} (L : LensW W.K W.ω a get put) (q : wE W tv ρ g fun w g1 => Dd (fun d => flatD d = true ∧ wE W td ρ g1 fun w0 g0 => Zd (.ref a) (wE W tk ρ g0 fun w2 g2 => Kd (fun k => Sz ((get g2).length + 1) (O.nx ρ (put g2 (kPut (get g2) k d)))) w2) w0) w) : wS W (sDPut td tk tv) ρ g O := fun σ H D R kn _ _ _ => by
  refine q σ H _ R fun v H1 w g1 e1 j1 hv ⟨d, ew, fd, q1⟩ => ?_
  subst ew
  have R1 := R.grow e1 j1
  refine q1 σ H1 _ R1 fun v0 H2 w0 g0 e0 j0 hv0 ⟨ew0, q0⟩ => ?_
  subst ew0
  obtain rfl : v0 = V.ref a := hv0
  have R2 := R1.grow e0 j0
  refine q0 σ H2 _ R2 fun u H3 w2 g2 e2 j2 hu ⟨k, ew, hz, q2⟩ => ?_
  subst ew
  have R3 := R2.grow e2 j2
  obtain ⟨ks', h3', h4'⟩ := L.at_ g2 H3 j2
  have hv2 : Tw W.K H3 v d := Tw.mono (W.ω.tx j1 (e0.trans e2)) hv
  have fk := flatK_put (k := k) (L.flat g2 H3 j2) fd
  have jn := L.put_ g2 H3 _ _ j2 fk (kw_put (k := k) h4' hv2)
  refine ⟨a, _, rfl, key_tw hu ▸ DPut.k h3' (by rw [kw_len h4']; exact hz), kn ρ σ _ _ (R3.grow (fun b o hb ho => (upd_ne (fun z => hb (by rw [z]; exact L.inM))).trans ho) jn) q2⟩
/-! ### methods, makers -/
theorem wE_meth {θ : Type} {K : PySem.W.Frag} {Ω : θ → Wo γ} {th : θ} {H0 : Hp} {n : Nat} {pre : θ → List Wd → γ → (Wd → γ → Prop) → Prop} {p C : Addr} (o : ObN (Ω th) p C m)
    (q : wE ⟨K, Ω th, H0, n⟩ ta ρ g fun x g1 => Zd (.ref p) (wA ⟨K, Ω th, H0, n⟩ t ρ g1 fun ws g2 => pre th (.z (.ref p) :: ws) g2 Q) x) : wE ⟨K, Ω th, H0, n⟩ (tMeth C m (spW K Ω pre) [] C8.E0 ta t) ρ g Q := fun σ H C' R k =>
  q σ H _ R fun v H1 x g1 e1 j1 vx ⟨ex, q1⟩ => by
    subst ex
    obtain rfl : v = V.ref p := vx
    obtain ⟨dx, fs, h1, h2⟩ := o g1 H1 j1
    have R1 := RelN.grow R e1 j1
    refine ⟨p, dx, fs, rfl, h1, h2, q1 σ H1 _ R1 fun vs H2 ws g2 e2 j2 hv q2 => ?_⟩
    rw [List.append_nil]
    exact ⟨th, .z (.ref p) :: ws, g2, Q, q2, .cons rfl hv, j2, RelN.supN (RelN.grow R1 e2 j2), fun v H' w g' e3 j3 hw hq => k v H' w g' ((e1.trans e2).trans e3) j3 (Vw.back j1 e1 (Vw.back j2 e2 hw)) hq⟩
/-- fields by their names -/
def fz (ns : List Str) (ds : List PyData) : List (PyData × PyData) := List.zipWith (fun n d => (PyData.str n, d)) ns ds
theorem fw_zip {K : PySem.W.Frag} {H : Hp} : ∀ (ns : List Str) {vs : List V} {ds : List PyData}, TwL K H vs ds → FwL K H (ns.zip vs) (fz ns ds)
  | [], _, _, _ => .nil
  | _ :: _, _, _, .nil => .nil
  | _ :: ns, _, _, .cons a t => .cons a (fw_zip ns t)
theorem fz_get : ∀ {ns : List Str} {ds : List PyData} {i : Nat} {f : Str} {d : PyData}, ns.Nodup → ns[i]? = some f → ds[i]? = some d → fdG (fz ns ds) f = some d
  | [], _, _, _, _, _, h, _ => by simp at h
  | n :: ns, [], _, _, _, _, _, h => by simp at h
  | n :: ns, e :: ds, 0, f, d, _, h1, h2 => by
    cases h1; cases h2
    show (if n = n then some e else fdG (fz ns ds) n) = some e
    rw [if_pos rfl]
  | n :: ns, e :: ds, i + 1, f, d, hn, h1, h2 => by
    have h1' : ns[i]? = some f := h1
    have h2' : ds[i]? = some d := h2
    have ne : f ≠ n := fun z => (List.nodup_cons.mp hn).1 (by rw [← z]; exact List.mem_of_getElem? h1')
    show (if f = n then some e else fdG (fz ns ds) f) = some d
    rw [if_neg ne]
    exact fz_get (List.nodup_cons.mp hn).2 h1' h2'
theorem q_fld {K : PySem.W.Frag} {C : Addr} {ns : List Str} {ds : List PyData} {f : Str} {d : PyData} {P : PyData → Prop} (i : Nat) (c : Cls K C) (no : NoAttr K C f) (hn : ns.Nodup) (h1 : ns[i]? = some f) (h2 : ds[i]? = some d) (q : P d) : Fld K f P (.d (objD C (fz ns ds))) := ⟨C, _, d, rfl, c, no, fz_get hn h1 h2, q⟩
def putAll (fs : List (Str × V)) : List (Str × V) → List (Str × V)
  | [] => fs
  | (n, v) :: r => putAll (putF n v fs) r
theorem putF_new {n : Str} {v : V} : ∀ {fs : List (Str × V)}, n ∉ fs.map (·.1) → putF n v fs = fs ++ [(n, v)]
  | [], _ => rfl
  | (k, x) :: r, h => by
    have h1 : ¬ k = n := fun e => h (by rw [e]; exact List.mem_cons_self)
    have h2 : n ∉ r.map (·.1) := fun m => h (List.mem_cons_of_mem _ m)
    show (if k = n then (k, v) :: r else (k, x) :: putF n v r) = (k, x) :: (r ++ [(n, v)])
    rw [if_neg h1, putF_new h2]
theorem putAll_eq : ∀ {l fs : List (Str × V)}, ((fs ++ l).map (·.1)).Nodup → putAll fs l = fs ++ l
  | [], fs, _ => (List.append_nil fs).symm
  | (n, v) :: r, fs, h => by
    have hn : n ∉ fs.map (·.1) := fun m => by
      rw [List.map_append, List.nodup_append] at h
      exact h.2.2 n m n (List.mem_map.mpr ⟨(n, v), List.mem_cons_self, rfl⟩) rfl
    show putAll (putF n v fs) r = _
    rw [putF_new hn, putAll_eq (by rw [List.append_assoc]; exact h), List.append_assoc]
    rfl
/-- one step of an __init__ -/
theorem ini_one {K : PySem.W.Frag} {C p dx : Addr} {fs : List (Str × V)} {σ : L2.St} {H : Hp} {D : Ends} {f : Str} {tv : TE} {v : V} (hp : H p = some (.ins C dx fs)) (hs : σ[0]? = some (some (.ref p))) (c : Cls K C) (n : NoAttr K C f) {m : Nat} (hl : fs.length ≤ m) (hm : m < 1000) (htv : ∀ Q : VK, Q v H → tv σ H Q)
    (k : D.nx σ (upd H p (.ins C dx (putF f v fs)))) : sFld K (tVar 0) tv f D σ H := htv _ ⟨_, hs, p, C, dx, fs, rfl, hp, c, n, Nat.lt_of_le_of_lt hl hm, k⟩
theorem lenF {fs : List (Str × V)} {f : Str} {v : V} {m : Nat} (h : fs.length ≤ m) : (putF f v fs).length ≤ m + 1 := Nat.le_trans (length_putF f v fs) (Nat.succ_le_succ h)
theorem lookup_none {f : Str} : ∀ {ns : List Str} {vs : List V}, f ∉ ns → (ns.zip vs).lookup f = none
  | [], _, _ => rfl
  | _ :: _, [], _ => rfl
  | n :: ns, v :: vs, h => by
    rw [show (n :: ns).zip (v :: vs) = (n, v) :: ns.zip vs from rfl, List.lookup_cons, beq_eq_false_iff_ne.mpr (fun e => h (by rw [e]; exact List.mem_cons_self))]
    exact lookup_none fun m => h (List.mem_cons_of_mem _ m)
/-- the __init__ of an object that is data: n arguments, and the constants cs, are the fields ns -/
def spIni (C : Addr) (n : Nat) (ns : List Str) (cs : List V) : Sp := fun vs H Q _ => ∃ (p dx : Addr) (us : List V), vs = .ref p :: us ∧ us.length = n ∧ H p = some (.ins C dx []) ∧ ∀ H', (∀ b o, b ≠ p → H b = some o → H' b = some o) → H' p = some (.ins C dx (ns.zip (us ++ cs))) → Q .non H'
/-- so many of them -/
def Ln (n : Nat) (ds : List PyData) (P : Prop) : Prop := ds.length = n ∧ P
theorem q_Ln {n : Nat} {ds : List PyData} {P : Prop} (q : P) (h : ds.length = n := by rfl) : Ln n ds P := ⟨h, q⟩
theorem wE_make {C : Addr} {n : Nat} {ns : List Str} {cs : List V} {es : List PyData} (hc : ∀ H, TwL W.K H cs es)
    (q : wD W t ρ g fun ds g1 => Ln n ds (Q (.d (objD C (fz ns (ds ++ es)))) g1)) : wE W (tMake C (spIni C n ns cs) [] C8.E0 t) ρ g Q := fun σ H C' R k =>
  q σ H _ R fun vs H1 ds g1 e1 j1 vds ⟨hl, q1⟩ x dx nx ndx nex => by
    rw [List.append_nil]
    refine ⟨x, dx, vs, rfl, vds.length.trans hl, upd_same, fun H' hk hx => ⟨rfl, ?_⟩⟩
    have e2 : Ex H1 H' := fun b o e => hk b o (ne_of_none e nx) (by rw [upd_ne (ne_of_none e nx), upd_ne (ne_of_none e ndx)]; exact e)
    exact k (.ref x) H' (.d (objD C (fz ns (ds ++ es)))) g1 (e1.trans (ExM.of e2)) ((R.grow e1 j1).stayG e2) (show Tw W.K H' (.ref x) (objD C (fz ns (ds ++ es))) from .obj hx (fw_zip ns ((vds.mono (Tx.ex e2)).app (hc H')))) q1
/-! ### methods and makers of the text -/
/-- a method of the text, in its class -/
structure DefM (K : PySem.W.Frag) (C : Addr) (m qual : Str) (st : Stmt) (ps : List Str) : Prop where
  ex : ∃ (f : Addr) (fd : FuncData), Fun K m qual st f fd ∧ Cls K C ∧ Meth K C m f ∧ Binds K fd ps []
structure DefI (K : PySem.W.Frag) (mg : Str → Option Value) (x : Str) (C : Addr) (qual : Str) (st : Stmt) (ps : List Str) : Prop where
  ex : ∃ (f : Addr) (fd : FuncData), Fun K "__init__" qual st f fd ∧ Mk K C f ∧ mg x = some (.ref C) ∧ Binds K fd ps []
section
variable {P : Program} {w : World} {K : PySem.W.Frag} {mg : Str → Option Value} {base : Heap}
theorem metO {m qual : Str} {C : Addr} {st : Stmt} {N ps : List Str} {k : Nat} {sp : Sp} (D : DefM K C m qual st ps) (S : FnScope N ps (defScope st)) (len : ∀ vs H Q E, sp vs H Q E → vs.length = ps.length)
    (hbody : ∀ (cdv : Value) (f : Addr) (A : Around) (outer : List Env) (s : Shared) (H : Hp) (vs : List V) (Q : VK) (E : XK), Room k (A.deeper (envOfC qual (defScope st) s.heap.objs.size f cdv)) → sp vs H Q E →
      ∃ t, PSs (cxOf CX0 P w K mg base N qual (defScope st) f cdv A outer s H E).nox (defBody st) t ∧ t { nx := fun _ H' => Q .non H', rt := Q } (start N vs) H) : C8.Met P w K mg base (k + 1) C m sp [] := by
  obtain ⟨f, fd, F, c, me, b⟩ := D.ex
  exact ⟨f, fd, ps, [], c, me, F.ok S len fun cdv A outer s H vs Q E hr h => hbody cdv f A outer s H vs Q E hr h, b, .nil⟩
theorem makO {x qual : Str} {C : Addr} {st : Stmt} {N ps : List Str} {k : Nat} {sp : Sp} (D : DefI K mg x C qual st ps) (S : FnScope N ps (defScope st)) (len : ∀ vs H Q E, sp vs H Q E → vs.length = ps.length)
    (hbody : ∀ (cdv : Value) (f : Addr) (A : Around) (outer : List Env) (s : Shared) (H : Hp) (vs : List V) (Q : VK) (E : XK), Room k (A.deeper (envOfC qual (defScope st) s.heap.objs.size f cdv)) → sp vs H Q E →
      ∃ t, PSs (cxOf CX0 P w K mg base N qual (defScope st) f cdv A outer s H E).nox (defBody st) t ∧ t { nx := fun _ H' => Q .non H', rt := Q } (start N vs) H) : C8.Mak P w K mg base (k + 1) x C sp [] := by
  obtain ⟨f, fd, F, M, hm, b⟩ := D.ex
  exact ⟨f, fd, ps, [], M, F.ok S len fun cdv A outer s H vs Q E hr h => hbody cdv f A outer s H vs Q E hr h, hm, b, .nil⟩
end
/-! ### worlds within worlds -/
structure Sub (ω : Wo γ) (ω' : Wo δ) (pr : γ → δ) (up : γ → δ → γ) : Prop where
  sup : ∀ a ∈ ω'.A, a ∈ ω.A
  m : ∀ a ∈ ω'.M, a ∈ ω.M
  j : ∀ g H, ω.J g H → ω'.J (pr g) H
  b : ∀ g H H' d, ω.J g H → (∀ a ∈ ω.A, H a ≠ none) → ExM ω'.M H H' → ω'.J d H' → ω.J (up g d) H'
theorem wE_callS {θ : Type} {Ω' : θ → Wo δ} {th : θ} {pr : γ → δ} {up : γ → δ → γ} {pre : θ → List Wd → δ → (Wd → δ → Prop) → Prop} (S : Sub W.ω (Ω' th) pr up) (q : wA W t ρ g fun ws g1 => pre th ws (pr g1) fun w d => Q w (up g1 d)) : wE W (tPC (spW W.K Ω' pre) t) ρ g Q := fun σ H C R k =>
  q σ H _ R fun vs H1 ws g1 e1 j1 hv q1 => by
    have R1 := R.grow e1 j1
    have sN := RelN.supN R1
    exact ⟨th, ws, pr g1, _, q1, hv, S.j g1 H1 j1, fun a ha => sN a (S.sup a ha), fun v H' w d e2 j2 hw hq => k v H' w (up g1 d) (e1.trans fun b o hb ho => e2 b o (fun z => hb (S.m b z)) ho) (S.b g1 H1 H' d j1 sN e2 j2) (Vw.back j1 e1 hw) hq⟩
/-- a new dict is handed on as the first argument, and only read -/
theorem wE_callK {Ω : Addr → Wo δ} {gk : List (Key × PyData) → δ} {tr : TA} {pre : Addr → List Wd → δ → (Wd → δ → Prop) → Prop} (hJ : ∀ a H kvs, DkAt W.K H a kvs → flatK kvs → (Ω a).J (gk kvs) H) (hM : ∀ a, (Ω a).M = []) (hA : ∀ a, ∀ b ∈ (Ω a).A, b = a)
    (q : wE W tk ρ g fun w g1 => ∃ kvs, w = .k kvs ∧ flatK kvs ∧ ∀ a, wA W tr ρ g1 fun ws g2 => pre a (.z (.ref a) :: ws) (gk kvs) fun w _ => Q w g2) : wE W (tPC (spW W.K Ω pre) (tCons tk tr)) ρ g Q := fun σ H C R k =>
  q σ H _ R fun v H1 w g1 e1 j1 hv ⟨kvs, ew, fk, q1⟩ => by
    subst ew
    obtain ⟨a, ks, rfl, h0, h1, h2⟩ := hv
    have R1 := R.grow e1 j1
    have na : a ∉ W.ω.M := fun z => RelN.supN R a (W.ω.sub a z) h0
    refine q1 a σ H1 _ R1 fun vs H2 ws g2 e2 j2 hvs q2 => ?_
    have R2 := R1.grow e2 j2
    refine ⟨a, .z (.ref a) :: ws, gk kvs, _, q2, .cons rfl hvs, hJ a H2 kvs ⟨ks, e2 a _ na h1, h2.mono (W.ω.tx j1 e2)⟩ fk, fun b hb => ?_, fun v H' w d e3 j3 hw hq => ?_⟩
    · rw [hA a b hb, e2 a _ na h1]
      exact fun z => by cases z
    · have e3' : Ex H2 H' := by rw [hM a] at e3; exact ExM.ex e3
      exact k v H' w g2 ((e1.trans e2).trans (ExM.of e3')) (R2.stayG e3') (Vw.back j1 e1 (Vw.back j2 e2 hw)) hq
/-- a dict that is only read -/
def DR (K : PySem.W.Frag) (a : Addr) : Wo (List (Key × PyData)) where
  M := []
  A := [a]
  J := fun g H => DkAt K H a g ∧ flatK g
  sub := fun a h => by simp at h
  dic := fun g H b j h => by simp at h
  stay := fun g H H' j h => by
    obtain ⟨⟨ks, h1, w1⟩, f⟩ := j
    exact ⟨⟨ks, h _ _ (by simp) h1, kw_flat f w1⟩, f⟩
theorem lensR {K : PySem.W.Frag} {a : Addr} : LensR K (DR K a) a (fun g => g) := fun g H j => j.1
end
section
variable {X : Cx} {s : Shared} {H : Hp} {sc : Scope} {env : Env} {fp : List Addr}
theorem pe_fldB {e : Expr} {f : Str} {pos : Pos} {ta : TE} (he : PE (X.blk s H sc env fp) e ta) (hb : attributeBase e f (X.blk s H sc env fp).env (eval e (X.blk s H sc env fp).env) = eval e (X.blk s H sc env fp).env) : PE (X.blk s H sc env fp) (.Attribute e f pos) (tFld X.K ta f) := pe_fld he hb
end
section
variable {γ : Type} {W : Wc γ} {ρ : List Wd} {g : γ} {ta : TA} {QI : List Wd → (List Wd → Prop) → List PyData → γ → Prop}
/-- range(lo, hi) -/
theorem wI_rng2 (q : wA W ta ρ g fun ws g1 => ∃ a b : Int, ws = [Wd.d (.int a), Wd.d (.int b)] ∧ (-(2 ^ 62) ≤ a ∧ a < 2 ^ 62 ∧ -(2 ^ 62) ≤ b ∧ b < 2 ^ 62) ∧ QI ρ (fun _ => True) (intsD a 1 (b - a).toNat) g1) : wI W (iRng2 ta) ρ g QI := fun σ H C R k =>
  q σ H _ R fun vs H1 ws g1 e j h ⟨a, b, ew, hb, q1⟩ => by
    subst ew
    cases h with
    | cons x1 h => cases h with
      | cons x2 h =>
        cases h; cases x1; cases x2
        refine ⟨a, b, rfl, hb, k (Itr a (b - a).toNat) H1 ρ _ _ g1 e (R.grow e j) (fun i H2 g2 σ2 ρ2 R2 _ => ?_) q1⟩
        refine ⟨fun hl => ?_, fun d hd => ?_⟩
        · unfold intsD at hl
          rw [List.length_map, List.length_range] at hl
          exact hl
        · obtain ⟨rfl, hk⟩ := intsD_get hd
          refine ⟨hk, fun x H3 ⟨y1, y2⟩ => ?_⟩
          subst y1 y2
          rw [show a + (i : Int) * 1 = a + (i : Int) by omega]
          exact ⟨Ex.refl _, .int _⟩
end
end Kt

/-! sorted of texts, any number of them -/
namespace SrtS
open PySem PySem.Spec PyProof.Rows SrtO
section
variable {prog : Program} {w : World} {A : Around} {E : Value → Shared → Prop} {s : Shared}
def sv : Value → Str
  | .str x _ => x
  | _ => ""
def ltSv (v u : Value) : Bool := decide ((sv v).cps.toList < (sv u).cps.toList)
theorem swo_str : Swo ltSv := by
  refine ⟨fun x y h => ?_, fun x y z h1 h2 => ?_⟩
  · have a := of_decide_eq_true (p := (sv x).cps.toList < (sv y).cps.toList) h
    exact decide_eq_false (p := (sv y).cps.toList < (sv x).cps.toList) (List.lt_asymm a)
  · have a := of_decide_eq_false (p := (sv y).cps.toList < (sv x).cps.toList) h1
    have b := of_decide_eq_false (p := (sv z).cps.toList < (sv y).cps.toList) h2
    exact decide_eq_false (p := (sv z).cps.toList < (sv x).cps.toList) (List.not_lt.mpr (List.le_trans (List.not_lt.mp a) (List.not_lt.mp b)))
theorem strs_mem : ∀ {vs : List Value} {ns : List Str}, StrsAre vs ns → ∀ v ∈ vs, ∃ i t, v = Value.str i t
  | _, _, .nil, v, h => absurd h (by simp)
  | _, _, .cons n t r, v, h => by
    rcases List.mem_cons.mp h with e | h
    · exact ⟨n, t, e⟩
    · exact strs_mem r v h
theorem strs_sv : ∀ {vs : List Value}, (∀ v ∈ vs, ∃ i t, v = Value.str i t) → StrsAre vs (vs.map sv)
  | [], _ => .nil
  | v :: vs, h => by
    obtain ⟨i, t, e⟩ := h v List.mem_cons_self
    subst e
    exact .cons i t (strs_sv fun u hu => h u (List.mem_cons_of_mem _ hu))
theorem sv_strs : ∀ {vs : List Value} {ns : List Str}, StrsAre vs ns → vs.map sv = ns
  | _, _, .nil => rfl
  | _, _, .cons n t r => congrArg (n :: ·) (sv_strs r)
theorem str_cmp {vs : List Value} {ns : List Str} (hI : StrsAre vs ns) : Cmp prog w A s oneType' (fun p => p.1 ∈ vs) (lt2 ltSv) := by
  intro p q hm hm'
  obtain ⟨a, t, e⟩ := strs_mem hI _ hm
  obtain ⟨b, u, e'⟩ := strs_mem hI _ hm'
  show wpAny (model prog w) A (keyLt' oneType' p.1 q.1) (fun r s' => s' = s ∧ r = ltSv p.1 q.1) (fun _ _ => False) s
  rw [e, e', keyLt'_oneType]
  exact oneLt_str ⟨rfl, rfl⟩
theorem strs_sortable {a : Addr} {vs : List Value} {ns : List Str} (hI : StrsAre vs ns) (h2 : 2 ≤ vs.length) : SortableO prog w A s a vs ltSv := by
  intro h' _
  refine ⟨oneType', fun Q E hq => ?_, str_cmp hI⟩
  match vs, hI, h2 with
  | v1 :: v2 :: rest, hI, _ =>
    rw [keyKind_strs hI]
    exact wpAny_pure hq
  | [], _, h => exact absurd h (by decide)
  | [v], _, h => exact absurd h (by simp)
theorem strs_out {vs out : List Value} {ns : List Str} (hI : StrsAre vs ns) (hb : Stb ltSv out vs) : StrsAre out (out.map sv) ∧ (out.map sv).Perm ns := by
  refine ⟨strs_sv fun v hv => strs_mem hI v (hb.perm.mem_iff.mp hv), ?_⟩
  have q := hb.perm.map sv
  rw [sv_strs hI] at q
  exact q
end
end SrtS
namespace Kt
open PySem PySem.Spec PyProof.Rows L2 Evl
def rSortedA (K : PySem.W.Frag) : List V → Hp → VK → Prop := fun vs H Q => ∃ (a : Addr) (ns : List Str), vs = [V.ref a] ∧ SqL K H a (ns.map V.str) ∧
  ∀ (ns' : List Str) (p : Addr), ns'.Perm ns → H p = none → Q (.ref p) (upd H p (.lst (ns'.map V.str)))
theorem cr_sortedA {X : Cx} : CallR X (.builtin "sorted") (rSortedA X.K) := by
  intro pins s σ H vs us Q I r h
  obtain ⟨a, ns, rfl, hs, q⟩ := h
  obtain ⟨its, rv, hl, hz⟩ := I.list hs
  rw [Vals.ref1 r]
  have hi := rv.strs
  refine SrtO.sorted_ord SrtS.swo_str hl.isList (by rw [← rv.length]; exact hz) (fun h2 h₁ a' _ _ => SrtS.strs_sortable hi h2) fun out h1 h2 => ?_
  obtain ⟨k1, k2⟩ := SrtS.strs_out hi h2
  obtain ⟨ep, he'⟩ := PyProof.Rows.sortedAll_at s.heap its out.toArray
  have hlen : ((out.map SrtS.sv).map V.str).length ≤ sizeLine := by
    rw [List.length_map, k2.length_eq]
    rw [List.length_map] at hz
    exact hz
  exact ⟨.ref _, upd H (s.heap.objs.size + 1) (.lst ((out.map SrtS.sv).map V.str)), I.laid (t' := s.toks) (fun _ _ => PyProof.Rows.sortedAll_old) (Nat.le_succ _) ⟨hlen, out, ep, vals_of_strs k1, he'⟩, rfl, q _ _ k2 (I.hok.fresh (Nat.le_succ _))⟩
theorem TwL.strs {K : PySem.W.Frag} {H : Hp} : ∀ ns : List Str, TwL K H (ns.map V.str) (ns.map .str)
  | [] => .nil
  | z :: r => .cons (.str z) (TwL.strs r)
theorem TwL.ofStrs {K : PySem.W.Frag} {H : Hp} : ∀ {vs : List V} (ns : List Str), TwL K H vs (ns.map .str) → vs = ns.map V.str
  | _, [], .nil => rfl
  | _, _ :: r, .cons (.str _) t => by rw [TwL.ofStrs r t]; rfl
theorem wC_sortedA {K : PySem.W.Frag} {x : Wd} {ns : List Str} {Q : Wd → Prop} (hx : x.tl = some (ns.map .str)) (q : ∀ ms : List Str, ms.Perm ns → Q (.o (ms.map .str))) : wC K (rSortedA K) [x] Q := fun H vs C hv k => by
  obtain ⟨v, rfl, h⟩ := vr1 hv
  obtain ⟨p, xs, rfl, h2, h3⟩ := tl_at h hx
  have e := TwL.ofStrs ns h3
  subst e
  exact ⟨p, ns, rfl, sq_of h2, fun ms r hp hr => k _ _ (.o (ms.map .str)) (Ex.new hr) ⟨r, _, rfl, hr, upd_same, TwL.strs ms⟩ (q ms hp)⟩
end Kt

namespace K96
open PySem PySem.Spec PyProof.Rows L2 Kt Evl
section
open PySem PySem.Spec PyProof.Rows L2 Kt Evl
def topS (i : Nat) : Stmt := PySem.Challenge.pw_keptrest_k96_whole_rule_faults.main.body.getD i (.Pass ⟨0, 0, 0, 0⟩)
/-- where the classes stand -/
structure Cs where
  W : Addr
  F : Addr
  B : Addr
  R : Addr
  P : Addr
  T : Addr
abbrev nsW : List Str := ["key", "letters", "path", "spot", "is_row"]
abbrev nsF : List Str := ["value", "path", "is_row"]
abbrev nsB : List Str := ["most", "deepest"]
abbrev nsR : List Str := ["parts", "tail", "path", "bound", "is_row", "is_measured", "pattern_parts", "template_parts"]
abbrev nsP : List Str := ["literals", "names"]
abbrev nsT : List Str := ["names"]
structure CF (K : PySem.W.Frag) (C : Addr) (ns : List Str) : Prop where
  ic : C8.InsC K C
  no : ∀ n ∈ ns, NoAttr K C n
theorem CF.at {K : PySem.W.Frag} {C : Addr} {ns : List Str} (c : CF K C ns) (i : Nat) {f : Str} (h : ns[i]? = some f) : NoAttr K C f := c.no f (List.mem_of_getElem? h)
structure Txt (K : PySem.W.Frag) (mg : Str → Option Value) (c : Cs) : Prop where
  len : mg "len" = none
  int : mg "int" = none
  repr : mg "repr" = none
  tuple : mg "tuple" = none
  list : mg "list" = none
  range : mg "range" = none
  sorted : mg "sorted" = none
  enumerate : mg "enumerate" = none
  any : mg "any" = none
  type : mg "type" = none
  dict : mg "dict" = none
  str : mg "str" = none
  min : mg "min" = none
  isinstance : mg "isinstance" = none
  g_Word : ∃ u, mg "Word" = some u ∧ RelV (.ref c.W) u
  g_Fixed : ∃ u, mg "Fixed" = some u ∧ RelV (.ref c.F) u
  g_Row : ∃ u, mg "Row" = some u ∧ RelV (.ref c.R) u
  g_UNKNOWN : ∃ u, mg "UNKNOWN" = some u ∧ RelV (.int 1000000000) u
  g_REPEAT : ∃ u, mg "REPEAT" = some u ∧ RelV (.str "&") u
  g_ANYTHING : ∃ u, mg "ANYTHING" = some u ∧ RelV (.str "_") u
  cW : CF K c.W nsW
  cF : CF K c.F nsF
  cB : CF K c.B nsB
  cR : CF K c.R nsR
  cP : CF K c.P nsP
  cT : CF K c.T nsT
  kWF : PySem.W.kitOne K (.ref c.W) (.ref c.F) = some false
  kWR : PySem.W.kitOne K (.ref c.W) (.ref c.R) = some false
  kFW : PySem.W.kitOne K (.ref c.F) (.ref c.W) = some false
  kFR : PySem.W.kitOne K (.ref c.F) (.ref c.R) = some false
  kRW : PySem.W.kitOne K (.ref c.R) (.ref c.W) = some false
  kRF : PySem.W.kitOne K (.ref c.R) (.ref c.F) = some false
theorem hR_of {A : Around} {k : Nat} (hr : Room k A) : A.units + 129 < cLine := by have := hr.un; omega
/-! ### data, as it is given and as nodes -/
inductive Tm where
  | w (x : Str)
  | i (z : Int)
  | b (z : Bool)
  | u
  | l (xs : List Tm) (t : Tm)
mutual
def Tm.py : Tm → PyData
  | .w x => .tuple [.str "name", .str x]
  | .i z => .int z
  | .b z => .bool z
  | .u => .tuple []
  | .l xs t => .tuple [.str "list", .tuple (pyL xs), t.py]
def pyL : List Tm → List PyData
  | [] => []
  | x :: r => x.py :: pyL r
end
mutual
def Tm.dp : Tm → Nat
  | .l xs t => max (dpL xs) t.dp + 1
  | _ => 0
def dpL : List Tm → Nat
  | [] => 0
  | x :: r => max x.dp (dpL r)
end
mutual
def Tm.sz : Tm → Nat
  | .l xs t => szL xs + t.sz + 1
  | _ => 1
def szL : List Tm → Nat
  | [] => 0
  | x :: r => x.sz + szL r
end
def Tm.isU : Tm → Bool
  | .u => true
  | _ => false
abbrev nWd (c : Cs) (x : Str) (p : List PyData) : PyData := objD c.W (fz nsW ([.str x, .str x, .tuple p, .tuple p] ++ [.bool false]))
abbrev nFd (c : Cs) (d : PyData) (p : List PyData) : PyData := objD c.F (fz nsF ([d, .tuple p] ++ [.bool false]))
abbrev nBd (c : Cs) : PyData := objD c.B (fz nsB ([.int 1000000000, .int 1000000000] ++ []))
abbrev nRd (c : Cs) (xs : List PyData) (t : PyData) (p : List PyData) : PyData := objD c.R (fz nsR ([.tuple xs, t, .tuple p, nBd c] ++ [.bool true, .bool false, .none, .none]))
def tp (p : List PyData) (xs : List Tm) (t : Tm) : List PyData := if t.isU = true then p else p ++ [.int xs.length]
mutual
def nodeD (c : Cs) : Tm → List PyData → PyData
  | .w x, p => nWd c x p
  | .i z, p => nFd c (.int z) p
  | .b z, p => nFd c (.bool z) p
  | .u, p => nFd c (.tuple []) p
  | .l xs t, p => nRd c (nodesD c xs p 0) (nodeD c t (tp p xs t)) p
def nodesD (c : Cs) : List Tm → List PyData → Nat → List PyData
  | [], _, _ => []
  | x :: r, p, k => nodeD c x (p ++ [.int k]) :: nodesD c r p (k + 1)
end
theorem pyL_len : ∀ xs : List Tm, (pyL xs).length = xs.length
  | [] => rfl
  | _ :: r => congrArg (· + 1) (pyL_len r)
theorem pyL_get : ∀ (xs : List Tm) (i : Nat) (d : PyData), (pyL xs)[i]? = some d → ∃ x, xs[i]? = some x ∧ d = x.py
  | x :: _, 0, d, h => ⟨x, rfl, (Option.some.inj h).symm⟩
  | _ :: r, i + 1, d, h => pyL_get r i d h
theorem nodesD_len (c : Cs) : ∀ (xs : List Tm) (p : List PyData) (k : Nat), (nodesD c xs p k).length = xs.length
  | [], _, _ => rfl
  | _ :: r, p, k => congrArg (· + 1) (nodesD_len c r p (k + 1))
theorem nodesD_app (c : Cs) (p : List PyData) : ∀ (xs ys : List Tm) (k : Nat), nodesD c (xs ++ ys) p k = nodesD c xs p k ++ nodesD c ys p (k + xs.length)
  | [], ys, k => rfl
  | x :: r, ys, k => by
    show nodeD c x (p ++ [.int k]) :: nodesD c (r ++ ys) p (k + 1) = _
    rw [nodesD_app c p r ys (k + 1), List.length_cons, show k + (r.length + 1) = k + 1 + r.length by omega]
    rfl
theorem nodesD_get (c : Cs) (p : List PyData) : ∀ (xs : List Tm) (k i : Nat) (x : Tm), xs[i]? = some x → (nodesD c xs p k)[i]? = some (nodeD c x (p ++ [.int ((k + i : Nat) : Int)]))
  | y :: r, k, 0, x, h => by cases h; rfl
  | y :: r, k, i + 1, x, h => by
    have := nodesD_get c p r (k + 1) i x h
    rw [show k + 1 + i = k + (i + 1) by omega] at this
    exact this
theorem dpL_mem : ∀ {xs : List Tm} {x : Tm}, x ∈ xs → x.dp ≤ dpL xs
  | y :: r, x, h => by
    rw [dpL]
    rcases List.mem_cons.mp h with rfl | h
    · omega
    · have := dpL_mem h; omega
theorem szL_mem : ∀ {xs : List Tm} {x : Tm}, x ∈ xs → x.sz ≤ szL xs
  | y :: r, x, h => by
    rw [szL]
    rcases List.mem_cons.mp h with rfl | h
    · omega
    · have := szL_mem h; omega
theorem szL_len : ∀ xs : List Tm, xs.length ≤ szL xs
  | [] => Nat.le_refl _
  | x :: r => by
    have := szL_len r
    have h1 : 1 ≤ x.sz := by cases x <;> simp [Tm.sz]
    rw [szL, List.length_cons]; omega
mutual
/-- its words can be read anew -/
def Tm.ok : Tm → Prop
  | .w x => PyData.strOk x = true
  | .l xs t => okL xs ∧ t.ok
  | _ => True
def okL : List Tm → Prop
  | [] => True
  | x :: r => x.ok ∧ okL r
end
theorem okL_mem : ∀ {xs : List Tm} {x : Tm}, okL xs → x ∈ xs → x.ok
  | y :: r, x, h, m => by
    rcases List.mem_cons.mp m with rfl | m
    · exact h.1
    · exact okL_mem h.2 m
mutual
theorem Tm.lay : ∀ t : Tm, t.ok → PyData.canLay0 t.py = true ∧ PyData.depth t.py ≤ 2 * t.dp + 1
  | .w x, h => ⟨by have h' : PyData.strOk x = true := h; simp only [Tm.py, PyData.canLay0, PyData.canLayAll0, h', Bool.and_eq_true]; exact ⟨by decide +kernel, trivial, trivial⟩, by show 1 ≤ _; omega⟩
  | .i z, _ => ⟨rfl, Nat.zero_le _⟩
  | .b z, _ => ⟨rfl, Nat.zero_le _⟩
  | .u, _ => ⟨rfl, Nat.le_refl _⟩
  | .l xs t, h => by
    have h1 := layL xs h.1
    have h2 := Tm.lay t h.2
    simp only [Tm.py, Tm.dp, PyData.canLay0, PyData.canLayAll0, PyData.depth, PyData.depthAll, Bool.and_eq_true]
    refine ⟨⟨by decide +kernel, h1.1, h2.1, trivial⟩, ?_⟩
    omega
theorem layL : ∀ xs : List Tm, okL xs → PyData.canLayAll0 (pyL xs) = true ∧ PyData.depthAll (pyL xs) ≤ 2 * dpL xs + 1
  | [], _ => ⟨rfl, Nat.zero_le _⟩
  | x :: r, h => by
    have h1 := Tm.lay x h.1
    have h2 := layL r h.2
    simp only [pyL, dpL, PyData.canLayAll0, PyData.depthAll, Bool.and_eq_true]
    exact ⟨⟨h1.1, h2.1⟩, by omega⟩
end
theorem Tm.shaped {t : Tm} (h : t.dp ≤ 30) (o : t.ok) : SeqAt.shaped t.py = true := by
  unfold SeqAt.shaped
  have := Tm.lay t o
  rw [this.1, Bool.true_and]
  exact decide_eq_true (by omega)
theorem eqv_u (t : Tm) : PyData.eqv t.py (.tuple []) = t.isU := by
  cases t <;> simp [Tm.py, Tm.isU, PyData.eqv, PyData.eqvAll]
section
variable {P : Program} {w : World} {K : PySem.W.Frag} {mg : Str → Option Value} {base : Heap} {c : Cs}
theorem ndW : nsW.Nodup := by decide +kernel
theorem ndF : nsF.Nodup := by decide +kernel
theorem ndB : nsB.Nodup := by decide +kernel
theorem ndR : nsR.Nodup := by decide +kernel
/-! ### the makers -/
abbrev s_Word : Stmt := inClass (topS 2) 0
abbrev s_Fixed : Stmt := inClass (topS 3) 0
abbrev s_Bound : Stmt := inClass (topS 4) 0
abbrev s_Row : Stmt := inClass (topS 5) 0
theorem sc_Word : FnScope ["self", "key", "letters", "path", "spot"] ["self", "key", "letters", "path", "spot"] (defScope s_Word) := ⟨rfl, rfl, rfl, by decide +kernel, rfl, by decide +kernel, by decide +kernel⟩
theorem sc_Fixed : FnScope ["self", "value", "path"] ["self", "value", "path"] (defScope s_Fixed) := ⟨rfl, rfl, rfl, by decide +kernel, rfl, by decide +kernel, by decide +kernel⟩
theorem sc_Bound : FnScope ["self", "most", "deepest"] ["self", "most", "deepest"] (defScope s_Bound) := ⟨rfl, rfl, rfl, by decide +kernel, rfl, by decide +kernel, by decide +kernel⟩
theorem sc_Row : FnScope ["self", "parts", "tail", "path", "bound"] ["self", "parts", "tail", "path", "bound"] (defScope s_Row) := ⟨rfl, rfl, rfl, by decide +kernel, rfl, by decide +kernel, by decide +kernel⟩
theorem keep_upd {H H1 : Hp} {p : Addr} {o : HO} (h : ∀ b u, b ≠ p → H b = some u → H1 b = some u) : ∀ b u, b ≠ p → H b = some u → (upd H1 p o) b = some u := fun b u n e => (upd_ne n).trans (h b u n e)
theorem keep0 {H : Hp} {p : Addr} : ∀ b u, b ≠ p → H b = some u → H b = some u := fun _ _ _ e => e
theorem c_Word (T : Txt K mg c) (D : DefI K mg "Word" c.W "Word.__init__" s_Word ["self", "key", "letters", "path", "spot"]) : C8.Mak P w K mg base 1 "Word" c.W (spIni c.W 4 nsW [.bl false]) [] := by
  refine makO D sc_Word (fun vs H Q E h => ?_) (fun cdv f A outer s H vs Q E hr h => ?_)
  · obtain ⟨p, dx, us, rfl, hl, _⟩ := h
    show us.length + 1 = 5
    omega
  · obtain ⟨p, dx, us, rfl, hl, hp, k⟩ := h
    match us, hl with
    | [a1, a2, a3, a4], _ =>
    refine ⟨_, pss_cons (ps_fld (pv 0) (pv 1) rfl) (pss_cons (ps_fld (pv 0) (pv 2) rfl) (pss_cons (ps_fld (pv 0) (pv 3) rfl) (pss_cons (ps_fld (pv 0) (pv 4) rfl) (pss_one (ps_fld (pv 0) pe_bl rfl))))), ?_⟩
    try dsimp only [tSeq]
    refine ini_one (v := a1) (m := 0) hp ?_ T.cW.ic.cl (T.cW.at 0 rfl) ?_ (by decide) ?_ ?_
    · rfl
    · exact (Nat.le_refl 0)
    · intro Q q; exact ⟨_, rfl, q⟩
    try dsimp only [tSeq]
    refine ini_one (v := a2) (m := 1) upd_same ?_ T.cW.ic.cl (T.cW.at 1 rfl) ?_ (by decide) ?_ ?_
    · rfl
    · exact (lenF (Nat.le_refl 0))
    · intro Q q; exact ⟨_, rfl, q⟩
    try dsimp only [tSeq]
    refine ini_one (v := a3) (m := 2) upd_same ?_ T.cW.ic.cl (T.cW.at 2 rfl) ?_ (by decide) ?_ ?_
    · rfl
    · exact (lenF (lenF (Nat.le_refl 0)))
    · intro Q q; exact ⟨_, rfl, q⟩
    try dsimp only [tSeq]
    refine ini_one (v := a4) (m := 3) upd_same ?_ T.cW.ic.cl (T.cW.at 3 rfl) ?_ (by decide) ?_ ?_
    · rfl
    · exact (lenF (lenF (lenF (Nat.le_refl 0))))
    · intro Q q; exact ⟨_, rfl, q⟩
    try dsimp only [tSeq]
    refine ini_one (v := .bl false) (m := 4) upd_same ?_ T.cW.ic.cl (T.cW.at 4 rfl) ?_ (by decide) ?_ ?_
    · rfl
    · exact (lenF (lenF (lenF (lenF (Nat.le_refl 0)))))
    · intro Q q; exact q
    exact k _ (keep_upd (keep_upd (keep_upd (keep_upd (keep_upd keep0))))) (upd_same.trans (congrArg (fun l => some (HO.ins c.W dx l)) (putAll_eq (fs := []) (l := nsW.zip [a1, a2, a3, a4, .bl false]) (by show nsW.Nodup; decide +kernel))))
theorem c_Fixed (T : Txt K mg c) (D : DefI K mg "Fixed" c.F "Fixed.__init__" s_Fixed ["self", "value", "path"]) : C8.Mak P w K mg base 1 "Fixed" c.F (spIni c.F 2 nsF [.bl false]) [] := by
  refine makO D sc_Fixed (fun vs H Q E h => ?_) (fun cdv f A outer s H vs Q E hr h => ?_)
  · obtain ⟨p, dx, us, rfl, hl, _⟩ := h
    show us.length + 1 = 3
    omega
  · obtain ⟨p, dx, us, rfl, hl, hp, k⟩ := h
    match us, hl with
    | [a1, a2], _ =>
    refine ⟨_, pss_cons (ps_fld (pv 0) (pv 1) rfl) (pss_cons (ps_fld (pv 0) (pv 2) rfl) (pss_one (ps_fld (pv 0) pe_bl rfl))), ?_⟩
    try dsimp only [tSeq]
    refine ini_one (v := a1) (m := 0) hp ?_ T.cF.ic.cl (T.cF.at 0 rfl) ?_ (by decide) ?_ ?_
    · rfl
    · exact (Nat.le_refl 0)
    · intro Q q; exact ⟨_, rfl, q⟩
    try dsimp only [tSeq]
    refine ini_one (v := a2) (m := 1) upd_same ?_ T.cF.ic.cl (T.cF.at 1 rfl) ?_ (by decide) ?_ ?_
    · rfl
    · exact (lenF (Nat.le_refl 0))
    · intro Q q; exact ⟨_, rfl, q⟩
    try dsimp only [tSeq]
    refine ini_one (v := .bl false) (m := 2) upd_same ?_ T.cF.ic.cl (T.cF.at 2 rfl) ?_ (by decide) ?_ ?_
    · rfl
    · exact (lenF (lenF (Nat.le_refl 0)))
    · intro Q q; exact q
    exact k _ (keep_upd (keep_upd (keep_upd keep0))) (upd_same.trans (congrArg (fun l => some (HO.ins c.F dx l)) (putAll_eq (fs := []) (l := nsF.zip [a1, a2, .bl false]) (by show nsF.Nodup; decide +kernel))))
theorem c_Bound (T : Txt K mg c) (D : DefI K mg "Bound" c.B "Bound.__init__" s_Bound ["self", "most", "deepest"]) : C8.Mak P w K mg base 1 "Bound" c.B (spIni c.B 2 nsB []) [] := by
  refine makO D sc_Bound (fun vs H Q E h => ?_) (fun cdv f A outer s H vs Q E hr h => ?_)
  · obtain ⟨p, dx, us, rfl, hl, _⟩ := h
    show us.length + 1 = 3
    omega
  · obtain ⟨p, dx, us, rfl, hl, hp, k⟩ := h
    match us, hl with
    | [a1, a2], _ =>
    refine ⟨_, pss_cons (ps_fld (pv 0) (pv 1) rfl) (pss_one (ps_fld (pv 0) (pv 2) rfl)), ?_⟩
    try dsimp only [tSeq]
    refine ini_one (v := a1) (m := 0) hp ?_ T.cB.ic.cl (T.cB.at 0 rfl) ?_ (by decide) ?_ ?_
    · rfl
    · exact (Nat.le_refl 0)
    · intro Q q; exact ⟨_, rfl, q⟩
    try dsimp only [tSeq]
    refine ini_one (v := a2) (m := 1) upd_same ?_ T.cB.ic.cl (T.cB.at 1 rfl) ?_ (by decide) ?_ ?_
    · rfl
    · exact (lenF (Nat.le_refl 0))
    · intro Q q; exact ⟨_, rfl, q⟩
    exact k _ (keep_upd (keep_upd keep0)) (upd_same.trans (congrArg (fun l => some (HO.ins c.B dx l)) (putAll_eq (fs := []) (l := nsB.zip [a1, a2]) (by show nsB.Nodup; decide +kernel))))
theorem c_Row (T : Txt K mg c) (D : DefI K mg "Row" c.R "Row.__init__" s_Row ["self", "parts", "tail", "path", "bound"]) : C8.Mak P w K mg base 1 "Row" c.R (spIni c.R 4 nsR [.bl true, .bl false, .non, .non]) [] := by
  refine makO D sc_Row (fun vs H Q E h => ?_) (fun cdv f A outer s H vs Q E hr h => ?_)
  · obtain ⟨p, dx, us, rfl, hl, _⟩ := h
    show us.length + 1 = 5
    omega
  · obtain ⟨p, dx, us, rfl, hl, hp, k⟩ := h
    match us, hl with
    | [a1, a2, a3, a4], _ =>
    refine ⟨_, pss_cons (ps_fld (pv 0) (pv 1) rfl) (pss_cons (ps_fld (pv 0) (pv 2) rfl) (pss_cons (ps_fld (pv 0) (pv 3) rfl) (pss_cons (ps_fld (pv 0) (pv 4) rfl) (pss_cons (ps_fld (pv 0) pe_bl rfl) (pss_cons (ps_fld (pv 0) pe_bl rfl) (pss_cons (ps_fld (pv 0) pe_non rfl) (pss_one (ps_fld (pv 0) pe_non rfl)))))))), ?_⟩
    try dsimp only [tSeq]
    refine ini_one (v := a1) (m := 0) hp ?_ T.cR.ic.cl (T.cR.at 0 rfl) ?_ (by decide) ?_ ?_
    · rfl
    · exact (Nat.le_refl 0)
    · intro Q q; exact ⟨_, rfl, q⟩
    try dsimp only [tSeq]
    refine ini_one (v := a2) (m := 1) upd_same ?_ T.cR.ic.cl (T.cR.at 1 rfl) ?_ (by decide) ?_ ?_
    · rfl
    · exact (lenF (Nat.le_refl 0))
    · intro Q q; exact ⟨_, rfl, q⟩
    try dsimp only [tSeq]
    refine ini_one (v := a3) (m := 2) upd_same ?_ T.cR.ic.cl (T.cR.at 2 rfl) ?_ (by decide) ?_ ?_
    · rfl
    · exact (lenF (lenF (Nat.le_refl 0)))
    · intro Q q; exact ⟨_, rfl, q⟩
    try dsimp only [tSeq]
    refine ini_one (v := a4) (m := 3) upd_same ?_ T.cR.ic.cl (T.cR.at 3 rfl) ?_ (by decide) ?_ ?_
    · rfl
    · exact (lenF (lenF (lenF (Nat.le_refl 0))))
    · intro Q q; exact ⟨_, rfl, q⟩
    try dsimp only [tSeq]
    refine ini_one (v := .bl true) (m := 4) upd_same ?_ T.cR.ic.cl (T.cR.at 4 rfl) ?_ (by decide) ?_ ?_
    · rfl
    · exact (lenF (lenF (lenF (lenF (Nat.le_refl 0)))))
    · intro Q q; exact q
    try dsimp only [tSeq]
    refine ini_one (v := .bl false) (m := 5) upd_same ?_ T.cR.ic.cl (T.cR.at 5 rfl) ?_ (by decide) ?_ ?_
    · rfl
    · exact (lenF (lenF (lenF (lenF (lenF (Nat.le_refl 0))))))
    · intro Q q; exact q
    try dsimp only [tSeq]
    refine ini_one (v := .non) (m := 6) upd_same ?_ T.cR.ic.cl (T.cR.at 6 rfl) ?_ (by decide) ?_ ?_
    · rfl
    · exact (lenF (lenF (lenF (lenF (lenF (lenF (Nat.le_refl 0)))))))
    · intro Q q; exact q
    try dsimp only [tSeq]
    refine ini_one (v := .non) (m := 7) upd_same ?_ T.cR.ic.cl (T.cR.at 7 rfl) ?_ (by decide) ?_ ?_
    · rfl
    · exact (lenF (lenF (lenF (lenF (lenF (lenF (lenF (Nat.le_refl 0))))))))
    · intro Q q; exact q
    exact k _ (keep_upd (keep_upd (keep_upd (keep_upd (keep_upd (keep_upd (keep_upd (keep_upd keep0)))))))) (upd_same.trans (congrArg (fun l => some (HO.ins c.R dx l)) (putAll_eq (fs := []) (l := nsR.zip [a1, a2, a3, a4, .bl true, .bl false, .non, .non]) (by show nsR.Nodup; decide +kernel))))
end
end

local macro_rules | `(tactic| walk_at "wC") => `(tactic| ((with_reducible refine' wC_isO (C := Cs.W _) (D := Cs.W _) ?i ?e ?q); (case i => exact (Txt.cW (by assumption)).ic); (case e => exact (Txt.cW (by assumption)).ic.me)))
local macro_rules | `(tactic| walk_at "wC") => `(tactic| ((with_reducible refine' wC_isO (C := Cs.W _) (D := Cs.F _) ?i ?e ?q); (case i => exact (Txt.cW (by assumption)).ic); (case e => exact Txt.kWF (by assumption))))
local macro_rules | `(tactic| walk_at "wC") => `(tactic| ((with_reducible refine' wC_isO (C := Cs.W _) (D := Cs.R _) ?i ?e ?q); (case i => exact (Txt.cW (by assumption)).ic); (case e => exact Txt.kWR (by assumption))))
local macro_rules | `(tactic| walk_at "wC") => `(tactic| ((with_reducible refine' wC_isO (C := Cs.F _) (D := Cs.W _) ?i ?e ?q); (case i => exact (Txt.cF (by assumption)).ic); (case e => exact Txt.kFW (by assumption))))
local macro_rules | `(tactic| walk_at "wC") => `(tactic| ((with_reducible refine' wC_isO (C := Cs.F _) (D := Cs.F _) ?i ?e ?q); (case i => exact (Txt.cF (by assumption)).ic); (case e => exact (Txt.cF (by assumption)).ic.me)))
local macro_rules | `(tactic| walk_at "wC") => `(tactic| ((with_reducible refine' wC_isO (C := Cs.F _) (D := Cs.R _) ?i ?e ?q); (case i => exact (Txt.cF (by assumption)).ic); (case e => exact Txt.kFR (by assumption))))
local macro_rules | `(tactic| walk_at "wC") => `(tactic| ((with_reducible refine' wC_isO (C := Cs.R _) (D := Cs.W _) ?i ?e ?q); (case i => exact (Txt.cR (by assumption)).ic); (case e => exact Txt.kRW (by assumption))))
local macro_rules | `(tactic| walk_at "wC") => `(tactic| ((with_reducible refine' wC_isO (C := Cs.R _) (D := Cs.F _) ?i ?e ?q); (case i => exact (Txt.cR (by assumption)).ic); (case e => exact Txt.kRF (by assumption))))
local macro_rules | `(tactic| walk_at "wC") => `(tactic| ((with_reducible refine' wC_isO (C := Cs.R _) (D := Cs.R _) ?i ?e ?q); (case i => exact (Txt.cR (by assumption)).ic); (case e => exact (Txt.cR (by assumption)).ic.me)))
local macro_rules | `(tactic| walk_at "wC") => `(tactic| with_reducible refine wC_int ?_)
local macro_rules | `(tactic| walk_at "wC") => `(tactic| with_reducible refine wC_lstL rfl ?_)
local macro_rules | `(tactic| walk_at "wC") => `(tactic| with_reducible refine wC_lstT ?_)
local macro_rules | `(tactic| walk_at "wC") => `(tactic| with_reducible refine wC_tupT ?_)
local macro_rules | `(tactic| walk_at "wC") => `(tactic| with_reducible refine wC_tup rfl ?_)
local macro_rules | `(tactic| walk_at "wC") => `(tactic| with_reducible refine wC_lenL rfl ?_)
local macro_rules | `(tactic| walk_at "wC") => `(tactic| with_reducible refine wC_lenT ?_)
local macro_rules | `(tactic| walk_at "wC") => `(tactic| with_reducible refine wC_abs ?_)
local macro_rules | `(tactic| walk_at "wC") => `(tactic| with_reducible refine wC_dictP rfl ?_)
local macro_rules | `(tactic| walk_at "wC") => `(tactic| ((with_reducible refine' wC_type ?q ?hn); (case hn => exact rfl)))
local macro_rules | `(tactic| walk_at "wC") => `(tactic| ((with_reducible refine' wC_isi ?e ?q ?hn); (case hn => exact rfl); (case e => exact rfl)))
local macro_rules | `(tactic| walk_at "wR") => `(tactic| with_reducible refine wR_ixL rfl ?_)
local macro_rules | `(tactic| walk_at "wR") => `(tactic| with_reducible refine wR_cat rfl rfl ?_)
local macro_rules | `(tactic| walk_at "wR") => `(tactic| with_reducible refine wR_catT ?_)
local macro_rules | `(tactic| walk_at "wR") => `(tactic| with_reducible refine wR_ixT ?_)
local macro_rules | `(tactic| walk_at "wR") => `(tactic| with_reducible refine wR_notN ?_)
local macro_rules | `(tactic| walk_at "wR") => `(tactic| with_reducible refine wR_isN ?_)
local macro_rules | `(tactic| walk_at "wR") => `(tactic| with_reducible refine wR_neS ?_)
local macro_rules | `(tactic| walk_at "wR") => `(tactic| with_reducible refine wR_eqS ?_)
local macro_rules | `(tactic| walk_at "wR") => `(tactic| with_reducible refine wR_neI ?_)
local macro_rules | `(tactic| walk_at "wR") => `(tactic| with_reducible refine wR_eqI ?_)
local macro_rules | `(tactic| walk_at "wR") => `(tactic| with_reducible refine wR_Bo ?_)
local macro_rules | `(tactic| walk_at "wR") => `(tactic| with_reducible refine wR_I ?_)
local macro_rules | `(tactic| walk_at "wR") => `(tactic| with_reducible refine wR_in (Or.inl rfl) ?_)
local macro_rules | `(tactic| walk_at "wR") => `(tactic| with_reducible refine wR_leS ?_)
local macro_rules | `(tactic| walk_at "wR") => `(tactic| with_reducible refine wR_ninS ?_)
local macro_rules | `(tactic| walk_at "wR") => `(tactic| with_reducible refine wR_inS ?_)
local macro_rules | `(tactic| walk_at "wR") => `(tactic| with_reducible refine wR_notTy ?_)
local macro_rules | `(tactic| walk_at "wR") => `(tactic| with_reducible refine wR_isTy ?_)
local macro_rules | `(tactic| walk_at "wR") => `(tactic| with_reducible refine wR_eqNI ?_)
local macro_rules | `(tactic| walk_at "wR") => `(tactic| with_reducible refine wR_neNI ?_)
local macro_rules | `(tactic| walk_at "wR") => `(tactic| with_reducible refine wR_isBl ?_)
local macro_rules | `(tactic| walk_at "wE") => `(tactic| ((with_reducible refine' wE_yin ?L ?q); (case L => exact lensR)))
local macro_rules | `(tactic| walk_at "wE") => `(tactic| ((with_reducible refine' wE_ynin ?L ?q); (case L => exact lensR)))
local macro_rules | `(tactic| walk_at "wE") => `(tactic| ((with_reducible refine' wE_yget2 ?L ?q); (case L => exact lensR)))
local macro_rules | `(tactic| walk_at "wE") => `(tactic| ((with_reducible refine' wE_yix ?L ?q); (case L => exact lensR)))
local macro_rules | `(tactic| walk_at "wE") => `(tactic| with_reducible refine wE_fld ?_)
local macro_rules | `(tactic| walk_at "wE") => `(tactic| with_reducible refine wE_cZ (v := .ref _) ?_)
local macro_rules | `(tactic| walk_at "wE") => `(tactic| with_reducible refine wE_make (C := Cs.W _) (es := [.bool false]) (fun _ => .cons (.bl _) .nil) ?_)
local macro_rules | `(tactic| walk_at "wE") => `(tactic| with_reducible refine wE_make (C := Cs.F _) (es := [.bool false]) (fun _ => .cons (.bl _) .nil) ?_)
local macro_rules | `(tactic| walk_at "wE") => `(tactic| with_reducible refine wE_make (C := Cs.B _) (es := []) (fun _ => .nil) ?_)
local macro_rules | `(tactic| walk_at "wE") => `(tactic| with_reducible refine wE_make (C := Cs.R _) (es := [.bool true, .bool false, .none, .none]) (fun _ => .cons (.bl _) (.cons (.bl _) (.cons .non (.cons .non .nil)))) ?_)
local macro_rules | `(tactic| walk_at "wE") => `(tactic| with_reducible refine wE_callX ?_)
local macro_rules | `(tactic| walk_at "wE") => `(tactic| with_reducible refine wE_callW ?_)
local macro_rules | `(tactic| walk_at "wE") => `(tactic| with_reducible refine wE_callP ?_)
local macro_rules | `(tactic| walk_at "wE") => `(tactic| with_reducible refine wE_un ?_)
local macro_rules | `(tactic| walk_at "wE") => `(tactic| with_reducible refine wE_chain ?_)
local macro_rules | `(tactic| walk_at "wE") => `(tactic| with_reducible refine wE_revT ?_)
local macro_rules | `(tactic| walk_at "wE") => `(tactic| with_reducible refine wE_sl ?_)
local macro_rules | `(tactic| walk_at "wE") => `(tactic| with_reducible refine wE_notV ?_)
local macro_rules | `(tactic| walk_at "wE") => `(tactic| with_reducible refine wE_orV ?_)
local macro_rules | `(tactic| walk_at "wE") => `(tactic| with_reducible refine wE_andV ?_)
local macro_rules | `(tactic| walk_at "wE") => `(tactic| with_reducible refine wE_if ?_)
local macro_rules | `(tactic| walk_at "wE") => `(tactic| with_reducible refine wE_cb ?_)
local macro_rules | `(tactic| walk_at "wE") => `(tactic| with_reducible refine wE_dnew ?_)
local macro_rules | `(tactic| walk_at "wE") => `(tactic| with_reducible refine wE_lst ?_)
local macro_rules | `(tactic| walk_at "wE") => `(tactic| with_reducible refine wE_tup ?_)
local macro_rules | `(tactic| walk_at "wE") => `(tactic| with_reducible refine wE_op ?_)
local macro_rules | `(tactic| walk_at "wE") => `(tactic| with_reducible refine wE_cT ?_)
local macro_rules | `(tactic| walk_at "wE") => `(tactic| with_reducible refine wE_cN ?_)
local macro_rules | `(tactic| walk_at "wE") => `(tactic| with_reducible refine wE_cS ?_)
local macro_rules | `(tactic| walk_at "wE") => `(tactic| with_reducible refine wE_cB ?_)
local macro_rules | `(tactic| walk_at "wE") => `(tactic| with_reducible refine wE_cI ?_)
local macro_rules | `(tactic| walk_at "wE") => `(tactic| ((with_reducible refine' wE_varQ ?h ?hi ?q); (case h => exact rfl); (case hi => exact Nat.le_of_ble_eq_true rfl)))
local macro_rules | `(tactic| walk_at "wE") => `(tactic| ((with_reducible refine' wE_varP ?h ?hi ?q); (case h => exact rfl); (case hi => exact Nat.le_of_ble_eq_true rfl)))
local macro_rules | `(tactic| walk_at "wE") => `(tactic| ((with_reducible refine' wE_varT ?h ?hi ?q); (case h => exact rfl); (case hi => exact Nat.le_of_ble_eq_true rfl)))
local macro_rules | `(tactic| walk_at "wE") => `(tactic| ((with_reducible refine' wE_varZ ?h ?hi ?q); (case h => exact rfl); (case hi => exact Nat.le_of_ble_eq_true rfl)))
local macro_rules | `(tactic| walk_at "wE") => `(tactic| ((with_reducible refine' wE_varB ?h ?hi ?q); (case h => exact rfl); (case hi => exact Nat.le_of_ble_eq_true rfl)))
local macro_rules | `(tactic| walk_at "wE") => `(tactic| ((with_reducible refine' wE_varO ?h ?hi ?q); (case h => exact rfl); (case hi => exact Nat.le_of_ble_eq_true rfl)))
local macro_rules | `(tactic| walk_at "wE") => `(tactic| ((with_reducible refine' wE_varD ?h ?hi ?q); (case h => exact rfl); (case hi => exact Nat.le_of_ble_eq_true rfl)))
local macro_rules | `(tactic| walk_at "wE") => `(tactic| ((with_reducible refine' wE_dc ?hv ?q); (case hv => exact rfl)))
local macro_rules | `(tactic| walk_at "wE") => `(tactic| ((with_reducible refine' wE_lc ?hv ?q); (case hv => exact rfl)))
local macro_rules | `(tactic| walk_at "wE") => `(tactic| ((with_reducible refine' wE_lstD ?h ?hi ?q); (case h => exact rfl); (case hi => exact Nat.le_of_ble_eq_true rfl)))
local macro_rules | `(tactic| walk_at "wE") => `(tactic| ((with_reducible refine' wE_din ?h ?hi ?q); (case h => exact rfl); (case hi => exact Nat.le_of_ble_eq_true rfl)))
local macro_rules | `(tactic| walk_at "wE") => `(tactic| ((with_reducible refine' wE_dget2 ?h ?hi ?q); (case h => exact rfl); (case hi => exact Nat.le_of_ble_eq_true rfl)))
local macro_rules | `(tactic| walk_at "wE") => `(tactic| ((with_reducible refine' wE_callL ?h ?hi ?q); (case h => exact rfl); (case hi => exact Nat.le_of_ble_eq_true rfl)))
local macro_rules | `(tactic| walk_at "wE") => `(tactic| ((with_reducible refine' wE_znin lens2 ?h ?hi ?q); (case h => exact rfl); (case hi => exact Nat.le_of_ble_eq_true rfl)))
local macro_rules | `(tactic| walk_at "wE") => `(tactic| ((with_reducible refine' wE_znin lens1 ?h ?hi ?q); (case h => exact rfl); (case hi => exact Nat.le_of_ble_eq_true rfl)))
local macro_rules | `(tactic| walk_at "wE") => `(tactic| ((with_reducible refine' wE_zin lens2 ?h ?hi ?q); (case h => exact rfl); (case hi => exact Nat.le_of_ble_eq_true rfl)))
local macro_rules | `(tactic| walk_at "wE") => `(tactic| ((with_reducible refine' wE_zin lens1 ?h ?hi ?q); (case h => exact rfl); (case hi => exact Nat.le_of_ble_eq_true rfl)))
local macro_rules | `(tactic| walk_at "wE") => `(tactic| with_reducible refine wE_lrg ?_)
local macro_rules | `(tactic| walk_at "wE") => `(tactic| ((with_reducible refine' wE_zix lens0 ?h ?hi ?q); (case h => exact rfl); (case hi => exact Nat.le_of_ble_eq_true rfl)))
local macro_rules | `(tactic| walk_at "wE") => `(tactic| ((with_reducible refine' wE_zget2 lens2 ?h ?hi ?q); (case h => exact rfl); (case hi => exact Nat.le_of_ble_eq_true rfl)))
local macro_rules | `(tactic| walk_at "wE") => `(tactic| ((with_reducible refine' wE_zget2 lens1 ?h ?hi ?q); (case h => exact rfl); (case hi => exact Nat.le_of_ble_eq_true rfl)))
local macro_rules | `(tactic| walk_at "wE") => `(tactic| ((with_reducible refine' wE_zget2 lens0 ?h ?hi ?q); (case h => exact rfl); (case hi => exact Nat.le_of_ble_eq_true rfl)))
local macro_rules | `(tactic| walk_at "wE") => `(tactic| with_reducible refine wE_zip ?_)
local macro_rules | `(tactic| walk_at "wE") => `(tactic| with_reducible refine wE_disp ?_)
local macro_rules | `(tactic| walk_at "wE") => `(tactic| ((with_reducible refine' wE_dix ?h ?hi ?q); (case h => exact rfl); (case hi => exact Nat.le_of_ble_eq_true rfl)))
local macro_rules | `(tactic| walk_at "wI") => `(tactic| with_reducible refine wI_rng2 ?_)
local macro_rules | `(tactic| walk_at "wI") => `(tactic| with_reducible refine wI_enN ?_)
local macro_rules | `(tactic| walk_at "wI") => `(tactic| ((with_reducible refine' wI_enO ?h ?hi ?q); (case h => exact rfl); (case hi => exact Nat.le_of_ble_eq_true rfl)))
local macro_rules | `(tactic| walk_at "wI") => `(tactic| with_reducible refine wI_new ?_)
local macro_rules | `(tactic| walk_at "wI") => `(tactic| ((with_reducible refine' wI_ownP ?h ?hi ?q); (case h => exact rfl); (case hi => exact Nat.le_of_ble_eq_true rfl)))
local macro_rules | `(tactic| walk_at "wI") => `(tactic| ((with_reducible refine' wI_prm ?h ?hi ?q); (case h => exact rfl); (case hi => exact Nat.le_of_ble_eq_true rfl)))
local macro_rules | `(tactic| walk_at "wI") => `(tactic| ((with_reducible refine' wI_own ?h ?hi ?q); (case h => exact rfl); (case hi => exact Nat.le_of_ble_eq_true rfl)))
local macro_rules | `(tactic| walk_at "wI") => `(tactic| with_reducible refine wI_enT ?_)
local macro_rules | `(tactic| walk_at "wI") => `(tactic| with_reducible refine wI_down ?_)
local macro_rules | `(tactic| walk_at "wI") => `(tactic| with_reducible refine wI_rng1 ?_)
local macro_rules | `(tactic| walk_at "wI") => `(tactic| with_reducible refine wI_tup ?_)
local macro_rules | `(tactic| walk_at "wI") => `(tactic| with_reducible refine wI_str ?_)
local macro_rules | `(tactic| walk_at "wI") => `(tactic| with_reducible refine wI_revN ?_)
local macro_rules | `(tactic| walk_at "wS") => `(tactic| ((with_reducible refine' wS_parV ?hi ?hj ?q); (case hi => exact Nat.le_of_ble_eq_true rfl); (case hj => exact Nat.le_of_ble_eq_true rfl)))
local macro_rules | `(tactic| walk_at "wS") => `(tactic| with_reducible refine wS_cont ?_)
local macro_rules | `(tactic| walk_at "wS") => `(tactic| with_reducible refine wS_break ?_)
local macro_rules | `(tactic| walk_at "wS") => `(tactic| with_reducible refine wS_retN ?_)
local macro_rules | `(tactic| walk_at "wS") => `(tactic| with_reducible refine wS_drop ?_)
local macro_rules | `(tactic| walk_at "wS") => `(tactic| with_reducible refine wS_asgG ?_)
local macro_rules | `(tactic| walk_at "wS") => `(tactic| with_reducible refine wS_if ?_)
local macro_rules | `(tactic| walk_at "wS") => `(tactic| with_reducible refine wS_next ?_)
local macro_rules | `(tactic| walk_at "wS") => `(tactic| with_reducible refine wS_seq ?_)
local macro_rules | `(tactic| walk_at "wS") => `(tactic| with_reducible refine wS_for ?_)
local macro_rules | `(tactic| walk_at "wS") => `(tactic| ((with_reducible refine' wS_dput ?h ?hi ?q); (case h => exact rfl); (case hi => exact Nat.le_of_ble_eq_true rfl)))
local macro_rules | `(tactic| walk_at "wS") => `(tactic| ((with_reducible refine' wS_aug ?h ?hi ?q); (case h => exact rfl); (case hi => exact Nat.le_of_ble_eq_true rfl)))
local macro_rules | `(tactic| walk_at "wS") => `(tactic| ((with_reducible refine' wS_asg ?hi ?q); (case hi => exact Nat.le_of_ble_eq_true rfl)))
local macro_rules | `(tactic| walk_at "wS") => `(tactic| ((with_reducible refine' wS_popAt ?h ?hi ?q); (case h => exact rfl); (case hi => exact Nat.le_of_ble_eq_true rfl)))
local macro_rules | `(tactic| walk_at "wS") => `(tactic| ((with_reducible refine' wS_popG ?h ?hi ?q); (case h => exact rfl); (case hi => exact Nat.le_of_ble_eq_true rfl)))
local macro_rules | `(tactic| walk_at "wS") => `(tactic| ((with_reducible refine' wS_extT ?h ?hi ?q); (case h => exact rfl); (case hi => exact Nat.le_of_ble_eq_true rfl)))
local macro_rules | `(tactic| walk_at "wS") => `(tactic| ((with_reducible refine' wS_ext ?h ?hi ?q); (case h => exact rfl); (case hi => exact Nat.le_of_ble_eq_true rfl)))
local macro_rules | `(tactic| walk_at "wS") => `(tactic| ((with_reducible refine' wS_app ?h ?hi ?q); (case h => exact rfl); (case hi => exact Nat.le_of_ble_eq_true rfl)))
local macro_rules | `(tactic| walk_at "wS") => `(tactic| with_reducible refine wS_ret ?_)
local macro_rules | `(tactic| walk_at "wS") => `(tactic| ((with_reducible refine' wS_retO ?h ?hi ?q); (case h => exact rfl); (case hi => exact Nat.le_of_ble_eq_true rfl)))
local macro_rules | `(tactic| walk_at "wS") => `(tactic| ((with_reducible refine' wS_zdel lens2 ?h ?hi ?q); (case h => exact rfl); (case hi => exact Nat.le_of_ble_eq_true rfl)))
local macro_rules | `(tactic| walk_at "wS") => `(tactic| ((with_reducible refine' wS_zdel lens1 ?h ?hi ?q); (case h => exact rfl); (case hi => exact Nat.le_of_ble_eq_true rfl)))
local macro_rules | `(tactic| walk_at "wS") => `(tactic| ((with_reducible refine' wS_zput lens2 ?h ?hi ?q); (case h => exact rfl); (case hi => exact Nat.le_of_ble_eq_true rfl)))
local macro_rules | `(tactic| walk_at "wS") => `(tactic| ((with_reducible refine' wS_zput lens1 ?h ?hi ?q); (case h => exact rfl); (case hi => exact Nat.le_of_ble_eq_true rfl)))
local macro_rules | `(tactic| walk_at "wS") => `(tactic| ((with_reducible refine' wS_lset ?h ?hi ?q); (case h => exact rfl); (case hi => exact Nat.le_of_ble_eq_true rfl)))
local macro_rules | `(tactic| walk_at "wG") => `(tactic| ((with_reducible refine' wG_tup ?hn ?q); (case hn => exact rfl)))
local macro_rules | `(tactic| walk_at "wG") => `(tactic| ((with_reducible refine' wG_name ?hi ?q); (case hi => exact Nat.le_of_ble_eq_true rfl)))
local macro_rules | `(tactic| walk_at "wGs") => `(tactic| with_reducible refine wGs_nil ?_)
local macro_rules | `(tactic| walk_at "wGs") => `(tactic| with_reducible refine wGs_cons ?_)
local macro_rules | `(tactic| walk_at "wGc") => `(tactic| ((with_reducible refine' wGc_tup ?hn ?q); (case hn => exact rfl)))
local macro_rules | `(tactic| walk_at "wGc") => `(tactic| ((with_reducible refine' wGc_name ?hi ?hv ?q); (case hi => exact Nat.le_of_ble_eq_true rfl); (case hv => exact List.mem_of_elem_eq_true rfl)))
local macro_rules | `(tactic| walk_at "wGcs") => `(tactic| with_reducible refine wGcs_nil ?_)
local macro_rules | `(tactic| walk_at "wGcs") => `(tactic| with_reducible refine wGcs_cons ?_)
local macro_rules | `(tactic| walk_at "wA") => `(tactic| with_reducible refine wA_nil ?_)
local macro_rules | `(tactic| walk_at "wA") => `(tactic| with_reducible refine wA_cons ?_)
local macro_rules | `(tactic| walk_at "wD") => `(tactic| with_reducible refine wD_star ?_)
local macro_rules | `(tactic| walk_at "wD") => `(tactic| with_reducible refine wD_nil ?_)
local macro_rules | `(tactic| walk_at "wD") => `(tactic| with_reducible refine wD_cons ?_)
local macro_rules | `(tactic| walk_at "wO") => `(tactic| with_reducible refine wO_some ?_)
local macro_rules | `(tactic| walk_at "wO") => `(tactic| with_reducible refine wO_no ?_)
local macro_rules | `(tactic| walk_at "wT") => `(tactic| with_reducible refine wT_tru ?_)
local macro_rules | `(tactic| walk_at "wT") => `(tactic| with_reducible refine wT_yes ?_)
local macro_rules | `(tactic| walk_at "wT") => `(tactic| with_reducible refine wT_not ?_)
local macro_rules | `(tactic| walk_at "wT") => `(tactic| with_reducible refine wT_or ?_)
local macro_rules | `(tactic| walk_at "wT") => `(tactic| with_reducible refine wT_and ?_)
local macro_rules | `(tactic| walk_at "wT") => `(tactic| with_reducible refine wT_B ?_)
local macro_rules | `(tactic| walk_at "wT") => `(tactic| with_reducible refine wT_test ?_)
local macro_rules | `(tactic| walk_at "wL") => `(tactic| with_reducible refine wL_L rfl ?_)
local macro_rules | `(tactic| walk_at "wL") => `(tactic| with_reducible refine wL_T ?_)
local macro_rules | `(tactic| walk_at "w1") => `(tactic| with_reducible refine q_Z ?_)
local macro_rules | `(tactic| walk_at "w1") => `(tactic| ((with_reducible refine' q_Ln ?q ?h); (case h => exact rfl)))
local macro_rules | `(tactic| walk_at "w1") => `(tactic| ((with_reducible refine' q_fld (C := Cs.R _) (ns := nsR) 2 ?c1 ?n1 ndR ?h1 ?h2 ?q); (case h1 => exact rfl); (case h2 => exact rfl); (case c1 => exact (Txt.cR (by assumption)).ic.cl); (case n1 => exact CF.at (Txt.cR (by assumption)) 2 rfl)))
local macro_rules | `(tactic| walk_at "w1") => `(tactic| ((with_reducible refine' q_fld (C := Cs.R _) (ns := nsR) 1 ?c1 ?n1 ndR ?h1 ?h2 ?q); (case h1 => exact rfl); (case h2 => exact rfl); (case c1 => exact (Txt.cR (by assumption)).ic.cl); (case n1 => exact CF.at (Txt.cR (by assumption)) 1 rfl)))
local macro_rules | `(tactic| walk_at "w1") => `(tactic| ((with_reducible refine' q_fld (C := Cs.R _) (ns := nsR) 0 ?c1 ?n1 ndR ?h1 ?h2 ?q); (case h1 => exact rfl); (case h2 => exact rfl); (case c1 => exact (Txt.cR (by assumption)).ic.cl); (case n1 => exact CF.at (Txt.cR (by assumption)) 0 rfl)))
local macro_rules | `(tactic| walk_at "w1") => `(tactic| ((with_reducible refine' q_fld (C := Cs.F _) (ns := nsF) 1 ?c1 ?n1 ndF ?h1 ?h2 ?q); (case h1 => exact rfl); (case h2 => exact rfl); (case c1 => exact (Txt.cF (by assumption)).ic.cl); (case n1 => exact CF.at (Txt.cF (by assumption)) 1 rfl)))
local macro_rules | `(tactic| walk_at "w1") => `(tactic| ((with_reducible refine' q_fld (C := Cs.F _) (ns := nsF) 0 ?c1 ?n1 ndF ?h1 ?h2 ?q); (case h1 => exact rfl); (case h2 => exact rfl); (case c1 => exact (Txt.cF (by assumption)).ic.cl); (case n1 => exact CF.at (Txt.cF (by assumption)) 0 rfl)))
local macro_rules | `(tactic| walk_at "w1") => `(tactic| ((with_reducible refine' q_fld (C := Cs.W _) (ns := nsW) 2 ?c1 ?n1 ndW ?h1 ?h2 ?q); (case h1 => exact rfl); (case h2 => exact rfl); (case c1 => exact (Txt.cW (by assumption)).ic.cl); (case n1 => exact CF.at (Txt.cW (by assumption)) 2 rfl)))
local macro_rules | `(tactic| walk_at "w1") => `(tactic| ((with_reducible refine' q_fld (C := Cs.W _) (ns := nsW) 1 ?c1 ?n1 ndW ?h1 ?h2 ?q); (case h1 => exact rfl); (case h2 => exact rfl); (case c1 => exact (Txt.cW (by assumption)).ic.cl); (case n1 => exact CF.at (Txt.cW (by assumption)) 1 rfl)))
local macro_rules | `(tactic| walk_at "w1") => `(tactic| ((with_reducible refine' q_fld (C := Cs.W _) (ns := nsW) 0 ?c1 ?n1 ndW ?h1 ?h2 ?q); (case h1 => exact rfl); (case h2 => exact rfl); (case c1 => exact (Txt.cW (by assumption)).ic.cl); (case n1 => exact CF.at (Txt.cW (by assumption)) 0 rfl)))
local macro_rules | `(tactic| walk_at "w1") => `(tactic| with_reducible refine q_par ?_)
local macro_rules | `(tactic| walk_at "w1") => `(tactic| with_reducible refine q_o ?_)
local macro_rules | `(tactic| walk_at "w1") => `(tactic| with_reducible refine q_T1 ?_)
local macro_rules | `(tactic| walk_at "w1") => `(tactic| with_reducible refine q_tup ?_)
local macro_rules | `(tactic| walk_at "w1") => `(tactic| with_reducible refine q_un ?_)
local macro_rules | `(tactic| walk_at "w1") => `(tactic| with_reducible refine q_Ks ?_)
local macro_rules | `(tactic| walk_at "w1") => `(tactic| with_reducible refine q_Ki ?_)
local macro_rules | `(tactic| walk_at "w1") => `(tactic| with_reducible refine q_Ll ?_)
local macro_rules | `(tactic| walk_at "w1") => `(tactic| with_reducible refine q_Lo ?_)
local macro_rules | `(tactic| walk_at "w1") => `(tactic| with_reducible refine q_Sl ?_)
local macro_rules | `(tactic| walk_at "w1") => `(tactic| with_reducible refine q_So ?_)
local macro_rules | `(tactic| walk_at "w1") => `(tactic| with_reducible refine q_St ?_)
local macro_rules | `(tactic| walk_at "w1") => `(tactic| with_reducible refine q_I ?_)
local macro_rules | `(tactic| walk_at "w1") => `(tactic| with_reducible refine q_B ?_)
local macro_rules | `(tactic| walk_at "w1") => `(tactic| with_reducible refine q_D ?_)
local macro_rules | `(tactic| walk_at "w1") => `(tactic| ((with_reducible refine' q_Fl ?h1 ?h2 ?q); (case h1 => exact rfl); (case h2 => exact rfl)))
local macro_rules | `(tactic| walk_at "w1") => `(tactic| ((with_reducible refine' q_At ?e ?q); (case e => first | exact Kt.at0 | exact Kt.at1 | exact Kt.at2 | exact Kt.at3 | exact rfl)))
local macro_rules | `(tactic| walk_at "w1") => `(tactic| ((with_reducible refine' q_Sz ?q ?h); (case h => exact Nat.le_of_ble_eq_true rfl)))
local macro_rules | `(tactic| walk_at "w1") => `(tactic| ((with_reducible refine' ite_f ?h ?q); (case h => first | with_reducible exact rfl | decide +kernel | exact rfl)))
local macro_rules | `(tactic| walk_at "w1") => `(tactic| ((with_reducible refine' ite_t ?h ?q); (case h => first | with_reducible exact rfl | decide +kernel | exact rfl)))
local macro_rules | `(tactic| walk_at "w1") => `(tactic| with_reducible refine wP_nil ?_)
local macro_rules | `(tactic| walk_at "w1") => `(tactic| with_reducible refine wP_cons ?_)
local macro_rules | `(tactic| walk_at "w1") => `(tactic| (guard_target = wGcs _ _ _ _ _ _; walk_at "wGcs"))
local macro_rules | `(tactic| walk_at "w1") => `(tactic| (guard_target = wGc _ _ _ _ _ _; walk_at "wGc"))
local macro_rules | `(tactic| walk_at "w1") => `(tactic| (guard_target = wGs _ _ _ _ _; walk_at "wGs"))
local macro_rules | `(tactic| walk_at "w1") => `(tactic| (guard_target = wG _ _ _ _ _; walk_at "wG"))
local macro_rules | `(tactic| walk_at "w1") => `(tactic| (guard_target = wL _ _ _ _ _ _; walk_at "wL"))
local macro_rules | `(tactic| walk_at "w1") => `(tactic| (guard_target = wI _ _ _ _ _; walk_at "wI"))
local macro_rules | `(tactic| walk_at "w1") => `(tactic| (guard_target = wO _ _ _ _ _; walk_at "wO"))
local macro_rules | `(tactic| walk_at "w1") => `(tactic| (guard_target = wC _ _ _ _; walk_at "wC"))
local macro_rules | `(tactic| walk_at "w1") => `(tactic| (guard_target = wD _ _ _ _ _; walk_at "wD"))
local macro_rules | `(tactic| walk_at "w1") => `(tactic| (guard_target = wA _ _ _ _ _; walk_at "wA"))
local macro_rules | `(tactic| walk_at "w1") => `(tactic| (guard_target = wT _ _ _ _ _; walk_at "wT"))
local macro_rules | `(tactic| walk_at "w1") => `(tactic| (guard_target = wR _ _ _ _ _; walk_at "wR"))
local macro_rules | `(tactic| walk_at "w1") => `(tactic| (guard_target = wS _ _ _ _ _; walk_at "wS"))
local macro_rules | `(tactic| walk_at "w1") => `(tactic| (guard_target = wE _ _ _ _ _; walk_at "wE"))
local macro_rules | `(tactic| walk_at "w") => `(tactic| repeat (walk_at "w1"))
section
open PySem PySem.Spec PyProof.Rows L2 Kt Evl
section
variable {P : Program} {w : World} {K : PySem.W.Frag} {mg : Str → Option Value} {base : Heap} {c : Cs}
theorem szO {n : Nat} (h : n ≤ 200000) : n ≤ sizeLine := Nat.le_trans h (by decide)
def Tm.isW (s : Str) : Tm → Bool
  | .w x => decide (x = s)
  | _ => false
def Tm.pn (g : List (Key × PyData)) : Tm → Bool
  | .w x => !(kGet g (.inr x)).isSome && !decide (x = "_")
  | _ => false
def prNothing (c : Cs) : List Wd → (Wd → Prop) → Prop := fun ws P => ∃ (t : Tm) (p : List PyData), ws = [.d (nodeD c t p)] ∧ P (.d (.bool t.isU))
abbrev s_is_nothing : Stmt := topS 6
theorem sc_is_nothing : FnScope ["node"] ["node"] (defScope s_is_nothing) := ⟨rfl, rfl, rfl, by decide +kernel, rfl, by decide +kernel, by decide +kernel⟩
theorem c_is_nothing (T : Txt K mg c) (D : DefG K mg "is_nothing" s_is_nothing ["node"])  : CalO P w K mg base 1 "is_nothing" (spP K (prNothing c)) := by
  refine calO D sc_is_nothing (fun vs H Q E h => ?_) (fun cdv f A outer s H vs Q E hr h => ?_)
  · obtain ⟨ws, P, ⟨t, p, rfl, z⟩, hv, _⟩ := h
    exact hv.len
  · obtain ⟨ws, P, ⟨t, p, rfl, z⟩, hv, q⟩ := h
    have hu := hu_of hr
    refine ⟨_, pss_one (ps_ret (pe_and (pe_callB call_isi (by rfl) T.isinstance (by decide +kernel) (pa_cons (pv 0) (pa_cons (C8.pe_gc (by rfl) T.g_Fixed) pa_nil))) (pe_one (pe_cmpR (op_eqD hr.units) (pe_fld (pv 0) rfl) (pe_tup pa_nil) (nomark _))))), ?_⟩
    refine bodyP hv q (Nat.le_of_ble_eq_true rfl) ?_
    try dsimp only [cx_K]
    cases t with
    | w x => dsimp only [nodeD]; walk_at "w"; exact z
    | i k => dsimp only [nodeD]; walk_at "w"; refine wR_eqD (q_shp rfl rfl ?_); walk_at "w"; exact z
    | b k => dsimp only [nodeD]; walk_at "w"; refine wR_eqD (q_shp rfl rfl ?_); walk_at "w"; exact z
    | u => dsimp only [nodeD]; walk_at "w"; refine wR_eqD (q_shp rfl rfl ?_); walk_at "w"; exact z
    | l xs t => dsimp only [nodeD]; walk_at "w"; exact z
def prSpelled (c : Cs) : List Wd → (Wd → Prop) → Prop := fun ws P => ∃ (t : Tm) (p : List PyData) (s : Str), ws = [.d (nodeD c t p), .d (.str s)] ∧ P (.d (.bool (t.isW s)))
abbrev s_is_spelled : Stmt := topS 7
theorem sc_is_spelled : FnScope ["node", "letters"] ["node", "letters"] (defScope s_is_spelled) := ⟨rfl, rfl, rfl, by decide +kernel, rfl, by decide +kernel, by decide +kernel⟩
theorem c_is_spelled (T : Txt K mg c) (D : DefG K mg "is_spelled" s_is_spelled ["node", "letters"])  : CalO P w K mg base 1 "is_spelled" (spP K (prSpelled c)) := by
  refine calO D sc_is_spelled (fun vs H Q E h => ?_) (fun cdv f A outer s H vs Q E hr h => ?_)
  · obtain ⟨ws, P, ⟨t, p, s, rfl, z⟩, hv, _⟩ := h
    exact hv.len
  · obtain ⟨ws, P, ⟨t, p, s, rfl, z⟩, hv, q⟩ := h
    have hu := hu_of hr
    refine ⟨_, pss_one (ps_ret (pe_and (pe_callB call_isi (by rfl) T.isinstance (by decide +kernel) (pa_cons (pv 0) (pa_cons (C8.pe_gc (by rfl) T.g_Word) pa_nil))) (pe_one (pe_cmpR op_eq (pe_fld (pv 0) rfl) (pv 1) (nomark _))))), ?_⟩
    refine bodyP hv q (Nat.le_of_ble_eq_true rfl) ?_
    try dsimp only [cx_K]
    cases t with
    | w x => dsimp only [nodeD]; walk_at "w"; exact z
    | i k => dsimp only [nodeD]; walk_at "w"; exact z
    | b k => dsimp only [nodeD]; walk_at "w"; exact z
    | u => dsimp only [nodeD]; walk_at "w"; exact z
    | l xs t => dsimp only [nodeD]; walk_at "w"; exact z
def prRepeat (c : Cs) : List Wd → (Wd → Prop) → Prop := fun ws P => ∃ (t : Tm) (p : List PyData), ws = [.d (nodeD c t p)] ∧ P (.d (.bool (t.isW "&")))
abbrev s_is_repeat : Stmt := topS 13
theorem sc_is_repeat : FnScope ["node"] ["node"] (defScope s_is_repeat) := ⟨rfl, rfl, rfl, by decide +kernel, rfl, by decide +kernel, by decide +kernel⟩
theorem c_is_repeat (T : Txt K mg c) (D : DefG K mg "is_repeat" s_is_repeat ["node"]) (c_is_spelled : CalO P w K mg base 1 "is_spelled" (spP K (prSpelled c))) : CalO P w K mg base 2 "is_repeat" (spP K (prRepeat c)) := by
  refine calO D sc_is_repeat (fun vs H Q E h => ?_) (fun cdv f A outer s H vs Q E hr h => ?_)
  · obtain ⟨ws, P, ⟨t, p, rfl, z⟩, hv, _⟩ := h
    exact hv.len
  · obtain ⟨ws, P, ⟨t, p, rfl, z⟩, hv, q⟩ := h
    have hu := hu_of hr
    refine ⟨_, pss_one (ps_ret (pe_WO c_is_spelled hr (by decide) (by rfl) (pa_cons (pv 0) (pa_cons (C8.pe_gc (by rfl) T.g_REPEAT) pa_nil)))), ?_⟩
    refine bodyP hv q (Nat.le_of_ble_eq_true rfl) ?_
    try dsimp only [cx_K]
    walk_at "w"
    exact ⟨t, p, _, rfl, z⟩
def prPn (c : Cs) : Addr → List Wd → List (Key × PyData) → (Wd → List (Key × PyData) → Prop) → Prop := fun a ws g P => ∃ (t : Tm) (p : List PyData), ws = [.d (nodeD c t p), .z (.ref a)] ∧ P (.d (.bool (t.pn g))) g
abbrev s_is_pattern_name : Stmt := topS 14
theorem sc_is_pattern_name : FnScope ["node", "literals"] ["node", "literals"] (defScope s_is_pattern_name) := ⟨rfl, rfl, rfl, by decide +kernel, rfl, by decide +kernel, by decide +kernel⟩
theorem c_is_pattern_name (T : Txt K mg c) (D : DefG K mg "is_pattern_name" s_is_pattern_name ["node", "literals"])  : CalO P w K mg base 1 "is_pattern_name" (spW K (DR K) (prPn c)) := by
  refine calO D sc_is_pattern_name (fun vs H Q E h => ?_) (fun cdv f A outer s H vs Q E hr h => ?_)
  · obtain ⟨th, ws, g, P, ⟨t, p, rfl, z⟩, hv, _⟩ := h
    exact hv.len
  · obtain ⟨th, ws, g, P, ⟨t, p, rfl, z⟩, hv, hj, hs, q⟩ := h
    have hu := hu_of hr
    refine ⟨_, pss_one (ps_ret (pe_and (pe_callB call_isi (by rfl) T.isinstance (by decide +kernel) (pa_cons (pv 0) (pa_cons (C8.pe_gc (by rfl) T.g_Word) pa_nil))) (pe_and (pe_cmp (pc_dnotin hu (pe_fld (pv 0) rfl) (pv 1)) rfl) (pe_one (pe_cmpR op_ne (pe_fld (pv 0) rfl) (C8.pe_gc (by rfl) T.g_ANYTHING) (nomark _)))))), ?_⟩
    refine bodyW hv hj hs q (Nat.le_of_ble_eq_true rfl) ?_
    try dsimp only [cx_K]
    cases t with
    | w x =>
      dsimp only [nodeD]
      walk_at "w"
      refine ite_b (fun hb => ?_) (fun hb => ?_)
      · walk_at "w"
        have e : Tm.pn g (.w x) = !decide (x = "_") := by show (_ && _) = _; rw [hb]; rfl
        exact e ▸ z
      · walk_at "w"
        have e : Tm.pn g (.w x) = false := by show (_ && _) = _; rw [hb]; rfl
        exact e ▸ z
    | i k => dsimp only [nodeD]; walk_at "w"; exact z
    | b k => dsimp only [nodeD]; walk_at "w"; exact z
    | u => dsimp only [nodeD]; walk_at "w"; exact z
    | l xs t => dsimp only [nodeD]; walk_at "w"; exact z
def prNode (c : Cs) (n : Nat) : List Wd → (Wd → Prop) → Prop := fun ws P => ∃ (t : Tm) (p : List PyData), ws = [.d t.py, .d (.tuple p)] ∧ t.ok ∧ t.dp < n ∧ t.dp ≤ 30 ∧ t.sz ≤ 100000 ∧ p.length + t.dp ≤ 100 ∧ P (.d (nodeD c t p))
abbrev s_node_of : Stmt := topS 8
theorem sc_node_of : FnScope ["datum", "path", "parts", "k", "item", "tail_path"] ["datum", "path"] (defScope s_node_of) := ⟨rfl, rfl, rfl, by decide +kernel, rfl, by decide +kernel, by decide +kernel⟩
theorem c_node_of (T : Txt K mg c) (D : DefG K mg "node_of" s_node_of ["datum", "path"]) (c_Word : C8.Mak P w K mg base 1 "Word" c.W (spIni c.W 4 nsW [.bl false]) []) (c_Fixed : C8.Mak P w K mg base 1 "Fixed" c.F (spIni c.F 2 nsF [.bl false]) []) (c_Bound : C8.Mak P w K mg base 1 "Bound" c.B (spIni c.B 2 nsB []) []) (c_Row : C8.Mak P w K mg base 1 "Row" c.R (spIni c.R 4 nsR [.bl true, .bl false, .non, .non]) []) : ∀ n : Nat, CalO P w K mg base (2 + n) "node_of" (spP K ((prNode c) n)) := by
  intro n
  induction n with
  | zero =>
    refine calO D sc_node_of (fun vs H Q E h => ?_) (fun cdv f A outer s H vs Q E hr h => ?_)
    · obtain ⟨ws, P, ⟨t, p, rfl, ok, dn, dp, sz, pl, z⟩, hv, _⟩ := h
      exact hv.len
    · obtain ⟨ws, P, ⟨t, p, rfl, ok, dn, dp, sz, pl, z⟩, hv, q⟩ := h
      exfalso; omega
  | succ n c_node_of =>
  rw [show 2 + (n + 1) = (2 + n) + 1 by omega]
  refine calO D sc_node_of (fun vs H Q E h => ?_) (fun cdv f A outer s H vs Q E hr h => ?_)
  · obtain ⟨ws, P, ⟨t, p, rfl, ok, dn, dp, sz, pl, z⟩, hv, _⟩ := h
    exact hv.len
  · obtain ⟨ws, P, ⟨t, p, rfl, ok, dn, dp, sz, pl, z⟩, hv, q⟩ := h
    have hu := hu_of hr
    refine ⟨_, pss_cons (ps_if (PW.pt (pw_and (pt_cmpR op_isTy' (pe_callTy call_type1 (by rfl) T.type (by decide +kernel) (pa_cons (pv 0) pa_nil)) (pe_bltn (v := .ty "tuple") (by rfl) T.tuple (by decide +kernel) rfl) (nomark _)) (pw_and1 (pt_cmpR op_gt (pe_callB call_lenO (by rfl) T.len (by decide +kernel) (pa_cons (pv 0) pa_nil)) pe_int (nomark _)))))
        (pss_cons (ps_if (pt_cmpR op_eq (pe_ix ix_tup (pv 0) pe_int (fun _ _ => rfl)) pe_str (nomark _))
          (pss_one (ps_ret (C8.pe_mk c_Word hr (by omega) (by rfl) (pa_cons (pe_ix ix_tup (pv 0) pe_int (fun _ _ => rfl)) (pa_cons (pe_ix ix_tup (pv 0) pe_int (fun _ _ => rfl)) (pa_cons (pv 1) (pa_cons (pv 1) pa_nil)))))))
          (pss_nil))
        (pss_cons (ps_set (i := 2) sc_node_of.nd rfl (Or.inl rfl) (pe_callTy call_tupO (by rfl) T.tuple (by decide +kernel) (pa_cons (pe_lc (own := [("k", 3), ("item", 4)]) (g := _) (tt := tYes) (by rfl) sc_node_of.nd (pi_enT (by rfl) T.enumerate (pa_cons (pe_ix ix_tup (pv 0) pe_int (fun _ _ => rfl)) pa_nil)) (blkOk_by (own := [("k", 3), ("item", 4)]) (N := ["datum", "path", "parts", "k", "item", "tail_path"]) (sc := defScope s_node_of) (by decide +kernel)) (fun _ _ _ _ _ => pg_tupB (n := 2) (pg_tup rfl (pgs_cons (pg_name (i := 3) sc_node_of.nd rfl (Or.inl rfl)) (pgs_cons (pg_name (i := 4) sc_node_of.nd rfl (Or.inl rfl)) pgs_nil)))) (fun _ _ _ _ _ => pts_nil) (fun _ _ _ _ _ => pe_WO c_node_of hr (by omega) (by rfl) (pa_cons (pv 4) (pa_cons (pe_op op_catB (pv 1) (pe_tup (pa_cons (pv 3) pa_nil))) pa_nil)))) pa_nil)))
        (pss_cons (ps_set (i := 5) sc_node_of.nd rfl (Or.inl rfl) (pe_ifExp (pt_cmpR (op_eqD hr.units) (pe_ix ix_tup (pv 0) pe_int (fun _ _ => rfl)) (pe_tup pa_nil) (nomark _)) (pv 1) (pe_op op_catA (pv 1) (pe_tup (pa_cons (pe_callB call_lenO (by rfl) T.len (by decide +kernel) (pa_cons (pv 2) pa_nil)) pa_nil)))))
        (pss_one (ps_ret (C8.pe_mk c_Row hr (by omega) (by rfl) (pa_cons (pv 2) (pa_cons (pe_WO c_node_of hr (by omega) (by rfl) (pa_cons (pe_ix ix_tup (pv 0) pe_int (fun _ _ => rfl)) (pa_cons (pv 5) pa_nil))) (pa_cons (pv 1) (pa_cons (C8.pe_mk c_Bound hr (by omega) (by rfl) (pa_cons (C8.pe_gc (by rfl) T.g_UNKNOWN) (pa_cons (C8.pe_gc (by rfl) T.g_UNKNOWN) pa_nil))) pa_nil))))))))))
        (pss_nil))
      (pss_one (ps_ret (C8.pe_mk c_Fixed hr (by omega) (by rfl) (pa_cons (pv 0) (pa_cons (pv 1) pa_nil))))), ?_⟩
    refine bodyP hv q (Nat.le_of_ble_eq_true rfl) ?_
    try dsimp only [cx_K]
    cases t with
    | w x => dsimp only [Tm.py]; walk_at "w"; exact z
    | i k => dsimp only [Tm.py]; walk_at "w"; exact z
    | b k => dsimp only [Tm.py]; walk_at "w"; exact z
    | u => dsimp only [Tm.py]; walk_at "w"; exact z
    | l xs t =>
      dsimp only [Tm.py]
      have hd : (max (dpL xs) t.dp + 1) < n + 1 := dn
      have hdp : (max (dpL xs) t.dp + 1) ≤ 30 := dp
      have hpl : p.length + (max (dpL xs) t.dp + 1) ≤ 100 := pl
      have hsz : szL xs + t.sz + 1 ≤ 100000 := sz
      have hxl := szL_len xs
      walk_at "w"
      refine fun v => ⟨fun i acc _ => acc = nodesD c (xs.take i) p 0, fun _ => rfl, rfl, ?_, ?_⟩
      · rintro i d acc g' v1 hd1 rfl
        obtain ⟨y, hy, rfl⟩ := enumD_get 0 (pyL xs) i d hd1
        obtain ⟨x, hx, rfl⟩ := pyL_get xs i y hy
        have hi : i < xs.length := (List.getElem?_eq_some_iff.mp hx).1
        have hm := List.mem_of_getElem? hx
        have m1 := dpL_mem hm
        have m2 := szL_mem hm
        rw [Nat.zero_add]
        walk_at "w"
        refine q_Sz ?_ (szO (by show p.length + 1 ≤ _; omega))
        walk_at "w"
        refine ⟨x, p ++ [.int i], rfl, okL_mem ok.1 hm, by omega, by omega, by omega, by rw [List.length_append, List.length_singleton]; omega, ?_⟩
        walk_at "w"
        refine q_Sz ?_ (szO (by rw [nodesD_len, List.length_take]; omega))
        show _ = nodesD c (xs.take (i + 1)) p 0
        rw [List.take_succ, hx, nodesD_app, List.length_take, Nat.min_eq_left (Nat.le_of_lt hi), Nat.zero_add]
        rfl
      · rintro acc g' rfl
        rw [enumD_len, pyL_len, List.take_length]
        walk_at "w"
        refine wR_eqD (q_shp (Tm.shaped (by omega) ok.2) rfl ?_)
        rw [eqv_u]
        walk_at "w"
        refine ite_b (fun hb => ?_) (fun hb => ?_)
        · walk_at "w"
          refine ⟨t, p, rfl, ok.2, by omega, by omega, by omega, by omega, ?_⟩
          walk_at "w"
          have e : tp p xs t = p := by unfold tp; rw [if_pos hb]
          rw [nodeD, e] at z
          exact z
        · walk_at "w"
          refine q_Sz ?_ (szO (by show p.length + 1 ≤ _; omega))
          walk_at "w"
          have e : tp p xs t = p ++ [.int (nodesD c xs p 0).length] := by unfold tp; rw [if_neg (by rw [hb]; decide), nodesD_len]
          refine ⟨t, p ++ [.int (nodesD c xs p 0).length], rfl, ok.2, by omega, by omega, by omega, by rw [List.length_append, List.length_singleton]; omega, ?_⟩
          walk_at "w"
          rw [nodeD, e] at z
          exact z
end
end

section
open PySem PySem.Spec PyProof.Rows L2 Kt Evl
section
variable {P : Program} {w : World} {K : PySem.W.Frag} {mg : Str → Option Value} {base : Heap} {c : Cs}
mutual
/-- the words, and where they stand -/
def wds : Tm → List PyData → List (Str × List PyData)
  | .w x, p => [(x, p)]
  | .l xs t, p => wdsL xs p 0 ++ wds t (tp p xs t)
  | _, _ => []
def wdsL : List Tm → List PyData → Nat → List (Str × List PyData)
  | [], _, _ => []
  | x :: r, p, k => wds x (p ++ [.int k]) ++ wdsL r p (k + 1)
end
abbrev woN (c : Cs) (q : Str × List PyData) : PyData := nWd c q.1 q.2
abbrev ndN (c : Cs) (q : Tm × List PyData) : PyData := nodeD c q.1 q.2
def kidsT : List Tm → List PyData → Nat → List (Tm × List PyData)
  | [], _, _ => []
  | x :: r, p, k => (x, p ++ [.int k]) :: kidsT r p (k + 1)
theorem kids_nodes (c : Cs) : ∀ (xs : List Tm) (p : List PyData) (k : Nat), (kidsT xs p k).map (ndN c) = nodesD c xs p k
  | [], _, _ => rfl
  | x :: r, p, k => by
    show _ :: (kidsT r p (k + 1)).map (ndN c) = _
    rw [kids_nodes c r p (k + 1)]
    rfl
theorem kids_wds : ∀ (xs : List Tm) (p : List PyData) (k : Nat), (kidsT xs p k).flatMap (fun q => wds q.1 q.2) = wdsL xs p k
  | [], _, _ => rfl
  | x :: r, p, k => by
    show wds x (p ++ [.int k]) ++ (kidsT r p (k + 1)).flatMap (fun q => wds q.1 q.2) = _
    rw [kids_wds r p (k + 1)]
    rfl
def stz (st : List (Tm × List PyData)) : Nat := (st.map fun q => q.1.sz).sum
theorem stz_app (a b : List (Tm × List PyData)) : stz (a ++ b) = stz a + stz b := by unfold stz; rw [List.map_append, List.sum_append]
theorem stz_cons (t : Tm) (p : List PyData) (b : List (Tm × List PyData)) : stz ((t, p) :: b) = t.sz + stz b := rfl
theorem kids_sz : ∀ (xs : List Tm) (p : List PyData) (k : Nat), stz (kidsT xs p k) = szL xs
  | [], _, _ => rfl
  | x :: r, p, k => by
    rw [kidsT, stz_cons, kids_sz r p (k + 1), szL]
theorem sz_pos (t : Tm) : 1 ≤ t.sz := by cases t <;> simp [Tm.sz]
theorem stz_len (st : List (Tm × List PyData)) : st.length ≤ stz st := by
  induction st with
  | nil => exact Nat.le_refl _
  | cons q r ih => obtain ⟨q, p⟩ := q; rw [stz_cons, List.length_cons]; have := sz_pos q; omega
mutual
theorem wds_len : ∀ (t : Tm) (p : List PyData), (wds t p).length ≤ t.sz
  | .w x, _ => Nat.le_refl _
  | .i _, _ => Nat.zero_le _
  | .b _, _ => Nat.zero_le _
  | .u, _ => Nat.zero_le _
  | .l xs t, p => by
    have h1 := wdsL_len xs p 0
    have h2 := wds_len t (tp p xs t)
    rw [wds, List.length_append, Tm.sz]; omega
theorem wdsL_len : ∀ (xs : List Tm) (p : List PyData) (k : Nat), (wdsL xs p k).length ≤ szL xs
  | [], _, _ => Nat.le_refl _
  | x :: r, p, k => by
    have h1 := wds_len x (p ++ [.int k])
    have h2 := wdsL_len r p (k + 1)
    rw [wdsL, List.length_append, szL]; omega
end
def prWords (c : Cs) : List Wd → (Wd → Prop) → Prop := fun ws P => ∃ (t : Tm) (p : List PyData), ws = [.d (nodeD c t p)] ∧ t.sz ≤ 100000 ∧ P (.o ((wds t p).map (woN c)))
abbrev s_words_in : Stmt := topS 9
theorem sc_words_in : FnScope ["node", "words", "waiting", "part"] ["node"] (defScope s_words_in) := ⟨rfl, rfl, rfl, by decide +kernel, rfl, by decide +kernel, by decide +kernel⟩
theorem c_words_in (T : Txt K mg c) (D : DefG K mg "words_in" s_words_in ["node"])  : CalO P w K mg base 1 "words_in" (spP K (prWords c)) := by
  refine calO D sc_words_in (fun vs H Q E h => ?_) (fun cdv f A outer s H vs Q E hr h => ?_)
  · obtain ⟨ws, P, ⟨t, p, rfl, sz, z⟩, hv, _⟩ := h
    exact hv.len
  · obtain ⟨ws, P, ⟨t, p, rfl, sz, z⟩, hv, q⟩ := h
    have hu := hu_of hr
    refine ⟨_, pss_cons (ps_set (i := 1) sc_words_in.nd rfl (Or.inl rfl) (pe_lst pa_nil))
      (pss_cons (ps_set (i := 2) sc_words_in.nd rfl (Or.inl rfl) (pe_lst (pa_cons (pv 0) pa_nil)))
      (pss_cons (ps_while PassesOwn.never (pt_truth (pv 2) (by intro _; rfl))
        (pss_cons (ps_set (i := 3) sc_words_in.nd rfl (Or.inl rfl) (pe_bm0 PySem.F.plainAttrs_list PySem.F.slot_list_pop PySem.F.type_list_pop mt_pop (pv 2)))
        (pss_one (ps_if (pt_val (pe_callB call_isi (by rfl) T.isinstance (by decide +kernel) (pa_cons (pv 3) (pa_cons (C8.pe_gc (by rfl) T.g_Word) pa_nil))))
          (pss_one (ps_expr (pe_bm PySem.F.plainAttrs_list PySem.F.slot_list_append PySem.F.type_list_append mt_append (pv 1) (pa_cons (pv 3) pa_nil))))
          (pss_one (ps_if (pt_val (pe_callB call_isi (by rfl) T.isinstance (by decide +kernel) (pa_cons (pv 3) (pa_cons (C8.pe_gc (by rfl) T.g_Row) pa_nil))))
            (pss_cons (ps_expr (pe_bm PySem.F.plainAttrs_list PySem.F.slot_list_append PySem.F.type_list_append mt_append (pv 2) (pa_cons (pe_fld (pv 3) rfl) pa_nil)))
            (pss_one (ps_expr (pe_bm PySem.F.plainAttrs_list PySem.F.slot_list_extend PySem.F.type_list_extend mt_extT (pv 2) (pa_cons (pe_revT (pe_fld (pv 3) rfl)) pa_nil)))))
            (pss_nil)))))))
      (pss_one (ps_ret (pv 1))))), ?_⟩
    refine bodyP hv q (Nat.le_of_ble_eq_true rfl) ?_
    try dsimp only [cx_K]
    walk_at "w"
    refine wS_while ⟨fun m ρ _ => ∃ (done : List (Str × List PyData)) (stk : List (Tm × List PyData)) (a : Wd), ρ = [.d (nodeD c t p), .o (done.map (woN c)), .o (stk.reverse.map (ndN c)), a] ∧ done ++ stk.flatMap (fun q => wds q.1 q.2) = wds t p ∧ m = stz stk ∧ done.length + stz stk ≤ 100000, ⟨_, [], [(t, p)], .no, rfl, by simp, rfl, by simpa [stz] using sz⟩, ?_⟩
    rintro m ρ' g' ⟨done, stk, a, rfl, h1, rfl, h4⟩
    walk_at "w"
    refine ite_b (fun hb => ?_) (fun hb => ?_)
    · cases stk with
      | nil => cases hb
      | cons t2 r =>
        obtain ⟨t2, p2⟩ := t2
        have e : (((t2, p2) :: r).reverse.map (ndN c)) = r.reverse.map (ndN c) ++ [nodeD c t2 p2] := by simp
        rw [e]
        rw [stz_cons] at h4 ⊢
        have hl2 := stz_len r
        have f1 : ((t2, p2) :: r).flatMap (fun q => wds q.1 q.2) = wds t2 p2 ++ r.flatMap (fun q => wds q.1 q.2) := rfl
        rw [f1] at h1
        cases t2 with
        | w x =>
          have h4' : done.length + (1 + stz r) ≤ 100000 := h4
          dsimp only [nodeD]
          walk_at "w"
          refine q_Sz ?_ (szO (by rw [List.length_map]; omega))
          walk_at "w"
          refine ⟨stz r, by show stz r < 1 + stz r; omega, done ++ [(x, p2)], r, .d (nWd c x p2), by simp, ?_, rfl, by rw [List.length_append, List.length_singleton]; omega⟩
          rw [← h1, List.append_assoc]
          rfl
        | i k =>
          have h4' : done.length + (1 + stz r) ≤ 100000 := h4
          dsimp only [nodeD]
          walk_at "w"
          exact ⟨stz r, by show stz r < 1 + stz r; omega, done, r, .d (nFd c (.int k) p2), by simp, by rw [← h1]; rfl, rfl, by omega⟩
        | b k =>
          have h4' : done.length + (1 + stz r) ≤ 100000 := h4
          dsimp only [nodeD]
          walk_at "w"
          exact ⟨stz r, by show stz r < 1 + stz r; omega, done, r, .d (nFd c (.bool k) p2), by simp, by rw [← h1]; rfl, rfl, by omega⟩
        | u =>
          have h4' : done.length + (1 + stz r) ≤ 100000 := h4
          dsimp only [nodeD]
          walk_at "w"
          exact ⟨stz r, by show stz r < 1 + stz r; omega, done, r, .d (nFd c (.tuple []) p2), by simp, by rw [← h1]; rfl, rfl, by omega⟩
        | l xs t3 =>
          have h4' : done.length + (szL xs + t3.sz + 1 + stz r) ≤ 100000 := h4
          have hx := szL_len xs
          dsimp only [nodeD]
          walk_at "w"
          refine q_Sz ?_ (szO (by rw [List.length_map, List.length_reverse]; omega))
          walk_at "w"
          refine q_Sz ?_ (szO (by simp only [List.length_append, List.length_map, List.length_reverse, List.length_singleton, nodesD_len]; omega))
          refine ⟨stz (kidsT xs p2 0 ++ (t3, tp p2 xs t3) :: r), by rw [stz_app, kids_sz, stz_cons]; show _ < szL xs + t3.sz + 1 + stz r; omega, done, kidsT xs p2 0 ++ (t3, tp p2 xs t3) :: r, .d (nRd c (nodesD c xs p2 0) (nodeD c t3 (tp p2 xs t3)) p2), ?_, ?_, rfl, by rw [stz_app, kids_sz, stz_cons]; omega⟩
          · rw [← kids_nodes]
            simp
          · rw [← h1, List.flatMap_append, kids_wds, wds]
            simp
    · cases stk with
      | nil =>
        walk_at "w"
        have e : done = wds t p := by simpa using h1
        rw [e]
        exact z
      | cons t2 r =>
        simp at hb
theorem kPut_le (kvs : List (Key × PyData)) (k : Key) (d : PyData) : (kPut kvs k d).length ≤ kvs.length + 1 := by
  unfold kPut
  split
  · rw [List.length_map]; omega
  · rw [List.length_append]; exact Nat.le_refl _
def keysK (xs : List Str) : List (Key × PyData) := xs.foldl (fun acc x => kPut acc (.inr x) (.bool true)) []
def prKeys : List Wd → (Wd → Prop) → Prop := fun ws P => ∃ xs : List Str, ws = [.d (.tuple (xs.map .str))] ∧ xs.length ≤ 100 ∧ P (.k (keysK xs))
abbrev s_keys_of : Stmt := topS 26
theorem sc_keys_of : FnScope ["literals", "word"] ["literals"] (defScope s_keys_of) := ⟨rfl, rfl, rfl, by decide +kernel, rfl, by decide +kernel, by decide +kernel⟩
theorem c_keys_of (T : Txt K mg c) (D : DefG K mg "keys_of" s_keys_of ["literals"])  : CalO P w K mg base 1 "keys_of" (spP K prKeys) := by
  refine calO D sc_keys_of (fun vs H Q E h => ?_) (fun cdv f A outer s H vs Q E hr h => ?_)
  · obtain ⟨ws, P, ⟨xs, rfl, hl, z⟩, hv, _⟩ := h
    exact hv.len
  · obtain ⟨ws, P, ⟨xs, rfl, hl, z⟩, hv, q⟩ := h
    have hu := hu_of hr
    refine ⟨_, pss_one (ps_ret (pe_dc (own := [("word", 1)]) (g := gName 1) (tt := tYes) (by rfl) sc_keys_of.nd (pi_tup (pv 0)) (blkOk_by (own := [("word", 1)]) (N := ["literals", "word"]) (sc := defScope s_keys_of) (by decide +kernel)) (fun _ _ _ _ _ => pg_name (i := 1) sc_keys_of.nd rfl (Or.inl rfl)) (fun _ _ _ _ _ => pts_nil) (fun _ _ _ _ _ => pv 1) (fun _ _ _ _ _ => pe_bl))), ?_⟩
    refine bodyP hv q (Nat.le_of_ble_eq_true rfl) ?_
    try dsimp only [cx_K]
    walk_at "w"
    refine fun v => ⟨fun i acc _ => acc = keysK (xs.take i) ∧ acc.length ≤ i, fun _ => rfl, ⟨rfl, Nat.le_refl _⟩, ?_, ?_⟩
    · rintro i d acc g' v1 hd ⟨rfl, hk⟩
      rw [List.getElem?_map] at hd
      cases hx : xs[i]? with
      | none => rw [hx] at hd; cases hd
      | some x =>
        rw [hx] at hd
        cases hd
        have hi : i < xs.length := (List.getElem?_eq_some_iff.mp hx).1
        walk_at "w"
        refine q_Sz ?_ (szO (by omega))
        have e : keysK (xs.take (i + 1)) = kPut (keysK (xs.take i)) (.inr x) (.bool true) := by
          unfold keysK
          rw [List.take_succ, hx, List.foldl_append]
          rfl
        exact ⟨e.symm, Nat.le_trans (kPut_le _ _ _) (Nat.succ_le_succ hk)⟩
    · rintro acc g' ⟨rfl, hk⟩
      rw [List.length_map, List.take_length]
      exact z
def prHas (c : Cs) : Addr → List Wd → List (Key × PyData) → (Wd → List (Key × PyData) → Prop) → Prop := fun a ws g P => ∃ (t : Tm) (p : List PyData), ws = [.d (nodeD c t p), .z (.ref a)] ∧ t.sz ≤ 100000 ∧ P (.d (.bool ((wds t p).any fun q => (kGet g (.inr q.1)).isSome))) g
abbrev s_has_name : Stmt := topS 22
theorem sc_has_name : FnScope ["node", "names", "word"] ["node", "names"] (defScope s_has_name) := ⟨rfl, rfl, rfl, by decide +kernel, rfl, by decide +kernel, by decide +kernel⟩
theorem c_has_name (T : Txt K mg c) (D : DefG K mg "has_name" s_has_name ["node", "names"]) (c_words_in : CalO P w K mg base 1 "words_in" (spP K (prWords c))) : CalO P w K mg base 2 "has_name" (spW K (DR K) (prHas c)) := by
  refine calO D sc_has_name (fun vs H Q E h => ?_) (fun cdv f A outer s H vs Q E hr h => ?_)
  · obtain ⟨th, ws, g, P, ⟨t, p, rfl, sz, z⟩, hv, _⟩ := h
    exact hv.len
  · obtain ⟨th, ws, g, P, ⟨t, p, rfl, sz, z⟩, hv, hj, hs, q⟩ := h
    have hu := hu_of hr
    refine ⟨_, pss_one (ps_ret (pe_callB (cr_any rfl) (by rfl) T.any (by decide +kernel) (pa_cons (pe_lc (own := [("word", 2)]) (g := gName 2) (tt := tYes) (by rfl) sc_has_name.nd (pi_list (pe_WO c_words_in hr (by decide) (by rfl) (pa_cons (pv 0) pa_nil))) (blkOk_by (own := [("word", 2)]) (N := ["node", "names", "word"]) (sc := defScope s_has_name) (by decide +kernel)) (fun _ _ _ _ _ => pg_name (i := 2) sc_has_name.nd rfl (Or.inl rfl)) (fun _ _ _ _ _ => pts_nil) (fun _ _ _ _ _ => pe_cmp (pc_din hu (pe_fldB (pv 2) rfl) (pv 1)) rfl)) pa_nil))), ?_⟩
    refine bodyW hv hj hs q (Nat.le_of_ble_eq_true rfl) ?_
    try dsimp only [cx_K]
    walk_at "w"
    refine ⟨t, p, rfl, sz, ?_⟩
    walk_at "w"
    have hwl := wds_len t p
    refine fun v => ⟨fun i acc g' => g' = g ∧ acc = ((wds t p).take i).map (fun q => PyData.bool (kGet g (.inr q.1)).isSome), fun _ => rfl, ⟨rfl, rfl⟩, ?_, ?_⟩
    · rintro i d acc g' v1 hd ⟨rfl, rfl⟩
      rw [List.getElem?_map] at hd
      cases hx : (wds t p)[i]? with
      | none => rw [hx] at hd; cases hd
      | some x =>
        rw [hx] at hd
        cases hd
        walk_at "w"
        refine q_Sz ?_ (szO (by rw [List.length_map, List.length_take]; omega))
        refine ⟨rfl, ?_⟩
        rw [List.take_succ, hx, List.map_append]
        rfl
    · rintro acc g' ⟨rfl, rfl⟩
      rw [List.length_map, List.take_length]
      walk_at "w"
      refine wC_any (bs := (wds t p).map fun q => (kGet g' (.inr q.1)).isSome) (by rw [List.map_map]; rfl) ?_
      rw [List.any_map]
      walk_at "w"
      exact z
def asIs (xs : List Tm) (t : Tm) : Bool :=
  match xs with
  | [a, _] => a.isW "&" && t.isU
  | _ => false
def asT : Tm → Bool
  | .l xs u => asIs xs u
  | _ => false
def prAsIs (c : Cs) : List Wd → (Wd → Prop) → Prop := fun ws P => ∃ (t : Tm) (p : List PyData), ws = [.d (nodeD c t p)] ∧ P (.d (.bool (asT t)))
abbrev s_is_as_it_is : Stmt := topS 21
theorem sc_is_as_it_is : FnScope ["node"] ["node"] (defScope s_is_as_it_is) := ⟨rfl, rfl, rfl, by decide +kernel, rfl, by decide +kernel, by decide +kernel⟩
theorem c_is_as_it_is (T : Txt K mg c) (D : DefG K mg "is_as_it_is" s_is_as_it_is ["node"]) (c_is_nothing : CalO P w K mg base 1 "is_nothing" (spP K (prNothing c))) (c_is_repeat : CalO P w K mg base 2 "is_repeat" (spP K (prRepeat c))) : CalO P w K mg base 3 "is_as_it_is" (spP K (prAsIs c)) := by
  refine calO D sc_is_as_it_is (fun vs H Q E h => ?_) (fun cdv f A outer s H vs Q E hr h => ?_)
  · obtain ⟨ws, P, ⟨t, p, rfl, z⟩, hv, _⟩ := h
    exact hv.len
  · obtain ⟨ws, P, ⟨t, p, rfl, z⟩, hv, q⟩ := h
    have hu := hu_of hr
    refine ⟨_, pss_one (ps_ret (pe_and (pe_callB call_isi (by rfl) T.isinstance (by decide +kernel) (pa_cons (pv 0) (pa_cons (C8.pe_gc (by rfl) T.g_Row) pa_nil))) (pe_and (pe_cmpR op_eq (pe_callB call_lenO (by rfl) T.len (by decide +kernel) (pa_cons (pe_fld (pv 0) rfl) pa_nil)) pe_int (nomark _)) (pe_and (pe_WO c_is_repeat hr (by decide) (by rfl) (pa_cons (pe_ix ix_tup (pe_fld (pv 0) rfl) pe_int (fun _ _ => rfl)) pa_nil)) (pe_one (pe_WO c_is_nothing hr (by decide) (by rfl) (pa_cons (pe_fld (pv 0) rfl) pa_nil))))))), ?_⟩
    refine bodyP hv q (Nat.le_of_ble_eq_true rfl) ?_
    try dsimp only [cx_K]
    cases t with
    | w x => dsimp only [nodeD]; walk_at "w"; exact z
    | i k => dsimp only [nodeD]; walk_at "w"; exact z
    | b k => dsimp only [nodeD]; walk_at "w"; exact z
    | u => dsimp only [nodeD]; walk_at "w"; exact z
    | l xs t =>
      match xs with
      | [] => dsimp only [nodeD, nodesD]; walk_at "w"; exact z
      | [a] => dsimp only [nodeD, nodesD]; walk_at "w"; exact z
      | a :: b :: d :: r =>
        dsimp only [nodeD, nodesD]
        walk_at "w"
        exact z
      | [a, b] =>
        dsimp only [nodeD, nodesD]
        walk_at "w"
        refine ⟨a, p ++ [.int (0 : Nat)], rfl, ?_⟩
        walk_at "w"
        refine ite_b (fun hb => ?_) (fun hb => ?_)
        · walk_at "w"
          refine ⟨t, _, rfl, ?_⟩
          walk_at "w"
          dsimp only [asT, asIs] at z
          rw [hb, Bool.true_and] at z
          exact z
        · walk_at "w"
          dsimp only [asT, asIs] at z
          rw [hb, Bool.false_and] at z
          exact z
end
end

section
open PySem PySem.Spec PyProof.Rows L2 Kt Evl
section
variable {P : Program} {w : World} {K : PySem.W.Frag} {mg : Str → Option Value} {base : Heap} {c : Cs}
theorem intsD_len (a d : Int) (n : Nat) : (intsD a d n).length = n := by unfold intsD; rw [List.length_map, List.length_range]
def nMark : List Tm → Bool
  | [] => false
  | y :: _ => y.isW "&"
/-- the items of a pattern's row, from k on, and whether they are repeated -/
def itemsF : List Tm → List PyData → Nat → List (Tm × List PyData × Int)
  | [], _, _ => []
  | x :: r, p, k => if x.isW "&" = true then itemsF r p (k + 1) else (x, p ++ [.int k], if nMark r = true then 1 else 0) :: itemsF r p (k + 1)
abbrev itN (c : Cs) (q : Tm × List PyData × Int) : PyData := .tuple [nodeD c q.1 q.2.1, .int q.2.2]
theorem itemsF_len : ∀ (xs : List Tm) (p : List PyData) (k : Nat), (itemsF xs p k).length ≤ xs.length
  | [], _, _ => Nat.le_refl _
  | x :: r, p, k => by
    have := itemsF_len r p (k + 1)
    rw [itemsF]
    split
    · rw [List.length_cons]; omega
    · rw [List.length_cons, List.length_cons]; omega
theorem nodes_at (c : Cs) {xs : List Tm} {x : Tm} {p : List PyData} {k : Nat} (h : xs[k]? = some x) : L2.atI (nodesD c xs p 0) (k : Int) = some (nodeD c x (p ++ [.int k])) := by
  have := nodesD_get c p xs 0 k x h
  rw [Nat.zero_add] at this
  exact atI_nat this
def prItems (c : Cs) : List Wd → (Wd → Prop) → Prop := fun ws P => ∃ (xs : List Tm) (t : Tm) (p : List PyData) (b : Nat), ws = [.d (nodeD c (.l xs t) p), .d (.int b)] ∧ xs.length ≤ 10000 ∧ b ≤ xs.length ∧ P (.o ((itemsF (xs.drop b) p b).map (itN c)))
abbrev s_items_from : Stmt := topS 17
theorem sc_items_from : FnScope ["row", "begin", "found", "parts", "k", "repeated"] ["row", "begin"] (defScope s_items_from) := ⟨rfl, rfl, rfl, by decide +kernel, rfl, by decide +kernel, by decide +kernel⟩
theorem c_items_from (T : Txt K mg c) (D : DefG K mg "items_from" s_items_from ["row", "begin"]) (c_is_repeat : CalO P w K mg base 2 "is_repeat" (spP K (prRepeat c))) : CalO P w K mg base 3 "items_from" (spP K (prItems c)) := by
  refine calO D sc_items_from (fun vs H Q E h => ?_) (fun cdv f A outer s H vs Q E hr h => ?_)
  · obtain ⟨ws, P, ⟨xs, t, p, b, rfl, hl, hb, z⟩, hv, _⟩ := h
    exact hv.len
  · obtain ⟨ws, P, ⟨xs, t, p, b, rfl, hl, hb, z⟩, hv, q⟩ := h
    have hu := hu_of hr
    refine ⟨_, pss_cons (ps_set (i := 2) sc_items_from.nd rfl (Or.inl rfl) (pe_lst pa_nil))
      (pss_cons (ps_set (i := 3) sc_items_from.nd rfl (Or.inl rfl) (pe_fld (pv 0) rfl))
      (pss_cons (ps_for PassesOwn.never rfl (pi_range2 (by rfl) T.range (pa_cons (pv 1) (pa_cons (pe_callB call_lenO (by rfl) T.len (by decide +kernel) (pa_cons (pv 3) pa_nil)) pa_nil))) (pg_name (i := 4) sc_items_from.nd rfl (Or.inl rfl))
        (pss_cons (ps_if (pt_val (pe_WO c_is_repeat hr (by decide) (by rfl) (pa_cons (pe_ix ix_tup (pv 3) (pv 4) (fun _ _ => rfl)) pa_nil)))
          (pss_one (ps_continue))
          (pss_nil))
        (pss_cons (ps_set (i := 5) sc_items_from.nd rfl (Or.inl rfl) (pe_and (pe_cmpR op_lt (pe_op op_add (pv 4) pe_int) (pe_callB call_lenO (by rfl) T.len (by decide +kernel) (pa_cons (pv 3) pa_nil)) (nomark _)) (pe_one (pe_WO c_is_repeat hr (by decide) (by rfl) (pa_cons (pe_ix ix_tup (pv 3) (pe_op op_add (pv 4) pe_int) (fun _ _ => rfl)) pa_nil)))))
        (pss_one (ps_expr (pe_bm PySem.F.plainAttrs_list PySem.F.slot_list_append PySem.F.type_list_append mt_append (pv 2) (pa_cons (pe_tup (pa_cons (pe_ix ix_tup (pv 3) (pv 4) (fun _ _ => rfl)) (pa_cons (pe_ifExp (pt_val (pv 5)) pe_int pe_int) pa_nil))) pa_nil)))))))
      (pss_one (ps_ret (pv 2))))), ?_⟩
    refine bodyP hv q (Nat.le_of_ble_eq_true rfl) ?_
    try dsimp only [cx_K]
    dsimp only [nodeD]
    walk_at "w"
    refine ⟨b, (nodesD c xs p 0).length, rfl, by rw [nodesD_len]; omega, ?_⟩
    rw [nodesD_len, show (((xs.length : Nat) : Int) - (b : Int)).toNat = xs.length - b by omega]
    refine ⟨fun i ρ _ => ∃ (found : List (Tm × List PyData × Int)) (kd r : Wd), ρ = [.d (nRd c (nodesD c xs p 0) (nodeD c t (tp p xs t)) p), .d (.int b), .o (found.map (itN c)), .d (.tuple (nodesD c xs p 0)), kd, r] ∧ found ++ itemsF (xs.drop (b + i)) p (b + i) = itemsF (xs.drop b) p b, ⟨[], .no, .no, rfl, rfl⟩, fun _ _ _ _ => trivial, ?_, ?_⟩
    · rintro i d ρ' g' hd ⟨found, kd, r, rfl, h1⟩
      obtain ⟨rfl, hi⟩ := intsD_get hd
      rw [show (b : Int) + (i : Int) * 1 = ((b + i : Nat) : Int) by omega]
      have hk : b + i < xs.length := by omega
      have hx : xs[b + i]? = some xs[b + i] := List.getElem?_eq_getElem hk
      have hdr : xs.drop (b + i) = xs[b + i] :: xs.drop (b + i + 1) := List.drop_eq_getElem_cons hk
      generalize xs[b + i] = x at hx hdr
      have hfl : found.length ≤ 10000 := by
        have h2 := congrArg List.length h1
        rw [List.length_append] at h2
        have h3 := itemsF_len (xs.drop b) p b
        rw [List.length_drop] at h3
        omega
      rw [hdr, itemsF] at h1
      walk_at "w"
      refine q_At (nodes_at c hx) ?_
      walk_at "w"
      refine ⟨x, _, rfl, ?_⟩
      walk_at "w"
      refine ite_b (fun hb => ?_) (fun hb => ?_)
      · rw [if_pos hb] at h1
        walk_at "w"
        exact ⟨found, .d (.int ((b + i : Nat) : Int)), r, rfl, h1⟩
      · rw [if_neg (by rw [hb]; decide)] at h1
        refine wS_next ?_
        dsimp only
        refine wS_seq (wS_asg (Nat.le_of_ble_eq_true rfl) (wE.mono (Q := fun w _ => w = .d (.bool (nMark (xs.drop (b + i + 1))))) ?_ ?_))
        · walk_at "w"
          refine ite_b (fun hb2 => ?_) (fun hb2 => ?_)
          · have hk2 : b + i + 1 < xs.length := by
              have := of_decide_eq_true hb2
              rw [nodesD_len] at this
              omega
            have hy : xs[b + i + 1]? = some xs[b + i + 1] := List.getElem?_eq_getElem hk2
            have hdy : xs.drop (b + i + 1) = xs[b + i + 1] :: xs.drop (b + i + 1 + 1) := List.drop_eq_getElem_cons hk2
            walk_at "w"
            refine q_At (nodes_at c hy) ?_
            walk_at "w"
            refine ⟨_, _, rfl, ?_⟩
            rw [hdy]
            rfl
          · have hk2 : ¬ (b + i + 1 < xs.length) := by
              have := of_decide_eq_false hb2
              rw [nodesD_len] at this
              omega
            rw [List.drop_eq_nil_of_le (by omega)]
            rfl
        · rintro w g2 rfl
          walk_at "w"
          refine q_At (nodes_at c hx) ?_
          walk_at "w"
          refine ite_b (fun hb3 => ?_) (fun hb3 => ?_)
          · walk_at "w"
            refine q_Sz ?_ (szO (by rw [List.length_map]; omega))
            refine ⟨found ++ [(x, p ++ [.int ((b + i : Nat) : Int)], 1)], .d (.int ((b + i : Nat) : Int)), .d (.bool (nMark (xs.drop (b + i + 1)))), ?_, ?_⟩
            · rw [List.map_append]
              rfl
            · rw [← h1, if_pos hb3, List.append_assoc]
              rfl
          · walk_at "w"
            refine q_Sz ?_ (szO (by rw [List.length_map]; omega))
            refine ⟨found ++ [(x, p ++ [.int ((b + i : Nat) : Int)], 0)], .d (.int ((b + i : Nat) : Int)), .d (.bool (nMark (xs.drop (b + i + 1)))), ?_, ?_⟩
            · rw [List.map_append]
              rfl
            · rw [← h1, if_neg (by rw [hb3]; decide), List.append_assoc]
              rfl
    · rintro ρ' g' ⟨found, kd, r, rfl, h1⟩
      have e : found = itemsF (xs.drop b) p b := by
        rw [intsD_len, show b + (xs.length - b) = xs.length by omega, List.drop_eq_nil_of_le (Nat.le_refl _), itemsF, List.append_nil] at h1
        exact h1
      rw [← e] at z
      walk_at "w"
      exact z
mutual
def nmT (g : List (Key × PyData)) : Tm → List PyData → Int → List (Str × List PyData × Int)
  | .w x, p, d => if Tm.pn g (.w x) = true then [(x, p, d)] else []
  | .l xs t, p, d => nmL g xs p 0 d ++ nmT g t (tp p xs t) d
  | _, _, _ => []
def nmL (g : List (Key × PyData)) : List Tm → List PyData → Nat → Int → List (Str × List PyData × Int)
  | [], _, _, _ => []
  | x :: r, p, k, d => (if x.isW "&" = true then [] else nmT g x (p ++ [.int k]) (d + if nMark r = true then 1 else 0)) ++ nmL g r p (k + 1) d
end
abbrev nmN (c : Cs) (q : Str × List PyData × Int) : PyData := .tuple [nWd c q.1 q.2.1, .int q.2.2]
theorem nm_items (g : List (Key × PyData)) (d : Int) : ∀ (xs : List Tm) (p : List PyData) (k : Nat), (itemsF xs p k).flatMap (fun q => nmT g q.1 q.2.1 (d + q.2.2)) = nmL g xs p k d
  | [], _, _ => rfl
  | x :: r, p, k => by
    have ih := nm_items g d r p (k + 1)
    rw [itemsF, nmL]
    by_cases h : x.isW "&" = true
    · rw [if_pos h, if_pos h, ih]
      rfl
    · rw [if_neg h, if_neg h, List.flatMap_cons, ih]
theorem itemsF_mem : ∀ {xs : List Tm} {p : List PyData} {k : Nat} {q : Tm × List PyData × Int}, q ∈ itemsF xs p k → q.1 ∈ xs
  | x :: r, p, k, q, h => by
    rw [itemsF] at h
    split at h
    · exact List.mem_cons_of_mem _ (itemsF_mem h)
    · rcases List.mem_cons.mp h with rfl | h
      · exact List.mem_cons_self
      · exact List.mem_cons_of_mem _ (itemsF_mem h)
mutual
theorem nmT_len (g : List (Key × PyData)) : ∀ (t : Tm) (p : List PyData) (d : Int), (nmT g t p d).length ≤ t.sz
  | .w x, _, _ => by rw [nmT]; split <;> simp [Tm.sz]
  | .i _, _, _ => Nat.zero_le _
  | .b _, _, _ => Nat.zero_le _
  | .u, _, _ => Nat.zero_le _
  | .l xs t, p, d => by
    have h1 := nmL_len g xs p 0 d
    have h2 := nmT_len g t (tp p xs t) d
    rw [nmT, List.length_append, Tm.sz]; omega
theorem nmL_len (g : List (Key × PyData)) : ∀ (xs : List Tm) (p : List PyData) (k : Nat) (d : Int), (nmL g xs p k d).length ≤ szL xs
  | [], _, _, _ => Nat.le_refl _
  | x :: r, p, k, d => by
    have h1 := nmT_len g x (p ++ [.int k]) (d + if nMark r = true then 1 else 0)
    have h2 := nmL_len g r p (k + 1) d
    rw [nmL, List.length_append, szL]
    split
    · simp; omega
    · omega
end
theorem szL_drop : ∀ (xs : List Tm) (b : Nat), szL (xs.drop b) ≤ szL xs
  | xs, 0 => Nat.le_refl _
  | [], _ + 1 => Nat.le_refl _
  | x :: r, b + 1 => by
    have := szL_drop r b
    rw [szL]
    show szL (r.drop b) ≤ _
    omega
def prNin (c : Cs) (n : Nat) : Addr → List Wd → List (Key × PyData) → (Wd → List (Key × PyData) → Prop) → Prop := fun a ws g P => ∃ (t : Tm) (p : List PyData) (d : Int), ws = [.z (.ref a), .d (nodeD c t p), .d (.int d)] ∧ t.dp < n ∧ t.sz ≤ 10000 ∧ P (.o ((nmT g t p d).map (nmN c))) g
def prNfr (c : Cs) (n : Nat) : Addr → List Wd → List (Key × PyData) → (Wd → List (Key × PyData) → Prop) → Prop := fun a ws g P => ∃ (xs : List Tm) (t : Tm) (p : List PyData) (b : Nat) (d : Int), ws = [.z (.ref a), .d (nodeD c (.l xs t) p), .d (.int b), .d (.int d)] ∧ b ≤ xs.length ∧ dpL xs < n ∧ t.dp < n ∧ szL xs + t.sz ≤ 10000 ∧ P (.o ((nmL g (xs.drop b) p b d ++ nmT g t (tp p xs t) d).map (nmN c))) g
variable {n : Nat}
abbrev s_names_from : Stmt := topS 19
theorem sc_names_from : FnScope ["literals", "row", "begin", "depth", "found", "part", "more"] ["literals", "row", "begin", "depth"] (defScope s_names_from) := ⟨rfl, rfl, rfl, by decide +kernel, rfl, by decide +kernel, by decide +kernel⟩
theorem c_names_from (T : Txt K mg c) (D : DefG K mg "names_from" s_names_from ["literals", "row", "begin", "depth"]) (c_items_from : CalO P w K mg base 3 "items_from" (spP K (prItems c))) (c_names_in : CalO P w K mg base (3 + 2 * n) "names_in" (spW K (DR K) (prNin c n))) : CalO P w K mg base (3+2*n+1) "names_from" (spW K (DR K) (prNfr c n)) := by
  refine calO D sc_names_from (fun vs H Q E h => ?_) (fun cdv f A outer s H vs Q E hr h => ?_)
  · obtain ⟨th, ws, g, P, ⟨xs, t, p, b, d, rfl, hb, hx, ht, sz, z⟩, hv, _⟩ := h
    exact hv.len
  · obtain ⟨th, ws, g, P, ⟨xs, t, p, b, d, rfl, hb, hx, ht, sz, z⟩, hv, hj, hs, q⟩ := h
    have hu := hu_of hr
    refine ⟨_, pss_cons (ps_set (i := 4) sc_names_from.nd rfl (Or.inl rfl) (pe_lst pa_nil))
      (pss_cons (ps_for PassesOwn.never rfl (pi_list (pe_WO c_items_from hr (by omega) (by rfl) (pa_cons (pv 1) (pa_cons (pv 2) pa_nil)))) (pg_tup rfl (pgs_cons (pg_name (i := 5) sc_names_from.nd rfl (Or.inl rfl)) (pgs_cons (pg_name (i := 6) sc_names_from.nd rfl (Or.inl rfl)) pgs_nil)))
        (pss_one (ps_expr (pe_bm PySem.F.plainAttrs_list PySem.F.slot_list_extend PySem.F.type_list_extend mt_extend (pv 4) (pa_cons (pe_WO c_names_in hr (by omega) (by rfl) (pa_cons (pv 0) (pa_cons (pv 5) (pa_cons (pe_op op_add (pv 3) (pv 6)) pa_nil)))) pa_nil)))))
      (pss_one (ps_ret (pe_op op_cat (pv 4) (pe_WO c_names_in hr (by omega) (by rfl) (pa_cons (pv 0) (pa_cons (pe_fld (pv 1) rfl) (pa_cons (pv 3) pa_nil)))))))), ?_⟩
    refine bodyW hv hj hs q (Nat.le_of_ble_eq_true rfl) ?_
    try dsimp only [cx_K]
    have hxl := szL_len xs
    dsimp only [nodeD]
    walk_at "w"
    refine ⟨xs, t, p, b, rfl, by omega, hb, ?_⟩
    walk_at "w"
    have hall := nm_items g d (xs.drop b) p b
    have hsz : (nmL g (xs.drop b) p b d).length ≤ 10000 := by
      have h1 := nmL_len g (xs.drop b) p b d
      have h2 := szL_drop xs b
      omega
    have htl := nmT_len g t (tp p xs t) d
    have hnl := nmL_len g (xs.drop b) p b d
    have hsd := szL_drop xs b
    refine fun v => ⟨fun i ρ g' => g' = g ∧ ∃ (acc : List (Str × List PyData × Int)) (e1 e2 : Wd), ρ = [.z (.ref th), .d (nRd c (nodesD c xs p 0) (nodeD c t (tp p xs t)) p), .d (.int b), .d (.int d), .o (acc.map (nmN c)), e1, e2, .pl v ((itemsF (xs.drop b) p b).map (itN c))] ∧ acc = ((itemsF (xs.drop b) p b).take i).flatMap (fun q => nmT g q.1 q.2.1 (d + q.2.2)), ⟨rfl, [], .no, .no, rfl, rfl⟩, ?_, ?_, ?_⟩
    · rintro i ρ' g' ⟨rfl, acc, e1, e2, rfl, h1⟩
      rfl
    · rintro i d1 ρ' g' hd ⟨rfl, acc, e1, e2, rfl, h1⟩
      rw [List.getElem?_map] at hd
      cases hx : (itemsF (xs.drop b) p b)[i]? with
      | none => rw [hx] at hd; cases hd
      | some q =>
        rw [hx] at hd
        cases hd
        obtain ⟨x, p2, m⟩ := q
        have hm : x ∈ xs := List.mem_of_mem_drop (itemsF_mem (List.mem_of_getElem? hx))
        have m1 := dpL_mem hm
        have m2 := szL_mem hm
        have hnew : ((itemsF (xs.drop b) p b).take (i + 1)).flatMap (fun q => nmT g' q.1 q.2.1 (d + q.2.2)) = acc ++ nmT g' x p2 (d + m) := by
          rw [List.take_succ, hx, List.flatMap_append, h1]
          simp
        have hle : (acc ++ nmT g' x p2 (d + m)).length ≤ 10000 := by
          rw [← hnew]
          refine Nat.le_trans ?_ hsz
          rw [← hall]
          conv => rhs; rw [← List.take_append_drop (i + 1) (itemsF (xs.drop b) p b), List.flatMap_append, List.length_append]
          exact Nat.le_add_right _ _
        walk_at "w"
        refine ⟨x, p2, d + m, rfl, by omega, by omega, ?_⟩
        walk_at "w"
        refine q_Sz ?_ (szO (by rw [List.length_map, List.length_map, ← List.length_append]; omega))
        refine ⟨rfl, acc ++ nmT g' x p2 (d + m), .d (nodeD c x p2), .d (.int m), ?_, hnew.symm⟩
        rw [List.map_append]
        rfl
    · rintro ρ' g' ⟨rfl, acc, e1, e2, rfl, h1⟩
      rw [List.length_map, List.take_length, hall] at h1
      subst h1
      walk_at "w"
      refine ⟨t, tp p xs t, d, rfl, ht, by omega, ?_⟩
      walk_at "w"
      refine q_Sz ?_ (szO (by rw [List.length_map, List.length_map]; omega))
      rw [List.map_append] at z
      exact z
abbrev s_names_in : Stmt := topS 18
theorem sc_names_in : FnScope ["literals", "node", "depth"] ["literals", "node", "depth"] (defScope s_names_in) := ⟨rfl, rfl, rfl, by decide +kernel, rfl, by decide +kernel, by decide +kernel⟩
theorem c_names_in (T : Txt K mg c) (D : DefG K mg "names_in" s_names_in ["literals", "node", "depth"]) (c_is_pattern_name : CalO P w K mg base 1 "is_pattern_name" (spW K (DR K) (prPn c))) (Df : DefG K mg "names_from" s_names_from ["literals", "row", "begin", "depth"]) (c_items_from : CalO P w K mg base 3 "items_from" (spP K (prItems c))): ∀ n : Nat, CalO P w K mg base (3 + 2 * n) "names_in" (spW K (DR K) ((prNin c) n)) := by
  intro n
  induction n with
  | zero =>
    refine calO D sc_names_in (fun vs H Q E h => ?_) (fun cdv f A outer s H vs Q E hr h => ?_)
    · obtain ⟨th, ws, g, P, ⟨t, p, d, rfl, ht, sz, z⟩, hv, _⟩ := h
      exact hv.len
    · obtain ⟨th, ws, g, P, ⟨t, p, d, rfl, ht, sz, z⟩, hv, hj, hs, q⟩ := h
      exfalso; omega
  | succ n c_names_in =>
  rw [show 3 + 2 * (n + 1) = (3 + 2 * n + 1) + 1 by omega]
  have c_names_from := c_names_from (n := n) T Df c_items_from c_names_in
  refine calO D sc_names_in (fun vs H Q E h => ?_) (fun cdv f A outer s H vs Q E hr h => ?_)
  · obtain ⟨th, ws, g, P, ⟨t, p, d, rfl, ht, sz, z⟩, hv, _⟩ := h
    exact hv.len
  · obtain ⟨th, ws, g, P, ⟨t, p, d, rfl, ht, sz, z⟩, hv, hj, hs, q⟩ := h
    have hu := hu_of hr
    refine ⟨_, pss_cons (ps_if (pt_val (pe_callB call_isi (by rfl) T.isinstance (by decide +kernel) (pa_cons (pv 1) (pa_cons (C8.pe_gc (by rfl) T.g_Row) pa_nil))))
        (pss_one (ps_ret (pe_WO c_names_from hr (by omega) (by rfl) (pa_cons (pv 0) (pa_cons (pv 1) (pa_cons pe_int (pa_cons (pv 2) pa_nil)))))))
        (pss_nil))
      (pss_one (ps_ret (pe_ifExp (pt_val (pe_WO c_is_pattern_name hr (by omega) (by rfl) (pa_cons (pv 1) (pa_cons (pv 0) pa_nil)))) (pe_lst (pa_cons (pe_tup (pa_cons (pv 1) (pa_cons (pv 2) pa_nil))) pa_nil)) (pe_lst pa_nil)))), ?_⟩
    refine bodyW hv hj hs q (Nat.le_of_ble_eq_true rfl) ?_
    try dsimp only [cx_K]
    cases t with
    | w x =>
      dsimp only [nodeD]
      walk_at "w"
      refine ⟨.w x, p, rfl, ?_⟩
      walk_at "w"
      refine ite_b (fun hb => ?_) (fun hb => ?_)
      · walk_at "w"
        rw [nmT, if_pos hb] at z
        exact z
      · walk_at "w"
        rw [nmT, if_neg (by rw [hb]; decide)] at z
        exact z
    | i k =>
      dsimp only [nodeD]
      walk_at "w"
      refine ⟨.i k, p, rfl, ?_⟩
      walk_at "w"
      exact z
    | b k =>
      dsimp only [nodeD]
      walk_at "w"
      refine ⟨.b k, p, rfl, ?_⟩
      walk_at "w"
      exact z
    | u =>
      dsimp only [nodeD]
      walk_at "w"
      refine ⟨.u, p, rfl, ?_⟩
      walk_at "w"
      exact z
    | l xs t =>
      have hd : max (dpL xs) t.dp + 1 < n + 1 := ht
      have hs : szL xs + t.sz + 1 ≤ 10000 := sz
      dsimp only [nodeD]
      walk_at "w"
      refine ⟨xs, t, p, 0, d, rfl, Nat.zero_le _, by omega, by omega, by omega, ?_⟩
      exact z
end
end

section
open PySem PySem.Spec PyProof.Rows L2 Kt Evl
section
variable {P : Program} {w : World} {K : PySem.W.Frag} {mg : Str → Option Value} {base : Heap} {c : Cs}
/-! ### the check of a pattern -/
structure Pa where
  p : Addr
  a : Addr
  b : Addr
def WP (K : PySem.W.Frag) (c : Cs) (t : Pa) : Wo (List (Key × PyData) × List (Key × PyData)) where
  M := [t.b]
  A := [t.p, t.a, t.b]
  J := fun g H => t.b ≠ t.a ∧ t.b ≠ t.p ∧ (∃ dx, H t.p = some (.ins c.P dx (nsP.zip [.ref t.a, .ref t.b]))) ∧ DkAt K H t.a g.1 ∧ flatK g.1 ∧ DkAt K H t.b g.2 ∧ flatK g.2
  sub := fun a h => by rw [List.mem_singleton.mp h]; simp
  dic := fun g H b j h => by
    obtain ⟨_, _, _, _, _, ⟨ks, h1, _⟩, _⟩ := j
    rw [List.mem_singleton.mp h]
    exact ⟨ks, h1⟩
  stay := fun g H H' j h => by
    obtain ⟨n1, n2, ⟨dx, h0⟩, ⟨k1, h1, w1⟩, f1, ⟨k2, h2, w2⟩, f2⟩ := j
    exact ⟨n1, n2, ⟨dx, h _ _ (by simp) h0⟩, ⟨k1, h _ _ (by simp) h1, kw_flat f1 w1⟩, f1, ⟨k2, h _ _ (by simp) h2, kw_flat f2 w2⟩, f2⟩
section
variable {K : PySem.W.Frag} {c : Cs} {t : Pa}
theorem obP {m : Str} (h : m ∉ nsP) : ObN (WP K c t) t.p c.P m := fun g H j => by
  obtain ⟨_, _, ⟨dx, h0⟩, _⟩ := j
  exact ⟨dx, _, h0, lookup_none h⟩
theorem obPl : ObF (WP K c t) t.p c.P "literals" (.ref t.a) := fun g H j => by
  obtain ⟨_, _, ⟨dx, h0⟩, _⟩ := j
  exact ⟨dx, _, h0, rfl⟩
theorem obPn : ObF (WP K c t) t.p c.P "names" (.ref t.b) := fun g H j => by
  obtain ⟨_, _, ⟨dx, h0⟩, _⟩ := j
  exact ⟨dx, _, h0, rfl⟩
theorem lensP : LensW K (WP K c t) t.b (·.2) (fun g k => (g.1, k)) := by
  refine ⟨fun g H j => j.2.2.2.2.2.1, by show t.b ∈ [t.b]; simp, fun g H ks kvs j f w => ?_, fun g H j => j.2.2.2.2.2.2⟩
  obtain ⟨n1, n2, ⟨dx, h0⟩, h1, f1, ⟨k2, h2, w2⟩, f2⟩ := j
  exact ⟨n1, n2, ⟨dx, (upd_ne (Ne.symm n2)).trans h0⟩, h1.put (Ne.symm n1) ⟨_, h2⟩, f1, ⟨ks, upd_same, kw_flat f w⟩, f⟩
theorem subP : Sub (WP K c t) (DR K t.a) (·.1) (fun g d => (d, g.2)) := by
  refine ⟨fun a h => ?_, fun a h => ?_, fun g H j => ⟨j.2.2.2.1, j.2.2.2.2.1⟩, fun g H H' d j hs e jd => ?_⟩
  · rw [List.mem_singleton.mp h]; show t.a ∈ [t.p, t.a, t.b]; simp
  · exact absurd h (by show a ∉ ([] : List Addr); simp)
  · obtain ⟨n1, n2, ⟨dx, h0⟩, h1, f1, ⟨k2, h2, w2⟩, f2⟩ := j
    have e' : Ex H H' := ExM.ex e
    exact ⟨n1, n2, ⟨dx, e' _ _ h0⟩, jd.1, jd.2, ⟨k2, e' _ _ h2, kw_flat f2 w2⟩, f2⟩
end
local macro_rules | `(tactic| walk_at "wE") => `(tactic| ((with_reducible refine' wE_fldZ (f := "literals") ?o ?c1 ?n1 ?q); (case o => exact obPl); (case c1 => exact (Txt.cP (by assumption)).ic.cl); (case n1 => exact CF.at (Txt.cP (by assumption)) 0 rfl)))
local macro_rules | `(tactic| walk_at "wE") => `(tactic| ((with_reducible refine' wE_fldZ (f := "names") ?o ?c1 ?n1 ?q); (case o => exact obPn); (case c1 => exact (Txt.cP (by assumption)).ic.cl); (case n1 => exact CF.at (Txt.cP (by assumption)) 1 rfl)))
local macro_rules | `(tactic| walk_at "wE") => `(tactic| ((with_reducible refine' wE_callS ?S ?q); (case S => exact subP)))
local macro_rules | `(tactic| walk_at "wE") => `(tactic| ((with_reducible refine' wE_yin ?L ?q); (case L => exact lensP.at_)))
local macro_rules | `(tactic| walk_at "wS") => `(tactic| ((with_reducible refine' wS_yput ?L ?q); (case L => exact lensP)))
local macro_rules | `(tactic| walk_at "wE") => `(tactic| ((with_reducible refine' wE_meth ?o ?q); (case o => exact obP (by decide +kernel))))
abbrev Gp : Type := List (Key × PyData) × List (Key × PyData)
def wwP (g : Gp) (x : Str) : Bool × Gp :=
  if x = "&" then (true, g) else if Tm.pn g.1 (.w x) = true then (if (kGet g.2 (.inr x)).isSome = true then (true, g) else (false, (g.1, kPut g.2 (.inr x) (.bool true)))) else (false, g)
def prWW (c : Cs) : Pa → List Wd → Gp → (Wd → Gp → Prop) → Prop := fun t ws g P => ∃ (x : Str) (p : List PyData), ws = [.z (.ref t.p), .d (nWd c x p)] ∧ g.2.length ≤ 20000 ∧ P (.d (.bool (wwP g x).1)) (wwP g x).2
abbrev s_PatternCheck_wrong_word : Stmt := inClass (topS 15) 1
theorem sc_PatternCheck_wrong_word : FnScope ["self", "node"] ["self", "node"] (defScope s_PatternCheck_wrong_word) := ⟨rfl, rfl, rfl, by decide +kernel, rfl, by decide +kernel, by decide +kernel⟩
theorem c_PatternCheck_wrong_word (T : Txt K mg c) (D : DefM K c.P "wrong_word" "PatternCheck.wrong_word" s_PatternCheck_wrong_word ["self", "node"]) (c_is_repeat : CalO P w K mg base 2 "is_repeat" (spP K (prRepeat c))) (c_is_pattern_name : CalO P w K mg base 1 "is_pattern_name" (spW K (DR K) (prPn c))) : C8.Met P w K mg base 3 c.P "wrong_word" (spW K (WP K c) (prWW c)) [] := by
  refine metO D sc_PatternCheck_wrong_word (fun vs H Q E h => ?_) (fun cdv f A outer s H vs Q E hr h => ?_)
  · obtain ⟨th, ws, g, P, ⟨x, p, rfl, hl, z⟩, hv, _⟩ := h
    exact hv.len
  · obtain ⟨th, ws, g, P, ⟨x, p, rfl, hl, z⟩, hv, hj, hs, q⟩ := h
    have hu := hu_of hr
    refine ⟨_, pss_cons (ps_if (pt_val (pe_WO c_is_repeat hr (by decide) (by rfl) (pa_cons (pv 1) pa_nil)))
        (pss_one (ps_ret (pe_bl)))
        (pss_nil))
      (pss_cons (ps_if (pt_not (pt_val (pe_WO c_is_pattern_name hr (by decide) (by rfl) (pa_cons (pv 1) (pa_cons (pe_fld (pv 0) rfl) pa_nil)))))
        (pss_one (ps_ret (pe_bl)))
        (pss_nil))
      (pss_cons (ps_if (pt_cmp (pc_din hu (pe_fld (pv 1) rfl) (pe_fld (pv 0) rfl)))
        (pss_one (ps_ret (pe_bl)))
        (pss_nil))
      (pss_cons (ps_dput hu (pe_fld (pv 0) rfl) (pe_fld (pv 1) rfl) pe_bl rfl)
      (pss_one (ps_ret (pe_bl)))))), ?_⟩
    refine bodyW hv hj hs q (Nat.le_of_ble_eq_true rfl) ?_
    try dsimp only [cx_K]
    walk_at "w"
    refine ⟨.w x, p, rfl, ?_⟩
    walk_at "w"
    refine ite_b (fun hb => ?_) (fun hb => ?_)
    · have e : wwP g x = (true, g) := by unfold wwP; rw [if_pos (of_decide_eq_true hb)]
      rw [e] at z
      walk_at "w"
      exact z
    · have hx : ¬ x = "&" := of_decide_eq_false hb
      walk_at "w"
      refine ⟨.w x, p, rfl, ?_⟩
      walk_at "w"
      refine ite_b (fun hb2 => ?_) (fun hb2 => ?_)
      · have e : wwP g x = (false, g) := by unfold wwP; rw [if_neg hx, if_neg (by simpa using hb2)]
        rw [e] at z
        walk_at "w"
        exact z
      · have hp : Tm.pn g.1 (.w x) = true := by simpa using hb2
        refine wS_next ?_
        dsimp only
        walk_at "w"
        refine ite_b (fun hb3 => ?_) (fun hb3 => ?_)
        · have e : wwP g x = (true, g) := by unfold wwP; rw [if_neg hx, if_pos hp, if_pos hb3]
          rw [e] at z
          walk_at "w"
          exact z
        · have e : wwP g x = (false, (g.1, kPut g.2 (.inr x) (.bool true))) := by unfold wwP; rw [if_neg hx, if_pos hp, if_neg (by rw [hb3]; decide)]
          rw [e] at z
          refine wS_next ?_
          dsimp only
          walk_at "w"
          refine ⟨rfl, ?_⟩
          walk_at "w"
          refine q_Sz ?_ (szO (by show g.2.length + 1 ≤ _; omega))
          walk_at "w"
          exact z
abbrev Of : Type := Option (Tm × List PyData)
def oN (c : Cs) : Of → PyData
  | none => .none
  | some (t, p) => nodeD c t p
mutual
def wrP (g : Gp) : Tm → List PyData → Of × Gp
  | .w x, p => (if (wwP g x).1 = true then some (.w x, p) else none, (wwP g x).2)
  | .l xs t, p =>
    match wrL g xs p 0 0 false with
    | (some e, g') => (some e, g')
    | (none, g') => wrP g' t (tp p xs t)
  | _, _ => (none, g)
def wrL (g : Gp) : List Tm → List PyData → Nat → Nat → Bool → Of × Gp
  | [], _, _, _, _ => (none, g)
  | x :: r, p, k, b, rep =>
    if (x.isW "&" && (decide (b < k) && !rep)) = true then wrL g r p (k + 1) b true
    else match wrP g x (p ++ [.int k]) with
      | (some e, g') => (some e, g')
      | (none, g') => wrL g' r p (k + 1) b rep
end
/-- from the item b on, then the tail -/
def wrI (g : Gp) (xs : List Tm) (t : Tm) (p : List PyData) (b : Nat) : Of × Gp :=
  match wrL g (xs.drop b) p b b false with
  | (some e, g') => (some e, g')
  | (none, g') => wrP g' t (tp p xs t)
theorem wwP_len (g : Gp) (x : Str) : (wwP g x).2.2.length ≤ g.2.length + 1 := by
  unfold wwP
  split
  · exact Nat.le_succ _
  · split
    · split
      · exact Nat.le_succ _
      · exact kPut_le _ _ _
    · exact Nat.le_succ _
mutual
theorem wrP_len : ∀ (t : Tm) (g : Gp) (p : List PyData), (wrP g t p).2.2.length ≤ g.2.length + t.sz
  | .w x, g, p => wwP_len g x
  | .i _, _, _ => Nat.le_add_right _ _
  | .b _, _, _ => Nat.le_add_right _ _
  | .u, _, _ => Nat.le_add_right _ _
  | .l xs t, g, p => by
    have h1 := wrL_len xs g p 0 0 false
    rw [wrP, Tm.sz]
    split
    · rename_i e g' h; rw [h] at h1; dsimp only at h1 ⊢; omega
    · rename_i g' h
      rw [h] at h1
      have h2 := wrP_len t g' (tp p xs t)
      dsimp only at h1; omega
theorem wrL_len : ∀ (xs : List Tm) (g : Gp) (p : List PyData) (k b : Nat) (rep : Bool), (wrL g xs p k b rep).2.2.length ≤ g.2.length + szL xs
  | [], g, _, _, _, _ => Nat.le_refl _
  | x :: r, g, p, k, b, rep => by
    rw [wrL, szL]
    split
    · have := wrL_len r g p (k + 1) b true; omega
    · have h1 := wrP_len x g (p ++ [.int k])
      split
      · rename_i e g' h; rw [h] at h1; dsimp only at h1 ⊢; omega
      · rename_i g' h
        rw [h] at h1
        have h2 := wrL_len r g' p (k + 1) b rep
        dsimp only at h1; omega
end
/-- what is left of it at the item k -/
def wrC (g : Gp) (xs : List Tm) (t : Tm) (p : List PyData) (k b : Nat) (rep : Bool) : Of × Gp :=
  match wrL g (xs.drop k) p k b rep with
  | (some e, g') => (some e, g')
  | (none, g') => wrP g' t (tp p xs t)
theorem wrC_end {g : Gp} {xs : List Tm} {t : Tm} {p : List PyData} {k b : Nat} {rep : Bool} (h : xs.length ≤ k) : wrC g xs t p k b rep = wrP g t (tp p xs t) := by
  unfold wrC
  rw [List.drop_eq_nil_of_le h, wrL]
theorem wrC_mark {g : Gp} {xs : List Tm} {t x : Tm} {p : List PyData} {k b : Nat} {rep : Bool} (hd : xs.drop k = x :: xs.drop (k + 1)) (h : (x.isW "&" && (decide (b < k) && !rep)) = true) : wrC g xs t p k b rep = wrC g xs t p (k + 1) b true := by
  unfold wrC
  rw [hd, wrL, if_pos h]
theorem wrC_item {g : Gp} {xs : List Tm} {t x : Tm} {p : List PyData} {k b : Nat} {rep : Bool} (hd : xs.drop k = x :: xs.drop (k + 1)) (h : (x.isW "&" && (decide (b < k) && !rep)) = false) : wrC g xs t p k b rep = match wrP g x (p ++ [.int k]) with
    | (some e, g') => (some e, g')
    | (none, g') => wrC g' xs t p (k + 1) b rep := by
  unfold wrC
  rw [hd, wrL, if_neg (by rw [h]; decide)]
  cases hq : wrP g x (p ++ [.int k]) with
  | mk o g' => cases o <;> rfl
theorem isNo_node (c : Cs) (t : Tm) (p : List PyData) : isNoD (nodeD c t p) = false := by cases t <;> rfl
def prW (c : Cs) (n : Nat) : Pa → List Wd → Gp → (Wd → Gp → Prop) → Prop := fun th ws g P => ∃ (t : Tm) (p : List PyData), ws = [.z (.ref th.p), .d (nodeD c t p)] ∧ t.dp < n ∧ g.2.length + t.sz ≤ 15000 ∧ P (.d (oN c (wrP g t p).1)) (wrP g t p).2
def prWI (c : Cs) (n : Nat) : Pa → List Wd → Gp → (Wd → Gp → Prop) → Prop := fun th ws g P => ∃ (xs : List Tm) (t : Tm) (p : List PyData) (b : Nat), ws = [.z (.ref th.p), .d (nodeD c (.l xs t) p), .d (.int b)] ∧ b ≤ xs.length ∧ dpL xs < n ∧ t.dp < n ∧ g.2.length + szL xs + t.sz ≤ 15000 ∧ P (.d (oN c (wrI g xs t p b).1)) (wrI g xs t p b).2
variable {n : Nat}
abbrev s_PatternCheck_wrong_in : Stmt := inClass (topS 15) 3
theorem sc_PatternCheck_wrong_in : FnScope ["self", "row", "begin", "repeated", "k", "part", "found"] ["self", "row", "begin"] (defScope s_PatternCheck_wrong_in) := ⟨rfl, rfl, rfl, by decide +kernel, rfl, by decide +kernel, by decide +kernel⟩
theorem c_PatternCheck_wrong_in (T : Txt K mg c) (D : DefM K c.P "wrong_in" "PatternCheck.wrong_in" s_PatternCheck_wrong_in ["self", "row", "begin"]) (c_is_repeat : CalO P w K mg base 2 "is_repeat" (spP K (prRepeat c))) (c_PatternCheck_wrong : C8.Met P w K mg base (4 + 2 * n) c.P "wrong" (spW K (WP K c) (prW c n)) []) : C8.Met P w K mg base (4+2*n+1) c.P "wrong_in" (spW K (WP K c) (prWI c n)) [] := by
  refine metO D sc_PatternCheck_wrong_in (fun vs H Q E h => ?_) (fun cdv f A outer s H vs Q E hr h => ?_)
  · obtain ⟨th, ws, g, P, ⟨xs, t, p, b, rfl, hb, hx, ht, sz, z⟩, hv, _⟩ := h
    exact hv.len
  · obtain ⟨th, ws, g, P, ⟨xs, t, p, b, rfl, hb, hx, ht, sz, z⟩, hv, hj, hs, q⟩ := h
    have hu := hu_of hr
    refine ⟨_, pss_cons (ps_set (i := 3) sc_PatternCheck_wrong_in.nd rfl (Or.inl rfl) pe_bl)
      (pss_cons (ps_for PassesOwn.never rfl (pi_range2 (by rfl) T.range (pa_cons (pv 2) (pa_cons (pe_callB call_lenO (by rfl) T.len (by decide +kernel) (pa_cons (pe_fld (pv 1) rfl) pa_nil)) pa_nil))) (pg_name (i := 4) sc_PatternCheck_wrong_in.nd rfl (Or.inl rfl))
        (pss_cons (ps_set (i := 5) sc_PatternCheck_wrong_in.nd rfl (Or.inl rfl) (pe_ix ix_tup (pe_fld (pv 1) rfl) (pv 4) (fun _ _ => rfl)))
        (pss_cons (ps_if (PW.pt (pw_and (pt_val (pe_WO c_is_repeat hr (by omega) (by rfl) (pa_cons (pv 5) pa_nil))) (pw_and (pt_cmpR op_gt (pv 4) (pv 2) (nomark _)) (pw_and1 (pt_not (pt_val (pv 3)))))))
          (pss_cons (ps_set (i := 3) sc_PatternCheck_wrong_in.nd rfl (Or.inl rfl) pe_bl)
          (pss_one (ps_continue)))
          (pss_nil))
        (pss_cons (ps_set (i := 6) sc_PatternCheck_wrong_in.nd rfl (Or.inl rfl) (C8.pe_mt c_PatternCheck_wrong hr (by omega) (pv 0) (pa_cons (pv 5) pa_nil)))
        (pss_one (ps_if (pt_cmpR op_notN1 (pv 6) pe_non (nomark _))
          (pss_one (ps_ret (pv 6)))
          (pss_nil)))))))
      (pss_one (ps_ret (C8.pe_mt c_PatternCheck_wrong hr (by omega) (pv 0) (pa_cons (pe_fld (pv 1) rfl) pa_nil))))), ?_⟩
    refine bodyW hv hj hs q (Nat.le_of_ble_eq_true rfl) ?_
    try dsimp only [cx_K]
    have hxl := szL_len xs
    dsimp only [nodeD]
    walk_at "w"
    refine ⟨b, (nodesD c xs p 0).length, rfl, by rw [nodesD_len]; omega, ?_⟩
    rw [nodesD_len, show (((xs.length : Nat) : Int) - (b : Int)).toNat = xs.length - b by omega]
    have hsd := szL_drop xs b
    refine ⟨fun i ρ g' => ∃ (rep : Bool) (e1 e2 e3 : Wd), ρ = [.z (.ref th.p), .d (nRd c (nodesD c xs p 0) (nodeD c t (tp p xs t)) p), .d (.int b), .d (.bool rep), e1, e2, e3] ∧ g'.2.length + szL (xs.drop (b + i)) ≤ g.2.length + szL xs ∧ wrC g' xs t p (b + i) b rep = wrI g xs t p b, ⟨false, .no, .no, .no, rfl, by rw [Nat.add_zero]; omega, rfl⟩, fun _ _ _ _ => trivial, ?_, ?_⟩
    · rintro i d ρ' g' hd ⟨rep, e1, e2, e3, rfl, hg, h1⟩
      obtain ⟨rfl, hi⟩ := intsD_get hd
      rw [show (b : Int) + (i : Int) * 1 = ((b + i : Nat) : Int) by omega]
      have hk : b + i < xs.length := by omega
      have hx : xs[b + i]? = some xs[b + i] := List.getElem?_eq_getElem hk
      have hdr : xs.drop (b + i) = xs[b + i] :: xs.drop (b + i + 1) := List.drop_eq_getElem_cons hk
      generalize xs[b + i] = x at hx hdr
      have hm := List.mem_of_getElem? hx
      have m1 := dpL_mem hm
      have hszs : szL (xs.drop (b + i)) = x.sz + szL (xs.drop (b + i + 1)) := by rw [hdr, szL]
      walk_at "w"
      refine q_At (nodes_at c hx) ?_
      dsimp only
      refine wS_seq (wS.mono (O := { nx := fun ρ2 g2 => ρ2 = [.z (.ref th.p), .d (nRd c (nodesD c xs p 0) (nodeD c t (tp p xs t)) p), .d (.int b), .d (.bool rep), .d (.int ((b + i : Nat) : Int)), .d (nodeD c x (p ++ [.int ((b + i : Nat) : Int)])), e3] ∧ g2 = g' ∧ (x.isW "&" && (decide (b < b + i) && !rep)) = false, rt := fun _ _ => False, ct := fun ρ2 g2 => ρ2 = [.z (.ref th.p), .d (nRd c (nodesD c xs p 0) (nodeD c t (tp p xs t)) p), .d (.int b), .d (.bool true), .d (.int ((b + i : Nat) : Int)), .d (nodeD c x (p ++ [.int ((b + i : Nat) : Int)])), e3] ∧ g2 = g' ∧ (x.isW "&" && (decide (b < b + i) && !rep)) = true }) ?_ ?_ (fun _ _ z => z.elim) (fun _ _ z => z.elim) ?_)
      · walk_at "w"
        refine ⟨x, _, rfl, ?_⟩
        walk_at "w"
        refine ite_b (fun hb1 => ?_) (fun hb1 => ?_)
        · walk_at "w"
          refine ite_b (fun hb2 => ?_) (fun hb2 => ?_)
          · have hb2' : b < b + i := by have := of_decide_eq_true hb2; omega
            walk_at "w"
            cases rep with
            | true =>
              walk_at "w"
              exact ⟨rfl, rfl, by simp⟩
            | false =>
              walk_at "w"
              exact ⟨rfl, rfl, by rw [hb1, decide_eq_true hb2']; rfl⟩
          · have hb2' : ¬ b < b + i := by have := of_decide_eq_false hb2; omega
            walk_at "w"
            exact ⟨rfl, rfl, by rw [decide_eq_false hb2']; simp⟩
        · walk_at "w"
          exact ⟨rfl, rfl, by rw [hb1]; rfl⟩
      · rintro ρ2 g2 ⟨rfl, rfl, hc⟩
        rw [wrC_item hdr hc] at h1
        have hl := wrP_len x g2 (p ++ [.int ((b + i : Nat) : Int)])
        dsimp only
        walk_at "w"
        refine ⟨x, _, rfl, by omega, by omega, ?_⟩
        cases hq : wrP g2 x (p ++ [.int ((b + i : Nat) : Int)]) with
        | mk o g3 =>
          rw [hq] at h1 hl
          cases o with
          | some e =>
            obtain ⟨te, pe⟩ := e
            dsimp only [oN] at h1 ⊢
            walk_at "w"
            rw [isNo_node]
            walk_at "w"
            rw [← h1] at z
            exact z
          | none =>
            dsimp only [oN] at h1 hl ⊢
            walk_at "w"
            exact ⟨rep, .d (.int ((b + i : Nat) : Int)), .d (nodeD c x (p ++ [.int ((b + i : Nat) : Int)])), .d .none, rfl, by show g3.2.length + szL (xs.drop (b + i + 1)) ≤ _; omega, h1⟩
      · rintro ρ2 g2 ⟨rfl, rfl, hc⟩
        rw [wrC_mark hdr hc] at h1
        exact ⟨true, _, _, _, rfl, by show g2.2.length + szL (xs.drop (b + i + 1)) ≤ _; omega, h1⟩
    · rintro ρ' g' ⟨rep, e1, e2, e3, rfl, hg, h1⟩
      rw [intsD_len] at hg h1
      rw [wrC_end (by omega)] at h1
      walk_at "w"
      refine ⟨t, tp p xs t, rfl, ht, by omega, ?_⟩
      rw [h1]
      exact z
abbrev s_PatternCheck_wrong : Stmt := inClass (topS 15) 2
theorem sc_PatternCheck_wrong : FnScope ["self", "node"] ["self", "node"] (defScope s_PatternCheck_wrong) := ⟨rfl, rfl, rfl, by decide +kernel, rfl, by decide +kernel, by decide +kernel⟩
theorem c_PatternCheck_wrong (T : Txt K mg c) (D : DefM K c.P "wrong" "PatternCheck.wrong" s_PatternCheck_wrong ["self", "node"]) (c_PatternCheck_wrong_word : C8.Met P w K mg base 3 c.P "wrong_word" (spW K (WP K c) (prWW c)) []) (Df : DefM K c.P "wrong_in" "PatternCheck.wrong_in" s_PatternCheck_wrong_in ["self", "row", "begin"]) (c_is_repeat : CalO P w K mg base 2 "is_repeat" (spP K (prRepeat c))): ∀ n : Nat, C8.Met P w K mg base (4 + 2 * n) c.P "wrong" (spW K (WP K c) ((prW c) n)) [] := by
  intro n
  induction n with
  | zero =>
    refine metO D sc_PatternCheck_wrong (fun vs H Q E h => ?_) (fun cdv f A outer s H vs Q E hr h => ?_)
    · obtain ⟨th, ws, g, P, ⟨t, p, rfl, ht, sz, z⟩, hv, _⟩ := h
      exact hv.len
    · obtain ⟨th, ws, g, P, ⟨t, p, rfl, ht, sz, z⟩, hv, hj, hs, q⟩ := h
      exfalso; omega
  | succ n c_PatternCheck_wrong =>
  rw [show 4 + 2 * (n + 1) = (4 + 2 * n + 1) + 1 by omega]
  have c_PatternCheck_wrong_in := c_PatternCheck_wrong_in (n := n) T Df c_is_repeat c_PatternCheck_wrong
  refine metO D sc_PatternCheck_wrong (fun vs H Q E h => ?_) (fun cdv f A outer s H vs Q E hr h => ?_)
  · obtain ⟨th, ws, g, P, ⟨t, p, rfl, ht, sz, z⟩, hv, _⟩ := h
    exact hv.len
  · obtain ⟨th, ws, g, P, ⟨t, p, rfl, ht, sz, z⟩, hv, hj, hs, q⟩ := h
    have hu := hu_of hr
    refine ⟨_, pss_cons (ps_if (pt_val (pe_callB call_isi (by rfl) T.isinstance (by decide +kernel) (pa_cons (pv 1) (pa_cons (C8.pe_gc (by rfl) T.g_Word) pa_nil))))
        (pss_one (ps_ret (pe_ifExp (pt_val (C8.pe_mt c_PatternCheck_wrong_word hr (by omega) (pv 0) (pa_cons (pv 1) pa_nil))) (pv 1) pe_non)))
        (pss_nil))
      (pss_one (ps_ret (pe_ifExp (pt_val (pe_callB call_isi (by rfl) T.isinstance (by decide +kernel) (pa_cons (pv 1) (pa_cons (C8.pe_gc (by rfl) T.g_Row) pa_nil)))) (C8.pe_mt c_PatternCheck_wrong_in hr (by omega) (pv 0) (pa_cons (pv 1) (pa_cons pe_int pa_nil))) pe_non))), ?_⟩
    refine bodyW hv hj hs q (Nat.le_of_ble_eq_true rfl) ?_
    try dsimp only [cx_K]
    cases t with
    | w x =>
      have hsz : g.2.length + 1 ≤ 15000 := sz
      dsimp only [nodeD]
      walk_at "w"
      refine ⟨x, p, rfl, by omega, ?_⟩
      walk_at "w"
      refine ite_b (fun hb => ?_) (fun hb => ?_)
      · walk_at "w"
        rw [wrP, if_pos hb] at z
        exact z
      · walk_at "w"
        rw [wrP, if_neg (by rw [hb]; decide)] at z
        exact z
    | i k => dsimp only [nodeD]; walk_at "w"; exact z
    | b k => dsimp only [nodeD]; walk_at "w"; exact z
    | u => dsimp only [nodeD]; walk_at "w"; exact z
    | l xs t =>
      have hd : max (dpL xs) t.dp + 1 < n + 1 := ht
      have hs : g.2.length + (szL xs + t.sz + 1) ≤ 15000 := sz
      dsimp only [nodeD]
      walk_at "w"
      refine ⟨xs, t, p, 0, rfl, Nat.zero_le _, by omega, by omega, by omega, ?_⟩
      exact z
end
end

section
open PySem PySem.Spec PyProof.Rows L2 Kt Evl
section
variable {P : Program} {w : World} {K : PySem.W.Frag} {mg : Str → Option Value} {base : Heap} {c : Cs}
def spPI (c : Cs) : Sp := fun vs H Q _ => ∃ (p dx a : Addr), vs = [.ref p, .ref a] ∧ H p = some (.ins c.P dx []) ∧ ∀ (b : Addr) (H' : Hp), H b = none → (∀ q o, q ≠ p → H q = some o → H' q = some o) → H' p = some (.ins c.P dx (nsP.zip [.ref a, .ref b])) → H' b = some (.dK []) → Q .non H'
abbrev s_PatternCheck : Stmt := inClass (topS 15) 0
theorem sc_PatternCheck : FnScope ["self", "literals"] ["self", "literals"] (defScope s_PatternCheck) := ⟨rfl, rfl, rfl, by decide +kernel, rfl, by decide +kernel, by decide +kernel⟩
theorem c_PatternCheck (T : Txt K mg c) (D : DefI K mg "PatternCheck" c.P "PatternCheck.__init__" s_PatternCheck ["self", "literals"]) : C8.Mak P w K mg base 1 "PatternCheck" c.P (spPI c) [] := by
  refine makO D sc_PatternCheck (fun vs H Q E h => ?_) (fun cdv f A outer s H vs Q E hr h => ?_)
  · obtain ⟨p, dx, a, rfl, _⟩ := h
    rfl
  · obtain ⟨p, dx, a, rfl, hp, k⟩ := h
    refine ⟨_, pss_cons (ps_fld (pv 0) (pv 1) rfl) (pss_one (ps_fld (pv 0) pe_dnewK rfl)), ?_⟩
    try dsimp only [tSeq]
    refine ini_one (v := .ref a) (m := 0) hp ?_ T.cP.ic.cl (T.cP.at 0 rfl) ?_ (by decide) ?_ ?_
    · rfl
    · exact (Nat.le_refl 0)
    · intro Q q; exact ⟨_, rfl, q⟩
    intro b hb
    have nb : b ≠ p := fun e => by rw [e, upd_same] at hb; cases hb
    have hb0 : H b = none := by rw [upd_ne nb] at hb; exact hb
    refine ⟨_, rfl, p, c.P, dx, _, rfl, (by rw [upd_ne (Ne.symm nb)]; exact upd_same), T.cP.ic.cl, T.cP.at 1 rfl, Nat.lt_of_le_of_lt (lenF (Nat.le_refl 0)) (by decide), ?_⟩
    refine k b _ hb0 (fun q o hq ho => ?_) (upd_same.trans (congrArg (fun l => some (HO.ins c.P dx l)) (putAll_eq (fs := []) (l := nsP.zip [.ref a, .ref b]) (by show nsP.Nodup; decide +kernel)))) ?_
    · rw [upd_ne hq, upd_ne (ne_of_none ho hb0), upd_ne hq]
      exact ho
    · rw [upd_ne nb]
      exact upd_same
def pfT (l : List (Key × PyData)) (t : Tm) (p : List PyData) : Of :=
  match t with
  | .l xs t => (wrI (l, []) xs t p 1).1
  | t => some (t, p)
/-- PatternCheck(literals).wrong_in(pattern, 1) -/
theorem wE_check {n m i j : Nat} {a : Addr} {H0 : Hp} {ρ : List Wd} {g : List (Key × PyData)} {Q : Wd → List (Key × PyData) → Prop} {xs : List Tm} {t : Tm} {p : List PyData}
    (hi : ρ[i]? = some (.z (.ref a))) (hin : i < m) (hj : ρ[j]? = some (.d (nodeD c (.l xs t) p))) (hjn : j < m) (h1 : 1 ≤ xs.length) (hx : dpL xs < n) (ht : t.dp < n) (sz : szL xs + t.sz ≤ 14000) (q : Q (.d (oN c (pfT g (.l xs t) p))) g) :
    wE ⟨K, DR K a, H0, m⟩ (tMeth c.P "wrong_in" (spW K (WP K c) (prWI c n)) [] C8.E0 (tMake c.P (spPI c) [] C8.E0 (tCons (tVar i) tNil)) (tCons (tVar j) (tCons (tC (.int 1)) tNil))) ρ g Q := fun σ H C R k => by
  obtain ⟨u, s1, s2⟩ := RelN.sl R hi hin
  obtain rfl : u = some (.ref a) := s2
  obtain ⟨u, s3, v, rfl, s4⟩ := RelN.sl R hj hjn
  have jR : DkAt K H a g ∧ flatK g := RelN.j R
  obtain ⟨⟨ks, ha, wa⟩, fg⟩ := jR
  refine ⟨.ref a, s1, ?_⟩
  intro x dx nx ndx nex
  refine ⟨x, dx, a, rfl, upd_same, fun b H3 hb hk hxx hbd => ⟨rfl, ?_⟩⟩
  have nbx : b ≠ x := fun e => by rw [e, upd_same] at hb; cases hb
  have nbd : b ≠ dx := fun e => by rw [e, upd_ne nex, upd_same] at hb; cases hb
  have hb0 : H b = none := by rw [upd_ne nbx, upd_ne nbd] at hb; exact hb
  have e3 : Ex H H3 := fun q o ho => hk q o (ne_of_none ho nx) (by rw [upd_ne (ne_of_none ho nx), upd_ne (ne_of_none ho ndx)]; exact ho)
  refine ⟨x, dx, _, rfl, hxx, lookup_none (by decide +kernel), ?_⟩
  refine ⟨v, s3, ?_⟩
  refine ⟨⟨x, a, b⟩, [.z (.ref x), .d (nodeD c (.l xs t) p), .d (.int 1)], (g, []), fun w g' => w = .d (oN c (pfT g (.l xs t) p)), ⟨xs, t, p, 1, rfl, h1, hx, ht, by show 0 + szL xs + t.sz ≤ 15000; omega, rfl⟩, .cons rfl (.cons (Tw.mono (Tx.ex e3) s4) (.cons (.int 1) .nil)), ?_, ?_, ?_⟩
  · exact ⟨(ne_of_none ha hb0).symm, nbx, ⟨dx, hxx⟩, ⟨ks, e3 _ _ ha, wa.mono (Tx.ex e3)⟩, fg, ⟨[], hbd, .nil⟩, fun kv h => by cases h⟩
  · intro q hq
    rcases List.mem_cons.mp hq with rfl | hq
    · rw [hxx]; exact fun z => by cases z
    · rcases List.mem_cons.mp hq with rfl | hq
      · rw [e3 _ _ ha]; exact fun z => by cases z
      · rw [List.mem_singleton.mp hq, hbd]; exact fun z => by cases z
  · rintro v' H' w g' e j hw rfl
    have e4 : Ex H H' := fun q o ho => e q o (fun z => ne_of_none ho hb0 (List.mem_singleton.mp z)) (e3 q o ho)
    exact k v' H' (.d (oN c (pfT g (.l xs t) p))) g (ExM.of e4) ⟨⟨ks, e4 _ _ ha, wa.mono (Tx.ex e4)⟩, fg⟩ hw q
def prPF (c : Cs) (n : Nat) : Addr → List Wd → List (Key × PyData) → (Wd → List (Key × PyData) → Prop) → Prop := fun a ws g P => ∃ (t : Tm) (p : List PyData), ws = [.z (.ref a), .d (nodeD c t p)] ∧ t.dp ≤ n ∧ t.sz ≤ 14000 ∧ (∀ xs u, t = .l xs u → 1 ≤ xs.length) ∧ P (.d (oN c (pfT g t p))) g
variable {n : Nat}
abbrev s_pattern_fault : Stmt := topS 16
theorem sc_pattern_fault : FnScope ["literals", "pattern"] ["literals", "pattern"] (defScope s_pattern_fault) := ⟨rfl, rfl, rfl, by decide +kernel, rfl, by decide +kernel, by decide +kernel⟩
theorem c_pattern_fault (T : Txt K mg c) (D : DefG K mg "pattern_fault" s_pattern_fault ["literals", "pattern"]) (c_PatternCheck : C8.Mak P w K mg base 1 "PatternCheck" c.P (spPI c) []) (c_PatternCheck_wrong_in : C8.Met P w K mg base (4 + 2 * n + 1) c.P "wrong_in" (spW K (WP K c) (prWI c n)) []) : CalO P w K mg base (4+2*n+1+1) "pattern_fault" (spW K (DR K) (prPF c n)) := by
  refine calO D sc_pattern_fault (fun vs H Q E h => ?_) (fun cdv f A outer s H vs Q E hr h => ?_)
  · obtain ⟨th, ws, g, P, ⟨t, p, rfl, hd, hs, hne, z⟩, hv, _⟩ := h
    exact hv.len
  · obtain ⟨th, ws, g, P, ⟨t, p, rfl, hd, hs, hne, z⟩, hv, hj, hs, q⟩ := h
    have hu := hu_of hr
    refine ⟨_, pss_cons (ps_if (pt_not (pt_val (pe_callB call_isi (by rfl) T.isinstance (by decide +kernel) (pa_cons (pv 1) (pa_cons (C8.pe_gc (by rfl) T.g_Row) pa_nil)))))
        (pss_one (ps_ret (pv 1)))
        (pss_nil))
      (pss_one (ps_ret (C8.pe_mt c_PatternCheck_wrong_in hr (by omega) (C8.pe_mk c_PatternCheck hr (by omega) (by rfl) (pa_cons (pv 0) pa_nil)) (pa_cons (pv 1) (pa_cons pe_int pa_nil))))), ?_⟩
    refine bodyW hv hj hs q (Nat.le_of_ble_eq_true rfl) ?_
    try dsimp only [cx_K]
    cases t with
    | w x => dsimp only [nodeD]; walk_at "w"; exact z
    | i k => dsimp only [nodeD]; walk_at "w"; exact z
    | b k => dsimp only [nodeD]; walk_at "w"; exact z
    | u => dsimp only [nodeD]; walk_at "w"; exact z
    | l xs t =>
      have hd' : max (dpL xs) t.dp + 1 ≤ n := hd
      have hs' : szL xs + t.sz + 1 ≤ 14000 := hs
      dsimp only [nodeD]
      walk_at "w"
      exact wE_check (xs := xs) (t := t) (p := p) rfl (Nat.le_of_ble_eq_true rfl) rfl (Nat.le_of_ble_eq_true rfl) (hne xs t rfl) (by omega) (by omega) (by omega) z
end
end

section
open PySem PySem.Spec PyProof.Rows L2 Kt Evl
section
variable {P : Program} {w : World} {K : PySem.W.Frag} {mg : Str → Option Value} {base : Heap} {c : Cs}
/-! ### the check of a template -/
structure Ta where
  p : Addr
  b : Addr
def WT (K : PySem.W.Frag) (c : Cs) (t : Ta) : Wo (List (Key × PyData)) where
  M := []
  A := [t.p, t.b]
  J := fun g H => (∃ dx, H t.p = some (.ins c.T dx (nsT.zip [.ref t.b]))) ∧ DkAt K H t.b g ∧ flatK g
  sub := fun a h => by simp at h
  dic := fun g H b j h => by simp at h
  stay := fun g H H' j h => by
    obtain ⟨⟨dx, h0⟩, ⟨k1, h1, w1⟩, f1⟩ := j
    exact ⟨⟨dx, h _ _ (by simp) h0⟩, ⟨k1, h _ _ (by simp) h1, kw_flat f1 w1⟩, f1⟩
section
variable {K : PySem.W.Frag} {c : Cs} {t : Ta}
theorem obT {m : Str} (h : m ∉ nsT) : ObN (WT K c t) t.p c.T m := fun g H j => by
  obtain ⟨⟨dx, h0⟩, _⟩ := j
  exact ⟨dx, _, h0, lookup_none h⟩
theorem obTn : ObF (WT K c t) t.p c.T "names" (.ref t.b) := fun g H j => by
  obtain ⟨⟨dx, h0⟩, _⟩ := j
  exact ⟨dx, _, h0, rfl⟩
theorem lensT : LensR K (WT K c t) t.b (fun g => g) := fun g H j => j.2.1
theorem subT : Sub (WT K c t) (DR K t.b) (fun g => g) (fun g d => d) := by
  refine ⟨fun a h => ?_, fun a h => ?_, fun g H j => ⟨j.2.1, j.2.2⟩, fun g H H' d j hs e jd => ?_⟩
  · rw [List.mem_singleton.mp h]; show t.b ∈ [t.p, t.b]; simp
  · exact absurd h (by show a ∉ ([] : List Addr); simp)
  · obtain ⟨⟨dx, h0⟩, h1, f1⟩ := j
    have e' : Ex H H' := ExM.ex e
    exact ⟨⟨dx, e' _ _ h0⟩, jd.1, jd.2⟩
end
local macro_rules | `(tactic| walk_at "wE") => `(tactic| ((with_reducible refine' wE_fldZ (f := "names") ?o ?c1 ?n1 ?q); (case o => exact obTn); (case c1 => exact (Txt.cT (by assumption)).ic.cl); (case n1 => exact CF.at (Txt.cT (by assumption)) 0 rfl)))
local macro_rules | `(tactic| walk_at "wE") => `(tactic| ((with_reducible refine' wE_callS ?S ?q); (case S => exact subT)))
local macro_rules | `(tactic| walk_at "wE") => `(tactic| ((with_reducible refine' wE_yget2 ?L ?q); (case L => exact lensT)))
local macro_rules | `(tactic| walk_at "wE") => `(tactic| ((with_reducible refine' wE_meth ?o ?q); (case o => exact obT (by decide +kernel))))
abbrev Kv : Type := List (Key × PyData)
def intK (g : Kv) : Prop := ∀ k d, kGet g k = some d → ∃ z : Int, d = .int z
def dz (g : Kv) (x : Str) (d : Int) : Int :=
  match kGet g (.inr x) with
  | some (.int z) => z
  | _ => d
theorem dz_get {g : Kv} (h : intK g) (x : Str) (d : Int) : (kGet g (.inr x)).getD (.int d) = .int (dz g x d) := by
  unfold dz
  cases e : kGet g (.inr x) with
  | none => rfl
  | some y =>
    obtain ⟨z, rfl⟩ := h _ _ e
    rfl
def wtW (g : Kv) (x : Str) (d : Int) (s : Bool) : Bool := if x = "&" then !s else !decide (dz g x d = d)
def prTW (c : Cs) : Ta → List Wd → Kv → (Wd → Kv → Prop) → Prop := fun t ws g P => ∃ (x : Str) (p : List PyData) (d : Int) (s : Bool), ws = [.z (.ref t.p), .d (nWd c x p), .d (.int d), .d (.bool s)] ∧ intK g ∧ P (.d (.bool (wtW g x d s))) g
abbrev s_TemplateCheck_wrong_word : Stmt := inClass (topS 23) 1
theorem sc_TemplateCheck_wrong_word : FnScope ["self", "word", "depth", "as_it_is"] ["self", "word", "depth", "as_it_is"] (defScope s_TemplateCheck_wrong_word) := ⟨rfl, rfl, rfl, by decide +kernel, rfl, by decide +kernel, by decide +kernel⟩
theorem c_TemplateCheck_wrong_word (T : Txt K mg c) (D : DefM K c.T "wrong_word" "TemplateCheck.wrong_word" s_TemplateCheck_wrong_word ["self", "word", "depth", "as_it_is"]) (c_is_repeat : CalO P w K mg base 2 "is_repeat" (spP K (prRepeat c))) : C8.Met P w K mg base 3 c.T "wrong_word" (spW K (WT K c) (prTW c)) [] := by
  refine metO D sc_TemplateCheck_wrong_word (fun vs H Q E h => ?_) (fun cdv f A outer s H vs Q E hr h => ?_)
  · obtain ⟨th, ws, g, P, ⟨x, p, d, s, rfl, ik, z⟩, hv, _⟩ := h
    exact hv.len
  · obtain ⟨th, ws, g, P, ⟨x, p, d, s, rfl, ik, z⟩, hv, hj, hs, q⟩ := h
    have hu := hu_of hr
    refine ⟨_, pss_cons (ps_if (pt_val (pe_WO c_is_repeat hr (by decide) (by rfl) (pa_cons (pv 1) pa_nil)))
        (pss_one (ps_ret (pe_not (pv 3))))
        (pss_nil))
      (pss_one (ps_ret (pe_cmpR op_ne (pe_dget2 hu (pe_fld (pv 0) rfl) (pe_fld (pv 1) rfl) (pv 2) ⟨by rfl, by rfl, by rfl, by rfl⟩) (pv 2) (nomark _)))), ?_⟩
    refine bodyW hv hj hs q (Nat.le_of_ble_eq_true rfl) ?_
    try dsimp only [cx_K]
    walk_at "w"
    refine ⟨.w x, p, rfl, ?_⟩
    walk_at "w"
    refine ite_b (fun hb => ?_) (fun hb => ?_)
    · walk_at "w"
      rw [wtW, if_pos (of_decide_eq_true hb)] at z
      exact z
    · walk_at "w"
      rw [dz_get ik]
      walk_at "w"
      rw [wtW, if_neg (of_decide_eq_false hb)] at z
      exact z
mutual
def wks : Tm → List Str
  | .w x => [x]
  | .l xs t => wksL xs ++ wks t
  | _ => []
def wksL : List Tm → List Str
  | [] => []
  | x :: r => wks x ++ wksL r
end
mutual
theorem wds_keys : ∀ (t : Tm) (p : List PyData), (wds t p).map (·.1) = wks t
  | .w x, _ => rfl
  | .i _, _ => rfl
  | .b _, _ => rfl
  | .u, _ => rfl
  | .l xs t, p => by rw [wds, wks, List.map_append, wdsL_keys xs p 0, wds_keys t]
theorem wdsL_keys : ∀ (xs : List Tm) (p : List PyData) (k : Nat), (wdsL xs p k).map (·.1) = wksL xs
  | [], _, _ => rfl
  | x :: r, p, k => by rw [wdsL, wksL, List.map_append, wds_keys x, wdsL_keys r p (k + 1)]
end
def hasN (g : Kv) (t : Tm) : Bool := (wks t).any fun x => (kGet g (.inr x)).isSome
theorem hasN_wds (g : Kv) (t : Tm) (p : List PyData) : ((wds t p).any fun q => (kGet g (.inr q.1)).isSome) = hasN g t := by
  unfold hasN
  rw [← wds_keys t p, List.any_map]
  rfl
mutual
/-- words as they are -/
def twA (g : Kv) : Tm → List PyData → Int → Of
  | .w x, p, d => if wtW g x d true = true then some (.w x, p) else none
  | .l xs t, p, d =>
    match twAL g xs p 0 d with
    | some e => some e
    | none => twA g t (tp p xs t) d
  | _, _, _ => none
def twAL (g : Kv) : List Tm → List PyData → Nat → Int → Of
  | [], _, _, _ => none
  | x :: r, p, k, d =>
    match twA g x (p ++ [.int k]) d with
    | some e => some e
    | none => twAL g r p (k + 1) d
end
mutual
def twN (g : Kv) : Tm → List PyData → Int → Of
  | .w x, p, d => if wtW g x d false = true then some (.w x, p) else none
  | .l xs t, p, d =>
    if asIs xs t = true then
      match xs with
      | [_, b] => twA g b (p ++ [.int (1 : Nat)]) d
      | _ => none
    else
      match twNL g xs p 0 false d with
      | some e => some e
      | none => twN g t (tp p xs t) d
  | _, _, _ => none
def twNL (g : Kv) : List Tm → List PyData → Nat → Bool → Int → Of
  | [], _, _, _, _ => none
  | x :: r, p, k, ok, d =>
    match (if x.isW "&" = true then (if ok = true then none else some (x, p ++ [.int k]))
      else if nMark r = true then (if hasN g x = true then twN g x (p ++ [.int k]) (d + 1) else some (x, p ++ [.int k]))
      else twN g x (p ++ [.int k]) d) with
    | some e => some e
    | none => twNL g r p (k + 1) (!x.isW "&") d
end
def tw (g : Kv) (t : Tm) (p : List PyData) (d : Int) (s : Bool) : Of := if s = true then twA g t p d else twN g t p d
def mkAt (xs : List Tm) (j : Nat) : Bool :=
  match xs[j]? with
  | some y => y.isW "&"
  | none => false
/-- one item of a row -/
def twI (g : Kv) (xs : List Tm) (p : List PyData) (k : Nat) (x : Tm) (d : Int) (s : Bool) : Of :=
  if s = true then twA g x (p ++ [.int k]) d
  else if x.isW "&" = true then (if (decide (0 < k) && !mkAt xs (k - 1)) = true then none else some (x, p ++ [.int k]))
  else if mkAt xs (k + 1) = true then (if hasN g x = true then twN g x (p ++ [.int k]) (d + 1) else some (x, p ++ [.int k]))
  else twN g x (p ++ [.int k]) d
/-- what is left of a row at the item k -/
def twC (g : Kv) (xs : List Tm) (t : Tm) (p : List PyData) (k : Nat) (d : Int) (s : Bool) : Of :=
  if s = true then
    match twAL g (xs.drop k) p k d with
    | some e => some e
    | none => twA g t (tp p xs t) d
  else
    match twNL g (xs.drop k) p k (decide (0 < k) && !mkAt xs (k - 1)) d with
    | some e => some e
    | none => twN g t (tp p xs t) d
theorem twC_end {g : Kv} {xs : List Tm} {t : Tm} {p : List PyData} {k : Nat} {d : Int} {s : Bool} (h : xs.length ≤ k) : twC g xs t p k d s = tw g t (tp p xs t) d s := by
  unfold twC tw
  rw [List.drop_eq_nil_of_le h, twAL, twNL]
theorem mk_drop {xs : List Tm} {k : Nat} : nMark (xs.drop k) = mkAt xs k := by
  unfold mkAt
  cases h : xs.drop k with
  | nil =>
    rw [List.drop_eq_nil_iff] at h
    rw [List.getElem?_eq_none h]
    rfl
  | cons y r =>
    have : (xs.drop k)[0]? = some y := by rw [h]; rfl
    rw [List.getElem?_drop, Nat.add_zero] at this
    rw [this]
    rfl
theorem match2 (o a b : Of) : (match (match o with | some e => some e | none => a) with | some e => some e | none => b) = match o with | some e => some e | none => (match a with | some e => some e | none => b) := by cases o <;> rfl
theorem twC_item {g : Kv} {xs : List Tm} {t x : Tm} {p : List PyData} {k : Nat} {d : Int} {s : Bool} (hx : xs[k]? = some x) : twC g xs t p k d s = match twI g xs p k x d s with
    | some e => some e
    | none => twC g xs t p (k + 1) d s := by
  have hd : xs.drop k = x :: xs.drop (k + 1) := by
    have hk := (List.getElem?_eq_some_iff.mp hx)
    rw [List.drop_eq_getElem_cons hk.1, hk.2]
  have h1 : mkAt xs k = x.isW "&" := by unfold mkAt; rw [hx]
  unfold twC twI
  rw [hd]
  cases s with
  | true =>
    simp only [if_true]
    rw [twAL]
    cases twA g x (p ++ [.int k]) d <;> rfl
  | false =>
    simp only [Bool.false_eq_true, if_false]
    rw [twNL, mk_drop]
    have e2 : (decide (0 < k + 1) && !mkAt xs (k + 1 - 1)) = !x.isW "&" := by
      rw [Nat.add_sub_cancel, h1, decide_eq_true (Nat.succ_pos k), Bool.true_and]
    rw [e2]
    exact match2 _ _ _
def prTI (c : Cs) (n : Nat) : Ta → List Wd → Kv → (Wd → Kv → Prop) → Prop := fun th ws g P => ∃ (xs : List Tm) (t x : Tm) (p : List PyData) (k : Nat) (d : Int) (s : Bool), ws = [.z (.ref th.p), .d (nodeD c (.l xs t) p), .d (.int k), .d (.int d), .d (.bool s)] ∧ xs[k]? = some x ∧ x.dp < n ∧ x.sz ≤ 14000 ∧ xs.length ≤ 14000 ∧ intK g ∧ P (.d (oN c (twI g xs p k x d s))) g
def prT (c : Cs) (n : Nat) : Ta → List Wd → Kv → (Wd → Kv → Prop) → Prop := fun th ws g P => ∃ (t : Tm) (p : List PyData) (d : Int) (s : Bool), ws = [.z (.ref th.p), .d (nodeD c t p), .d (.int d), .d (.bool s)] ∧ t.dp < n ∧ t.sz ≤ 14000 ∧ intK g ∧ P (.d (oN c (tw g t p d s))) g
variable {n : Nat}
abbrev s_TemplateCheck_wrong_item : Stmt := inClass (topS 23) 3
theorem sc_TemplateCheck_wrong_item : FnScope ["self", "row", "k", "depth", "as_it_is", "part"] ["self", "row", "k", "depth", "as_it_is"] (defScope s_TemplateCheck_wrong_item) := ⟨rfl, rfl, rfl, by decide +kernel, rfl, by decide +kernel, by decide +kernel⟩
theorem c_TemplateCheck_wrong_item (T : Txt K mg c) (D : DefM K c.T "wrong_item" "TemplateCheck.wrong_item" s_TemplateCheck_wrong_item ["self", "row", "k", "depth", "as_it_is"]) (c_is_repeat : CalO P w K mg base 2 "is_repeat" (spP K (prRepeat c))) (c_has_name : CalO P w K mg base 2 "has_name" (spW K (DR K) (prHas c))) (c_TemplateCheck_wrong : C8.Met P w K mg base (4 + 2 * n) c.T "wrong" (spW K (WT K c) (prT c n)) []) : C8.Met P w K mg base (4+2*n+1) c.T "wrong_item" (spW K (WT K c) (prTI c n)) [] := by
  refine metO D sc_TemplateCheck_wrong_item (fun vs H Q E h => ?_) (fun cdv f A outer s H vs Q E hr h => ?_)
  · obtain ⟨th, ws, g, P, ⟨xs, t, x, p, k, d, s, rfl, hx, hd, sz, hl, ik, z⟩, hv, _⟩ := h
    exact hv.len
  · obtain ⟨th, ws, g, P, ⟨xs, t, x, p, k, d, s, rfl, hx, hd, sz, hl, ik, z⟩, hv, hj, hs, q⟩ := h
    have hu := hu_of hr
    refine ⟨_, pss_cons (ps_set (i := 5) sc_TemplateCheck_wrong_item.nd rfl (Or.inl rfl) (pe_ix ix_tup (pe_fld (pv 1) rfl) (pv 2) (fun _ _ => rfl)))
      (pss_cons (ps_if (pt_val (pv 4))
        (pss_one (ps_ret (C8.pe_mt c_TemplateCheck_wrong hr (by omega) (pv 0) (pa_cons (pv 5) (pa_cons (pv 3) (pa_cons pe_bl pa_nil))))))
        (pss_nil))
      (pss_cons (ps_if (pt_val (pe_WO c_is_repeat hr (by omega) (by rfl) (pa_cons (pv 5) pa_nil)))
        (pss_one (ps_ret (pe_ifExp (PW.pt (pw_and (pt_cmpR op_gt (pv 2) pe_int (nomark _)) (pw_and1 (pt_not (pt_val (pe_WO c_is_repeat hr (by omega) (by rfl) (pa_cons (pe_ix ix_tup (pe_fld (pv 1) rfl) (pe_op op_sub (pv 2) pe_int) (fun _ _ => rfl)) pa_nil))))))) pe_non (pv 5))))
        (pss_nil))
      (pss_cons (ps_if (PW.pt (pw_or (pt_cmpR op_eq (pe_op op_add (pv 2) pe_int) (pe_callB call_lenO (by rfl) T.len (by decide +kernel) (pa_cons (pe_fld (pv 1) rfl) pa_nil)) (nomark _)) (pw_or1 (pt_not (pt_val (pe_WO c_is_repeat hr (by omega) (by rfl) (pa_cons (pe_ix ix_tup (pe_fld (pv 1) rfl) (pe_op op_add (pv 2) pe_int) (fun _ _ => rfl)) pa_nil)))))))
        (pss_one (ps_ret (C8.pe_mt c_TemplateCheck_wrong hr (by omega) (pv 0) (pa_cons (pv 5) (pa_cons (pv 3) (pa_cons pe_bl pa_nil))))))
        (pss_nil))
      (pss_one (ps_ret (pe_ifExp (pt_val (pe_WO c_has_name hr (by omega) (by rfl) (pa_cons (pv 5) (pa_cons (pe_fld (pv 0) rfl) pa_nil)))) (C8.pe_mt c_TemplateCheck_wrong hr (by omega) (pv 0) (pa_cons (pv 5) (pa_cons (pe_op op_add (pv 3) pe_int) (pa_cons pe_bl pa_nil)))) (pv 5))))))), ?_⟩
    refine bodyW hv hj hs q (Nat.le_of_ble_eq_true rfl) ?_
    try dsimp only [cx_K]
    have hk : k < xs.length := (List.getElem?_eq_some_iff.mp hx).1
    dsimp only [nodeD]
    walk_at "w"
    refine q_At (nodes_at c hx) ?_
    cases s with
    | true =>
      walk_at "w"
      refine ⟨x, _, d, true, rfl, hd, sz, ik, ?_⟩
      exact z
    | false =>
      walk_at "w"
      refine ⟨x, _, rfl, ?_⟩
      walk_at "w"
      unfold twI at z
      rw [if_neg (by decide)] at z
      refine ite_b (fun hb => ?_) (fun hb => ?_)
      · rw [if_pos hb] at z
        walk_at "w"
        refine ite_b (fun hk0 => ?_) (fun hk0 => ?_)
        · have hk0' : 0 < k := by have := of_decide_eq_true hk0; omega
          have hy : xs[k - 1]? = some xs[k - 1] := List.getElem?_eq_getElem (by omega)
          have hm : mkAt xs (k - 1) = xs[k - 1].isW "&" := by unfold mkAt; rw [hy]
          rw [decide_eq_true hk0', Bool.true_and] at z
          walk_at "w"
          rw [show (k : Int) - 1 = ((k - 1 : Nat) : Int) by omega]
          refine q_At (nodes_at c hy) ?_
          walk_at "w"
          refine ⟨_, _, rfl, ?_⟩
          rw [← hm]
          walk_at "w"
          refine ite_b (fun hb2 => ?_) (fun hb2 => ?_)
          · rw [if_pos hb2] at z
            walk_at "w"
            exact z
          · rw [if_neg (by rw [hb2]; decide)] at z
            walk_at "w"
            exact z
        · have hk0' : ¬ 0 < k := by have := of_decide_eq_false hk0; omega
          rw [decide_eq_false hk0', Bool.false_and, if_neg (by decide)] at z
          walk_at "w"
          exact z
      · rw [if_neg (by rw [hb]; decide)] at z
        refine wS_next ?_
        dsimp only
        refine wS_seq (wS.mono (O := { nx := fun ρ2 g2 => ρ2 = [.z (.ref th.p), .d (nRd c (nodesD c xs p 0) (nodeD c t (tp p xs t)) p), .d (.int k), .d (.int d), .d (.bool false), .d (nodeD c x (p ++ [.int k]))] ∧ g2 = g ∧ mkAt xs (k + 1) = true, rt := fun w g2 => w = .d (oN c (twN g x (p ++ [.int k]) d)) ∧ g2 = g ∧ mkAt xs (k + 1) = false }) ?_ ?_ ?_ (fun _ _ z => z.elim) (fun _ _ z => z.elim))
        · walk_at "w"
          refine ite_b (fun hb2 => ?_) (fun hb2 => ?_)
          · have e : mkAt xs (k + 1) = false := by
              have := of_decide_eq_true hb2
              rw [nodesD_len] at this
              unfold mkAt
              rw [List.getElem?_eq_none (by omega)]
            walk_at "w"
            refine ⟨x, _, d, false, rfl, hd, sz, ik, ?_⟩
            exact ⟨rfl, rfl, e⟩
          · have hk2 : k + 1 < xs.length := by
              have := of_decide_eq_false hb2
              rw [nodesD_len] at this
              omega
            have hy : xs[k + 1]? = some xs[k + 1] := List.getElem?_eq_getElem hk2
            have hm : mkAt xs (k + 1) = xs[k + 1].isW "&" := by unfold mkAt; rw [hy]
            walk_at "w"
            rw [show (k : Int) + 1 = ((k + 1 : Nat) : Int) by omega]
            refine q_At (nodes_at c hy) ?_
            walk_at "w"
            refine ⟨_, _, rfl, ?_⟩
            rw [← hm]
            walk_at "w"
            refine ite_b (fun hb3 => ?_) (fun hb3 => ?_)
            · walk_at "w"
              refine ⟨x, _, d, false, rfl, hd, sz, ik, ?_⟩
              exact ⟨rfl, rfl, by simpa using hb3⟩
            · walk_at "w"
              exact ⟨rfl, rfl, by simpa using hb3⟩
        · rintro ρ2 g2 ⟨rfl, rfl, hm⟩
          rw [if_pos hm] at z
          dsimp only
          walk_at "w"
          refine ⟨x, _, rfl, by omega, ?_⟩
          rw [hasN_wds]
          walk_at "w"
          refine ite_b (fun hb3 => ?_) (fun hb3 => ?_)
          · rw [if_pos hb3] at z
            walk_at "w"
            refine ⟨x, _, d + 1, false, rfl, hd, sz, ik, ?_⟩
            exact z
          · rw [if_neg (by rw [hb3]; decide)] at z
            walk_at "w"
            exact z
        · rintro w g2 ⟨rfl, rfl, hm⟩
          rw [if_neg (by rw [hm]; decide)] at z
          exact z
theorem twN_row {g : Kv} {u : Tm} {p : List PyData} {d : Int} : ∀ {xs : List Tm}, asIs xs u = false → twN g (.l xs u) p d = (match twNL g xs p 0 false d with | some e => some e | none => twN g u (tp p xs u) d)
  | [], h => by
    rw [twN, if_neg (by rw [h]; decide)]
    intro _ _ e; cases e
  | [a], h => by
    rw [twN, if_neg (by rw [h]; decide)]
    intro _ _ e; cases e
  | [a, b], h => by
    rw [twN, if_neg (by rw [h]; decide)]
  | a :: b :: c :: r, h => by
    rw [twN, if_neg (by rw [h]; decide)]
    intro _ _ e; cases e
theorem tw_row {g : Kv} {xs : List Tm} {u : Tm} {p : List PyData} {d : Int} {s : Bool} (h : s = true ∨ asIs xs u = false) : tw g (.l xs u) p d s = twC g xs u p 0 d s := by
  unfold tw twC
  rw [List.drop_zero]
  rcases h with rfl | h
  · simp only [if_true]
    rw [twA]
  · cases s with
    | true => simp only [if_true]; rw [twA]
    | false =>
      simp only [Bool.false_eq_true, if_false]
      rw [twN_row h]
      rfl
abbrev s_TemplateCheck_wrong : Stmt := inClass (topS 23) 2
theorem sc_TemplateCheck_wrong : FnScope ["self", "node", "depth", "as_it_is", "k", "found"] ["self", "node", "depth", "as_it_is"] (defScope s_TemplateCheck_wrong) := ⟨rfl, rfl, rfl, by decide +kernel, rfl, by decide +kernel, by decide +kernel⟩
theorem c_TemplateCheck_wrong (T : Txt K mg c) (D : DefM K c.T "wrong" "TemplateCheck.wrong" s_TemplateCheck_wrong ["self", "node", "depth", "as_it_is"]) (c_is_as_it_is : CalO P w K mg base 3 "is_as_it_is" (spP K (prAsIs c))) (c_TemplateCheck_wrong_word : C8.Met P w K mg base 3 c.T "wrong_word" (spW K (WT K c) (prTW c)) []) (Df : DefM K c.T "wrong_item" "TemplateCheck.wrong_item" s_TemplateCheck_wrong_item ["self", "row", "k", "depth", "as_it_is"]) (c_is_repeat : CalO P w K mg base 2 "is_repeat" (spP K (prRepeat c))) (c_has_name : CalO P w K mg base 2 "has_name" (spW K (DR K) (prHas c))): ∀ n : Nat, C8.Met P w K mg base (4 + 2 * n) c.T "wrong" (spW K (WT K c) ((prT c) n)) [] := by
  intro n
  induction n with
  | zero =>
    refine metO D sc_TemplateCheck_wrong (fun vs H Q E h => ?_) (fun cdv f A outer s H vs Q E hr h => ?_)
    · obtain ⟨th, ws, g, P, ⟨t, p, d, s, rfl, hd, sz, ik, z⟩, hv, _⟩ := h
      exact hv.len
    · obtain ⟨th, ws, g, P, ⟨t, p, d, s, rfl, hd, sz, ik, z⟩, hv, hj, hs, q⟩ := h
      exfalso; omega
  | succ n c_TemplateCheck_wrong =>
  rw [show 4 + 2 * (n + 1) = (4 + 2 * n + 1) + 1 by omega]
  have c_TemplateCheck_wrong_item := c_TemplateCheck_wrong_item (n := n) T Df c_is_repeat c_has_name c_TemplateCheck_wrong
  refine metO D sc_TemplateCheck_wrong (fun vs H Q E h => ?_) (fun cdv f A outer s H vs Q E hr h => ?_)
  · obtain ⟨th, ws, g, P, ⟨t, p, d, s, rfl, hd, sz, ik, z⟩, hv, _⟩ := h
    exact hv.len
  · obtain ⟨th, ws, g, P, ⟨t, p, d, s, rfl, hd, sz, ik, z⟩, hv, hj, hs, q⟩ := h
    have hu := hu_of hr
    refine ⟨_, pss_cons (ps_if (PW.pt (pw_and (pt_not (pt_val (pv 3))) (pw_and1 (pt_val (pe_WO c_is_as_it_is hr (by omega) (by rfl) (pa_cons (pv 1) pa_nil))))))
        (pss_cons (ps_set (i := 1) sc_TemplateCheck_wrong.nd rfl (Or.inl rfl) (pe_ix ix_tup (pe_fld (pv 1) rfl) pe_int (fun _ _ => rfl)))
        (pss_one (ps_set (i := 3) sc_TemplateCheck_wrong.nd rfl (Or.inl rfl) pe_bl)))
        (pss_nil))
      (pss_cons (ps_if (pt_val (pe_callB call_isi (by rfl) T.isinstance (by decide +kernel) (pa_cons (pv 1) (pa_cons (C8.pe_gc (by rfl) T.g_Word) pa_nil))))
        (pss_one (ps_ret (pe_ifExp (pt_val (C8.pe_mt c_TemplateCheck_wrong_word hr (by omega) (pv 0) (pa_cons (pv 1) (pa_cons (pv 2) (pa_cons (pv 3) pa_nil))))) (pv 1) pe_non)))
        (pss_nil))
      (pss_cons (ps_if (pt_not (pt_val (pe_callB call_isi (by rfl) T.isinstance (by decide +kernel) (pa_cons (pv 1) (pa_cons (C8.pe_gc (by rfl) T.g_Row) pa_nil)))))
        (pss_one (ps_ret (pe_non)))
        (pss_nil))
      (pss_cons (ps_for PassesOwn.never rfl (pi_range1 (by rfl) T.range (pa_cons (pe_callB call_lenO (by rfl) T.len (by decide +kernel) (pa_cons (pe_fld (pv 1) rfl) pa_nil)) pa_nil)) (pg_name (i := 4) sc_TemplateCheck_wrong.nd rfl (Or.inl rfl))
        (pss_cons (ps_set (i := 5) sc_TemplateCheck_wrong.nd rfl (Or.inl rfl) (C8.pe_mt c_TemplateCheck_wrong_item hr (by omega) (pv 0) (pa_cons (pv 1) (pa_cons (pv 4) (pa_cons (pv 2) (pa_cons (pv 3) pa_nil))))))
        (pss_one (ps_if (pt_cmpR op_notN1 (pv 5) pe_non (nomark _))
          (pss_one (ps_ret (pv 5)))
          (pss_nil)))))
      (pss_one (ps_ret (C8.pe_mt c_TemplateCheck_wrong hr (by omega) (pv 0) (pa_cons (pe_fld (pv 1) rfl) (pa_cons (pv 2) (pa_cons (pv 3) pa_nil))))))))), ?_⟩
    refine bodyW hv hj hs q (Nat.le_of_ble_eq_true rfl) ?_
    try dsimp only [cx_K]
    refine wS_seq (wS.mono (O := { nx := fun ρ2 g2 => ∃ (t2 : Tm) (p2 : List PyData) (s2 : Bool), ρ2 = [.z (.ref th.p), .d (nodeD c t2 p2), .d (.int d), .d (.bool s2), .no, .no] ∧ g2 = g ∧ t2.dp < n + 1 ∧ t2.sz ≤ 14000 ∧ (s2 = true ∨ asT t2 = false) ∧ tw g t p d s = tw g t2 p2 d s2, rt := fun _ _ => False }) ?_ ?_ (fun _ _ z => z.elim) (fun _ _ z => z.elim) (fun _ _ z => z.elim))
    · cases s with
      | true =>
        walk_at "w"
        exact ⟨t, p, true, rfl, rfl, hd, sz, .inl rfl, rfl⟩
      | false =>
        walk_at "w"
        refine ⟨t, p, rfl, ?_⟩
        walk_at "w"
        refine ite_b (fun hb => ?_) (fun hb => ?_)
        · match t, hb with
          | .l [a, b] u, hb =>
            have hd' : max (max a.dp (max b.dp 0)) u.dp + 1 < n + 1 := hd
            have sz' : a.sz + (b.sz + 0) + u.sz + 1 ≤ 14000 := sz
            dsimp only [nodeD, nodesD]
            walk_at "w"
            refine ⟨b, p ++ [.int (1 : Nat)], true, rfl, rfl, by omega, by omega, .inl rfl, ?_⟩
            unfold tw
            rw [if_neg (by decide), if_pos rfl, twN, if_pos (show asIs [a, b] u = true from hb)]
        · walk_at "w"
          exact ⟨t, p, false, rfl, rfl, hd, sz, .inr hb, rfl⟩
    · rintro ρ2 g2 ⟨t2, p2, s2, rfl, rfl, hd2, sz2, has, htw⟩
      rw [htw] at z
      dsimp only
      cases t2 with
      | w x =>
        dsimp only [nodeD]
        walk_at "w"
        refine ⟨x, p2, d, s2, rfl, ik, ?_⟩
        walk_at "w"
        refine ite_b (fun hb => ?_) (fun hb => ?_)
        · walk_at "w"
          cases s2 with
          | true => rw [tw, if_pos rfl, twA, if_pos hb] at z; exact z
          | false => rw [tw, if_neg (by decide), twN, if_pos hb] at z; exact z
        · walk_at "w"
          cases s2 with
          | true => rw [tw, if_pos rfl, twA, if_neg (by rw [hb]; decide)] at z; exact z
          | false => rw [tw, if_neg (by decide), twN, if_neg (by rw [hb]; decide)] at z; exact z
      | i k => dsimp only [nodeD]; walk_at "w"; cases s2 <;> exact z
      | b k => dsimp only [nodeD]; walk_at "w"; cases s2 <;> exact z
      | u => dsimp only [nodeD]; walk_at "w"; cases s2 <;> exact z
      | l xs u =>
        have hd' : max (dpL xs) u.dp + 1 < n + 1 := hd2
        have sz' : szL xs + u.sz + 1 ≤ 14000 := sz2
        have hxl := szL_len xs
        rw [tw_row has] at z
        dsimp only [nodeD]
        walk_at "w"
        refine ⟨(nodesD c xs p2 0).length, rfl, by omega, by rw [nodesD_len]; omega, ?_⟩
        rw [nodesD_len, Int.toNat_natCast]
        refine ⟨fun i ρ g' => g' = g2 ∧ ∃ (e1 e2 : Wd), ρ = [.z (.ref th.p), .d (nRd c (nodesD c xs p2 0) (nodeD c u (tp p2 xs u)) p2), .d (.int d), .d (.bool s2), e1, e2] ∧ twC g2 xs u p2 i d s2 = twC g2 xs u p2 0 d s2, ⟨rfl, .no, .no, rfl, rfl⟩, fun _ _ _ _ => trivial, ?_, ?_⟩
        · rintro i d1 ρ' g' hdd ⟨rfl, e1, e2, rfl, h1⟩
          obtain ⟨rfl, hi⟩ := intsD_get hdd
          rw [show (0 : Int) + (i : Int) * 1 = (i : Int) by omega]
          have hx : xs[i]? = some xs[i] := List.getElem?_eq_getElem hi
          have hm := List.mem_of_getElem? hx
          have m1 := dpL_mem hm
          have m2 := szL_mem hm
          generalize xs[i] = x at hx m1 m2
          rw [twC_item hx] at h1
          walk_at "w"
          refine ⟨xs, u, x, p2, i, d, s2, rfl, hx, by omega, by omega, by omega, ik, ?_⟩
          cases hq : twI g' xs p2 i x d s2 with
          | some e =>
            rw [hq] at h1
            obtain ⟨te, pe⟩ := e
            dsimp only [oN] at h1 ⊢
            walk_at "w"
            rw [isNo_node]
            walk_at "w"
            rw [← h1] at z
            exact z
          | none =>
            rw [hq] at h1
            dsimp only [oN] at h1 ⊢
            walk_at "w"
            exact ⟨rfl, .d (.int i), .d .none, rfl, h1⟩
        · rintro ρ' g' ⟨rfl, e1, e2, rfl, h1⟩
          rw [intsD_len, twC_end (Nat.le_refl _)] at h1
          walk_at "w"
          refine ⟨u, tp p2 xs u, d, s2, rfl, by omega, by omega, ik, ?_⟩
          rw [h1]
          exact z
end
end

section
open PySem PySem.Spec PyProof.Rows L2 Kt Evl
section
variable {P : Program} {w : World} {K : PySem.W.Frag} {mg : Str → Option Value} {base : Heap} {c : Cs}
def spTI (c : Cs) : Sp := fun vs H Q _ => ∃ (p dx a : Addr), vs = [.ref p, .ref a] ∧ H p = some (.ins c.T dx []) ∧ ∀ (H' : Hp), (∀ q o, q ≠ p → H q = some o → H' q = some o) → H' p = some (.ins c.T dx (nsT.zip [.ref a])) → Q .non H'
abbrev s_TemplateCheck : Stmt := inClass (topS 23) 0
theorem sc_TemplateCheck : FnScope ["self", "names"] ["self", "names"] (defScope s_TemplateCheck) := ⟨rfl, rfl, rfl, by decide +kernel, rfl, by decide +kernel, by decide +kernel⟩
theorem c_TemplateCheck (T : Txt K mg c) (D : DefI K mg "TemplateCheck" c.T "TemplateCheck.__init__" s_TemplateCheck ["self", "names"]) : C8.Mak P w K mg base 1 "TemplateCheck" c.T (spTI c) [] := by
  refine makO D sc_TemplateCheck (fun vs H Q E h => ?_) (fun cdv f A outer s H vs Q E hr h => ?_)
  · obtain ⟨p, dx, a, rfl, _⟩ := h
    rfl
  · obtain ⟨p, dx, a, rfl, hp, k⟩ := h
    refine ⟨_, pss_one (ps_fld (pv 0) (pv 1) rfl), ?_⟩
    refine ini_one (v := .ref a) (m := 0) hp ?_ T.cT.ic.cl (T.cT.at 0 rfl) ?_ (by decide) ?_ ?_
    · rfl
    · exact (Nat.le_refl 0)
    · intro Q q; exact ⟨_, rfl, q⟩
    exact k _ (keep_upd keep0) upd_same
/-- TemplateCheck(names).wrong(template, 0, False) -/
theorem wE_checkT {n m i j : Nat} {a : Addr} {H0 : Hp} {ρ : List Wd} {g : List (Key × PyData)} {Q : Wd → List (Key × PyData) → Prop} {t : Tm} {p : List PyData}
    (hi : ρ[i]? = some (.z (.ref a))) (hin : i < m) (hj : ρ[j]? = some (.d (nodeD c t p))) (hjn : j < m) (ht : t.dp < n) (sz : t.sz ≤ 14000) (ik : intK g) (q : Q (.d (oN c (twN g t p 0))) g) :
    wE ⟨K, DR K a, H0, m⟩ (tMeth c.T "wrong" (spW K (WT K c) (prT c n)) [] C8.E0 (tMake c.T (spTI c) [] C8.E0 (tCons (tVar i) tNil)) (tCons (tVar j) (tCons (tC (.int 0)) (tCons (tC (.bl false)) tNil)))) ρ g Q := fun σ H C R k => by
  obtain ⟨u, s1, s2⟩ := RelN.sl R hi hin
  obtain rfl : u = some (.ref a) := s2
  obtain ⟨u, s3, v, rfl, s4⟩ := RelN.sl R hj hjn
  have jR : DkAt K H a g ∧ flatK g := RelN.j R
  obtain ⟨⟨ks, ha, wa⟩, fg⟩ := jR
  refine ⟨.ref a, s1, ?_⟩
  intro x dx nx ndx nex
  refine ⟨x, dx, a, rfl, upd_same, fun H3 hk hxx => ⟨rfl, ?_⟩⟩
  have e3 : Ex H H3 := fun q o ho => hk q o (ne_of_none ho nx) (by rw [upd_ne (ne_of_none ho nx), upd_ne (ne_of_none ho ndx)]; exact ho)
  refine ⟨x, dx, _, rfl, hxx, lookup_none (by decide +kernel), ?_⟩
  refine ⟨v, s3, ?_⟩
  refine ⟨⟨x, a⟩, [.z (.ref x), .d (nodeD c t p), .d (.int 0), .d (.bool false)], g, fun w g' => w = .d (oN c (twN g t p 0)), ⟨t, p, 0, false, rfl, ht, sz, ik, rfl⟩, .cons rfl (.cons (Tw.mono (Tx.ex e3) s4) (.cons (.int 0) (.cons (.bl false) .nil))), ?_, ?_, ?_⟩
  · exact ⟨⟨dx, hxx⟩, ⟨ks, e3 _ _ ha, wa.mono (Tx.ex e3)⟩, fg⟩
  · intro q hq
    rcases List.mem_cons.mp hq with rfl | hq
    · rw [hxx]; exact fun z => by cases z
    · rw [List.mem_singleton.mp hq, e3 _ _ ha]; exact fun z => by cases z
  · rintro v' H' w g' e j hw rfl
    have e4 : Ex H H' := fun q o ho => e q o (fun z => by cases z) (e3 q o ho)
    exact k v' H' (.d (oN c (twN g t p 0))) g (ExM.of e4) ⟨⟨ks, e4 _ _ ha, wa.mono (Tx.ex e4)⟩, fg⟩ hw q
def prTF (c : Cs) (n : Nat) : Addr → List Wd → List (Key × PyData) → (Wd → List (Key × PyData) → Prop) → Prop := fun a ws g P => ∃ (t : Tm) (p : List PyData), ws = [.z (.ref a), .d (nodeD c t p)] ∧ t.dp < n ∧ t.sz ≤ 14000 ∧ intK g ∧ P (.d (oN c (twN g t p 0))) g
variable {n : Nat}
abbrev s_template_fault : Stmt := topS 24
theorem sc_template_fault : FnScope ["names", "template"] ["names", "template"] (defScope s_template_fault) := ⟨rfl, rfl, rfl, by decide +kernel, rfl, by decide +kernel, by decide +kernel⟩
theorem c_template_fault (T : Txt K mg c) (D : DefG K mg "template_fault" s_template_fault ["names", "template"]) (c_TemplateCheck : C8.Mak P w K mg base 1 "TemplateCheck" c.T (spTI c) []) (c_TemplateCheck_wrong : C8.Met P w K mg base (4 + 2 * n) c.T "wrong" (spW K (WT K c) (prT c n)) []) : CalO P w K mg base (4+2*n+1) "template_fault" (spW K (DR K) (prTF c n)) := by
  refine calO D sc_template_fault (fun vs H Q E h => ?_) (fun cdv f A outer s H vs Q E hr h => ?_)
  · obtain ⟨th, ws, g, P, ⟨t, p, rfl, hd, hz, ik, z⟩, hv, _⟩ := h
    exact hv.len
  · obtain ⟨th, ws, g, P, ⟨t, p, rfl, hd, hz, ik, z⟩, hv, hj, hs, q⟩ := h
    have hu := hu_of hr
    refine ⟨_, pss_one (ps_ret (C8.pe_mt c_TemplateCheck_wrong hr (by omega) (C8.pe_mk c_TemplateCheck hr (by omega) (by rfl) (pa_cons (pv 0) pa_nil)) (pa_cons (pv 1) (pa_cons pe_int (pa_cons pe_bl pa_nil))))), ?_⟩
    refine bodyW hv hj hs q (Nat.le_of_ble_eq_true rfl) ?_
    try dsimp only [cx_K]
    walk_at "w"
    exact wE_checkT (t := t) (p := p) rfl (Nat.le_of_ble_eq_true rfl) rfl (Nat.le_of_ble_eq_true rfl) hd hz ik z
def nmW (q : Str × List PyData × Int) : PyData := .tuple [.str q.1, .int q.2.2]
/-- the names of a pattern, and how deep they stand -/
def nmP (l : List (Key × PyData)) (ys : List Tm) (t : Tm) (p : List PyData) : List (Str × List PyData × Int) := nmL l (ys.drop 1) p 1 0 ++ nmT l t (tp p ys t) 0
theorem hJR : ∀ (a : Addr) (H : Hp) (kvs : List (Key × PyData)), DkAt K H a kvs → flatK kvs → (DR K a).J kvs H := fun a H kvs h f => ⟨h, f⟩
theorem flat_keys (xs : List Str) : flatK (keysK xs) := by
  have h : ∀ (xs : List Str) (acc : List (Key × PyData)), flatK acc → flatK (xs.foldl (fun acc x => kPut acc (.inr x) (.bool true)) acc) := by
    intro xs
    induction xs with
    | nil => intro acc h; exact h
    | cons x r ih => intro acc h; exact ih _ (flatK_put h rfl)
  exact h xs [] (fun kv h => by cases h)
local macro_rules | `(tactic| walk_at "wE") => `(tactic| ((with_reducible refine' wE_callK (Ω := DR _) (gk := fun g => g) ?j ?m ?a ?q); (case j => exact hJR); (case m => exact fun _ => rfl); (case a => exact fun a b h => List.mem_singleton.mp h)))
def prNamed (c : Cs) (n : Nat) : List Wd → (Wd → Prop) → Prop := fun ws P => ∃ (xs : List Str) (ys : List Tm) (t : Tm) (p : List PyData), ws = [.d (.tuple (xs.map .str)), .d (nodeD c (.l ys t) p)] ∧ xs.length ≤ 100 ∧ 1 ≤ ys.length ∧ dpL ys < n ∧ t.dp < n ∧ szL ys + t.sz ≤ 10000 ∧ P (.o ((nmP (keysK xs) ys t p).map nmW))
abbrev s_named : Stmt := topS 27
theorem sc_named : FnScope ["literals", "pattern", "word", "depth"] ["literals", "pattern"] (defScope s_named) := ⟨rfl, rfl, rfl, by decide +kernel, rfl, by decide +kernel, by decide +kernel⟩
theorem c_named (T : Txt K mg c) (D : DefG K mg "named" s_named ["literals", "pattern"]) (c_names_from : CalO P w K mg base (3 + 2 * n + 1) "names_from" (spW K (DR K) (prNfr c n))) (c_keys_of : CalO P w K mg base 1 "keys_of" (spP K prKeys)) : CalO P w K mg base (3+2*n+1+1) "named" (spP K (prNamed c n)) := by
  refine calO D sc_named (fun vs H Q E h => ?_) (fun cdv f A outer s H vs Q E hr h => ?_)
  · obtain ⟨ws, P, ⟨xs, ys, t, p, rfl, hx, hy, hd, ht, hz, z⟩, hv, _⟩ := h
    exact hv.len
  · obtain ⟨ws, P, ⟨xs, ys, t, p, rfl, hx, hy, hd, ht, hz, z⟩, hv, q⟩ := h
    have hu := hu_of hr
    refine ⟨_, pss_one (ps_ret (pe_lc (own := [("word", 2), ("depth", 3)]) (g := _) (tt := tYes) (by rfl) sc_named.nd (pi_list (pe_WO c_names_from hr (by omega) (by rfl) (pa_cons (pe_WO c_keys_of hr (by omega) (by rfl) (pa_cons (pv 0) pa_nil)) (pa_cons (pv 1) (pa_cons pe_int (pa_cons pe_int pa_nil)))))) (blkOk_by (own := [("word", 2), ("depth", 3)]) (N := ["literals", "pattern", "word", "depth"]) (sc := defScope s_named) (by decide +kernel)) (fun _ _ _ _ _ => pg_tupB (n := 2) (pg_tup rfl (pgs_cons (pg_name (i := 2) sc_named.nd rfl (Or.inl rfl)) (pgs_cons (pg_name (i := 3) sc_named.nd rfl (Or.inl rfl)) pgs_nil)))) (fun _ _ _ _ _ => pts_nil) (fun _ _ _ _ _ => pe_tup (pa_cons (pe_fldB (pv 2) rfl) (pa_cons (pv 3) pa_nil))))), ?_⟩
    refine bodyP hv q (Nat.le_of_ble_eq_true rfl) ?_
    try dsimp only [cx_K]
    walk_at "w"
    refine ⟨xs, rfl, hx, keysK xs, rfl, flat_keys xs, fun a => ?_⟩
    walk_at "w"
    refine ⟨ys, t, p, 1, 0, rfl, hy, hd, ht, hz, ?_⟩
    rw [show nmL (keysK xs) (ys.drop 1) p 1 0 ++ nmT (keysK xs) t (tp p ys t) 0 = nmP (keysK xs) ys t p from rfl]
    have hl : (nmP (keysK xs) ys t p).length ≤ 10000 := by
      have h1 := nmL_len (keysK xs) (ys.drop 1) p 1 0
      have h2 := nmT_len (keysK xs) t (tp p ys t) 0
      have h3 := szL_drop ys 1
      unfold nmP
      rw [List.length_append]
      omega
    generalize nmP (keysK xs) ys t p = L at hl z
    walk_at "w"
    refine fun v => ⟨fun i acc _ => acc = (L.take i).map nmW, fun _ => rfl, rfl, ?_, ?_⟩
    · rintro i d acc g' v1 hd1 rfl
      rw [List.getElem?_map] at hd1
      cases hq : L[i]? with
      | none => rw [hq] at hd1; cases hd1
      | some q =>
        rw [hq] at hd1
        cases hd1
        walk_at "w"
        refine q_Sz ?_ (szO (by rw [List.length_map, List.length_take]; omega))
        show _ = (L.take (i + 1)).map nmW
        rw [List.take_succ, hq, List.map_append]
        rfl
    · rintro acc g' rfl
      rw [List.length_map, List.take_length]
      exact z
theorem fld_path (T : Txt K mg c) {t : Tm} {p : List PyData} {P : PyData → Prop} (q : P (.tuple p)) : Fld K "path" P (.d (nodeD c t p)) := by
  cases t with
  | w x => exact q_fld (C := c.W) (ns := nsW) 2 T.cW.ic.cl (T.cW.at 2 rfl) ndW rfl rfl q
  | i k => exact q_fld (C := c.F) (ns := nsF) 1 T.cF.ic.cl (T.cF.at 1 rfl) ndF rfl rfl q
  | b k => exact q_fld (C := c.F) (ns := nsF) 1 T.cF.ic.cl (T.cF.at 1 rfl) ndF rfl rfl q
  | u => exact q_fld (C := c.F) (ns := nsF) 1 T.cF.ic.cl (T.cF.at 1 rfl) ndF rfl rfl q
  | l xs t => exact q_fld (C := c.R) (ns := nsR) 2 T.cR.ic.cl (T.cR.at 2 rfl) ndR rfl rfl q
/-- the dict of a pattern's names -/
def nmK (L : List (Str × List PyData × Int)) : Kv := mergeD [] (L.map fun q => (Sum.inr q.1, PyData.int q.2.2))
def rfT (l : List (Key × PyData)) (pt tm : Tm) : PyData :=
  match pfT l pt [] with
  | some (_, p) => .tuple [.str "pattern", .tuple p]
  | none =>
    match pt with
    | .l ys t =>
      match twN (nmK (nmP l ys t [])) tm [] 0 with
      | some (_, p) => .tuple [.str "template", .tuple p]
      | none => .none
    | _ => .none
theorem kGet_cons (k' : Key) (d' : PyData) (r : Kv) (k : Key) : kGet ((k', d') :: r) k = if k' = k then some d' else kGet r k := by
  unfold kGet
  by_cases h : k' = k
  · rw [List.find?_cons_of_pos (by simpa using h), if_pos h]; rfl
  · rw [List.find?_cons_of_neg (by simpa using h), if_neg h]
theorem kGet_app (a b : Kv) (k : Key) : kGet (a ++ b) k = (match kGet a k with | some d => some d | none => kGet b k) := by
  induction a with
  | nil => rfl
  | cons kv r ih =>
    obtain ⟨k', d'⟩ := kv
    rw [List.cons_append, kGet_cons, kGet_cons]
    by_cases h : k' = k
    · rw [if_pos h, if_pos h]
    · rw [if_neg h, if_neg h, ih]
theorem kGet_map (kvs : Kv) (k k' : Key) (d : PyData) : kGet (kvs.map fun kv => if kv.1 = k then (kv.1, d) else kv) k' = (kGet kvs k').map fun e => if k' = k then d else e := by
  induction kvs with
  | nil => rfl
  | cons kv r ih =>
    obtain ⟨k1, d1⟩ := kv
    rw [List.map_cons]
    by_cases h : k1 = k
    · rw [if_pos h, kGet_cons, kGet_cons, ih]
      by_cases h2 : k1 = k'
      · rw [if_pos h2, if_pos h2]
        show some d = some (if k' = k then d else d1)
        rw [if_pos (h2 ▸ h)]
      · rw [if_neg h2, if_neg h2]
    · rw [if_neg h, kGet_cons, kGet_cons, ih]
      by_cases h2 : k1 = k'
      · rw [if_pos h2, if_pos h2]
        show some d1 = some (if k' = k then d else d1)
        rw [if_neg (h2 ▸ h)]
      · rw [if_neg h2, if_neg h2]
theorem kAny (kvs : Kv) (k : Key) : (kvs.any fun kv => decide (kv.1 = k)) = (kGet kvs k).isSome := by
  induction kvs with
  | nil => rfl
  | cons kv r ih =>
    obtain ⟨k1, d1⟩ := kv
    rw [List.any_cons, kGet_cons, ih]
    by_cases h : k1 = k
    · rw [if_pos h, decide_eq_true h]; rfl
    · rw [if_neg h, decide_eq_false h]; rfl
theorem kGet_put (kvs : Kv) (k k' : Key) (d : PyData) : kGet (kPut kvs k d) k' = if k' = k then some d else kGet kvs k' := by
  unfold kPut
  rw [kAny]
  cases hg : kGet kvs k with
  | some e =>
    rw [if_pos (show (some e).isSome = true from rfl), kGet_map]
    by_cases h : k' = k
    · subst h
      rw [hg, if_pos (rfl : k' = k')]
      show some (if k' = k' then d else e) = some d
      rw [if_pos (rfl : k' = k')]
    · rw [if_neg h]
      cases kGet kvs k' with
      | none => rfl
      | some y => show some (if k' = k then d else y) = some y; rw [if_neg h]
  | none =>
    rw [if_neg (show ¬ ((none : Option PyData).isSome = true) by decide), kGet_app, kGet_cons]
    by_cases h : k' = k
    · subst h
      rw [hg, if_pos rfl, if_pos rfl]
    · rw [if_neg (fun e => h e.symm), if_neg h]
      cases kGet kvs k' <;> rfl
theorem intK_put {g : Kv} {k : Key} {z : Int} (h : intK g) : intK (kPut g k (.int z)) := fun k' d e => by
  rw [kGet_put] at e
  by_cases hk : k' = k
  · rw [if_pos hk] at e
    exact ⟨z, (Option.some.inj e).symm⟩
  · rw [if_neg hk] at e
    exact h _ _ e
theorem nmK_fold : ∀ (L : List (Str × List PyData × Int)) (acc : Kv), flatK acc → intK acc → flatK (mergeD acc (L.map fun q => (Sum.inr q.1, PyData.int q.2.2))) ∧ intK (mergeD acc (L.map fun q => (Sum.inr q.1, PyData.int q.2.2)))
  | [], acc, h1, h2 => ⟨h1, h2⟩
  | q :: r, acc, h1, h2 => nmK_fold r (kPut acc (.inr q.1) (.int q.2.2)) (flatK_put h1 rfl) (intK_put h2)
theorem nmK_ok (L : List (Str × List PyData × Int)) : flatK (nmK L) ∧ intK (nmK L) := nmK_fold L [] (fun kv h => by cases h) (fun k d e => by cases e)
def prRF (c : Cs) (n : Nat) : List Wd → (Wd → Prop) → Prop := fun ws P => ∃ (xs : List Str) (pt tm : Tm), ws = [.d (.tuple (xs.map .str)), .d pt.py, .d tm.py] ∧ xs.length ≤ 100 ∧ pt.ok ∧ tm.ok ∧ pt.dp < n ∧ tm.dp < n ∧ n ≤ 30 ∧ pt.sz ≤ 10000 ∧ tm.sz ≤ 10000 ∧ (∀ ys u, pt = .l ys u → 1 ≤ ys.length) ∧ P (.d (rfT (keysK xs) pt tm))
abbrev s_rule_fault : Stmt := topS 28
theorem sc_rule_fault : FnScope ["literals", "pattern", "template", "head", "wrong"] ["literals", "pattern", "template"] (defScope s_rule_fault) := ⟨rfl, rfl, rfl, by decide +kernel, rfl, by decide +kernel, by decide +kernel⟩
theorem c_rule_fault (T : Txt K mg c) (D : DefG K mg "rule_fault" s_rule_fault ["literals", "pattern", "template"]) (c_node_of : CalO P w K mg base (2 + n) "node_of" (spP K (prNode c n))) (c_pattern_fault : CalO P w K mg base (4+2*n+1+1) "pattern_fault" (spW K (DR K) (prPF c n))) (c_template_fault : CalO P w K mg base (4+2*n+1) "template_fault" (spW K (DR K) (prTF c n))) (c_keys_of : CalO P w K mg base 1 "keys_of" (spP K prKeys)) (c_named : CalO P w K mg base (3+2*n+1+1) "named" (spP K (prNamed c n))) : CalO P w K mg base (4+2*n+1+1+1) "rule_fault" (spP K (prRF c n)) := by
  refine calO D sc_rule_fault (fun vs H Q E h => ?_) (fun cdv f A outer s H vs Q E hr h => ?_)
  · obtain ⟨ws, P, ⟨xs, pt, tm, rfl, hx, op, ot, dp, dt, hn, sp, st, hne, z⟩, hv, _⟩ := h
    exact hv.len
  · obtain ⟨ws, P, ⟨xs, pt, tm, rfl, hx, op, ot, dp, dt, hn, sp, st, hne, z⟩, hv, q⟩ := h
    have hu := hu_of hr
    refine ⟨_, pss_cons (ps_set (i := 3) sc_rule_fault.nd rfl (Or.inl rfl) (pe_WO c_node_of hr (by omega) (by rfl) (pa_cons (pv 1) (pa_cons (pe_tup pa_nil) pa_nil))))
      (pss_cons (ps_set (i := 4) sc_rule_fault.nd rfl (Or.inl rfl) (pe_WO c_pattern_fault hr (by omega) (by rfl) (pa_cons (pe_WO c_keys_of hr (by omega) (by rfl) (pa_cons (pv 0) pa_nil)) (pa_cons (pv 3) pa_nil))))
      (pss_cons (ps_if (pt_cmpR op_notN1 (pv 4) pe_non (nomark _))
        (pss_one (ps_ret (pe_tup (pa_cons pe_str (pa_cons (pe_fld (pv 4) rfl) pa_nil)))))
        (pss_nil))
      (pss_cons (ps_set (i := 4) sc_rule_fault.nd rfl (Or.inl rfl) (pe_WO c_template_fault hr (by omega) (by rfl) (pa_cons (pe_callTy (call_dP rfl) (by rfl) T.dict (by decide +kernel) (pa_cons (pe_WO c_named hr (by omega) (by rfl) (pa_cons (pv 0) (pa_cons (pv 3) pa_nil))) pa_nil)) (pa_cons (pe_WO c_node_of hr (by omega) (by rfl) (pa_cons (pv 2) (pa_cons (pe_tup pa_nil) pa_nil))) pa_nil))))
      (pss_one (ps_ret (pe_ifExp (pt_cmpR op_isN1 (pv 4) pe_non (nomark _)) pe_non (pe_tup (pa_cons pe_str (pa_cons (pe_fld (pv 4) rfl) pa_nil))))))))), ?_⟩
    refine bodyP hv q (Nat.le_of_ble_eq_true rfl) ?_
    try dsimp only [cx_K]
    walk_at "w"
    refine ⟨pt, [], rfl, op, dp, by omega, by omega, by show 0 + pt.dp ≤ 100; omega, ?_⟩
    dsimp only
    walk_at "w"
    refine ⟨xs, rfl, hx, keysK xs, rfl, flat_keys xs, fun a => ?_⟩
    walk_at "w"
    refine ⟨pt, [], rfl, by omega, by omega, hne, ?_⟩
    unfold rfT at z
    cases hq : pfT (keysK xs) pt [] with
    | some e =>
      obtain ⟨te, pe⟩ := e
      rw [hq] at z
      dsimp only [oN] at z ⊢
      walk_at "w"
      rw [isNo_node]
      walk_at "w"
      refine fld_path T ?_
      walk_at "w"
      exact z
    | none =>
      rw [hq] at z
      cases pt with
      | l ys t =>
        have dp' : max (dpL ys) t.dp + 1 < n := dp
        have sp' : szL ys + t.sz + 1 ≤ 10000 := sp
        dsimp only [oN] at z ⊢
        walk_at "w"
        refine ⟨xs, ys, t, [], rfl, hx, hne ys t rfl, by omega, by omega, by omega, ?_⟩
        walk_at "w"
        refine wC_dictP (kvs := (nmP (keysK xs) ys t []).map fun q => (Sum.inr q.1, PyData.int q.2.2)) (by rw [List.map_map]; rfl) ?_
        generalize nmP (keysK xs) ys t [] = L at z
        refine ⟨nmK L, rfl, (nmK_ok L).1, fun a => ?_⟩
        walk_at "w"
        refine ⟨tm, [], rfl, ot, dt, by omega, by omega, by show 0 + tm.dp ≤ 100; omega, ?_⟩
        walk_at "w"
        refine ⟨tm, [], rfl, dt, by omega, (nmK_ok L).2, ?_⟩
        cases hr : twN (nmK L) tm [] 0 with
        | some e =>
          obtain ⟨te, pe⟩ := e
          rw [hr] at z
          dsimp only [oN] at z ⊢
          walk_at "w"
          rw [isNo_node]
          walk_at "w"
          refine fld_path T ?_
          walk_at "w"
          exact z
        | none =>
          rw [hr] at z
          dsimp only [oN] at z ⊢
          walk_at "w"
          exact z
      | w x => cases hq
      | i k => cases hq
      | b k => cases hq
      | u => cases hq
def prPN (c : Cs) (n : Nat) : List Wd → (Wd → Prop) → Prop := fun ws P => ∃ (xs : List Str) (ys : List Tm) (t : Tm), ws = [.d (.tuple (xs.map .str)), .d (Tm.l ys t).py] ∧ xs.length ≤ 100 ∧ (Tm.l ys t).ok ∧ 1 ≤ ys.length ∧ (Tm.l ys t).dp < n ∧ n ≤ 30 ∧ (Tm.l ys t).sz ≤ 10000 ∧ P (.d (.tuple ((nmP (keysK xs) ys t []).map nmW)))
abbrev s_pattern_names : Stmt := topS 29
theorem sc_pattern_names : FnScope ["literals", "pattern"] ["literals", "pattern"] (defScope s_pattern_names) := ⟨rfl, rfl, rfl, by decide +kernel, rfl, by decide +kernel, by decide +kernel⟩
theorem c_pattern_names (T : Txt K mg c) (D : DefG K mg "pattern_names" s_pattern_names ["literals", "pattern"]) (c_node_of : CalO P w K mg base (2 + n) "node_of" (spP K (prNode c n))) (c_named : CalO P w K mg base (3+2*n+1+1) "named" (spP K (prNamed c n))) : CalO P w K mg base (3+2*n+1+1+1) "pattern_names" (spP K (prPN c n)) := by
  refine calO D sc_pattern_names (fun vs H Q E h => ?_) (fun cdv f A outer s H vs Q E hr h => ?_)
  · obtain ⟨ws, P, ⟨xs, ys, t, rfl, hx, ok, hy, hd, hn, hz, z⟩, hv, _⟩ := h
    exact hv.len
  · obtain ⟨ws, P, ⟨xs, ys, t, rfl, hx, ok, hy, hd, hn, hz, z⟩, hv, q⟩ := h
    have hu := hu_of hr
    refine ⟨_, pss_one (ps_ret (pe_callTy call_tupO (by rfl) T.tuple (by decide +kernel) (pa_cons (pe_WO c_named hr (by omega) (by rfl) (pa_cons (pv 0) (pa_cons (pe_WO c_node_of hr (by omega) (by rfl) (pa_cons (pv 1) (pa_cons (pe_tup pa_nil) pa_nil))) pa_nil))) pa_nil))), ?_⟩
    refine bodyP hv q (Nat.le_of_ble_eq_true rfl) ?_
    try dsimp only [cx_K]
    have dp' : max (dpL ys) t.dp + 1 < n := hd
    have sp' : szL ys + t.sz + 1 ≤ 10000 := hz
    walk_at "w"
    refine ⟨.l ys t, [], rfl, ok, hd, by omega, by omega, by show 0 + (Tm.l ys t).dp ≤ 100; omega, ?_⟩
    walk_at "w"
    refine ⟨xs, ys, t, [], rfl, hx, hy, by omega, by omega, by omega, ?_⟩
    walk_at "w"
    exact z
end
end

section
open PySem PySem.Spec PyProof.Rows L2 Kt Evl
section
variable {P : Program} {w : World} {K : PySem.W.Frag} {mg : Str → Option Value} {base : Heap} {c : Cs}
/-! ### the law's walks -/
def Tm.isL : Tm → Bool
  | .l _ _ => true
  | _ => false
def Tm.isWd : Tm → Bool
  | .w _ => true
  | _ => false
def prLW : List Wd → (Wd → Prop) → Prop := fun ws P => ∃ x : Str, ws = [.d (.str x)] ∧ P (.d (Tm.w x).py)
abbrev s_law_w : Stmt := topS 34
theorem sc_law_w : FnScope ["word"] ["word"] (defScope s_law_w) := ⟨rfl, rfl, rfl, by decide +kernel, rfl, by decide +kernel, by decide +kernel⟩
theorem c_law_w (T : Txt K mg c) (D : DefG K mg "_law_w" s_law_w ["word"])  : CalO P w K mg base 1 "_law_w" (spP K prLW) := by
  refine calO D sc_law_w (fun vs H Q E h => ?_) (fun cdv f A outer s H vs Q E hr h => ?_)
  · obtain ⟨ws, P, ⟨x, rfl, z⟩, hv, _⟩ := h
    exact hv.len
  · obtain ⟨ws, P, ⟨x, rfl, z⟩, hv, q⟩ := h
    have hu := hu_of hr
    refine ⟨_, pss_one (ps_ret (pe_tup (pa_cons pe_str (pa_cons (pv 0) pa_nil)))), ?_⟩
    refine bodyP hv q (Nat.le_of_ble_eq_true rfl) ?_
    try dsimp only [cx_K]
    walk_at "w"
    exact z
def prIsL : List Wd → (Wd → Prop) → Prop := fun ws P => ∃ t : Tm, ws = [.d t.py] ∧ P (.d (.bool t.isL))
abbrev s_law_is_list : Stmt := topS 35
theorem sc_law_is_list : FnScope ["datum"] ["datum"] (defScope s_law_is_list) := ⟨rfl, rfl, rfl, by decide +kernel, rfl, by decide +kernel, by decide +kernel⟩
theorem c_law_is_list (T : Txt K mg c) (D : DefG K mg "_law_is_list" s_law_is_list ["datum"])  : CalO P w K mg base 1 "_law_is_list" (spP K prIsL) := by
  refine calO D sc_law_is_list (fun vs H Q E h => ?_) (fun cdv f A outer s H vs Q E hr h => ?_)
  · obtain ⟨ws, P, ⟨t, rfl, z⟩, hv, _⟩ := h
    exact hv.len
  · obtain ⟨ws, P, ⟨t, rfl, z⟩, hv, q⟩ := h
    have hu := hu_of hr
    refine ⟨_, pss_one (ps_ret (pe_and (pe_callB call_isi (by rfl) T.isinstance (by decide +kernel) (pa_cons (pv 0) (pa_cons (pe_bltn (v := .ty "tuple") (by rfl) T.tuple (by decide +kernel) rfl) pa_nil))) (pe_one (pe_cmpR op_eq (pe_callB call_lenO (by rfl) T.len (by decide +kernel) (pa_cons (pv 0) pa_nil)) pe_int (nomark _))))), ?_⟩
    refine bodyP hv q (Nat.le_of_ble_eq_true rfl) ?_
    try dsimp only [cx_K]
    cases t with
    | w x => dsimp only [Tm.py]; walk_at "w"; exact z
    | i k => dsimp only [Tm.py]; walk_at "w"; exact z
    | b k => dsimp only [Tm.py]; walk_at "w"; exact z
    | u => dsimp only [Tm.py]; walk_at "w"; exact z
    | l xs t => dsimp only [Tm.py]; walk_at "w"; exact z
def prIsW : List Wd → (Wd → Prop) → Prop := fun ws P => ∃ t : Tm, ws = [.d t.py] ∧ P (.d (.bool t.isWd))
abbrev s_law_is_word : Stmt := topS 36
theorem sc_law_is_word : FnScope ["datum"] ["datum"] (defScope s_law_is_word) := ⟨rfl, rfl, rfl, by decide +kernel, rfl, by decide +kernel, by decide +kernel⟩
theorem c_law_is_word (T : Txt K mg c) (D : DefG K mg "_law_is_word" s_law_is_word ["datum"])  : CalO P w K mg base 1 "_law_is_word" (spP K prIsW) := by
  refine calO D sc_law_is_word (fun vs H Q E h => ?_) (fun cdv f A outer s H vs Q E hr h => ?_)
  · obtain ⟨ws, P, ⟨t, rfl, z⟩, hv, _⟩ := h
    exact hv.len
  · obtain ⟨ws, P, ⟨t, rfl, z⟩, hv, q⟩ := h
    have hu := hu_of hr
    refine ⟨_, pss_one (ps_ret (pe_and (pe_callB call_isi (by rfl) T.isinstance (by decide +kernel) (pa_cons (pv 0) (pa_cons (pe_bltn (v := .ty "tuple") (by rfl) T.tuple (by decide +kernel) rfl) pa_nil))) (pe_one (pe_cmpR op_eq (pe_callB call_lenO (by rfl) T.len (by decide +kernel) (pa_cons (pv 0) pa_nil)) pe_int (nomark _))))), ?_⟩
    refine bodyP hv q (Nat.le_of_ble_eq_true rfl) ?_
    try dsimp only [cx_K]
    cases t with
    | w x => dsimp only [Tm.py]; walk_at "w"; exact z
    | i k => dsimp only [Tm.py]; walk_at "w"; exact z
    | b k => dsimp only [Tm.py]; walk_at "w"; exact z
    | u => dsimp only [Tm.py]; walk_at "w"; exact z
    | l xs t => dsimp only [Tm.py]; walk_at "w"; exact z
theorem eqv_mark (t : Tm) : PyData.eqv t.py (.tuple [.str "name", .str "&"]) = t.isW "&" := by
  cases t with
  | w x =>
    have e : PyData.eqv (Tm.w x).py (.tuple [.str "name", .str "&"]) = (x == ("&" : Str)) := by simp [Tm.py, PyData.eqv, PyData.eqvAll]
    rw [e, Bool.eq_iff_iff, beq_iff_eq]
    exact (decide_eq_true_iff (p := x = "&")).symm
  | i k => rfl
  | b k => rfl
  | u => rfl
  | l xs t => simp [Tm.py, Tm.isW, PyData.eqv, PyData.eqvAll]
def prIsM : List Wd → (Wd → Prop) → Prop := fun ws P => ∃ t : Tm, ws = [.d t.py] ∧ t.ok ∧ t.dp ≤ 30 ∧ P (.d (.bool (t.isW "&")))
abbrev s_law_is_mark : Stmt := topS 37
theorem sc_law_is_mark : FnScope ["datum"] ["datum"] (defScope s_law_is_mark) := ⟨rfl, rfl, rfl, by decide +kernel, rfl, by decide +kernel, by decide +kernel⟩
theorem c_law_is_mark (T : Txt K mg c) (D : DefG K mg "_law_is_mark" s_law_is_mark ["datum"])  : CalO P w K mg base 1 "_law_is_mark" (spP K prIsM) := by
  refine calO D sc_law_is_mark (fun vs H Q E h => ?_) (fun cdv f A outer s H vs Q E hr h => ?_)
  · obtain ⟨ws, P, ⟨t, rfl, ok, hd, z⟩, hv, _⟩ := h
    exact hv.len
  · obtain ⟨ws, P, ⟨t, rfl, ok, hd, z⟩, hv, q⟩ := h
    have hu := hu_of hr
    refine ⟨_, pss_one (ps_ret (pe_cmpR (op_eqD hr.units) (pv 0) (pe_tup (pa_cons pe_str (pa_cons pe_str pa_nil))) (nomark _))), ?_⟩
    refine bodyP hv q (Nat.le_of_ble_eq_true rfl) ?_
    try dsimp only [cx_K]
    walk_at "w"
    refine wR_eqD (q_shp (Tm.shaped hd ok) (by decide +kernel) ?_)
    rw [eqv_mark]
    walk_at "w"
    exact z
theorem pyL_app (a b : List Tm) : pyL (a ++ b) = pyL a ++ pyL b := by
  induction a with
  | nil => rfl
  | cons x r ih => rw [List.cons_append, pyL, pyL, ih]; rfl
theorem wksL_app (a b : List Tm) : wksL (a ++ b) = wksL a ++ wksL b := by
  induction a with
  | nil => rfl
  | cons x r ih => rw [List.cons_append, wksL, wksL, ih, List.append_assoc]
theorem wks_len (t : Tm) : (wks t).length ≤ t.sz := by
  rw [← wds_keys t [], List.length_map]
  exact wds_len t []
theorem wksL_len (xs : List Tm) : (wksL xs).length ≤ szL xs := by
  rw [← wdsL_keys xs [] 0, List.length_map]
  exact wdsL_len xs [] 0
theorem szL_take : ∀ (xs : List Tm) (i : Nat), szL (xs.take i) ≤ szL xs
  | _, 0 => Nat.zero_le _
  | [], _ + 1 => Nat.le_refl _
  | x :: r, i + 1 => by
    have := szL_take r i
    rw [List.take_succ_cons, szL, szL]; omega
theorem szL_app (a b : List Tm) : szL (a ++ b) = szL a + szL b := by
  induction a with
  | nil => simp [szL]
  | cons x r ih => rw [List.cons_append, szL, szL, ih]; omega
def prLWs (n : Nat) : List Wd → (Wd → Prop) → Prop := fun ws P => ∃ t : Tm, ws = [.d t.py] ∧ t.dp < n ∧ t.sz ≤ 14000 ∧ P (.o ((wks t).map .str))
abbrev s_law_words_in : Stmt := topS 38
theorem sc_law_words_in : FnScope ["datum", "found", "part"] ["datum"] (defScope s_law_words_in) := ⟨rfl, rfl, rfl, by decide +kernel, rfl, by decide +kernel, by decide +kernel⟩
theorem c_law_words_in (T : Txt K mg c) (D : DefG K mg "_law_words_in" s_law_words_in ["datum"]) (c_law_is_list : CalO P w K mg base 1 "_law_is_list" (spP K prIsL)) (c_law_is_word : CalO P w K mg base 1 "_law_is_word" (spP K prIsW)) : ∀ n : Nat, CalO P w K mg base (2 + n) "_law_words_in" (spP K (prLWs n)) := by
  intro n
  induction n with
  | zero =>
    refine calO D sc_law_words_in (fun vs H Q E h => ?_) (fun cdv f A outer s H vs Q E hr h => ?_)
    · obtain ⟨ws, P, ⟨t, rfl, hd, hz, z⟩, hv, _⟩ := h
      exact hv.len
    · obtain ⟨ws, P, ⟨t, rfl, hd, hz, z⟩, hv, q⟩ := h
      exfalso; omega
  | succ n c_law_words_in =>
  rw [show 2 + (n + 1) = (2 + n) + 1 by omega]
  refine calO D sc_law_words_in (fun vs H Q E h => ?_) (fun cdv f A outer s H vs Q E hr h => ?_)
  · obtain ⟨ws, P, ⟨t, rfl, hd, hz, z⟩, hv, _⟩ := h
    exact hv.len
  · obtain ⟨ws, P, ⟨t, rfl, hd, hz, z⟩, hv, q⟩ := h
    have hu := hu_of hr
    refine ⟨_, pss_cons (ps_if (pt_val (pe_WO c_law_is_list hr (by omega) (by rfl) (pa_cons (pv 0) pa_nil)))
        (pss_cons (ps_set (i := 1) sc_law_words_in.nd rfl (Or.inl rfl) (pe_lst pa_nil))
        (pss_cons (ps_for PassesOwn.never rfl (pi_tup (pe_op op_catA (pe_ix ix_tup (pv 0) pe_int (fun _ _ => rfl)) (pe_tup (pa_cons (pe_ix ix_tup (pv 0) pe_int (fun _ _ => rfl)) pa_nil)))) (pg_name (i := 2) sc_law_words_in.nd rfl (Or.inl rfl))
          (pss_one (ps_set (i := 1) sc_law_words_in.nd rfl (Or.inl rfl) (pe_op op_cat (pv 1) (pe_WO c_law_words_in hr (by omega) (by rfl) (pa_cons (pv 2) pa_nil))))))
        (pss_one (ps_ret (pv 1)))))
        (pss_nil))
      (pss_one (ps_ret (pe_ifExp (pt_val (pe_WO c_law_is_word hr (by omega) (by rfl) (pa_cons (pv 0) pa_nil))) (pe_lst (pa_cons (pe_ix ix_tup (pv 0) pe_int (fun _ _ => rfl)) pa_nil)) (pe_lst pa_nil)))), ?_⟩
    refine bodyP hv q (Nat.le_of_ble_eq_true rfl) ?_
    try dsimp only [cx_K]
    walk_at "w"
    refine ⟨t, rfl, ?_⟩
    cases t with
    | w x =>
      walk_at "w"
      refine ⟨.w x, rfl, ?_⟩
      dsimp only [Tm.py]
      walk_at "w"
      exact z
    | i k =>
      walk_at "w"
      refine ⟨.i k, rfl, ?_⟩
      walk_at "w"
      exact z
    | b k =>
      walk_at "w"
      refine ⟨.b k, rfl, ?_⟩
      walk_at "w"
      exact z
    | u =>
      walk_at "w"
      refine ⟨.u, rfl, ?_⟩
      walk_at "w"
      exact z
    | l xs t =>
      have hd' : max (dpL xs) t.dp + 1 < n + 1 := hd
      have hz' : szL xs + t.sz + 1 ≤ 14000 := hz
      have hxl := szL_len xs
      dsimp only [Tm.py]
      walk_at "w"
      refine q_Sz ?_ (szO (by show (pyL xs).length + 1 ≤ _; rw [pyL_len]; omega))
      walk_at "w"
      have eP : pyL xs ++ [t.py] = pyL (xs ++ [t]) := by rw [pyL_app]; rfl
      have hts : szL (xs ++ [t]) ≤ 14000 := by rw [szL_app]; show szL xs + (t.sz + 0) ≤ 14000; omega
      have hdm : ∀ y ∈ xs ++ [t], y.dp < n ∧ y.sz ≤ 14000 := fun y hy => by
        rcases List.mem_append.mp hy with hy | hy
        · have m1 := dpL_mem hy
          have m2 := szL_mem hy
          omega
        · rw [List.mem_singleton.mp hy]
          omega
      have zw : wks (.l xs t) = wksL (xs ++ [t]) := by rw [wksL_app, wks]; simp [wksL]
      rw [zw] at z
      rw [eP]
      generalize xs ++ [t] = ts at hts hdm z
      refine fun v => ⟨fun i ρ _ => ∃ e : Wd, ρ = [.d (.tuple [.str "list", .tuple (pyL xs), t.py]), .o ((wksL (ts.take i)).map .str), e, .pt v (pyL ts)], ⟨.no, rfl⟩, ?_, ?_, ?_⟩
      · rintro i ρ' g' ⟨e, rfl⟩
        rfl
      · rintro i d ρ' g' hd1 ⟨e, rfl⟩
        obtain ⟨y, hy, rfl⟩ := pyL_get ts i d hd1
        obtain ⟨y1, y2⟩ := hdm y (List.mem_of_getElem? hy)
        have hl := wksL_len (ts.take (i + 1))
        have hl2 := szL_take ts (i + 1)
        have e2 : wksL (ts.take (i + 1)) = wksL (ts.take i) ++ wks y := by
          rw [List.take_succ, hy, wksL_app]
          simp [wksL]
        rw [e2, List.length_append] at hl
        walk_at "w"
        refine ⟨y, rfl, y1, y2, ?_⟩
        walk_at "w"
        refine q_Sz ?_ (szO (by rw [List.length_map, List.length_map]; omega))
        refine ⟨.d y.py, ?_⟩
        rw [e2, List.map_append]
        rfl
      · rintro ρ' g' ⟨e, rfl⟩
        rw [pyL_len, List.take_length]
        walk_at "w"
        exact z
end
end

section
open PySem PySem.Spec PyProof.Rows L2 Kt Evl
section
variable {P : Program} {w : World} {K : PySem.W.Frag} {mg : Str → Option Value} {base : Heap} {c : Cs}
local macro_rules | `(tactic| walk_at "wE") => `(tactic| ((with_reducible refine' wE_zin lens0 ?h ?hi ?q); (case h => exact rfl); (case hi => exact Nat.le_of_ble_eq_true rfl)))
local macro_rules | `(tactic| walk_at "wS") => `(tactic| ((with_reducible refine' wS_zput lens0 ?h ?hi ?q); (case h => exact rfl); (case hi => exact Nat.le_of_ble_eq_true rfl)))
abbrev Pf : Type := Option (List PyData)
def pN : Pf → PyData
  | none => .none
  | some p => .tuple p
def lwW (L : List Str) (x : Str) (p : List PyData) (g : Gd) (d : Int) : Pf × Gd :=
  if x = "&" then (some p, g) else if (kGet g.1 (.inr x)).isSome = true then (some p, g)
  else if L.any (fun y => decide (y = x)) = true then (none, g) else if x = "_" then (none, g) else (none, (kPut g.1 (.inr x) (.int d), g.2))
mutual
def lfP (L : List Str) : Tm → List PyData → Gd → Int → Pf × Gd
  | .w x, p, g, d => lwW L x p g d
  | .l xs t, p, g, d =>
    match lfL L xs p 0 0 0 g d with
    | (some e, g') => (some e, g')
    | (none, g') => lfP L t (p ++ [.int xs.length]) g' d
  | _, _, g, _ => (none, g)
def lfL (L : List Str) : List Tm → List PyData → Nat → Nat → Nat → Gd → Int → Pf × Gd
  | [], _, _, _, _, g, _ => (none, g)
  | x :: r, p, k, b, m, g, d =>
    if x.isW "&" = true then
      if (decide (k = b) || decide (0 < m)) = true then (some (p ++ [.int k]), g) else lfL L r p (k + 1) b (m + 1) g d
    else
      match lfP L x (p ++ [.int k]) g (d + if nMark r = true then 1 else 0) with
      | (some e, g') => (some e, g')
      | (none, g') => lfL L r p (k + 1) b m g' d
end
def lfC (L : List Str) (xs : List Tm) (t : Tm) (p : List PyData) (k b m : Nat) (g : Gd) (d : Int) : Pf × Gd :=
  match lfL L (xs.drop k) p k b m g d with
  | (some e, g') => (some e, g')
  | (none, g') => lfP L t (p ++ [.int xs.length]) g' d
def prLPF (n : Nat) : Addr → List Wd → Gd → (Wd → Gd → Prop) → Prop := fun a ws g P => ∃ (t : Tm) (p : List PyData) (L : List Str) (d : Int), ws = [.d t.py, .d (.tuple p), .d (.tuple (L.map .str)), .z (.ref a), .d (.int d)] ∧ t.ok ∧ t.dp < n ∧ n ≤ 30 ∧ g.1.length + t.sz ≤ 15000 ∧ p.length + t.dp ≤ 100 ∧ P (.d (pN (lfP L t p g d).1)) (lfP L t p g d).2
def prLPI (n : Nat) : Addr → List Wd → Gd → (Wd → Gd → Prop) → Prop := fun a ws g P => ∃ (xs : List Tm) (t : Tm) (p : List PyData) (b : Nat) (L : List Str) (d : Int), ws = [.d (Tm.l xs t).py, .d (.int b), .d (.tuple p), .d (.tuple (L.map .str)), .z (.ref a), .d (.int d)] ∧ (Tm.l xs t).ok ∧ b ≤ xs.length ∧ dpL xs < n ∧ t.dp < n ∧ n ≤ 30 ∧ g.1.length + szL xs + t.sz ≤ 15000 ∧ p.length + 1 + dpL xs ≤ 100 ∧ p.length + 1 + t.dp ≤ 100 ∧ P (.d (pN (lfC L xs t p b b 0 g d).1)) (lfC L xs t p b b 0 g d).2
theorem lwW_len (L : List Str) (x : Str) (p : List PyData) (g : Gd) (d : Int) : (lwW L x p g d).2.1.length ≤ g.1.length + 1 := by
  unfold lwW
  repeat' split
  all_goals first | exact Nat.le_succ _ | exact kPut_le _ _ _
mutual
theorem lfP_len (L : List Str) : ∀ (t : Tm) (p : List PyData) (g : Gd) (d : Int), (lfP L t p g d).2.1.length ≤ g.1.length + t.sz
  | .w x, p, g, d => lwW_len L x p g d
  | .i _, _, _, _ => Nat.le_add_right _ _
  | .b _, _, _, _ => Nat.le_add_right _ _
  | .u, _, _, _ => Nat.le_add_right _ _
  | .l xs t, p, g, d => by
    have h1 := lfL_len L xs p 0 0 0 g d
    rw [lfP, Tm.sz]
    split
    · rename_i e g' h; rw [h] at h1; dsimp only at h1 ⊢; omega
    · rename_i g' h
      rw [h] at h1
      have h2 := lfP_len L t (p ++ [.int xs.length]) g' d
      dsimp only at h1; omega
theorem lfL_len (L : List Str) : ∀ (xs : List Tm) (p : List PyData) (k b m : Nat) (g : Gd) (d : Int), (lfL L xs p k b m g d).2.1.length ≤ g.1.length + szL xs
  | [], _, _, _, _, g, _ => Nat.le_refl _
  | x :: r, p, k, b, m, g, d => by
    rw [lfL, szL]
    split
    · split
      · exact Nat.le_add_right _ _
      · have := lfL_len L r p (k + 1) b (m + 1) g d; omega
    · have h1 := lfP_len L x (p ++ [.int k]) g (d + if nMark r = true then 1 else 0)
      split
      · rename_i e g' h; rw [h] at h1; dsimp only at h1 ⊢; omega
      · rename_i g' h
        rw [h] at h1
        have h2 := lfL_len L r p (k + 1) b m g' d
        dsimp only at h1; omega
end
theorem lfC_end {L : List Str} {xs : List Tm} {t : Tm} {p : List PyData} {k b m : Nat} {g : Gd} {d : Int} (h : xs.length ≤ k) : lfC L xs t p k b m g d = lfP L t (p ++ [.int xs.length]) g d := by
  unfold lfC
  rw [List.drop_eq_nil_of_le h, lfL]
theorem lfC_out {L : List Str} {xs : List Tm} {t x : Tm} {p : List PyData} {k b m : Nat} {g : Gd} {d : Int} (hd : xs.drop k = x :: xs.drop (k + 1)) (h : x.isW "&" = true) (h2 : (decide (k = b) || decide (0 < m)) = true) : lfC L xs t p k b m g d = (some (p ++ [.int k]), g) := by
  unfold lfC
  rw [hd, lfL, if_pos h, if_pos h2]
theorem lfC_mark {L : List Str} {xs : List Tm} {t x : Tm} {p : List PyData} {k b m : Nat} {g : Gd} {d : Int} (hd : xs.drop k = x :: xs.drop (k + 1)) (h : x.isW "&" = true) (h2 : (decide (k = b) || decide (0 < m)) = false) : lfC L xs t p k b m g d = lfC L xs t p (k + 1) b (m + 1) g d := by
  unfold lfC
  rw [hd, lfL, if_pos h, if_neg (by rw [h2]; decide)]
theorem lfC_item {L : List Str} {xs : List Tm} {t x : Tm} {p : List PyData} {k b m : Nat} {g : Gd} {d : Int} (hd : xs.drop k = x :: xs.drop (k + 1)) (h : x.isW "&" = false) : lfC L xs t p k b m g d = match lfP L x (p ++ [.int k]) g (d + if nMark (xs.drop (k + 1)) = true then 1 else 0) with
    | (some e, g') => (some e, g')
    | (none, g') => lfC L xs t p (k + 1) b m g' d := by
  unfold lfC
  rw [hd, lfL, if_neg (by rw [h]; decide)]
  cases hq : lfP L x (p ++ [.int k]) g (d + if nMark (xs.drop (k + 1)) = true then 1 else 0) with
  | mk o g' => cases o <;> rfl
theorem py_at {xs : List Tm} {x : Tm} {k : Nat} (h : xs[k]? = some x) : L2.atI (pyL xs) (k : Int) = some x.py := by
  refine atI_nat ?_
  induction xs generalizing k with
  | nil => simp at h
  | cons y r ih =>
    cases k with
    | zero => cases h; rfl
    | succ k => exact ih (k := k) h
variable {n : Nat}
abbrev s_law_p_items : Stmt := topS 40
theorem sc_law_p_items : FnScope ["datum", "begin", "path", "literals", "names", "depth", "items", "marks", "k", "more", "fault"] ["datum", "begin", "path", "literals", "names", "depth"] (defScope s_law_p_items) := ⟨rfl, rfl, rfl, by decide +kernel, rfl, by decide +kernel, by decide +kernel⟩
theorem c_law_p_items (T : Txt K mg c) (D : DefG K mg "_law_p_items" s_law_p_items ["datum", "begin", "path", "literals", "names", "depth"]) (c_law_is_mark : CalO P w K mg base 1 "_law_is_mark" (spP K prIsM)) (c_law_p_fault : CalO P w K mg base (3 + 2 * n) "_law_p_fault" (spW K (DV K) (prLPF n))) : CalO P w K mg base (3+2*n+1) "_law_p_items" (spW K (DV K) (prLPI n)) := by
  refine calO D sc_law_p_items (fun vs H Q E h => ?_) (fun cdv f A outer s H vs Q E hr h => ?_)
  · obtain ⟨th, ws, g, P, ⟨xs, t, p, b, L, d, rfl, ok, hb, hx, ht, hn, hz, hp1, hp2, z⟩, hv, _⟩ := h
    exact hv.len
  · obtain ⟨th, ws, g, P, ⟨xs, t, p, b, L, d, rfl, ok, hb, hx, ht, hn, hz, hp1, hp2, z⟩, hv, hj, hs, q⟩ := h
    have hu := hu_of hr
    refine ⟨_, pss_cons (ps_par (i := 6) (j := 7) (by rfl) sc_law_p_items.nd rfl rfl (by decide) rfl rfl (pa_cons (pe_ix ix_tup (pv 0) pe_int (fun _ _ => rfl)) (pa_cons pe_int pa_nil)) (by rfl))
      (pss_cons (ps_for PassesOwn.never rfl (pi_range2 (by rfl) T.range (pa_cons (pv 1) (pa_cons (pe_callB call_lenO (by rfl) T.len (by decide +kernel) (pa_cons (pv 6) pa_nil)) pa_nil))) (pg_name (i := 8) sc_law_p_items.nd rfl (Or.inl rfl))
        (pss_one (ps_if (pt_val (pe_WO c_law_is_mark hr (by omega) (by rfl) (pa_cons (pe_ix ix_tup (pv 6) (pv 8) (fun _ _ => rfl)) pa_nil)))
          (pss_cons (ps_set (i := 7) sc_law_p_items.nd rfl (Or.inl rfl) (pe_op op_add (pv 7) pe_int))
          (pss_one (ps_if (PW.pt (pw_or (pt_cmpR op_eq (pv 8) (pv 1) (nomark _)) (pw_or1 (pt_cmpR op_gt (pv 7) pe_int (nomark _)))))
            (pss_one (ps_ret (pe_op op_catA (pv 2) (pe_tup (pa_cons (pv 8) pa_nil)))))
            (pss_nil))))
          (pss_cons (ps_set (i := 9) sc_law_p_items.nd rfl (Or.inl rfl) (pe_ifExp (PW.pt (pw_and (pt_cmpR op_lt (pe_op op_add (pv 8) pe_int) (pe_callB call_lenO (by rfl) T.len (by decide +kernel) (pa_cons (pv 6) pa_nil)) (nomark _)) (pw_and1 (pt_val (pe_WO c_law_is_mark hr (by omega) (by rfl) (pa_cons (pe_ix ix_tup (pv 6) (pe_op op_add (pv 8) pe_int) (fun _ _ => rfl)) pa_nil)))))) pe_int pe_int))
          (pss_cons (ps_set (i := 10) sc_law_p_items.nd rfl (Or.inl rfl) (pe_WO c_law_p_fault hr (by omega) (by rfl) (pa_cons (pe_ix ix_tup (pv 6) (pv 8) (fun _ _ => rfl)) (pa_cons (pe_op op_catA (pv 2) (pe_tup (pa_cons (pv 8) pa_nil))) (pa_cons (pv 3) (pa_cons (pv 4) (pa_cons (pe_op op_add (pv 5) (pv 9)) pa_nil)))))))
          (pss_one (ps_if (pt_cmpR op_notN1 (pv 10) pe_non (nomark _))
            (pss_one (ps_ret (pv 10)))
            (pss_nil))))))))
      (pss_one (ps_ret (pe_WO c_law_p_fault hr (by omega) (by rfl) (pa_cons (pe_ix ix_tup (pv 0) pe_int (fun _ _ => rfl)) (pa_cons (pe_op op_catA (pv 2) (pe_tup (pa_cons (pe_callB call_lenO (by rfl) T.len (by decide +kernel) (pa_cons (pv 6) pa_nil)) pa_nil))) (pa_cons (pv 3) (pa_cons (pv 4) (pa_cons (pv 5) pa_nil))))))))), ?_⟩
    refine bodyW hv hj hs q (Nat.le_of_ble_eq_true rfl) ?_
    try dsimp only [cx_K]
    have hxl := szL_len xs
    dsimp only [Tm.py]
    walk_at "w"
    refine ⟨b, (pyL xs).length, rfl, by rw [pyL_len]; omega, ?_⟩
    rw [pyL_len, show (((xs.length : Nat) : Int) - (b : Int)).toNat = xs.length - b by omega]
    have hsd := szL_drop xs b
    refine ⟨fun i ρ g' => ∃ (m : Nat) (e1 e2 e3 : Wd), ρ = [.d (.tuple [.str "list", .tuple (pyL xs), t.py]), .d (.int b), .d (.tuple p), .d (.tuple (L.map .str)), .z (.ref th), .d (.int d), .d (.tuple (pyL xs)), .d (.int m), e1, e2, e3] ∧ g'.1.length + szL (xs.drop (b + i)) ≤ g.1.length + szL xs ∧ lfC L xs t p (b + i) b m g' d = lfC L xs t p b b 0 g d, ⟨0, .no, .no, .no, rfl, by rw [Nat.add_zero]; omega, rfl⟩, fun _ _ _ _ => trivial, ?_, ?_⟩
    · rintro i dd ρ' g' hdd ⟨m, e1, e2, e3, rfl, hg, h1⟩
      obtain ⟨rfl, hi⟩ := intsD_get hdd
      rw [show (b : Int) + (i : Int) * 1 = ((b + i : Nat) : Int) by omega]
      have hk : b + i < xs.length := by omega
      have hx : xs[b + i]? = some xs[b + i] := List.getElem?_eq_getElem hk
      have hdr : xs.drop (b + i) = xs[b + i] :: xs.drop (b + i + 1) := List.drop_eq_getElem_cons hk
      generalize xs[b + i] = x at hx hdr
      have hm := List.mem_of_getElem? hx
      have okx := okL_mem ok.1 hm
      have m1 := dpL_mem hm
      have hszs : szL (xs.drop (b + i)) = x.sz + szL (xs.drop (b + i + 1)) := by rw [hdr, szL]
      walk_at "w"
      refine q_At (py_at hx) ?_
      walk_at "w"
      refine ⟨x, rfl, okx, by omega, ?_⟩
      walk_at "w"
      refine ite_b (fun hb1 => ?_) (fun hb1 => ?_)
      · walk_at "w"
        refine ite_b (fun hb2 => ?_) (fun hb2 => ?_)
        · have e : b + i = b := by have := of_decide_eq_true hb2; omega
          rw [lfC_out hdr hb1 (by rw [decide_eq_true e]; rfl)] at h1
          walk_at "w"
          refine q_Sz ?_ (szO (by show p.length + 1 ≤ _; omega))
          rw [← h1] at z
          exact z
        · have e : ¬ b + i = b := by have := of_decide_eq_false hb2; omega
          walk_at "w"
          refine ite_b (fun hb3 => ?_) (fun hb3 => ?_)
          · have e2 : 0 < m := by have := of_decide_eq_true hb3; omega
            rw [lfC_out hdr hb1 (by rw [decide_eq_true e2]; simp)] at h1
            walk_at "w"
            refine q_Sz ?_ (szO (by show p.length + 1 ≤ _; omega))
            rw [← h1] at z
            exact z
          · have e2 : ¬ 0 < m := by have := of_decide_eq_false hb3; omega
            rw [lfC_mark hdr hb1 (by rw [decide_eq_false e, decide_eq_false e2]; rfl)] at h1
            walk_at "w"
            exact ⟨m + 1, .d (.int ((b + i : Nat) : Int)), _, e3, rfl, by show g'.1.length + szL (xs.drop (b + i + 1)) ≤ _; omega, h1⟩
      · rw [lfC_item hdr hb1] at h1
        refine wS_seq (wS_asg (Nat.le_of_ble_eq_true rfl) (wE.mono (Q := fun w g2 => w = .d (.int (if nMark (xs.drop (b + i + 1)) = true then 1 else 0)) ∧ g2 = g') ?_ ?_))
        · walk_at "w"
          refine ite_b (fun hb2 => ?_) (fun hb2 => ?_)
          · have hk2 : b + i + 1 < xs.length := by
              have := of_decide_eq_true hb2
              rw [pyL_len] at this
              omega
            have hy : xs[b + i + 1]? = some xs[b + i + 1] := List.getElem?_eq_getElem hk2
            have hdy : xs.drop (b + i + 1) = xs[b + i + 1] :: xs.drop (b + i + 1 + 1) := List.drop_eq_getElem_cons hk2
            have my := List.mem_of_getElem? hy
            have n1 := dpL_mem my
            walk_at "w"
            rw [show ((b + i : Nat) : Int) + 1 = ((b + i + 1 : Nat) : Int) by omega]
            refine q_At (py_at hy) ?_
            walk_at "w"
            refine ⟨_, rfl, okL_mem ok.1 my, by omega, ?_⟩
            walk_at "w"
            rw [hdy]
            refine ite_b (fun hb3 => ?_) (fun hb3 => ?_)
            · walk_at "w"
              exact ⟨by rw [if_pos (show nMark (_ :: _) = true from hb3)], rfl⟩
            · walk_at "w"
              exact ⟨by rw [if_neg (show ¬ nMark (_ :: _) = true by show ¬ Tm.isW _ _ = true; rw [hb3]; decide)], rfl⟩
          · have hk2 : ¬ (b + i + 1 < xs.length) := by
              have := of_decide_eq_false hb2
              rw [pyL_len] at this
              omega
            walk_at "w"
            exact ⟨by rw [List.drop_eq_nil_of_le (by omega)]; rfl, rfl⟩
        · rintro w g2 ⟨rfl, rfl⟩
          have hl := lfP_len L x (p ++ [.int ((b + i : Nat) : Int)]) g2 (d + if nMark (xs.drop (b + i + 1)) = true then 1 else 0)
          walk_at "w"
          refine q_At (py_at hx) ?_
          walk_at "w"
          refine q_Sz ?_ (szO (by show p.length + 1 ≤ _; omega))
          walk_at "w"
          refine ⟨x, p ++ [.int ((b + i : Nat) : Int)], L, _, rfl, okx, by omega, hn, by omega, by rw [List.length_append, List.length_singleton]; omega, ?_⟩
          cases hq : lfP L x (p ++ [.int ((b + i : Nat) : Int)]) g2 (d + if nMark (xs.drop (b + i + 1)) = true then 1 else 0) with
          | mk o g3 =>
            rw [hq] at h1 hl
            cases o with
            | some e =>
              dsimp only [pN] at h1 ⊢
              walk_at "w"
              rw [← h1] at z
              exact z
            | none =>
              dsimp only [pN] at h1 hl ⊢
              walk_at "w"
              exact ⟨m, .d (.int ((b + i : Nat) : Int)), _, .d .none, rfl, by show g3.1.length + szL (xs.drop (b + i + 1)) ≤ _; omega, h1⟩
    · rintro ρ' g' ⟨m, e1, e2, e3, rfl, hg, h1⟩
      rw [intsD_len] at hg h1
      rw [lfC_end (by omega)] at h1
      walk_at "w"
      refine q_Sz ?_ (szO (by show p.length + 1 ≤ _; omega))
      walk_at "w"
      rw [pyL_len]
      refine ⟨t, p ++ [.int xs.length], L, d, rfl, ok.2, ht, hn, by omega, by rw [List.length_append, List.length_singleton]; omega, ?_⟩
      rw [h1]
      exact z
theorem any_str (L : List Str) (x : Str) : ((L.map PyData.str).any fun e => PyData.eqv e (.str x)) = L.any fun y => decide (y = x) := by
  induction L with
  | nil => rfl
  | cons y r ih =>
    rw [List.map_cons, List.any_cons, List.any_cons, ih]
    congr 1
theorem all_flat (L : List Str) : (L.map PyData.str).all flatD = true := by
  induction L with
  | nil => rfl
  | cons y r ih => rw [List.map_cons, List.all_cons, ih]; rfl
abbrev s_law_p_fault : Stmt := topS 39
theorem sc_law_p_fault : FnScope ["datum", "path", "literals", "names", "depth"] ["datum", "path", "literals", "names", "depth"] (defScope s_law_p_fault) := ⟨rfl, rfl, rfl, by decide +kernel, rfl, by decide +kernel, by decide +kernel⟩
theorem c_law_p_fault (T : Txt K mg c) (D : DefG K mg "_law_p_fault" s_law_p_fault ["datum", "path", "literals", "names", "depth"]) (c_law_is_list : CalO P w K mg base 1 "_law_is_list" (spP K prIsL)) (c_law_is_word : CalO P w K mg base 1 "_law_is_word" (spP K prIsW)) (Df : DefG K mg "_law_p_items" s_law_p_items ["datum", "begin", "path", "literals", "names", "depth"]) (c_law_is_mark : CalO P w K mg base 1 "_law_is_mark" (spP K prIsM)): ∀ n : Nat, CalO P w K mg base (3 + 2 * n) "_law_p_fault" (spW K (DV K) (prLPF n)) := by
  intro n
  induction n with
  | zero =>
    refine calO D sc_law_p_fault (fun vs H Q E h => ?_) (fun cdv f A outer s H vs Q E hr h => ?_)
    · obtain ⟨th, ws, g, P, ⟨t, p, L, d, rfl, ok, hd, hn, hz, hp, z⟩, hv, _⟩ := h
      exact hv.len
    · obtain ⟨th, ws, g, P, ⟨t, p, L, d, rfl, ok, hd, hn, hz, hp, z⟩, hv, hj, hs, q⟩ := h
      exfalso; omega
  | succ n c_law_p_fault =>
  rw [show 3 + 2 * (n + 1) = (3 + 2 * n + 1) + 1 by omega]
  have c_law_p_items := c_law_p_items (n := n) T Df c_law_is_mark c_law_p_fault
  refine calO D sc_law_p_fault (fun vs H Q E h => ?_) (fun cdv f A outer s H vs Q E hr h => ?_)
  · obtain ⟨th, ws, g, P, ⟨t, p, L, d, rfl, ok, hd, hn, hz, hp, z⟩, hv, _⟩ := h
    exact hv.len
  · obtain ⟨th, ws, g, P, ⟨t, p, L, d, rfl, ok, hd, hn, hz, hp, z⟩, hv, hj, hs, q⟩ := h
    have hu := hu_of hr
    refine ⟨_, pss_cons (ps_if (pt_val (pe_WO c_law_is_list hr (by omega) (by rfl) (pa_cons (pv 0) pa_nil)))
        (pss_one (ps_ret (pe_WO c_law_p_items hr (by omega) (by rfl) (pa_cons (pv 0) (pa_cons pe_int (pa_cons (pv 1) (pa_cons (pv 2) (pa_cons (pv 3) (pa_cons (pv 4) pa_nil)))))))))
        (pss_nil))
      (pss_cons (ps_if (pt_val (pe_WO c_law_is_word hr (by omega) (by rfl) (pa_cons (pv 0) pa_nil)))
        (pss_cons (ps_if (PW.pt (pw_or (pt_cmpR op_eq (pe_ix ix_tup (pv 0) pe_int (fun _ _ => rfl)) pe_str (nomark _)) (pw_or1 (pt_cmp (pc_din hu (pe_ix ix_tup (pv 0) pe_int (fun _ _ => rfl)) (pv 3))))))
          (pss_one (ps_ret (pv 1)))
          (pss_nil))
        (pss_one (ps_if (PW.pt (pw_and (pt_cmpR op_notIn_seq (pe_ix ix_tup (pv 0) pe_int (fun _ _ => rfl)) (pv 2) rfl) (pw_and1 (pt_cmpR op_ne (pe_ix ix_tup (pv 0) pe_int (fun _ _ => rfl)) pe_str (nomark _)))))
          (pss_one (ps_dput hu (pv 3) (pe_ix ix_tup (pv 0) pe_int (fun _ _ => rfl)) (pv 4) rfl))
          (pss_nil))))
        (pss_nil))
      (pss_one (ps_ret (pe_non)))), ?_⟩
    refine bodyW hv hj hs q (Nat.le_of_ble_eq_true rfl) ?_
    try dsimp only [cx_K]
    walk_at "w"
    refine ⟨t, rfl, ?_⟩
    cases t with
    | w x =>
      have hz' : g.1.length + 1 ≤ 15000 := hz
      walk_at "w"
      refine ⟨.w x, rfl, ?_⟩
      dsimp only [Tm.py]
      walk_at "w"
      refine ite_b (fun hb1 => ?_) (fun hb1 => ?_)
      · have e : lfP L (.w x) p g d = (some p, g) := by show lwW L x p g d = _; unfold lwW; rw [if_pos (of_decide_eq_true hb1)]
        rw [e] at z
        walk_at "w"
        exact z
      · have h1 : ¬ x = "&" := of_decide_eq_false hb1
        walk_at "w"
        refine ite_b (fun hb2 => ?_) (fun hb2 => ?_)
        · have e : lfP L (.w x) p g d = (some p, g) := by show lwW L x p g d = _; unfold lwW; rw [if_neg h1, if_pos hb2]
          rw [e] at z
          walk_at "w"
          exact z
        · have h2 : ¬ (kGet g.1 (.inr x)).isSome = true := by rw [hb2]; decide
          refine wS_next ?_
          dsimp only
          walk_at "w"
          refine ⟨rfl, all_flat L, ?_⟩
          rw [any_str, if_pos (rfl : true = true)]
          walk_at "w"
          refine ite_b (fun hb3 => ?_) (fun hb3 => ?_)
          · have h3 : ¬ (L.any fun y => decide (y = x)) = true := fun hh => by rw [hh] at hb3; cases hb3
            walk_at "w"
            refine ite_b (fun hb4 => ?_) (fun hb4 => ?_)
            · have h4 : ¬ x = "_" := by simpa using hb4
              have e : lfP L (.w x) p g d = (none, (kPut g.1 (.inr x) (.int d), g.2)) := by show lwW L x p g d = _; unfold lwW; rw [if_neg h1, if_neg h2, if_neg h3, if_neg h4]
              rw [e] at z
              walk_at "w"
              refine ⟨rfl, ?_⟩
              walk_at "w"
              refine q_Sz ?_ (szO (by show g.1.length + 1 ≤ _; omega))
              walk_at "w"
              exact z
            · have h4 : x = "_" := by simpa using hb4
              have e : lfP L (.w x) p g d = (none, g) := by show lwW L x p g d = _; unfold lwW; rw [if_neg h1, if_neg h2, if_neg h3, if_pos h4]
              rw [e] at z
              walk_at "w"
              exact z
          · have h3 : (L.any fun y => decide (y = x)) = true := by
              cases hq : L.any (fun y => decide (y = x)) with
              | true => rfl
              | false => rw [hq] at hb3; cases hb3
            have e : lfP L (.w x) p g d = (none, g) := by show lwW L x p g d = _; unfold lwW; rw [if_neg h1, if_neg h2, if_pos h3]
            rw [e] at z
            walk_at "w"
            exact z
    | i k =>
      walk_at "w"
      refine ⟨.i k, rfl, ?_⟩
      walk_at "w"
      exact z
    | b k =>
      walk_at "w"
      refine ⟨.b k, rfl, ?_⟩
      walk_at "w"
      exact z
    | u =>
      walk_at "w"
      refine ⟨.u, rfl, ?_⟩
      walk_at "w"
      exact z
    | l xs t =>
      have hd' : max (dpL xs) t.dp + 1 < n + 1 := hd
      have hz' : g.1.length + (szL xs + t.sz + 1) ≤ 15000 := hz
      have hp' : p.length + (max (dpL xs) t.dp + 1) ≤ 100 := hp
      walk_at "w"
      refine ⟨xs, t, p, 0, L, d, rfl, ok, Nat.zero_le _, by omega, by omega, by omega, by omega, by omega, by omega, ?_⟩
      exact z
end
end

section
open PySem PySem.Spec PyProof.Rows L2 Kt Evl
/-! ### the two walks over a pattern tell the same -/
def inL (L : List Str) (x : Str) : Bool := L.any fun y => decide (y = x)
structure Rl (L : List Str) (gp : Gp) (gl : Gd) : Prop where
  lit : ∀ x, (kGet gp.1 (.inr x)).isSome = inL L x
  nm : ∀ x, (kGet gp.2 (.inr x)).isSome = (kGet gl.1 (.inr x)).isSome
  cl : ∀ x, (kGet gl.1 (.inr x)).isSome = true → inL L x = false ∧ x ≠ "_" ∧ x ≠ "&"
def pth : Of → Pf
  | none => none
  | some (_, p) => some p
theorem some_put (kvs : Kv) (k k' : Key) (d : PyData) : (kGet (kPut kvs k d) k').isSome = (decide (k' = k) || (kGet kvs k').isSome) := by
  rw [kGet_put]
  by_cases h : k' = k
  · rw [if_pos h, decide_eq_true h]; rfl
  · rw [if_neg h, decide_eq_false h]; rfl
theorem word_same {L : List Str} {gp : Gp} {gl : Gd} (r : Rl L gp gl) (x : Str) (p : List PyData) (d : Int) : (if (wwP gp x).1 = true then some p else none) = (lwW L x p gl d).1 ∧ Rl L (wwP gp x).2 (lwW L x p gl d).2 := by
  unfold wwP lwW
  by_cases h1 : x = "&"
  · rw [if_pos h1, if_pos h1]
    exact ⟨rfl, r⟩
  rw [if_neg h1, if_neg h1]
  have hpn : Tm.pn gp.1 (.w x) = (!inL L x && !decide (x = "_")) := by
    show (!(kGet gp.1 (.inr x)).isSome && !decide (x = "_")) = _
    rw [r.lit]
  rw [hpn, r.nm]
  cases h2 : (kGet gl.1 (.inr x)).isSome with
  | true =>
    obtain ⟨c1, c2, c3⟩ := r.cl x h2
    rw [c1, decide_eq_false c2]
    exact ⟨rfl, r⟩
  | false =>
    show _ = (if (false : Bool) = true then _ else if inL L x = true then _ else _ : Pf × Gd).1 ∧ Rl L _ (if (false : Bool) = true then _ else if inL L x = true then _ else _ : Pf × Gd).2
    cases h3 : inL L x with
    | true => exact ⟨rfl, r⟩
    | false =>
      by_cases h4 : x = "_"
      · rw [decide_eq_true h4, if_pos h4]
        exact ⟨rfl, r⟩
      · rw [decide_eq_false h4, if_neg h4]
        refine ⟨rfl, r.lit, fun y => ?_, fun y hy => ?_⟩
        · show (kGet (kPut gp.2 (.inr x) (.bool true)) (.inr y)).isSome = (kGet (kPut gl.1 (.inr x) (.int d)) (.inr y)).isSome
          rw [some_put, some_put, r.nm]
        · have hy' : (kGet (kPut gl.1 (.inr x) (.int d)) (.inr y)).isSome = true := hy
          rw [some_put, Bool.or_eq_true] at hy'
          rcases hy' with hy' | hy'
          · have e : y = x := Sum.inr.inj (of_decide_eq_true hy')
            rw [e]
            exact ⟨h3, h4, h1⟩
          · exact r.cl y hy'
mutual
theorem pat_same (L : List Str) : ∀ (t : Tm) (gp : Gp) (gl : Gd) (p : List PyData) (d : Int), Rl L gp gl → pth (wrP gp t p).1 = (lfP L t p gl d).1 ∧ Rl L (wrP gp t p).2 (lfP L t p gl d).2
  | .w x, gp, gl, p, d, r => by
    have h := word_same r x p d
    rw [wrP, lfP]
    refine ⟨?_, h.2⟩
    rw [← h.1]
    dsimp only
    split <;> rfl
  | .i _, _, _, _, _, r => ⟨rfl, r⟩
  | .b _, _, _, _, _, r => ⟨rfl, r⟩
  | .u, _, _, _, _, r => ⟨rfl, r⟩
  | .l xs t, gp, gl, p, d, r => by
    have h := row_same L xs gp gl p 0 0 0 d r (Nat.zero_le _) (Nat.zero_le _)
    rw [wrP, lfP]
    rw [show decide (0 < 0) = false from rfl] at h
    revert h
    cases wrL gp xs p 0 0 false with
    | mk o g1 =>
      cases lfL L xs p 0 0 0 gl d with
      | mk o2 g2 =>
        rintro ⟨e, r2⟩
        dsimp only at e r2 ⊢
        subst e
        cases o with
        | some q => exact ⟨rfl, r2⟩
        | none => exact tail_same L t g1 g2 p xs d r2
theorem tail_same (L : List Str) : ∀ (t : Tm) (gp : Gp) (gl : Gd) (p : List PyData) (xs : List Tm) (d : Int), Rl L gp gl → pth (wrP gp t (tp p xs t)).1 = (lfP L t (p ++ [.int xs.length]) gl d).1 ∧ Rl L (wrP gp t (tp p xs t)).2 (lfP L t (p ++ [.int xs.length]) gl d).2
  | .w x, gp, gl, p, xs, d, r => by
    have e : tp p xs (.w x) = p ++ [.int xs.length] := rfl
    rw [e]
    have h := word_same r x (p ++ [.int xs.length]) d
    rw [wrP, lfP]
    refine ⟨?_, h.2⟩
    rw [← h.1]
    dsimp only
    split <;> rfl
  | .i _, _, _, _, _, _, r => ⟨rfl, r⟩
  | .b _, _, _, _, _, _, r => ⟨rfl, r⟩
  | .u, _, _, _, _, _, r => ⟨rfl, r⟩
  | .l ys u, gp, gl, p, xs, d, r => by
    have e : tp p xs (.l ys u) = p ++ [.int xs.length] := rfl
    rw [e]
    have h := row_same L ys gp gl (p ++ [.int xs.length]) 0 0 0 d r (Nat.zero_le _) (Nat.zero_le _)
    rw [wrP, lfP]
    rw [show decide (0 < 0) = false from rfl] at h
    revert h
    cases wrL gp ys (p ++ [.int xs.length]) 0 0 false with
    | mk o g1 =>
      cases lfL L ys (p ++ [.int xs.length]) 0 0 0 gl d with
      | mk o2 g2 =>
        rintro ⟨e, r2⟩
        dsimp only at e r2 ⊢
        subst e
        cases o with
        | some q => exact ⟨rfl, r2⟩
        | none => exact tail_same L u g1 g2 (p ++ [.int xs.length]) ys d r2
theorem row_same (L : List Str) : ∀ (xs : List Tm) (gp : Gp) (gl : Gd) (p : List PyData) (k b m : Nat) (d : Int), Rl L gp gl → b ≤ k → m ≤ 1 → pth (wrL gp xs p k b (decide (0 < m))).1 = (lfL L xs p k b m gl d).1 ∧ Rl L (wrL gp xs p k b (decide (0 < m))).2 (lfL L xs p k b m gl d).2
  | [], gp, gl, p, k, b, m, d, r, _, _ => ⟨rfl, r⟩
  | x :: q, gp, gl, p, k, b, m, d, r, hb, hm => by
    rw [wrL, lfL]
    by_cases h1 : x.isW "&" = true
    · rw [if_pos h1, h1, Bool.true_and]
      by_cases h2 : (decide (k = b) || decide (0 < m)) = true
      · rw [if_pos h2]
        have h3 : ¬ (decide (b < k) && !decide (0 < m)) = true := by
          simp only [Bool.or_eq_true, decide_eq_true_eq, Bool.and_eq_true, Bool.not_eq_true', decide_eq_false_iff_not] at h2 ⊢
          omega
        rw [if_neg h3]
        have ex : x = .w "&" := by
          cases x with
          | w y => rw [of_decide_eq_true (show decide (y = "&") = true from h1)]
          | _ => cases h1
        subst ex
        have ew : wrP gp (.w "&") (p ++ [.int k]) = (some (.w "&", p ++ [.int k]), gp) := by
          rw [wrP, wwP, if_pos rfl]
          rfl
        rw [ew]
        exact ⟨rfl, r⟩
      · rw [if_neg h2]
        have h3 : (decide (b < k) && !decide (0 < m)) = true := by
          simp only [Bool.or_eq_true, decide_eq_true_eq, Bool.and_eq_true, Bool.not_eq_true', decide_eq_false_iff_not] at h2 ⊢
          omega
        rw [if_pos h3]
        have m0 : m = 0 := by
          simp only [Bool.or_eq_true, decide_eq_true_eq] at h2
          omega
        subst m0
        exact row_same L q gp gl p (k + 1) b 1 d r (by omega) (Nat.le_refl _)
    · rw [if_neg h1, Bool.eq_false_iff.mpr h1, Bool.false_and, if_neg (by decide)]
      have h := pat_same L x gp gl (p ++ [.int k]) (d + if nMark q = true then 1 else 0) r
      revert h
      cases wrP gp x (p ++ [.int k]) with
      | mk o g1 =>
        cases lfP L x (p ++ [.int k]) gl (d + if nMark q = true then 1 else 0) with
        | mk o2 g2 =>
          rintro ⟨e, r2⟩
          dsimp only at e r2 ⊢
          subst e
          cases o with
          | some z => exact ⟨rfl, r2⟩
          | none => exact row_same L q g1 g2 p (k + 1) b m d r2 (by omega) hm
end
end

section
open PySem PySem.Spec PyProof.Rows L2 Kt Evl
/-! ### the names of a pattern without a fault -/
abbrev prK (q : Str × List PyData × Int) : Key × PyData := (Sum.inr q.1, PyData.int q.2.2)
def dist (g : Kv) : Prop := (g.map (·.1)).Nodup
theorem kGet_none {g : Kv} {k : Key} : kGet g k = none ↔ k ∉ g.map (·.1) := by
  induction g with
  | nil => exact ⟨fun _ h => (by cases h), fun _ => rfl⟩
  | cons kv r ih =>
    obtain ⟨k1, d1⟩ := kv
    rw [kGet_cons, List.map_cons, List.mem_cons]
    by_cases h : k1 = k
    · rw [if_pos h]
      exact ⟨fun z => (by cases z), fun z => absurd (Or.inl h.symm) z⟩
    · rw [if_neg h, ih]
      exact ⟨fun z y => y.elim (fun e => h e.symm) z, fun z y => z (Or.inr y)⟩
theorem kPut_new {g : Kv} {k : Key} {d : PyData} (h : kGet g k = none) : kPut g k d = g ++ [(k, d)] := by
  unfold kPut
  rw [kAny, h, if_neg (show ¬ ((none : Option PyData).isSome = true) by decide)]
theorem dist_new {g : Kv} {k : Key} {d : PyData} (hd : dist g) (h : kGet g k = none) : dist (g ++ [(k, d)]) := by
  unfold dist
  rw [List.map_append, List.nodup_append]
  refine ⟨hd, by simp, fun a ha b hb => ?_⟩
  have eb : b = k := List.mem_singleton.mp hb
  exact fun e => kGet_none.mp h (by rw [← eb, ← e]; exact ha)
theorem mergeD_app (g : Kv) (a b : Kv) : mergeD g (a ++ b) = mergeD (mergeD g a) b := by
  unfold mergeD
  rw [List.foldl_append]
/-- what a walk without a fault leaves -/
structure Cln (g g' : Kv) (ls : Kv) : Prop where
  app : g' = g ++ ls
  mer : g' = mergeD g ls
  dis : dist g → dist g'
theorem Cln.refl (g : Kv) : Cln g g [] := ⟨(List.append_nil g).symm, rfl, id⟩
theorem Cln.trans {g g1 g2 a b : Kv} (h1 : Cln g g1 a) (h2 : Cln g1 g2 b) : Cln g g2 (a ++ b) :=
  ⟨by rw [h2.app, h1.app, List.append_assoc], by rw [mergeD_app, ← h1.mer]; exact h2.mer, fun z => h2.dis (h1.dis z)⟩
variable {l : Kv} {L : List Str}
theorem word_clean (hl : ∀ x, (kGet l (.inr x)).isSome = inL L x) {x : Str} {p q : List PyData} {g g' : Gd} {d : Int} (h : lwW L x p g d = (none, g')) : Cln g.1 g'.1 ((nmT l (.w x) q d).map prK) := by
  have hpn : Tm.pn l (.w x) = (!inL L x && !decide (x = "_")) := by
    show (!(kGet l (.inr x)).isSome && !decide (x = "_")) = _
    rw [hl]
  unfold lwW at h
  rw [nmT, hpn]
  by_cases h1 : x = "&"
  · rw [if_pos h1] at h; cases h
  rw [if_neg h1] at h
  cases h2 : kGet g.1 (.inr x) with
  | some e => rw [h2, if_pos (show (some e).isSome = true from rfl)] at h; cases h
  | none =>
    rw [h2, if_neg (show ¬ ((none : Option PyData).isSome = true) by decide)] at h
    change (if inL L x = true then _ else _ : Pf × Gd) = _ at h
    cases h3 : inL L x with
    | true =>
      rw [h3, if_pos (rfl : true = true)] at h
      cases h
      exact Cln.refl _
    | false =>
      rw [h3, if_neg (by decide)] at h
      by_cases h4 : x = "_"
      · rw [if_pos h4] at h
        cases h
        rw [decide_eq_true h4]
        exact Cln.refl _
      · rw [if_neg h4] at h
        cases h
        rw [decide_eq_false h4]
        exact ⟨kPut_new h2, rfl, fun z => by
          show dist (kPut g.1 (.inr x) (.int d))
          rw [kPut_new h2]
          exact dist_new z h2⟩
mutual
theorem pat_clean (hl : ∀ x, (kGet l (.inr x)).isSome = inL L x) : ∀ (t : Tm) (p q : List PyData) (g g' : Gd) (d : Int), lfP L t p g d = (none, g') → Cln g.1 g'.1 ((nmT l t q d).map prK)
  | .w x, p, q, g, g', d, h => word_clean hl (by rw [lfP] at h; exact h)
  | .i _, _, _, g, g', _, h => by cases h; exact Cln.refl _
  | .b _, _, _, g, g', _, h => by cases h; exact Cln.refl _
  | .u, _, _, g, g', _, h => by cases h; exact Cln.refl _
  | .l xs t, p, q, g, g', d, h => by
    rw [lfP] at h
    rw [nmT, List.map_append]
    cases hq : lfL L xs p 0 0 0 g d with
    | mk o g1 =>
      rw [hq] at h
      cases o with
      | some e => cases h
      | none => exact (row_clean hl xs p q 0 0 0 0 g g1 d hq).trans (pat_clean hl t _ _ g1 g' d h)
theorem row_clean (hl : ∀ x, (kGet l (.inr x)).isSome = inL L x) : ∀ (xs : List Tm) (p q : List PyData) (k k2 b m : Nat) (g g' : Gd) (d : Int), lfL L xs p k b m g d = (none, g') → Cln g.1 g'.1 ((nmL l xs q k2 d).map prK)
  | [], _, _, _, _, _, _, g, g', _, h => by cases h; exact Cln.refl _
  | x :: r, p, q, k, k2, b, m, g, g', d, h => by
    rw [lfL] at h
    rw [nmL, List.map_append]
    by_cases h1 : x.isW "&" = true
    · rw [if_pos h1] at h ⊢
      by_cases h2 : (decide (k = b) || decide (0 < m)) = true
      · rw [if_pos h2] at h; cases h
      · rw [if_neg h2] at h
        exact row_clean hl r p q (k + 1) (k2 + 1) b (m + 1) g g' d h
    · rw [if_neg h1] at h ⊢
      cases hq : lfP L x (p ++ [.int k]) g (d + if nMark r = true then 1 else 0) with
      | mk o g1 =>
        rw [hq] at h
        cases o with
        | some e => cases h
        | none => exact (pat_clean hl x _ _ g g1 _ hq).trans (row_clean hl r p q (k + 1) (k2 + 1) b m g1 g' d h)
end
end

section
open PySem PySem.Spec PyProof.Rows L2 Kt Evl
/-! ### the two walks over a template tell the same -/
/-- the law's word -/
def ltW (g : Kv) (x : Str) (p : List PyData) (d : Int) (s : Bool) : Pf :=
  match kGet g (.inr x) with
  | some _ => if dz g x d = d then none else some p
  | none => if (!s && decide (x = "&")) = true then some p else none
mutual
def ltA (g : Kv) : Tm → List PyData → Int → Pf
  | .w x, p, d => ltW g x p d true
  | .l xs t, p, d =>
    match ltAL g xs p 0 d with
    | some e => some e
    | none => ltA g t (p ++ [.int xs.length]) d
  | _, _, _ => none
def ltAL (g : Kv) : List Tm → List PyData → Nat → Int → Pf
  | [], _, _, _ => none
  | x :: r, p, k, d =>
    match ltA g x (p ++ [.int k]) d with
    | some e => some e
    | none => ltAL g r p (k + 1) d
end
mutual
def ltN (g : Kv) : Tm → List PyData → Int → Pf
  | .w x, p, d => ltW g x p d false
  | .l xs t, p, d =>
    if asIs xs t = true then
      match xs with
      | [_, b] => ltA g b (p ++ [.int (1 : Nat)]) d
      | _ => none
    else
      match ltNL g xs p 0 false d with
      | some e => some e
      | none => ltN g t (p ++ [.int xs.length]) d
  | _, _, _ => none
def ltNL (g : Kv) : List Tm → List PyData → Nat → Bool → Int → Pf
  | [], _, _, _, _ => none
  | x :: r, p, k, ok, d =>
    match (if x.isW "&" = true then (if ok = true then none else some (p ++ [.int k]))
      else if nMark r = true then (if hasN g x = true then ltN g x (p ++ [.int k]) (d + 1) else some (p ++ [.int k]))
      else ltN g x (p ++ [.int k]) d) with
    | some e => some e
    | none => ltNL g r p (k + 1) (!x.isW "&") d
end
variable {g : Kv}
theorem tword_same (hm : kGet g (.inr "&") = none) (x : Str) (p : List PyData) (d : Int) (s : Bool) : (if wtW g x d s = true then some p else none) = ltW g x p d s := by
  unfold wtW ltW
  by_cases h1 : x = "&"
  · subst h1
    rw [if_pos rfl, hm]
    cases s <;> rfl
  · rw [if_neg h1]
    cases h2 : kGet g (.inr x) with
    | none =>
      have e : dz g x d = d := by unfold dz; rw [h2]
      rw [e, decide_eq_false h1, decide_eq_true (rfl : d = d)]
      cases s <;> rfl
    | some y =>
      dsimp only
      by_cases h3 : dz g x d = d
      · rw [if_pos h3, decide_eq_true h3]; rfl
      · rw [if_neg h3, decide_eq_false h3]; rfl
theorem tp_end (t : Tm) (xs : List Tm) (p : List PyData) (h : t ≠ .u) : tp p xs t = p ++ [.int xs.length] := by
  unfold tp
  cases t with
  | u => exact absurd rfl h
  | _ => rfl
mutual
theorem tA_same (hm : kGet g (.inr "&") = none) : ∀ (t : Tm) (p : List PyData) (d : Int), pth (twA g t p d) = ltA g t p d
  | .w x, p, d => by
    rw [twA, ltA, ← tword_same hm]
    split <;> rfl
  | .i _, _, _ => rfl
  | .b _, _, _ => rfl
  | .u, _, _ => rfl
  | .l xs t, p, d => by
    have h := tAL_same hm xs p 0 d
    have ht := tA_same hm t (p ++ [.int xs.length]) d
    rw [twA, ltA, ← h]
    cases twAL g xs p 0 d with
    | some e => rfl
    | none =>
      by_cases hu : t = .u
      · subst hu; rfl
      · rw [tp_end t xs p hu]; exact ht
theorem tAL_same (hm : kGet g (.inr "&") = none) : ∀ (xs : List Tm) (p : List PyData) (k : Nat) (d : Int), pth (twAL g xs p k d) = ltAL g xs p k d
  | [], _, _, _ => rfl
  | x :: r, p, k, d => by
    have h := tA_same hm x (p ++ [.int k]) d
    have hr := tAL_same hm r p (k + 1) d
    rw [twAL, ltAL, ← h, ← hr]
    cases twA g x (p ++ [.int k]) d <;> rfl
end
theorem ltN_row {u : Tm} {p : List PyData} {d : Int} : ∀ {xs : List Tm}, asIs xs u = false → ltN g (.l xs u) p d = (match ltNL g xs p 0 false d with | some e => some e | none => ltN g u (p ++ [.int xs.length]) d)
  | [], h => by
    rw [ltN, if_neg (by rw [h]; decide)]
    intro _ _ e; cases e
  | [a], h => by
    rw [ltN, if_neg (by rw [h]; decide)]
    intro _ _ e; cases e
  | [a, b], h => by
    rw [ltN, if_neg (by rw [h]; decide)]
  | a :: b :: c :: r, h => by
    rw [ltN, if_neg (by rw [h]; decide)]
    intro _ _ e; cases e
theorem asIs_two {xs : List Tm} {u : Tm} (h : asIs xs u = true) : ∃ a b, xs = [a, b] := by
  match xs, h with
  | [a, b], _ => exact ⟨a, b, rfl⟩
mutual
theorem tN_same (hm : kGet g (.inr "&") = none) : ∀ (t : Tm) (p : List PyData) (d : Int), pth (twN g t p d) = ltN g t p d
  | .w x, p, d => by
    rw [twN, ltN, ← tword_same hm]
    split <;> rfl
  | .i _, _, _ => rfl
  | .b _, _, _ => rfl
  | .u, _, _ => rfl
  | .l xs t, p, d => by
    have h := tNL_same hm xs p 0 false d
    have ht := tN_same hm t (p ++ [.int xs.length]) d
    cases ha : asIs xs t with
    | true =>
      obtain ⟨a, b, rfl⟩ := asIs_two ha
      rw [twN, ltN, if_pos ha, if_pos ha]
      exact tA_same hm b _ d
    | false =>
      rw [twN_row ha, ltN_row ha, ← h]
      cases twNL g xs p 0 false d with
      | some e => rfl
      | none =>
        by_cases hu : t = .u
        · subst hu; rfl
        · rw [tp_end t xs p hu]; exact ht
theorem tNL_same (hm : kGet g (.inr "&") = none) : ∀ (xs : List Tm) (p : List PyData) (k : Nat) (ok : Bool) (d : Int), pth (twNL g xs p k ok d) = ltNL g xs p k ok d
  | [], _, _, _, _ => rfl
  | x :: r, p, k, ok, d => by
    have h1 := tN_same hm x (p ++ [.int k]) d
    have h2 := tN_same hm x (p ++ [.int k]) (d + 1)
    have hr := tNL_same hm r p (k + 1) (!x.isW "&") d
    rw [twNL, ltNL, ← h1, ← h2, ← hr]
    by_cases c1 : x.isW "&" = true
    · rw [if_pos c1, if_pos c1]
      cases ok <;> rfl
    · rw [if_neg c1, if_neg c1]
      by_cases c2 : nMark r = true
      · rw [if_pos c2, if_pos c2]
        by_cases c3 : hasN g x = true
        · rw [if_pos c3, if_pos c3]
          cases twN g x (p ++ [.int k]) (d + 1) <;> rfl
        · rw [if_neg c3, if_neg c3]; rfl
      · rw [if_neg c2, if_neg c2]
        cases twN g x (p ++ [.int k]) d <;> rfl
end
end

section
open PySem PySem.Spec PyProof.Rows L2 Kt Evl
section
variable {P : Program} {w : World} {K : PySem.W.Frag} {mg : Str → Option Value} {base : Heap} {c : Cs}
/-! ### repr of a datum -/
mutual
/-- its words and its numbers are short -/
def Tm.sml : Tm → Prop
  | .w x => x.cps.size ≤ 20
  | .i z => z.natAbs < 1000
  | .l xs t => smlL xs ∧ t.sml
  | _ => True
def smlL : List Tm → Prop
  | [] => True
  | x :: r => x.sml ∧ smlL r
end
theorem smlL_mem : ∀ {xs : List Tm} {x : Tm}, smlL xs → x ∈ xs → x.sml
  | y :: r, x, h, m => by
    rcases List.mem_cons.mp m with rfl | m
    · exact h.1
    · exact smlL_mem h.2 m
theorem smInt3 {i : Int} (h : i.natAbs < 1000) : Sm 10 0 (.int i) := by
  have a := Sm.int (i := i) (Nat.lt_trans h (by decide))
  refine ⟨a.sh, a.cl, a.de, ?_, a.lf⟩
  simp only [PyData.weight]
  split
  · omega
  · rename_i h0
    have h1 : i.natAbs ≠ 0 := by
      intro e
      apply h0
      simp only [beq_iff_eq]
      omega
    have : i.natAbs.log2 < 10 := (Nat.log2_lt h1).mpr (Nat.lt_trans h (by decide))
    omega
mutual
theorem Tm.sm : ∀ t : Tm, t.ok → t.sml → Sm (40 * t.sz - 1) (2 * t.dp + 1) t.py
  | .w x, h, s => by
    have h' : PyData.strOk x = true := h
    have s' : x.cps.size ≤ 20 := s
    have a := Sm.tuple (SmAll.cons (Sm.str (x := "name") (by decide +kernel)) (SmAll.cons (Sm.str h') SmAll.nil))
    have e : ("name" : Str).cps.size = 4 := by decide +kernel
    exact a.more (by show _ ≤ 40 * 1 - 1; omega) (by show _ ≤ 2 * 0 + 1; simp)
  | .i z, _, s => (smInt3 s).more (by show _ ≤ 40 * 1 - 1; omega) (Nat.zero_le _)
  | .b z, _, _ => Sm.bool.more (Nat.zero_le _) (Nat.zero_le _)
  | .u, _, _ => (Sm.tuple SmAll.nil).more (Nat.zero_le _) (Nat.le_refl _)
  | .l xs t, h, s => by
    have a1 := smL xs h.1 s.1
    have a2 := Tm.sm t h.2 s.2
    have a := Sm.tuple (SmAll.cons (Sm.str (x := "list") (by decide +kernel)) (SmAll.cons (Sm.tuple a1) (SmAll.cons a2 SmAll.nil)))
    have e : ("list" : Str).cps.size = 4 := by decide +kernel
    have hs : 1 ≤ t.sz := by cases t <;> simp [Tm.sz]
    refine a.more ?_ ?_
    · show _ ≤ 40 * (szL xs + t.sz + 1) - 1
      omega
    · show _ ≤ 2 * (max (dpL xs) t.dp + 1) + 1
      omega
theorem smL : ∀ xs : List Tm, okL xs → smlL xs → SmAll (40 * szL xs) (2 * dpL xs + 1) (pyL xs)
  | [], _, _ => ⟨rfl, rfl, Nat.zero_le _, Nat.zero_le _, rfl⟩
  | x :: r, h, s => by
    have a1 := Tm.sm x h.1 s.1
    have a2 := smL r h.2 s.2
    have a := SmAll.cons a1 a2
    have hs : 1 ≤ x.sz := by cases x <;> simp [Tm.sz]
    refine ⟨a.sh, a.cl, ?_, ?_, a.lf⟩
    · have := a.de; rw [dpL]; show PyData.depthAll (x.py :: pyL r) ≤ _; omega
    · have := a.wt; rw [szL]; show PyData.weightAll (x.py :: pyL r) ≤ _; omega
end
/-! repr of tuples, numbers, truths, None -/
def rReprY (K : PySem.W.Frag) : List V → Hp → VK → Prop := fun vs H Q => rReprX K vs H Q ∨ ∃ b : Bool, vs = [.bl b] ∧ Q (.str (if b = true then "True" else "False")) H
theorem call_reprY {X : Cx} (hA : X.A.guards = some []) (hu : X.A.units + 129 < cLine) : CallR X (.builtin "repr") (rReprY X.K) := by
  intro pins s σ H vs us Q I r h
  rcases h with h | ⟨b, rfl, q⟩
  · exact call_reprX hA hu pins s σ H vs us Q I r h
  · obtain ⟨u, rfl, ru⟩ := vals1 r
    cases (show u = Value.bool b from ru)
    exact PySem.P.repr_of_bool ⟨.str _, H, I.tok _, ⟨_, rfl⟩, q⟩
def rp : PyData → Bool
  | .none | .bool _ | .int _ | .tuple _ => true
  | _ => false
theorem wC_reprY {K : PySem.W.Frag} {d : PyData} {w dp : Nat} {Q : Wd → Prop} (s : Sm w dp d) (hw : w ≤ 390000) (hd : dp ≤ 128) (hr : rp d = true) (q : Q (.d (.str d.shown))) : wC K (rReprY K) [.d d] Q := by
  cases d with
  | none => exact fun H vs C hv k => .inl (wC_reprN (K := K) q H vs C hv k)
  | bool b =>
    intro H vs C hv k
    obtain ⟨v, rfl, h⟩ := vr1 hv
    cases (show Tw K H v (.bool b) from h)
    exact .inr ⟨b, rfl, k _ H (.d (.str _)) (Ex.refl H) (show Tw K H _ _ from .str _) q⟩
  | int i =>
    have hz : i.natAbs.log2 < 1920 := by
      have := s.sh
      simp only [PyData.showable, decide_eq_true_eq] at this
      omega
    exact fun H vs C hv k => .inl (wC_reprI (K := K) hz q H vs C hv k)
  | tuple ds => exact fun H vs C hv k => .inl (wC_reprT (K := K) ⟨s, hw, hd, q⟩ H vs C hv k)
  | str x => cases hr
  | list ds => cases hr
  | dict kv => cases hr
theorem wC_reprYL {K : PySem.W.Frag} {x : Wd} {ds : List PyData} {w dp : Nat} {Q : Wd → Prop} (hx : x.tl = some ds) (q : Smd w dp (.list ds) (Q (.d (.str (PyData.shown (.list ds)))))) : wC K (rReprY K) [x] Q := fun H vs C hv k => .inl (.inl (wC_reprL hx q H vs C hv k))
theorem Tm.rp (t : Tm) : K96.rp t.py = true := by cases t <;> rfl
theorem wC_reprTm {K : PySem.W.Frag} {t : Tm} {Q : Wd → Prop} (ok : t.ok) (s : t.sml) (hz : t.sz ≤ 9000) (hd : t.dp ≤ 30) (q : Q (.d (.str t.py.shown))) : wC K (rReprY K) [.d t.py] Q := wC_reprY (t.sm ok s) (by omega) (by omega) t.rp q
theorem Lt_eq {x y : PyData} (h : x.shown = y.shown) : Lt x = Lt y := by unfold Lt; rw [h]
theorem Lt_u : Lt (.tuple []) = [40, 41] := by rw [Lt_tuple]; rfl
theorem shown_u (t : Tm) : decide (t.py.shown = "()") = t.isU := by
  have eu : ("()" : Str) = PyData.shown (.tuple []) := by decide +kernel
  rw [eu]
  cases t with
  | u => exact decide_eq_true rfl
  | i z =>
    refine decide_eq_false fun h => ?_
    have e := Lt_eq h
    have h1 := Lt_int_nS z 40 (by rw [show Lt (.int z) = [40, 41] from e.trans Lt_u]; simp)
    unfold nS at h1
    omega
  | b z =>
    refine decide_eq_false fun h => ?_
    have e := (Lt_eq h).trans Lt_u
    cases z with
    | true => rw [show Lt (Tm.b true).py = _ from Lt_true] at e; cases e
    | false => rw [show Lt (Tm.b false).py = _ from Lt_false] at e; cases e
  | w x =>
    refine decide_eq_false fun h => ?_
    have e := (Lt_eq h).trans Lt_u
    have e2 : Lt (Tm.w x).py = 40 :: J1 [.str "name", .str x] := Lt_tuple _
    rw [e2] at e
    have e3 : J1 [.str "name", .str x] = Lt (.str "name") ++ 44 :: 32 :: J2 [.str x] := by rw [J1]
    rw [e3] at e
    have e4 : Lt (.str "name") = [39, 110, 97, 109, 101, 39] := by unfold Lt; decide +kernel
    rw [e4] at e
    simp at e
  | l xs t =>
    refine decide_eq_false fun h => ?_
    have e := (Lt_eq h).trans Lt_u
    have e2 : Lt (Tm.l xs t).py = 40 :: J1 [.str "list", .tuple (pyL xs), t.py] := Lt_tuple _
    rw [e2] at e
    have e3 : J1 [.str "list", .tuple (pyL xs), t.py] = Lt (.str "list") ++ 44 :: 32 :: J2 [.tuple (pyL xs), t.py] := by rw [J1]
    rw [e3] at e
    have e4 : Lt (.str "list") = [39, 108, 105, 115, 116, 39] := by unfold Lt; decide +kernel
    rw [e4] at e
    simp at e
end
end

section
open PySem PySem.Spec PyProof.Rows L2 Kt Evl
section
variable {P : Program} {w : World} {K : PySem.W.Frag} {mg : Str → Option Value} {base : Heap} {c : Cs}
local macro_rules | `(tactic| walk_at "wE") => `(tactic| with_reducible refine wE_yin lensR ?_)
local macro_rules | `(tactic| walk_at "wE") => `(tactic| with_reducible refine wE_yix lensR ?_)
/-! ### the law's walk over a template -/
def lt (g : Kv) (t : Tm) (p : List PyData) (d : Int) (s : Bool) : Pf := if s = true then ltA g t p d else ltN g t p d
def prLTF (n : Nat) : Addr → List Wd → Kv → (Wd → Kv → Prop) → Prop := fun a ws g P => ∃ (t : Tm) (p : List PyData) (d : Int) (s : Bool), ws = [.d t.py, .d (.tuple p), .z (.ref a), .d (.int d), .d (.bool s)] ∧ t.ok ∧ t.sml ∧ t.dp < n ∧ n ≤ 30 ∧ t.sz ≤ 9000 ∧ p.length + t.dp ≤ 100 ∧ intK g ∧ P (.d (pN (lt g t p d s))) g
theorem wT_join {γ : Type} {W : Wc γ} {tt : TT} {ρ : List Wd} {g : γ} {QT : Bool → γ → Prop} (b0 : Bool) (h : wT W tt ρ g fun b g1 => b = b0 ∧ g1 = g) (q : QT b0 g) : wT W tt ρ g QT := fun σ H C R k => h σ H C R fun b H' g' e j z => by
  obtain ⟨rfl, rfl⟩ := z
  exact k b H' g' e j q
set_option maxHeartbeats 1000000
def okAt (xs : List Tm) (k : Nat) : Bool :=
  match k with
  | 0 => false
  | j + 1 => match xs[j]? with
    | some x => !x.isW "&"
    | none => false
def ltC (g : Kv) (xs : List Tm) (t : Tm) (p : List PyData) (k : Nat) (d : Int) (s : Bool) : Pf :=
  match (if s = true then ltAL g (xs.drop k) p k d else ltNL g (xs.drop k) p k (okAt xs k) d) with
  | some e => some e
  | none => lt g t (p ++ [.int xs.length]) d s
theorem ltC_end {g : Kv} {xs : List Tm} {t : Tm} {p : List PyData} {k : Nat} {d : Int} {s : Bool} (h : xs.length ≤ k) : ltC g xs t p k d s = lt g t (p ++ [.int xs.length]) d s := by
  unfold ltC
  rw [List.drop_eq_nil_of_le h, ltAL, ltNL]
  cases s <;> rfl
theorem ltC_bare {g : Kv} {xs : List Tm} {t x : Tm} {p : List PyData} {k : Nat} {d : Int} (hd : xs.drop k = x :: xs.drop (k + 1)) : ltC g xs t p k d true = match lt g x (p ++ [.int k]) d true with
    | some e => some e
    | none => ltC g xs t p (k + 1) d true := by
  unfold ltC lt
  rw [if_pos rfl, if_pos rfl, if_pos rfl, if_pos rfl, hd, ltAL]
  cases ltA g x (p ++ [.int k]) d <;> rfl
theorem okAt_succ {xs : List Tm} {x : Tm} {k : Nat} (h : xs[k]? = some x) : okAt xs (k + 1) = !x.isW "&" := by
  unfold okAt
  simp only [h]
theorem ltC_mark {g : Kv} {xs : List Tm} {t x : Tm} {p : List PyData} {k : Nat} {d : Int} (hx : xs[k]? = some x) (hd : xs.drop k = x :: xs.drop (k + 1)) (h : x.isW "&" = true) : ltC g xs t p k d false = if okAt xs k = true then ltC g xs t p (k + 1) d false else some (p ++ [.int k]) := by
  unfold ltC
  simp only [Bool.false_eq_true, if_false]
  rw [hd, ltNL, if_pos h, okAt_succ hx, h]
  cases okAt xs k <;> rfl
theorem ltC_item {g : Kv} {xs : List Tm} {t x : Tm} {p : List PyData} {k : Nat} {d : Int} (hx : xs[k]? = some x) (hd : xs.drop k = x :: xs.drop (k + 1)) (h : x.isW "&" = false) : ltC g xs t p k d false = if (nMark (xs.drop (k + 1)) && !hasN g x) = true then some (p ++ [.int k]) else match lt g x (p ++ [.int k]) (d + if nMark (xs.drop (k + 1)) = true then 1 else 0) false with
    | some e => some e
    | none => ltC g xs t p (k + 1) d false := by
  unfold ltC lt
  simp only [Bool.false_eq_true, if_false]
  rw [hd, ltNL, if_neg (by rw [h]; decide), okAt_succ hx]
  cases h1 : nMark (xs.drop (k + 1)) with
  | true =>
    rw [if_pos rfl, if_pos rfl]
    cases h2 : hasN g x with
    | true =>
      rw [if_pos rfl, if_neg (by decide)]
      cases ltN g x (p ++ [.int k]) (d + 1) <;> rfl
    | false => rw [if_neg (by decide), if_pos (by decide)]
  | false =>
    rw [if_neg (by decide), if_neg (by simp), if_neg (by decide), Int.add_zero]
    cases ltN g x (p ++ [.int k]) d <;> rfl
theorem lt_row {g : Kv} {xs : List Tm} {t : Tm} {p : List PyData} {d : Int} {s : Bool} (h : (!s && asIs xs t) = false) : lt g (.l xs t) p d s = ltC g xs t p 0 d s := by
  unfold lt ltC
  cases s with
  | true => rw [if_pos rfl, if_pos rfl, ltA]; rfl
  | false =>
    have h' : asIs xs t = false := h
    rw [if_neg (by decide), if_neg (by decide), ltN_row h']
    rfl
mutual
theorem wks_ok : ∀ t : Tm, t.ok → ∀ x ∈ wks t, PyData.strOk x = true
  | .w x, h, y, m => by
    rw [List.mem_singleton.mp m]
    exact h
  | .i _, _, _, m => by cases m
  | .b _, _, _, m => by cases m
  | .u, _, _, m => by cases m
  | .l xs t, h, y, m => by
    rw [wks] at m
    rcases List.mem_append.mp m with m | m
    · exact wksL_ok xs h.1 y m
    · exact wks_ok t h.2 y m
theorem wksL_ok : ∀ xs : List Tm, okL xs → ∀ x ∈ wksL xs, PyData.strOk x = true
  | [], _, _, m => by cases m
  | x :: r, h, y, m => by
    rw [wksL] at m
    rcases List.mem_append.mp m with m | m
    · exact wks_ok x h.1 y m
    · exact wksL_ok r h.2 y m
end
theorem lay_strs : ∀ L : List Str, (∀ y ∈ L, PyData.strOk y = true) → PyData.canLayAll0 (L.map .str) = true ∧ PyData.depthAll (L.map .str) = 0
  | [], _ => ⟨rfl, rfl⟩
  | x :: r, h => by
    have h1 := h x List.mem_cons_self
    have h2 := lay_strs r fun y hy => h y (List.mem_cons_of_mem _ hy)
    simp only [List.map_cons, PyData.canLayAll0, PyData.depthAll, PyData.canLay0, PyData.depth, h1, h2, Bool.and_self]
    exact ⟨trivial, rfl⟩
theorem shaped_strs (L : List Str) (h : ∀ y ∈ L, PyData.strOk y = true) : SeqAt.shaped (.list (L.map .str)) = true := by
  have := lay_strs L h
  unfold SeqAt.shaped
  simp only [PyData.canLay0, PyData.depth, this, Bool.true_and]
  decide
theorem eqv_nil (ds : List PyData) : PyData.eqv (.list ds) (.list []) = ds.isEmpty := by
  cases ds <;> simp [PyData.eqv, PyData.eqvAll]
abbrev s_law_t_fault : Stmt := topS 41
theorem sc_law_t_fault : FnScope ["datum", "path", "names", "depth", "is_bare", "items", "k", "item", "more", "word", "fault"] ["datum", "path", "names", "depth", "is_bare"] (defScope s_law_t_fault) := ⟨rfl, rfl, rfl, by decide +kernel, rfl, by decide +kernel, by decide +kernel⟩
theorem c_law_t_fault (T : Txt K mg c) (D : DefG K mg "_law_t_fault" s_law_t_fault ["datum", "path", "names", "depth", "is_bare"]) (c_law_is_list : CalO P w K mg base 1 "_law_is_list" (spP K prIsL)) (c_law_is_word : CalO P w K mg base 1 "_law_is_word" (spP K prIsW)) (c_law_is_mark : CalO P w K mg base 1 "_law_is_mark" (spP K prIsM)) (c_law_words_in : ∀ n : Nat, CalO P w K mg base (2 + n) "_law_words_in" (spP K (prLWs n))) : ∀ n : Nat, CalG P w K mg base (3 + n) "_law_t_fault" (spW K (DR K) (prLTF n)) := by
  intro n
  induction n with
  | zero =>
    refine calG D sc_law_t_fault (fun vs H Q E h => ?_) (fun cdv f A outer s H vs Q E hA hr h => ?_)
    · obtain ⟨th, ws, g, P, ⟨t, p, d, s, rfl, ok, sm, hd, hn, hz, hp, ik, z⟩, hv, _⟩ := h
      exact hv.len
    · obtain ⟨th, ws, g, P, ⟨t, p, d, s, rfl, ok, sm, hd, hn, hz, hp, ik, z⟩, hv, hj, hs, q⟩ := h
      exfalso; omega
  | succ n c_law_t_fault =>
  rw [show 3 + (n + 1) = (3 + n) + 1 by omega]
  refine calG D sc_law_t_fault (fun vs H Q E h => ?_) (fun cdv f A outer s H vs Q E hA hr h => ?_)
  · obtain ⟨th, ws, g, P, ⟨t, p, d, s, rfl, ok, sm, hd, hn, hz, hp, ik, z⟩, hv, _⟩ := h
    exact hv.len
  · obtain ⟨th, ws, g, P, ⟨t, p, d, s, rfl, ok, sm, hd, hn, hz, hp, ik, z⟩, hv, hj, hs, q⟩ := h
    have hu := hu_of hr
    have hR := hR_of hr
    refine ⟨_, pss_cons (ps_if (pt_val (pe_WO c_law_is_word hr (by omega) (by rfl) (pa_cons (pv 0) pa_nil)))
        (pss_cons (ps_if (pt_cmp (pc_din hu (pe_ix ix_tup (pv 0) pe_int (fun _ _ => rfl)) (pv 2)))
          (pss_one (ps_ret (pe_ifExp (pt_cmpR op_eq (pe_dget hu (pv 2) (pe_ix ix_tup (pv 0) pe_int (fun _ _ => rfl)) (fun _ _ => rfl)) (pv 3) (nomark _)) pe_non (pv 1))))
          (pss_nil))
        (pss_one (ps_ret (pe_ifExp (PW.pt (pw_and (pt_not (pt_val (pv 4))) (pw_and1 (pt_val (pe_WO c_law_is_mark hr (by omega) (by rfl) (pa_cons (pv 0) pa_nil)))))) (pv 1) pe_non))))
        (pss_nil))
      (pss_cons (ps_if (pt_not (pt_val (pe_WO c_law_is_list hr (by omega) (by rfl) (pa_cons (pv 0) pa_nil))))
        (pss_one (ps_ret (pe_non)))
        (pss_nil))
      (pss_cons (ps_set (i := 5) sc_law_t_fault.nd rfl (Or.inl rfl) (pe_ix ix_tup (pv 0) pe_int (fun _ _ => rfl)))
      (pss_cons (ps_if (PW.pt (pw_and (pt_not (pt_val (pv 4))) (pw_and (pt_cmpR op_eq (pe_callB call_lenO (by rfl) T.len (by decide +kernel) (pa_cons (pv 5) pa_nil)) pe_int (nomark _)) (pw_and (pt_val (pe_WO c_law_is_mark hr (by omega) (by rfl) (pa_cons (pe_ix ix_tup (pv 5) pe_int (fun _ _ => rfl)) pa_nil))) (pw_and1 (pt_cmpR op_eq (pe_callB (call_reprY hA hR) (by rfl) T.repr (by decide +kernel) (pa_cons (pe_ix ix_tup (pv 0) pe_int (fun _ _ => rfl)) pa_nil)) pe_str (nomark _)))))))
        (pss_one (ps_ret (pe_WG c_law_t_fault hA hr (by omega) (by rfl) (pa_cons (pe_ix ix_tup (pv 5) pe_int (fun _ _ => rfl)) (pa_cons (pe_op op_catA (pv 1) (pe_tup (pa_cons pe_int pa_nil))) (pa_cons (pv 2) (pa_cons (pv 3) (pa_cons pe_bl pa_nil))))))))
        (pss_nil))
      (pss_cons (ps_for PassesOwn.never rfl (pi_enT (by rfl) T.enumerate (pa_cons (pv 5) pa_nil)) (pg_tup rfl (pgs_cons (pg_name (i := 6) sc_law_t_fault.nd rfl (Or.inl rfl)) (pgs_cons (pg_name (i := 7) sc_law_t_fault.nd rfl (Or.inl rfl)) pgs_nil)))
        (pss_cons (ps_if (PW.pt (pw_and (pt_not (pt_val (pv 4))) (pw_and1 (pt_val (pe_WO c_law_is_mark hr (by omega) (by rfl) (pa_cons (pv 7) pa_nil))))))
          (pss_cons (ps_if (PW.pt (pw_or (pt_cmpR op_eq (pv 6) pe_int (nomark _)) (pw_or1 (pt_val (pe_WO c_law_is_mark hr (by omega) (by rfl) (pa_cons (pe_ix ix_tup (pv 5) (pe_op op_sub (pv 6) pe_int) (fun _ _ => rfl)) pa_nil))))))
            (pss_one (ps_ret (pe_op op_catA (pv 1) (pe_tup (pa_cons (pv 6) pa_nil)))))
            (pss_nil))
          (pss_one (ps_continue)))
          (pss_nil))
        (pss_cons (ps_set (i := 8) sc_law_t_fault.nd rfl (Or.inl rfl) (pe_ifExp (PW.pt (pw_and (pt_not (pt_val (pv 4))) (pw_and (pt_cmpR op_lt (pe_op op_add (pv 6) pe_int) (pe_callB call_lenO (by rfl) T.len (by decide +kernel) (pa_cons (pv 5) pa_nil)) (nomark _)) (pw_and1 (pt_val (pe_WO c_law_is_mark hr (by omega) (by rfl) (pa_cons (pe_ix ix_tup (pv 5) (pe_op op_add (pv 6) pe_int) (fun _ _ => rfl)) pa_nil))))))) pe_int pe_int))
        (pss_cons (ps_if (PW.pt (pw_and (pt_cmpR op_eq (pv 8) pe_int (nomark _)) (pw_and1 (pt_cmpR (op_eqD hr.units) (pe_lc (own := [("word", 9)]) (g := gName 9) (by rfl) sc_law_t_fault.nd (pi_list (pe_WO (c_law_words_in n) hr (by omega) (by rfl) (pa_cons (pv 7) pa_nil))) (blkOk_by (own := [("word", 9)]) (N := ["datum", "path", "names", "depth", "is_bare", "items", "k", "item", "more", "word", "fault"]) (sc := defScope s_law_t_fault) (by decide +kernel)) (fun _ _ _ _ _ => pg_name (i := 9) sc_law_t_fault.nd rfl (Or.inl rfl)) (fun _ _ _ _ _ => pts_one (pt_cmp (pc_din hu (pv 9) (pv 2)))) (fun _ _ _ _ _ => pv 9)) (pe_lst pa_nil) (nomark _)))))
          (pss_one (ps_ret (pe_op op_catA (pv 1) (pe_tup (pa_cons (pv 6) pa_nil)))))
          (pss_nil))
        (pss_cons (ps_set (i := 10) sc_law_t_fault.nd rfl (Or.inl rfl) (pe_WG c_law_t_fault hA hr (by omega) (by rfl) (pa_cons (pv 7) (pa_cons (pe_op op_catA (pv 1) (pe_tup (pa_cons (pv 6) pa_nil))) (pa_cons (pv 2) (pa_cons (pe_op op_add (pv 3) (pv 8)) (pa_cons (pv 4) pa_nil)))))))
        (pss_one (ps_if (pt_cmpR op_notN1 (pv 10) pe_non (nomark _))
          (pss_one (ps_ret (pv 10)))
          (pss_nil))))))))
      (pss_one (ps_ret (pe_WG c_law_t_fault hA hr (by omega) (by rfl) (pa_cons (pe_ix ix_tup (pv 0) pe_int (fun _ _ => rfl)) (pa_cons (pe_op op_catA (pv 1) (pe_tup (pa_cons (pe_callB call_lenO (by rfl) T.len (by decide +kernel) (pa_cons (pv 5) pa_nil)) pa_nil))) (pa_cons (pv 2) (pa_cons (pv 3) (pa_cons (pv 4) pa_nil)))))))))))), ?_⟩
    refine bodyW hv hj hs q (Nat.le_of_ble_eq_true rfl) ?_
    try dsimp only [cx_K]
    walk_at "w"
    refine ⟨t, rfl, ?_⟩
    cases t with
    | w x =>
      have z' : P (.d (pN (ltW g x p d s))) g := by
        have e : lt g (.w x) p d s = ltW g x p d s := by cases s <;> rfl
        rw [← e]; exact z
      unfold ltW at z'
      dsimp only [Tm.py]
      walk_at "w"
      refine ite_b (fun hb1 => ?_) (fun hb1 => ?_)
      · obtain ⟨y, hy⟩ := Option.isSome_iff_exists.mp hb1
        obtain ⟨w0, rfl⟩ := ik _ _ hy
        rw [hy] at z'
        have e : dz g x d = w0 := by unfold dz; rw [hy]
        dsimp only at z'
        rw [e] at z'
        walk_at "w"
        refine ⟨_, hy, ?_⟩
        walk_at "w"
        refine ite_b (fun hb2 => ?_) (fun hb2 => ?_)
        · rw [if_pos (of_decide_eq_true hb2)] at z'
          walk_at "w"
          exact z'
        · rw [if_neg (of_decide_eq_false hb2)] at z'
          walk_at "w"
          exact z'
      · have hy : kGet g (.inr x) = none := by
          cases h : kGet g (.inr x) with
          | none => rfl
          | some y => rw [h] at hb1; cases hb1
        rw [hy] at z'
        dsimp only at z'
        cases s with
        | true =>
          walk_at "w"
          exact z'
        | false =>
          walk_at "w"
          refine ⟨.w x, rfl, ok, by omega, ?_⟩
          walk_at "w"
          refine ite_b (fun hb2 => ?_) (fun hb2 => ?_)
          · rw [if_pos (by exact hb2)] at z'
            walk_at "w"
            exact z'
          · rw [if_neg (by show ¬ (decide (x = "&")) = true; rw [show decide (x = "&") = false from hb2]; decide)] at z'
            walk_at "w"
            exact z'
    | i k =>
      have z' : P (.d .none) g := by cases s <;> exact z
      walk_at "w"
      refine ⟨.i k, rfl, ?_⟩
      walk_at "w"
      exact z'
    | b k =>
      have z' : P (.d .none) g := by cases s <;> exact z
      walk_at "w"
      refine ⟨.b k, rfl, ?_⟩
      walk_at "w"
      exact z'
    | u =>
      have z' : P (.d .none) g := by cases s <;> exact z
      walk_at "w"
      refine ⟨.u, rfl, ?_⟩
      walk_at "w"
      exact z'
    | l xs t =>
      have hd' : max (dpL xs) t.dp + 1 < n + 1 := hd
      have hz' : szL xs + t.sz + 1 ≤ 9000 := hz
      have hp' : p.length + (max (dpL xs) t.dp + 1) ≤ 100 := hp
      have hxl := szL_len xs
      walk_at "w"
      refine ⟨.l xs t, rfl, ?_⟩
      dsimp only [Tm.py]
      walk_at "w1"
      refine ite_f rfl ?_
      iterate 9 walk_at "w1"
      refine wS_if (wT_join (!s && asIs xs t) ?_ ?_)
      · cases s with
        | true =>
          walk_at "w"
          exact ⟨rfl, rfl⟩
        | false =>
          walk_at "w"
          rw [pyL_len]
          match xs, ok, sm with
          | [], _, _ => walk_at "w"; exact ⟨rfl, rfl⟩
          | [a], _, _ => walk_at "w"; exact ⟨rfl, rfl⟩
          | a :: b :: c :: r, _, _ =>
            walk_at "w"
            exact ⟨rfl, rfl⟩
          | [a, b], ok, sm =>
            dsimp only [pyL]
            walk_at "w"
            refine ⟨a, rfl, ok.1.1, by have : dpL [a, b] = max a.dp (max b.dp 0) := rfl; omega, ?_⟩
            walk_at "w"
            refine ite_b (fun hb => ?_) (fun hb => ?_)
            · walk_at "w"
              refine wC_reprTm ok.2 sm.2 (by omega) (by omega) ?_
              walk_at "w"
              rw [shown_u]
              exact ⟨by show _ = (a.isW "&" && t.isU); rw [hb]; rfl, rfl⟩
            · exact ⟨by show _ = (a.isW "&" && t.isU); rw [hb]; rfl, rfl⟩
      · refine ite_b (fun hb => ?_) (fun hb => ?_)
        · cases s with
          | true => cases hb
          | false =>
            have hb' : asIs xs t = true := hb
            obtain ⟨a, b, rfl⟩ := asIs_two hb'
            have hdd : dpL [a, b] = max a.dp (max b.dp 0) := rfl
            have hss : szL [a, b] = a.sz + (b.sz + 0) := rfl
            dsimp only [pyL]
            walk_at "w"
            refine q_Sz ?_ (szO (by show p.length + 1 ≤ _; omega))
            walk_at "w"
            refine ⟨b, p ++ [.int (1 : Nat)], d, true, rfl, ok.1.2.1, sm.1.2.1, by omega, by omega, by omega, by rw [List.length_append, List.length_singleton]; omega, ik, ?_⟩
            have e : lt g (.l [a, b] t) p d false = lt g b (p ++ [.int (1 : Nat)]) d true := by
              unfold lt
              rw [if_neg (by decide), if_pos rfl, ltN, if_pos hb']
            rw [← e]
            exact z
        · rw [lt_row hb] at z
          walk_at "w"
          refine fun v => ⟨fun i ρ g' => g' = g ∧ ∃ (e1 e2 e3 e4 : Wd), ρ = [.d (.tuple [.str "list", .tuple (pyL xs), t.py]), .d (.tuple p), .z (.ref th), .d (.int d), .d (.bool s), .d (.tuple (pyL xs)), e1, e2, e3, .no, e4, .pt v (pyL xs)] ∧ ltC g xs t p i d s = ltC g xs t p 0 d s, ⟨rfl, .no, .no, .no, .no, rfl, rfl⟩, ?_, ?_, ?_⟩
          · rintro i ρ' g' ⟨rfl, e1, e2, e3, e4, rfl, h1⟩
            rfl
          · rintro i dd ρ' g' hdd ⟨rfl, e1, e2, e3, e4, rfl, h1⟩
            obtain ⟨y, hy, rfl⟩ := enumD_get 0 (pyL xs) i dd hdd
            obtain ⟨x, hx, rfl⟩ := pyL_get xs i y hy
            have hi : i < xs.length := (List.getElem?_eq_some_iff.mp hx).1
            have hdr : xs.drop i = x :: xs.drop (i + 1) := by
              have := List.drop_eq_getElem_cons hi
              rw [(List.getElem?_eq_some_iff.mp hx).2] at this
              exact this
            have hm := List.mem_of_getElem? hx
            have m1 := dpL_mem hm
            have m2 := szL_mem hm
            have okx := okL_mem ok.1 hm
            have smx := smlL_mem sm.1 hm
            rw [Nat.zero_add]
            cases s with
            | true =>
              rw [ltC_bare hdr] at h1
              walk_at "w"
              refine q_Sz ?_ (szO (by show p.length + 1 ≤ _; omega))
              walk_at "w"
              refine ⟨x, p ++ [.int (i : Nat)], _, true, rfl, okx, smx, by omega, by omega, by omega, by rw [List.length_append, List.length_singleton]; omega, ik, ?_⟩
              rw [Int.add_zero]
              cases hq : lt g' x (p ++ [.int (i : Nat)]) d true with
              | some e =>
                rw [hq] at h1
                dsimp only [pN] at h1 ⊢
                walk_at "w"
                rw [← h1] at z
                exact z
              | none =>
                rw [hq] at h1
                dsimp only [pN] at h1 ⊢
                walk_at "w"
                exact ⟨rfl, _, _, _, _, rfl, h1⟩
            | false =>
              walk_at "w"
              refine ⟨x, rfl, okx, by omega, ?_⟩
              walk_at "w"
              refine ite_b (fun hb1 => ?_) (fun hb1 => ?_)
              · rw [ltC_mark hx hdr hb1] at h1
                walk_at "w"
                refine ite_b (fun hb2 => ?_) (fun hb2 => ?_)
                · have e : i = 0 := by have := of_decide_eq_true hb2; omega
                  rw [e, if_neg (by show ¬ okAt xs 0 = true; exact fun z => by cases z)] at h1
                  walk_at "w"
                  refine q_Sz ?_ (szO (by show p.length + 1 ≤ _; omega))
                  rw [← h1] at z
                  rw [e]
                  exact z
                · have e0 : ¬ i = 0 := by have := of_decide_eq_false hb2; omega
                  obtain ⟨j, rfl⟩ : ∃ j, i = j + 1 := ⟨i - 1, by omega⟩
                  have hj : j < xs.length := by omega
                  have hxj : xs[j]? = some xs[j] := List.getElem?_eq_getElem hj
                  generalize xs[j] = xj at hxj
                  have hmj := List.mem_of_getElem? hxj
                  have mj := dpL_mem hmj
                  rw [okAt_succ hxj] at h1
                  walk_at "w"
                  rw [show ((j + 1 : Nat) : Int) - 1 = (j : Int) by omega]
                  refine q_At (py_at hxj) ?_
                  walk_at "w"
                  refine ⟨xj, rfl, okL_mem ok.1 hmj, by omega, ?_⟩
                  walk_at "w"
                  refine ite_b (fun hb3 => ?_) (fun hb3 => ?_)
                  · rw [hb3, if_neg (by decide)] at h1
                    walk_at "w"
                    refine q_Sz ?_ (szO (by show p.length + 1 ≤ _; omega))
                    rw [← h1] at z
                    exact z
                  · rw [hb3, if_pos (by decide)] at h1
                    walk_at "w"
                    exact ⟨rfl, _, _, _, _, rfl, h1⟩
              · rw [ltC_item hx hdr hb1] at h1
                refine wS_next ?_
                dsimp only
                refine wS_seq (wS_asg (Nat.le_of_ble_eq_true rfl) (wE.mono (Q := fun w g2 => w = .d (.int (if nMark (xs.drop (i + 1)) = true then 1 else 0)) ∧ g2 = g') ?_ ?_))
                · walk_at "w"
                  refine ite_b (fun hb2 => ?_) (fun hb2 => ?_)
                  · have hk2 : i + 1 < xs.length := by
                      have := of_decide_eq_true hb2
                      rw [pyL_len] at this
                      omega
                    have hy : xs[i + 1]? = some xs[i + 1] := List.getElem?_eq_getElem hk2
                    have hdy : xs.drop (i + 1) = xs[i + 1] :: xs.drop (i + 1 + 1) := List.drop_eq_getElem_cons hk2
                    have my := List.mem_of_getElem? hy
                    have n1 := dpL_mem my
                    walk_at "w"
                    rw [show (i : Int) + 1 = ((i + 1 : Nat) : Int) by omega]
                    refine q_At (py_at hy) ?_
                    walk_at "w"
                    refine ⟨_, rfl, okL_mem ok.1 my, by omega, ?_⟩
                    walk_at "w"
                    rw [hdy]
                    refine ite_b (fun hb3 => ?_) (fun hb3 => ?_)
                    · walk_at "w"
                      exact ⟨by rw [if_pos (show nMark (_ :: _) = true from hb3)], rfl⟩
                    · walk_at "w"
                      exact ⟨by rw [if_neg (show ¬ nMark (_ :: _) = true by show ¬ Tm.isW _ _ = true; rw [hb3]; decide)], rfl⟩
                  · have hk2 : ¬ (i + 1 < xs.length) := by
                      have := of_decide_eq_false hb2
                      rw [pyL_len] at this
                      omega
                    walk_at "w"
                    exact ⟨by rw [List.drop_eq_nil_of_le (by omega)]; rfl, rfl⟩
                · rintro w g2 ⟨rfl, rfl⟩
                  cases hnm : nMark (xs.drop (i + 1)) with
                  | true =>
                    rw [hnm] at h1
                    rw [if_pos rfl]
                    walk_at "w"
                    refine ⟨x, rfl, by omega, by omega, ?_⟩
                    walk_at "w"
                    have hwl := wks_len x
                    refine fun v => ⟨fun i acc g' => g' = g2 ∧ acc = (((wks x).take i).filter fun y => (kGet g2 (.inr y)).isSome).map .str, fun _ => rfl, ⟨rfl, rfl⟩, ?_, ?_⟩
                    · rintro i1 d1 acc g' v1 hd1 ⟨rfl, rfl⟩
                      rw [List.getElem?_map] at hd1
                      cases hx1 : (wks x)[i1]? with
                      | none => rw [hx1] at hd1; cases hd1
                      | some y1 =>
                        rw [hx1] at hd1
                        cases hd1
                        have e1 : (wks x).take (i1 + 1) = (wks x).take i1 ++ [y1] := by rw [List.take_succ, hx1]; rfl
                        walk_at "w"
                        cases hk : (kGet g' (.inr y1)).isSome with
                        | true =>
                          walk_at "w"
                          refine q_Sz ?_ (szO (by rw [List.length_map]; have := List.length_filter_le (fun y => (kGet g' (.inr y)).isSome) ((wks x).take i1); rw [List.length_take] at this; omega))
                          refine ⟨rfl, ?_⟩
                          rw [e1, List.filter_append, List.map_append, List.filter_cons_of_pos (by exact hk)]
                          rfl
                        | false =>
                          walk_at "w"
                          refine ⟨rfl, ?_⟩
                          rw [e1, List.filter_append, List.filter_cons_of_neg (by rw [hk]; decide)]
                          simp
                    · rintro acc g' ⟨rfl, rfl⟩
                      rw [List.length_map, List.take_length]
                      have hsh : SeqAt.shaped (.list (((wks x).filter fun y => (kGet g' (.inr y)).isSome).map .str)) = true := shaped_strs _ fun y hy => wks_ok x okx y (List.mem_filter.mp hy).1
                      walk_at "w"
                      refine wR_eqL rfl rfl (q_shp hsh (by decide +kernel) ?_)
                      rw [eqv_nil]
                      walk_at "w"
                      have eh : (((wks x).filter fun y => (kGet g' (.inr y)).isSome).map PyData.str).isEmpty = !hasN g' x := by
                        unfold hasN
                        rw [List.isEmpty_map]
                        induction wks x with
                        | nil => rfl
                        | cons y r ih =>
                          rw [List.any_cons]
                          cases hk : (kGet g' (.inr y)).isSome with
                          | true => rw [List.filter_cons_of_pos (by exact hk)]; rfl
                          | false => rw [List.filter_cons_of_neg (by rw [hk]; decide), ih]; rfl
                      rw [eh]
                      cases hn2 : hasN g' x with
                      | false =>
                        rw [hn2, if_pos (by decide)] at h1
                        walk_at "w"
                        refine q_Sz ?_ (szO (by show p.length + 1 ≤ _; omega))
                        rw [← h1] at z
                        exact z
                      | true =>
                        rw [hn2, if_neg (by decide), if_pos rfl] at h1
                        walk_at "w"
                        refine q_Sz ?_ (szO (by show p.length + 1 ≤ _; omega))
                        walk_at "w"
                        refine ⟨x, p ++ [.int (i : Nat)], _, false, rfl, okx, smx, by omega, by omega, by omega, by rw [List.length_append, List.length_singleton]; omega, ik, ?_⟩
                        cases hq : lt g' x (p ++ [.int (i : Nat)]) (d + 1) false with
                        | some e =>
                          rw [hq] at h1
                          dsimp only [pN] at h1 ⊢
                          walk_at "w"
                          rw [← h1] at z
                          exact z
                        | none =>
                          rw [hq] at h1
                          dsimp only [pN] at h1 ⊢
                          walk_at "w"
                          exact ⟨rfl, _, _, _, _, rfl, h1⟩
                  | false =>
                    rw [hnm, Bool.false_and, if_neg (by decide), if_neg (by decide)] at h1
                    rw [if_neg (by decide)]
                    walk_at "w"
                    refine q_Sz ?_ (szO (by show p.length + 1 ≤ _; omega))
                    walk_at "w"
                    refine ⟨x, p ++ [.int (i : Nat)], _, false, rfl, okx, smx, by omega, by omega, by omega, by rw [List.length_append, List.length_singleton]; omega, ik, ?_⟩
                    cases hq : lt g2 x (p ++ [.int (i : Nat)]) (d + 0) false with
                    | some e =>
                      rw [hq] at h1
                      dsimp only [pN] at h1 ⊢
                      walk_at "w"
                      rw [← h1] at z
                      exact z
                    | none =>
                      rw [hq] at h1
                      dsimp only [pN] at h1 ⊢
                      walk_at "w"
                      exact ⟨rfl, _, _, _, _, rfl, h1⟩
          · rintro ρ' g' ⟨rfl, e1, e2, e3, e4, rfl, h1⟩
            rw [enumD_len, pyL_len, ltC_end (Nat.le_refl _)] at h1
            walk_at "w"
            refine q_Sz ?_ (szO (by show p.length + 1 ≤ _; omega))
            walk_at "w"
            rw [pyL_len]
            refine ⟨t, p ++ [.int xs.length], d, s, rfl, ok.2, sm.2, by omega, by omega, by omega, by rw [List.length_append, List.length_singleton]; omega, ik, ?_⟩
            rw [h1]
            exact z
end
end

section
open PySem PySem.Spec PyProof.Rows L2 Kt Evl
local macro_rules | `(tactic| walk_at "rd1") => `(tactic| first
  | with_reducible refine rd_seq ?_ | with_reducible refine rd_asg ?_ | with_reducible refine rd_name ?_ | with_reducible refine rd_c ?_
  | ((with_reducible refine' rd_var ?h ?q); (case h => exact rfl))
  | with_reducible refine rd_nil ?_ | with_reducible refine rd_cons ?_ | with_reducible refine rd_op ?_ | with_reducible refine rd_un ?_ | with_reducible refine rd_I0 ?_ | with_reducible refine rd_U ?_
  | with_reducible refine rd_cb ?_ | with_reducible refine rd_test ?_ | with_reducible refine rd_tB ?_ | with_reducible refine rd_bl ?_ | with_reducible refine rd_tup ?_ | with_reducible refine rd_lst ?_
  | with_reducible refine rd_and ?_ | with_reducible refine rd_or ?_ | with_reducible refine rd_not ?_ | with_reducible refine rd_next ?_ | with_reducible refine rd_par ?_ | with_reducible refine rd_par1 ?_
  | with_reducible refine rd_ifS ?_ | with_reducible refine rd_ret ?_ | with_reducible refine rd_drop ?_ | with_reducible refine rd_bm ?_ | with_reducible refine rd_bm0 ?_ | with_reducible refine rd_dget ?_ | with_reducible refine rd_dput ?_
  | with_reducible refine rd_sl ?_ | with_reducible refine rd_no ?_ | with_reducible refine rd_some ?_ | with_reducible refine rd_some1 ?_ | with_reducible refine rd_intO ?_ | with_reducible refine rd_yes ?_ | with_reducible refine rd_pcons ?_ | with_reducible refine rd_pnil ?_)
local macro_rules | `(tactic| walk_at "rd1") => `(tactic| first | with_reducible refine rd_for ?_ | with_reducible refine rd_gcons ?_ | with_reducible refine rd_gnil ?_ | with_reducible refine rd_lc ?_ | with_reducible refine rd_irng ?_ | with_reducible refine rd_ilst ?_ | with_reducible refine rd_itup ?_ | with_reducible refine rd_tRevL ?_ | with_reducible refine rd_tRevT ?_)
local macro_rules | `(tactic| walk_at "rd") => `(tactic| repeat (walk_at "rd1"))

/-- a draw changes what is left and the spot, and nothing else of m -/
def Oth (m : Addr) (H H' : Hp) : Prop := ∀ kvs, H m = some (.dK kvs) → ∃ kvs', H' m = some (.dK kvs') ∧ ∀ k, k ≠ kLeft → k ≠ kSpot → valV kvs' k = valV kvs k
def spDrx (K : PySem.W.Frag) : Sp := fun vs H Q _ => ∃ (m c : Addr) (b : Int) (n : Nat), vs = [.ref m, .int b] ∧ Drw H m c n ∧ Cel K H c ∧ n < 1000000 ∧ 0 < b ∧ b ≤ 1000000 ∧
  ∀ (r : Int) (H' : Hp), 0 ≤ r → r < b → Keeps m H H' → Drw H' m c (n + 1) → Oth m H H' → Q (.int r) H'
section
variable {P : Program} {w : World} {K : PySem.W.Frag} {mg : Str → Option Value} {base : Heap} {c0 : Cs}
abbrev s_law_draw : Stmt := topS 32
theorem sc_law_draw : FnScope ["m", "below", "found", "spot", "cells", "added", "cell", "blend"] ["m", "below"] (defScope s_law_draw) := ⟨rfl, rfl, rfl, by decide +kernel, rfl, by decide +kernel, by decide +kernel⟩
theorem c_law_draw (T : Txt K mg c0) (D : DefG K mg "_law_draw" s_law_draw ["m", "below"]) : CalG P w K mg base 1 "_law_draw" (spDrx K) := by
  refine calG D sc_law_draw (fun vs H Q E h => ?_) (fun cdv f A outer s H vs Q E hA hr h => ?_)
  · obtain ⟨m, c, b, n, rfl, _⟩ := h
    rfl
  · obtain ⟨m, c, b, n, rfl, hD, ⟨ns, h7, h8, h9⟩, hn, hb, hb2, q⟩ := h
    have hu := hu_of hr
    obtain ⟨kvs, l, sd, sp, h1, h2, h3, h4, h5, h6, h10, h11, h12, h13⟩ := id hD.ex
    have hz : kvs.length < sizeLine := Nat.lt_of_le_of_lt h2 (Nat.lt_of_lt_of_le (by omega) (by decide : 2000000 ≤ sizeLine))
    refine ⟨_, pss_cons (ps_if (pt_cmpR op_gt (pe_dget hu (pv 0) pe_str (fun _ _ => rfl)) pe_int (nomark _))
        (pss_cons (ps_set (i := 2) sc_law_draw.nd rfl (Or.inl rfl) (pe_op op_modN (pe_callTy call_intO (by rfl) T.int (by decide +kernel) (pa_cons (pe_dget hu (pv 0) pe_str (fun _ _ => rfl)) pa_nil)) (pv 1)))
        (pss_cons (ps_dput hu (pv 0) pe_str (pe_op op_fdivN (pe_dget hu (pv 0) pe_str (fun _ _ => rfl)) (pv 1)) rfl)
        (pss_one (ps_ret (pv 2)))))
        (pss_nil))
      (pss_cons (ps_set (i := 3) sc_law_draw.nd rfl (Or.inl rfl) (pe_dget hu (pv 0) pe_str (fun _ _ => rfl)))
      (pss_cons (ps_dput hu (pv 0) pe_str (pe_op op_add (pv 3) pe_int) rfl)
      (pss_cons (ps_par (i := 4) (j := 5) (by rfl) sc_law_draw.nd rfl rfl (by decide) rfl rfl (pa_cons (pe_dget hu (pv 0) pe_str (fun _ _ => rfl)) (pa_cons (pe_op op_add (pe_dget hu (pv 0) pe_str (fun _ _ => rfl)) (pe_op op_mul (pe_op op_mul pe_int (pv 3)) (pv 3))) pa_nil)) (by rfl))
      (pss_cons (ps_set (i := 6) sc_law_draw.nd rfl (Or.inl rfl) (pe_ix ix_list (pv 4) (pe_op op_modN (pe_callTy call_intO (by rfl) T.int (by decide +kernel) (pa_cons (pv 3) pa_nil)) (pe_callB call_lenO (by rfl) T.len (by decide +kernel) (pa_cons (pv 4) pa_nil))) (fun _ _ => rfl)))
      (pss_cons (ps_set (i := 7) sc_law_draw.nd rfl (Or.inl rfl) (pe_op op_modN (pe_callTy call_intO (by rfl) T.int (by decide +kernel) (pa_cons (pe_op op_add (pe_op op_mul (pv 6) (pe_op op_add (pe_op op_mul pe_int (pv 3)) pe_int)) (pv 5)) pa_nil)) pe_int))
      (pss_cons (ps_set (i := 7) sc_law_draw.nd rfl (Or.inl rfl) (pe_op op_modN (pe_callTy call_intO (by rfl) T.int (by decide +kernel) (pa_cons (pe_op op_add (pe_op op_add (pe_op op_mul (pv 7) (pv 7)) (pe_op op_mul pe_int (pv 3))) (pe_dget hu (pv 0) pe_str (fun _ _ => rfl))) pa_nil)) pe_int))
      (pss_one (ps_ret (pe_op op_modN (pe_op op_fdivN (pe_op op_modN (pe_callTy call_intO (by rfl) T.int (by decide +kernel) (pa_cons (pe_op op_add (pe_op op_mul (pv 7) pe_int) (pv 3)) pa_nil)) pe_int) pe_int) (pv 1)))))))))), ?_⟩
    walk_at "rd"
    refine rd_dg (k := kLeft) h1 h3 ?_
    walk_at "rd"
    refine ite2 (fun hl => ?_) (fun hl => ?_)
    · walk_at "rd"
      refine rd_dg (k := kLeft) h1 h3 ?_
      walk_at "rd"
      refine rd_I (by omega) ?_
      walk_at "rd"
      refine rd_dg (k := kLeft) h1 h3 ?_
      walk_at "rd"
      refine rd_I ⟨by omega, by omega⟩ ?_
      walk_at "rd"
      refine rd_dp (k := kLeft) h1 hz ?_
      walk_at "rd"
      refine q _ _ (Int.fmod_nonneg_of_pos _ hb) (Int.fmod_lt_of_pos _ hb) Keeps.put ⟨_, l.fdiv b, sd, sp, upd_same, Nat.le_trans (length_putK _ _ _) (by omega), ?_, ?_, ?_, ?_, h10, h11, h12, by omega⟩ (fun kv e => by rw [h1] at e; cases e; exact ⟨_, upd_same, fun k n1 _ => by rw [valV_put, if_neg n1]⟩)
      · rw [valV_put, if_pos rfl]
      · rw [valV_put, if_neg (fun z => n_ld z.symm)]; exact h4
      · rw [valV_put, if_neg (fun z => n_ls z.symm)]; exact h5
      · rw [valV_put, if_neg (fun z => n_lc z.symm)]; exact h6
    · walk_at "rd"
      refine rd_dg (k := kSpot) h1 h5 ?_
      walk_at "rd"
      refine rd_dp (k := kSpot) h1 hz ?_
      have g1 : (upd H m (.dK (putK kvs kSpot (.int (sp + 1))))) m = some (.dK (putK kvs kSpot (.int (sp + 1)))) := upd_same
      have k2 : Keeps m H (upd H m (.dK (putK kvs kSpot (.int (sp + 1))))) := Keeps.put
      have g3 : valV (putK kvs kSpot (.int (sp + 1))) kLeft = some (.int l) := by rw [valV_put, if_neg n_ls]; exact h3
      have g4 : valV (putK kvs kSpot (.int (sp + 1))) kSeed = some (.int sd) := by rw [valV_put, if_neg (fun z => n_sd z.symm)]; exact h4
      have g5 : valV (putK kvs kSpot (.int (sp + 1))) kSpot = some (.int (sp + 1)) := by rw [valV_put, if_pos rfl]
      have g6 : valV (putK kvs kSpot (.int (sp + 1))) kCells = some (.ref c) := by rw [valV_put, if_neg (fun z => n_sc z.symm)]; exact h6
      have go : ∀ k, k ≠ kSpot → valV (putK kvs kSpot (.int (sp + 1))) k = valV kvs k := fun k n1 => by rw [valV_put, if_neg n1]
      have g7 := k2.lst h1 h7
      have gz : (putK kvs kSpot (.int (sp + 1))).length ≤ 10 + (n + 1) := Nat.le_trans (length_putK _ _ _) (by omega)
      generalize upd H m (.dK (putK kvs kSpot (.int (sp + 1)))) = H2 at *
      generalize putK kvs kSpot (.int (sp + 1)) = kv2 at *
      walk_at "rd"
      refine rd_dg (k := kCells) g1 g6 ?_
      walk_at "rd"
      refine rd_dg (k := kSeed) g1 g4 ?_
      walk_at "rd"
      refine rd_I (.inl ⟨by omega, by omega⟩) ?_
      walk_at "rd"
      refine rd_I (.inr ⟨by omega, by omega⟩) ?_
      walk_at "rd"
      refine rd_lenO (.inl g7) ?_
      have hfl : (0 : Int) < ((ns.map V.int).length : Int) := by rw [List.length_map]; omega
      walk_at "rd"
      refine rd_I (by omega) ?_
      have f1 := Int.fmod_nonneg_of_pos sp hfl
      have f2 := Int.fmod_lt_of_pos sp hfl
      obtain ⟨j, hj⟩ : ∃ j : Nat, sp.fmod ((ns.map V.int).length : Int) = (j : Int) := ⟨(sp.fmod _).toNat, (Int.toNat_of_nonneg f1).symm⟩
      rw [hj] at f2 ⊢
      have hjn : j < ns.length := by rw [List.length_map] at f2; omega
      walk_at "rd"
      refine rd_ixL g7 (atI_nat (v := .int ns[j]) (by rw [List.getElem?_map, List.getElem?_eq_getElem hjn]; rfl)) ?_
      generalize ns[j] = cell
      walk_at "rd"
      refine rd_I (.inl ⟨by omega, by omega⟩) ?_
      walk_at "rd"
      refine rd_I (.inr ⟨by omega, by omega⟩) ?_
      walk_at "rd"
      refine rd_I (by omega) ?_
      generalize hB1 : (cell * (2 * sp + 3) + (sd + 40503 * sp * sp)).fmod 2147483647 = B1
      have b1 : 0 ≤ B1 := hB1 ▸ Int.fmod_nonneg_of_pos _ (by omega)
      have b2 : B1 < 2147483647 := hB1 ▸ Int.fmod_lt_of_pos _ (by omega)
      walk_at "rd"
      refine rd_I (.inl ⟨by omega, by omega⟩) ?_
      walk_at "rd"
      refine rd_I (.inl ⟨by omega, by omega⟩) ?_
      walk_at "rd"
      refine rd_dg (k := kSeed) g1 g4 ?_
      walk_at "rd"
      refine rd_I (by omega) ?_
      generalize hB2 : (B1 * B1 + 69621 * sp + sd).fmod 2147483629 = B2
      have b3 : 0 ≤ B2 := hB2 ▸ Int.fmod_nonneg_of_pos _ (by omega)
      have b4 : B2 < 2147483629 := hB2 ▸ Int.fmod_lt_of_pos _ (by omega)
      walk_at "rd"
      refine rd_I (.inl ⟨by omega, by omega⟩) ?_
      walk_at "rd"
      refine rd_I (by omega) ?_
      walk_at "rd"
      refine rd_I ⟨by omega, by omega⟩ ?_
      walk_at "rd"
      refine rd_I (by omega) ?_
      exact q _ _ (Int.fmod_nonneg_of_pos _ hb) (Int.fmod_lt_of_pos _ hb) k2 ⟨kv2, l, sd, sp + 1, g1, gz, g3, g4, g5, g6, h10, h11, by omega, by omega⟩ (fun kv e => by rw [h1] at e; cases e; exact ⟨_, g1, fun k _ n2 => go k n2⟩)
end
end

section
open PySem PySem.Spec PyProof.Rows L2 Kt Evl
local macro_rules | `(tactic| walk_at "rd1") => `(tactic| first
  | with_reducible refine rd_seq ?_ | with_reducible refine rd_asg ?_ | with_reducible refine rd_name ?_ | with_reducible refine rd_c ?_
  | ((with_reducible refine' rd_var ?h ?q); (case h => exact rfl))
  | with_reducible refine rd_nil ?_ | with_reducible refine rd_cons ?_ | with_reducible refine rd_op ?_ | with_reducible refine rd_un ?_ | with_reducible refine rd_I0 ?_ | with_reducible refine rd_U ?_
  | with_reducible refine rd_cb ?_ | with_reducible refine rd_test ?_ | with_reducible refine rd_tB ?_ | with_reducible refine rd_bl ?_ | with_reducible refine rd_tup ?_ | with_reducible refine rd_lst ?_
  | with_reducible refine rd_and ?_ | with_reducible refine rd_or ?_ | with_reducible refine rd_not ?_ | with_reducible refine rd_next ?_ | with_reducible refine rd_par ?_ | with_reducible refine rd_par1 ?_
  | with_reducible refine rd_ifS ?_ | with_reducible refine rd_ret ?_ | with_reducible refine rd_drop ?_ | with_reducible refine rd_bm ?_ | with_reducible refine rd_bm0 ?_ | with_reducible refine rd_dget ?_ | with_reducible refine rd_dput ?_
  | with_reducible refine rd_sl ?_ | with_reducible refine rd_no ?_ | with_reducible refine rd_some ?_ | with_reducible refine rd_some1 ?_ | with_reducible refine rd_intO ?_ | with_reducible refine rd_yes ?_ | with_reducible refine rd_pcons ?_ | with_reducible refine rd_pnil ?_)
local macro_rules | `(tactic| walk_at "rd1") => `(tactic| first | with_reducible refine rd_for ?_ | with_reducible refine rd_gcons ?_ | with_reducible refine rd_gnil ?_ | with_reducible refine rd_lc ?_ | with_reducible refine rd_irng ?_ | with_reducible refine rd_ilst ?_ | with_reducible refine rd_itup ?_ | with_reducible refine rd_tRevL ?_ | with_reducible refine rd_tRevT ?_)
local macro_rules | `(tactic| walk_at "rd") => `(tactic| repeat (walk_at "rd1"))

/-- the world of the draws and of the number of the next name -/
structure Dn where
  m : Addr
  c : Addr
  stat : Bool
abbrev kNext : Key := Sum.inr "next"
theorem nx_l : kNext ≠ kLeft := sum_ne (by decide +kernel)
theorem nx_s : kNext ≠ kSpot := sum_ne (by decide +kernel)
def Nxt (H : Hp) (m : Addr) (k : Nat) : Prop := ∃ kvs, H m = some (.dK kvs) ∧ valV kvs kNext = some (.int (k : Int))
def On (K : PySem.W.Frag) (t : Dn) : Wo (Nat × Nat) where
  M := [t.m]
  A := if t.stat = true then [t.m] else [t.m, t.c]
  J := fun g H => Drw H t.m t.c g.1 ∧ CelB K t.stat H t.c ∧ Nxt H t.m g.2
  sub := fun a h => by
    split
    · exact h
    · rw [List.mem_singleton.mp h]; simp
  dic := fun g H a j h => by
    rw [List.mem_singleton.mp h]
    exact j.1.at
  stay := fun g H H' j h => by
    obtain ⟨d, cc, kv, n1, n2⟩ := j
    have hm : t.m ∈ (if t.stat = true then [t.m] else [t.m, t.c]) := by split <;> simp
    refine ⟨?_, ?_, kv, h _ _ hm n1, n2⟩
    · obtain ⟨kvs, l, sd, sp, h1, h2⟩ := d.ex
      exact ⟨kvs, l, sd, sp, h _ _ hm h1, h2⟩
    · cases hb : t.stat with
      | true =>
        rw [hb] at cc
        exact (show ∀ H' : Hp, Cel K H' t.c from cc)
      | false =>
        rw [hb] at cc
        obtain ⟨ns, h1, h2⟩ := (show ∃ ns : List Int, Rd H t.c (.lst (ns.map V.int)) ∧ 0 < ns.length ∧ ns.length ≤ 1000 from cc)
        have hc : t.c ∈ (if t.stat = true then [t.m] else [t.m, t.c]) := by rw [hb, if_neg (by decide)]; simp
        refine ⟨ns, ?_, h2⟩
        rcases h1 with h1 | ⟨o, h1⟩
        · exact .inl (h _ _ hc h1)
        · exact .inr ⟨o, h _ _ hc h1⟩
theorem Dn.drawn {K : PySem.W.Frag} {t : Dn} {g : Nat × Nat} {H H' : Hp} (j : (On K t).J g H) (k : Keeps t.m H H') (d : Drw H' t.m t.c (g.1 + 1)) (o : Oth t.m H H') : ExM (On K t).M H H' ∧ (On K t).J (g.1 + 1, g.2) H' := by
  obtain ⟨d0, cc, kv, n1, n2⟩ := j
  refine ⟨fun b u hb ho => k b u (fun e => hb (by rw [e]; show t.m ∈ [t.m]; simp)) ho, d, ?_, ?_⟩
  · cases hb : t.stat with
    | true =>
      rw [hb] at cc
      exact (show ∀ H' : Hp, Cel K H' t.c from cc)
    | false =>
      rw [hb] at cc
      obtain ⟨ns, h1, h2⟩ := (show ∃ ns : List Int, Rd H t.c (.lst (ns.map V.int)) ∧ 0 < ns.length ∧ ns.length ≤ 1000 from cc)
      refine ⟨ns, ?_, h2⟩
      rcases h1 with h1 | ⟨u, h1⟩
      · exact .inl (k _ _ (ne_of h1 n1 (fun z => by cases z)) h1)
      · exact .inr ⟨u, k _ _ (ne_of h1 n1 (fun z => by cases z)) h1⟩
  · obtain ⟨kv', o1, o2⟩ := o kv n1
    exact ⟨kv', o1, (o2 kNext nx_l nx_s).trans n2⟩
def prDraw (t : Dn) : List Wd → Nat × Nat → (Wd → Nat × Nat → Prop) → Prop := fun ws g P => ∃ b : Int, ws = [.z (.ref t.m), .d (.int b)] ∧ g.1 < 1000000 ∧ 0 < b ∧ b ≤ 1000000 ∧ ∀ r : Int, 0 ≤ r → r < b → P (.d (.int r)) (g.1 + 1, g.2)
theorem spDrx_W {K : PySem.W.Frag} {vs : List V} {H : Hp} {Q : VK} {E : XK} (h : spW K (On K) prDraw vs H Q E) : spDrx K vs H Q E := by
  obtain ⟨t, ws, g, P, ⟨b, rfl, g1, b0, b1, p⟩, hv, j, hs, q⟩ := h
  obtain ⟨v, u, rfl, h1, h2⟩ := vr2 hv
  obtain rfl := vrz h1
  cases (show Tw K H u (.int b) from h2)
  refine ⟨t.m, t.c, b, g.1, rfl, j.1, j.2.1.cel, g1, b0, b1, fun r H' r0 r1 k d o => ?_⟩
  obtain ⟨e, j'⟩ := Dn.drawn j k d o
  exact q _ H' (.d (.int r)) _ e j' (Tw.int r) (p r r0 r1)
def spOfx (K : PySem.W.Frag) : Sp := fun vs H Q _ => ∃ (m c p : Addr) (xs : List V) (n : Nat), vs = [.ref m, .ref p] ∧ SqL K H p xs ∧ 0 < xs.length ∧ xs.length < 1000000 ∧ Drw H m c n ∧ Cel K H c ∧ n < 1000000 ∧
  ∀ (i : Nat) (v : V) (H' : Hp), xs[i]? = some v → Keeps m H H' → Drw H' m c (n + 1) → Oth m H H' → Q v H'
def prOf (t : Dn) : List Wd → Nat × Nat → (Wd → Nat × Nat → Prop) → Prop := fun ws g P => ∃ (x : Wd) (ds : List PyData), ws = [.z (.ref t.m), x] ∧ x.tl = some ds ∧ g.1 < 1000000 ∧ 0 < ds.length ∧ ds.length < 1000000 ∧ ∀ (i : Nat) (d : PyData), ds[i]? = some d → P (.d d) (g.1 + 1, g.2)
theorem spOfx_W {K : PySem.W.Frag} {vs : List V} {H : Hp} {Q : VK} {E : XK} (h : spW K (On K) prOf vs H Q E) : spOfx K vs H Q E := by
  obtain ⟨t, ws, g, P, ⟨x, ds, rfl, hx, g1, b0, b1, p⟩, hv, j, hs, q⟩ := h
  obtain ⟨v, u, rfl, h1, h2⟩ := vr2 hv
  obtain rfl := vrz h1
  obtain ⟨a, xs, rfl, h3, h4⟩ := tl_at h2 hx
  have hl := h4.length
  refine ⟨t.m, t.c, a, xs, g.1, rfl, sq_of h3, by omega, by omega, j.1, j.2.1.cel, g1, fun i v H' hi k d o => ?_⟩
  obtain ⟨e, j'⟩ := Dn.drawn j k d o
  obtain ⟨dd, hd, hw⟩ := h4.getV hi
  exact q _ H' (.d dd) _ e j' (hw.mono ((On K t).tx j e)) (p i dd hd)
section
variable {P : Program} {w : World} {K : PySem.W.Frag} {mg : Str → Option Value} {base : Heap} {c0 : Cs}
abbrev s_law_of : Stmt := topS 33
theorem sc_law_of : FnScope ["m", "some"] ["m", "some"] (defScope s_law_of) := ⟨rfl, rfl, rfl, by decide +kernel, rfl, by decide +kernel, by decide +kernel⟩
theorem c_law_of (T : Txt K mg c0) (D : DefG K mg "_law_of" s_law_of ["m", "some"]) (c_law_draw : CalG P w K mg base 1 "_law_draw" (spDrx K)) : CalG P w K mg base 2 "_law_of" (spOfx K) := by
  refine calG D sc_law_of (fun vs H Q E h => ?_) (fun cdv f A outer s H vs Q E hA hr h => ?_)
  · obtain ⟨m, c, p, xs, n, rfl, _⟩ := h
    rfl
  · obtain ⟨m, c, p, xs, n, rfl, hL, hl, hl2, hD, hC, hn, q⟩ := h
    refine ⟨_, pss_one (ps_ret (pe_ix ix_list (pv 1) (pe_cG c_law_draw hA hr (by decide) (by rfl) (pa_cons (pv 0) (pa_cons (pe_callB call_lenO (by rfl) T.len (by decide +kernel) (pa_cons (pv 1) pa_nil)) pa_nil))) (fun _ _ => rfl))), ?_⟩
    walk_at "rd"
    refine rd_lenO (.inl hL) ?_
    walk_at "rd"
    refine ⟨m, c, _, n, rfl, hD, hC, hn, by omega, by omega, fun r H' r0 r1 k2 d2 o2 => ?_⟩
    obtain ⟨j, rfl⟩ : ∃ j : Nat, r = (j : Int) := ⟨r.toNat, (Int.toNat_of_nonneg r0).symm⟩
    have hj : j < xs.length := by omega
    refine rd_ixL (hD.lst k2 hL) (atI_nat (List.getElem?_eq_getElem hj)) ?_
    exact q j _ H' (List.getElem?_eq_getElem hj) k2 d2 o2
theorem c_law_drawN (T : Txt K mg c0) (D : DefG K mg "_law_draw" s_law_draw ["m", "below"]) : CalG P w K mg base 1 "_law_draw" (spW K (On K) prDraw) := (c_law_draw T D).weak fun vs H Q E h => spDrx_W h
theorem c_law_ofN (T : Txt K mg c0) (D : DefG K mg "_law_of" s_law_of ["m", "some"]) (c_law_draw : CalG P w K mg base 1 "_law_draw" (spDrx K)) : CalG P w K mg base 2 "_law_of" (spW K (On K) prOf) := (c_law_of T D c_law_draw).weak fun vs H Q E h => spOfx_W h
end
end

section
open PySem PySem.Spec PyProof.Rows L2 Kt Evl
/-! ### m['next'] -/
theorem len_putK {kvs : List (Key × V)} {k : Key} {v u : V} (h : valV kvs k = some u) : (putK kvs k v).length = kvs.length := by
  unfold putK
  have e : (kvs.any fun kv => decide (kv.1 = k)) = true := by
    cases hq : kvs.any fun kv => decide (kv.1 = k) with
    | true => rfl
    | false =>
      exfalso
      have : valV kvs k = none := by
        induction kvs with
        | nil => rfl
        | cons kv r ih =>
          obtain ⟨k1, v1⟩ := kv
          rw [List.any_cons, Bool.or_eq_false_iff] at hq
          have h1 : ¬ k1 = k := of_decide_eq_false hq.1
          rw [valV_neg h1] at h ⊢
          exact ih h hq.2
      rw [this] at h
      cases h
  rw [if_pos e, List.length_map]
section
variable {K : PySem.W.Frag} {t : Dn} {H0 : Hp} {n i : Nat} {ρ : List Wd} {g : Nat × Nat} {Q : Wd → Nat × Nat → Prop} {tv : TE}
theorem wE_nx (h : ρ[i]? = some (.z (.ref t.m))) (hi : i < n) (q : Q (.d (.int (g.2 : Int))) g) : wE ⟨K, On K t, H0, n⟩ (tDGet (tVar i) (tC (.str "next"))) ρ g Q := fun σ H C R kk => by
  obtain ⟨u, h1, h2⟩ := RelN.sl R h hi
  obtain rfl : u = some (.ref t.m) := h2
  obtain ⟨d, cc, kvs, n1, n2⟩ := RelN.j R
  have e : DGet H t.m (kV kNext) (valV kvs kNext) := DGet.k (k := kNext) n1
  rw [n2] at e
  exact ⟨_, h1, t.m, _, rfl, e, kk _ H (.d (.int (g.2 : Int))) g (ExM.refl H) (RelN.j R) (show Tw K H _ _ from .int _) q⟩
theorem wS_nx {O : WO (Nat × Nat)} (h : ρ[i]? = some (.z (.ref t.m))) (hi : i < n) (q : wE ⟨K, On K t, H0, n⟩ tv ρ g fun w g1 => ∃ k : Nat, w = .d (.int (k : Int)) ∧ g1.1 ≤ 1000000 ∧ O.nx ρ (g1.1, k)) : wS ⟨K, On K t, H0, n⟩ (sDPut (tVar i) (tC (.str "next")) tv) ρ g O := fun σ H D R kn _ _ _ => by
  refine q σ H _ R fun v H1 w g1 e1 j1 hv ⟨k, ew, hg, q1⟩ => ?_
  subst ew
  cases (show Tw K H1 v (.int (k : Int)) from hv)
  have R1 := RelN.grow R e1 j1
  obtain ⟨u, h1, h2⟩ := RelN.sl R1 h hi
  obtain rfl : u = some (.ref t.m) := h2
  refine ⟨_, h1, ?_⟩
  obtain ⟨d, cc, kv, n1, n2⟩ := id j1
  obtain ⟨kvs, l, sd, sp, d1, d2, d3, d4, d5, d6, d7⟩ := d.ex
  rw [n1] at d1
  cases d1
  have hz : kv.length + 1 ≤ sizeLine := Nat.le_trans (by omega : kv.length + 1 ≤ 2000000) (by decide)
  refine ⟨t.m, upd H1 t.m (.dK (putK kv kNext (.int (k : Int)))), rfl, DPut.k (k := kNext) n1 hz, kn ρ σ _ (g1.1, k) (RelN.grow R1 (fun b o hb ho => (upd_ne (fun z => hb (by rw [z]; show t.m ∈ [t.m]; simp))).trans ho) ?_) q1⟩
  refine ⟨⟨putK kv kNext (.int (k : Int)), l, sd, sp, upd_same, by rw [len_putK n2]; exact d2, ?_, ?_, ?_, ?_, d7⟩, ?_, putK kv kNext (.int (k : Int)), upd_same, by rw [valV_put, if_pos rfl]⟩
  · rw [valV_put, if_neg (fun z => nx_l z.symm)]; exact d3
  · rw [valV_put, if_neg (sum_ne (by decide +kernel))]; exact d4
  · rw [valV_put, if_neg (fun z => nx_s z.symm)]; exact d5
  · rw [valV_put, if_neg (sum_ne (by decide +kernel))]; exact d6
  · cases hb : t.stat with
    | true =>
      rw [hb] at cc
      exact (show ∀ H' : Hp, Cel K H' t.c from cc)
    | false =>
      rw [hb] at cc
      obtain ⟨ns, c1, c2⟩ := (show ∃ ns : List Int, Rd H1 t.c (.lst (ns.map V.int)) ∧ 0 < ns.length ∧ ns.length ≤ 1000 from cc)
      refine ⟨ns, ?_, c2⟩
      rcases c1 with c1 | ⟨o, c1⟩
      · exact .inl ((upd_ne (ne_of c1 n1 (fun z => by cases z))).trans c1)
      · exact .inr ⟨o, (upd_ne (ne_of c1 n1 (fun z => by cases z))).trans c1⟩
end
end

section
open PySem PySem.Spec PyProof.Rows L2 Kt Evl
/-! ### str(n) -/
def rStrI : List V → Hp → VK → Prop := fun xs H Q => ∃ i : Int, xs = [.int i] ∧ i.natAbs.log2 < 1920 ∧ Q (.str (toString i)) H
theorem call_strI {X : Cx} : CallR X (.type "str") rStrI := call_str_int
theorem wC_strI {K : PySem.W.Frag} {i : Int} {Q : Wd → Prop} (hz : i.natAbs.log2 < 1920) (q : Q (.d (.str (toString i)))) : wC K rStrI [.d (.int i)] Q := fun H vs C hv k => by
  obtain ⟨v, rfl, h⟩ := vr1 hv
  cases (show Tw K H v (.int i) from h)
  exact ⟨i, rfl, hz, k _ H (.d (.str _)) (Ex.refl H) (show Tw K H _ _ from .str _) q⟩
/-! ### draws and a dict that is read -/
structure Pn where
  d : Dn
  a : Addr
def OR (K : PySem.W.Frag) (t : Pn) : Wo ((Nat × Nat) × Kv) where
  M := (On K t.d).M
  A := t.a :: (On K t.d).A
  J := fun g H => (On K t.d).J g.1 H ∧ (DR K t.a).J g.2 H ∧ t.a ≠ t.d.m
  sub := fun a h => List.mem_cons_of_mem _ ((On K t.d).sub a h)
  dic := fun g H a j h => (On K t.d).dic g.1 H a j.1 h
  stay := fun g H H' j h => ⟨(On K t.d).stay g.1 H H' j.1 fun b o hb => h b o (List.mem_cons_of_mem _ hb), (DR K t.a).stay g.2 H H' j.2.1 fun b o hb => h b o (by rw [List.mem_singleton.mp hb]; exact List.mem_cons_self), j.2.2⟩
theorem sub_on {K : PySem.W.Frag} {t : Pn} : Sub (OR K t) (On K t.d) (·.1) (fun g d => (d, g.2)) where
  sup := fun a h => List.mem_cons_of_mem _ h
  m := fun a h => h
  j := fun g H j => j.1
  b := fun g H H' d j _ e j' => ⟨j', (DR K t.a).stay g.2 H H' j.2.1 fun b o hb ho => e b o (fun z => by
    have e1 : b = t.a := List.mem_singleton.mp hb
    have e2 : b = t.d.m := List.mem_singleton.mp z
    exact j.2.2 (e1.symm.trans e2)) ho, j.2.2⟩
theorem sub_dr {K : PySem.W.Frag} {t : Pn} : Sub (OR K t) (DR K t.a) (·.2) (fun g _ => g) where
  sup := fun a h => by rw [List.mem_singleton.mp h]; exact List.mem_cons_self
  m := fun a h => by cases h
  j := fun g H j => j.2.1
  b := fun g H H' d j _ e j' => (OR K t).stay g H H' j fun b o _ ho => ExM.ex e b o ho
theorem lens_or {K : PySem.W.Frag} {t : Pn} : LensR K (OR K t) t.a (·.2) := fun g H j => j.2.1.1
/-! ### [k for k in d if d[k] .. z] -/
def selK (kvs : Kv) (f : Int → Bool) : List Key := (kvs.map (·.1)).filter fun k => match kGet kvs k with
  | some (.int v) => f v
  | _ => false
theorem kw_fst {K : PySem.W.Frag} {H : Hp} : ∀ {ks : List (Key × V)} {kvs : Kv}, KwL K H ks kvs → ks.map (·.1) = kvs.map (·.1)
  | _, _, .nil => rfl
  | _, _, .cons _ t => by rw [List.map_cons, List.map_cons, kw_fst t]
theorem tw_keys {K : PySem.W.Frag} {H : Hp} : ∀ ks : List Key, TwL K H (ks.map kV) (ks.map keyD)
  | [] => .nil
  | k :: r => .cons (by cases k <;> constructor) (tw_keys r)
theorem upd_back {H : Hp} {a D : Addr} {o1 o2 u : HO} (ha : H a = some u) (ne : D ≠ a) : upd (upd (upd H a o1) D o2) a u = upd H D o2 := by
  funext b
  by_cases h1 : b = a
  · subst h1
    rw [upd_same, upd_ne (fun e => ne e.symm), ha]
  · rw [upd_ne h1]
    by_cases h2 : b = D
    · subst h2; rw [upd_same, upd_same]
    · rw [upd_ne h2, upd_ne h2, upd_ne h1]
section
variable {γ : Type} {W : Wc γ} {ρ : List Wd} {g : γ} {i j l : Nat} {a : Addr} {get : γ → Kv} {Q : Wd → γ → Prop}
theorem wE_sel {z : Int} {r : R2} (f : Int → Int → Bool) (L : LensR W.K W.ω a get) (hi : ρ[i]? = some (.z (.ref a))) (hin : i < W.n) (hl : ρ[l]? = some (.d (.int z))) (hln : l < W.n) (hj : j < W.n) (hij : i ≠ j) (hlj : l ≠ j)
    (hr : ∀ (a b : Int) (H : Hp) (Q : VK), Q (.bl (f a b)) H → r (.int a) (.int b) H Q) (ik : intK (get g)) (hz : (get g).length ≤ 15000) (q : Q (.o ((selK (get g) fun v => f v z).map keyD)) g) :
    wE W (tLockE (tLc (iKeys (tVar i)) (gName j) (tTest (tOp r (tDGet (tVar i) (tVar j)) (tVar l))) (tVar j) [j])) ρ g Q := fun σ H C R k => by
  obtain ⟨u, s1, e1⟩ := R.sl hi hin
  obtain rfl : u = some (.ref a) := e1
  obtain ⟨u2, s2, v2, rfl, e2⟩ := R.sl hl hln
  cases (show Tw W.K H v2 (.int z) from e2)
  obtain ⟨ks, ha, kw⟩ := L g H R.j
  have hsl : σ.length = W.n := R.1
  have hkl := kw_len kw
  refine ⟨a, .dK ks, ha, trivial, fun od => ?_⟩
  refine ⟨.ref a, s1, a, od, rfl, .inl ⟨ks, upd_same, fun D hD => ?_⟩⟩
  have ne : D ≠ a := fun e => by rw [e, upd_same] at hD; cases hD
  have hD0 : H D = none := by rw [upd_ne ne] at hD; exact hD
  have fr : ∀ o, (upd (upd H a (.frz od (.dK ks))) D o) a = some (.frz od (.dK ks)) := fun o => (upd_ne (fun e => ne e.symm)).trans upd_same
  refine ⟨fun i m H2 => m = ks.length - i ∧ i ≤ ks.length ∧ H2 = upd (upd H a (.frz od (.dK ks))) D (.lst ((((ks.map (·.1)).take i).filter fun k => match kGet (get g) k with | some (.int v) => f v z | _ => false).map kV)), ⟨_, rfl, Nat.zero_le _, rfl⟩, ?_⟩
  rintro p m H2 ⟨rfl, hp, rfl⟩
  by_cases hlt : p < ks.length
  · refine .inr ⟨⟨fr _, hlt⟩, fun H3 => H3 = upd (upd H a (.frz od (.dK ks))) D (.lst ((((ks.map (·.1)).take (p + 1)).filter fun k => match kGet (get g) k with | some (.int v) => f v z | _ => false).map kV)), fun H3 e => ⟨ks.length - (p + 1), by omega, rfl, hlt, e⟩, ?_⟩
    rintro x H3 ⟨rfl, ky, vy, hky, rfl⟩
    have kin : ky ∈ ks.map (·.1) := List.mem_map.mpr ⟨(ky, vy), List.mem_of_getElem? hky, rfl⟩
    have hkp : (ks.map (·.1))[p]? = some ky := by rw [List.getElem?_map, hky]; rfl
    have etk : (ks.map (·.1)).take (p + 1) = (ks.map (·.1)).take p ++ [ky] := by rw [List.take_succ, hkp]; rfl
    rw [etk, List.filter_append]
    have t1 : ((wipe σ [j]).set j (some (kV ky)))[i]? = some (some (.ref a)) := by
      show ((σ.set j none).set j (some (kV ky)))[i]? = _
      rw [List.getElem?_set_ne (fun e => hij e.symm), List.getElem?_set_ne (fun e => hij e.symm)]
      exact s1
    have t2 : ((wipe σ [j]).set j (some (kV ky)))[l]? = some (some (.int z)) := by
      show ((σ.set j none).set j (some (kV ky)))[l]? = _
      rw [List.getElem?_set_ne (fun e => hlj e.symm), List.getElem?_set_ne (fun e => hlj e.symm)]
      exact s2
    have t3 : ((wipe σ [j]).set j (some (kV ky)))[j]? = some (some (kV ky)) := by
      show ((σ.set j none).set j (some (kV ky)))[j]? = _
      rw [List.getElem?_set_self (by rw [List.length_set, hsl]; exact hj)]
    refine ⟨?_, ?_⟩
    · show ((σ.set j none).set j (some (kV ky))).set j none = σ.set j none
      rw [List.set_set, List.set_set]
    rcases kw_get ky kw with ⟨z1, z2⟩ | ⟨d', v', z1, z2, z3⟩
    · exact absurd (kw_fst kw ▸ kin) (kGet_none.mp z1)
    · obtain ⟨vi, rfl⟩ := ik _ _ z1
      cases (show Tw W.K H v' (.int vi) from z3)
      refine ⟨_, t1, _, t3, a, .int vi, rfl, .inl ⟨ks, ky, .inr ⟨od, fr _⟩, rfl, z2.symm⟩, .int z, t2, ?_⟩
      refine hr vi z _ _ ⟨_, rfl, ?_⟩
      have hf : ([ky].filter fun k => match kGet (get g) k with | some (.int v) => f v z | _ => false) = if f vi z = true then [ky] else [] := by
        rw [List.filter_cons, List.filter_nil, z1]
      rw [hf]
      cases hb : f vi z with
      | true =>
        rw [if_pos rfl]
        dsimp only
        rw [if_pos rfl, List.map_append]
        refine ⟨_, t3, _, upd_same, ?_, ?_⟩
        · have h1 := List.length_filter_le (fun k => match kGet (get g) k with | some (.int v) => f v z | _ => false) ((ks.map (·.1)).take p)
          rw [List.length_map]
          refine Nat.lt_of_le_of_lt h1 (Nat.lt_of_le_of_lt (Nat.le_trans (List.length_take_le' _ _) (by rw [List.length_map, hkl]; exact hz)) (Nat.lt_of_lt_of_le (by decide : 15000 < 200000) (by decide)))
        · rw [upd_upd]; rfl
      | false =>
        rw [if_neg (by decide)]
        dsimp only
        rw [if_neg (by decide), List.append_nil]
  · have e : p = ks.length := by omega
    subst e
    refine .inl ⟨⟨fr _, Nat.le_refl _⟩, fr _, ?_⟩
    rw [upd_back ha ne]
    have el : (ks.map (·.1)).take ks.length = (get g).map (·.1) := by rw [← kw_fst kw, List.take_of_length_le (by rw [List.length_map]; exact Nat.le_refl _)]
    rw [el]
    exact k (.ref D) _ (.o _) g (ExM.of (Ex.new hD0)) (R.stayG (Ex.new hD0)) ⟨D, _, rfl, hD0, upd_same, tw_keys _⟩ q
theorem r_eqz : ∀ (a b : Int) (H : Hp) (Q : VK), Q (.bl (decide (a = b))) H → rEq (.int a) (.int b) H Q := fun a b H Q q => by
  have e : decide (V.int a = V.int b) = decide (a = b) := by simp
  exact ⟨rfl, by rw [e]; exact q⟩
/-! ### a dict of one's own is handed on -/
theorem wS_pin {ts : TS} {O : WO γ} {kvs : Kv} (h : ρ[i]? = some (.k kvs)) (hi : i < W.n) (q : ∀ a, wS W ts (ρ.set i (.pd (.ref a) kvs)) g O) : wS W ts ρ g O := fun σ H D R => by
  obtain ⟨hn, τ, r⟩ := id R
  obtain ⟨u, s1, a, ks, e, h1, h2, h3⟩ := r.sl i _ h
  subst e
  exact q a σ H D ⟨hn, τ, r.label h s1 ⟨rfl, a, ks, rfl, h1, h2, h3⟩ (fun _ => rfl)⟩
theorem wS_unpin {ts : TS} {O : WO γ} {kvs : Kv} {a : Addr} (h : ρ[i]? = some (.pd (.ref a) kvs)) (hi : i < W.n) (q : wS W ts (ρ.set i (.k kvs)) g O) : wS W ts ρ g O := fun σ H D R => by
  obtain ⟨hn, τ, r⟩ := id R
  obtain ⟨u, s1, rfl, a, ks, e, h1, h2, h3⟩ := r.sl i _ h
  cases e
  exact q σ H D ⟨hn, τ, r.label h s1 ⟨a, ks, rfl, h1, h2, h3⟩ (fun _ => rfl)⟩
theorem wE_varPd {v : V} {kvs : Kv} (h : ρ[i]? = some (.pd v kvs)) (hi : i < W.n) (q : Q (.z v) g) : wE W (tVar i) ρ g Q := fun σ H C R k => by
  obtain ⟨u, h1, rfl, a, ks, rfl, h2, h3, h4⟩ := R.sl h hi
  exact ⟨_, h1, k _ H (.z _) g (ExM.refl H) R.j rfl q⟩
/-- read by the callee -/
theorem wE_ownR {t : TA} {kvs : Kv} {pre : Addr → List Wd → Kv → (Wd → Kv → Prop) → Prop} (h : ρ[i]? = some (.pd (.ref a) kvs)) (hi : i < W.n) (fk : flatK kvs) (q : wA W t ρ g fun ws g1 => pre a ws kvs fun w _ => Q w g1) : wE W (tPC (spW W.K (DR W.K) pre) t) ρ g Q := fun σ H C R k =>
  q σ H _ R fun vs H1 ws g1 e1 j1 hv q1 => by
    have R1 := R.grow e1 j1
    obtain ⟨u, s1, rfl, a', ks, e, h2, h3, h4⟩ := R1.sl h hi
    cases e
    refine ⟨a, ws, kvs, _, q1, hv, ⟨⟨ks, h3, h4⟩, fk⟩, fun b hb => (by rw [List.mem_singleton.mp hb, h3]; exact fun z => by cases z), fun v H' w d e2 j2 hw hq => ?_⟩
    have e2' : Ex H1 H' := ExM.ex e2
    exact k v H' w g1 (e1.trans (ExM.of e2')) (R1.stayG e2') (Vw.back j1 e1 hw) hq
end
/-- read by a callee that draws -/
theorem wE_ownD {K : PySem.W.Frag} {t : Dn} {H0 : Hp} {n i : Nat} {a : Addr} {ρ : List Wd} {g : Nat × Nat} {Q : Wd → Nat × Nat → Prop} {ta : TA} {kvs : Kv} {pre : Pn → List Wd → (Nat × Nat) × Kv → (Wd → (Nat × Nat) × Kv → Prop) → Prop} (h : ρ[i]? = some (.pd (.ref a) kvs)) (hi : i < n) (fk : flatK kvs)
    (q : wA ⟨K, On K t, H0, n⟩ ta ρ g fun ws g1 => pre ⟨t, a⟩ ws (g1, kvs) fun w d => Q w d.1) : wE ⟨K, On K t, H0, n⟩ (tPC (spW K (OR K) pre) ta) ρ g Q := fun σ H C R k =>
  q σ H _ R fun vs H1 ws g1 e1 j1 hv q1 => by
    have R1 := RelN.grow R e1 j1
    obtain ⟨u, s1, rfl, a', ks, e, h2, h3, h4⟩ := RelN.sl R1 h hi
    cases e
    have nA : a ∉ (On K t).A := by obtain ⟨_, τ, r⟩ := R1; exact r.nM h2
    refine ⟨⟨t, a⟩, ws, (g1, kvs), _, q1, hv, ⟨j1, ⟨⟨ks, h3, h4⟩, fk⟩, fun e => nA (by have e' : a = t.m := e; rw [e']; exact (On K t).sub t.m (by show t.m ∈ [t.m]; simp))⟩, fun b hb => ?_, fun v H' w d e2 j2 hw hq => ?_⟩
    · rcases List.mem_cons.mp hb with e | hb
      · rw [e, h3]; exact fun z => by cases z
      · exact RelN.supN (W := ⟨K, On K t, H0, n⟩) R1 b hb
    · exact k v H' w d.1 (e1.trans e2) j2.1 (Vw.back j1 e1 hw) hq
section
variable {γ : Type} {W : Wc γ} {ρ : List Wd} {g : γ} {i j : Nat} {a : Addr}
theorem own_put {H H' : Hp} {σ : L2.St} {kvs kvs' : Kv} (R : W.R H g σ ρ) (h : ρ[i]? = some (.pd (.ref a) kvs)) (hi : i < W.n) (e : ExM [a] H H') (d : DkAt W.K H' a kvs') (fk : flatK kvs') : W.R H' g σ (ρ.set i (.pd (.ref a) kvs')) := by
  obtain ⟨u, s1, rfl, a', ks, e1, h2, h3, h4⟩ := R.sl h hi
  cases e1
  obtain ⟨ks', d1, d2⟩ := d
  have nA : a ∉ W.ω.A := by obtain ⟨_, τ, r⟩ := id R; exact r.nM h2
  have R2 := RelN.put (w' := .pd (.ref a) kvs') (o := .dK ks') R hi h rfl s1 h2 (.inr ⟨ks, h3⟩) rfl ⟨rfl, a, ks', rfl, h2, upd_same, kw_flat fk d2⟩
  refine R2.grow (fun b o hb ho => ?_) (W.ω.stay g H H' R.j fun b o hb ho => e b o (fun z => nA (by rw [← List.mem_singleton.mp z]; exact hb)) ho)
  by_cases hba : b = a
  · subst hba
    rw [upd_same] at ho
    rw [d1]
    exact ho
  · rw [upd_ne hba] at ho
    exact e b o (fun z => hba (List.mem_singleton.mp z)) ho
/-- changed by the callee -/
theorem wS_ownX {O : WO γ} {t : TA} {kvs : Kv} {pre : Addr → List Wd → Gd → (Wd → Gd → Prop) → Prop} (h : ρ[i]? = some (.pd (.ref a) kvs)) (hi : i < W.n) (fk : flatK kvs)
    (q : wA W t ρ g fun ws g1 => pre a ws (kvs, []) fun _ d => O.nx (ρ.set i (.pd (.ref a) d.1)) g1) : wS W (tDrop (tPC (spW W.K (DV W.K) pre) t)) ρ g O := fun σ H D R kn _ _ _ =>
  q σ H _ R fun vs H1 ws g1 e1 j1 hv q1 => by
    have R1 := R.grow e1 j1
    obtain ⟨u, s1, rfl, a', ks, e, h2, h3, h4⟩ := R1.sl h hi
    cases e
    refine ⟨a, ws, (kvs, []), _, q1, hv, ⟨fk, rfl, ks, h3, h4⟩, fun b hb => (by rw [List.mem_singleton.mp hb, h3]; exact fun z => by cases z), fun v H' w d e2 j2 hw hq => ?_⟩
    exact kn _ σ H' g1 (own_put R1 h hi e2 j2.2.2 j2.1) hq
theorem wS_ownA {O : WO γ} {t : TA} {kvs : Kv} {pre : Addr → List Wd → Gd → (Wd → Gd → Prop) → Prop} (h : ρ[i]? = some (.pd (.ref a) kvs)) (hi : i < W.n) (hj : j < W.n) (fk : flatK kvs)
    (q : wA W t ρ g fun ws g1 => pre a ws (kvs, []) fun w d => ∃ x, w = .d x ∧ O.nx ((ρ.set i (.pd (.ref a) d.1)).set j (.d x)) g1) : wS W (tAsg (tPC (spW W.K (DV W.K) pre) t) (gName j)) ρ g O := fun σ H D R kn _ _ _ =>
  q σ H _ R fun vs H1 ws g1 e1 j1 hv q1 => by
    have R1 := R.grow e1 j1
    obtain ⟨u, s1, rfl, a', ks, e, h2, h3, h4⟩ := R1.sl h hi
    cases e
    refine ⟨a, ws, (kvs, []), _, q1, hv, ⟨fk, rfl, ks, h3, h4⟩, fun b hb => (by rw [List.mem_singleton.mp hb, h3]; exact fun z => by cases z), fun v H' w d e2 j2 hw ⟨x, ew, hq⟩ => ?_⟩
    subst ew
    exact kn _ _ H' g1 ((own_put R1 h hi e2 j2.2.2 j2.1).set (w := .d x) hj ⟨v, rfl, hw⟩ rfl) hq
end
/-! ### data of the draws -/
mutual
/-- its words can be read anew, all is short, no list is empty -/
def Tm.fn : Tm → Prop
  | .w x => PyData.strOk x = true ∧ x.cps.size ≤ 20
  | .i z => z.natAbs < 1000
  | .l xs t => 1 ≤ xs.length ∧ fnL xs ∧ t.fn
  | _ => True
def fnL : List Tm → Prop
  | [] => True
  | x :: r => x.fn ∧ fnL r
end
mutual
theorem Tm.fok : ∀ t : Tm, t.fn → t.ok
  | .w x, h => h.1
  | .i _, _ => trivial
  | .b _, _ => trivial
  | .u, _ => trivial
  | .l xs t, h => ⟨fokL xs h.2.1, Tm.fok t h.2.2⟩
theorem fokL : ∀ xs : List Tm, fnL xs → okL xs
  | [], _ => trivial
  | x :: r, h => ⟨Tm.fok x h.1, fokL r h.2⟩
end
mutual
theorem Tm.fsm : ∀ t : Tm, t.fn → t.sml
  | .w x, h => h.2
  | .i _, h => h
  | .b _, _ => trivial
  | .u, _ => trivial
  | .l xs t, h => ⟨fsmL xs h.2.1, Tm.fsm t h.2.2⟩
theorem fsmL : ∀ xs : List Tm, fnL xs → smlL xs
  | [], _ => trivial
  | x :: r, h => ⟨Tm.fsm x h.1, fsmL r h.2⟩
end
theorem fnL_app : ∀ {a b : List Tm}, fnL (a ++ b) ↔ fnL a ∧ fnL b
  | [], b => ⟨fun h => ⟨trivial, h⟩, fun h => h.2⟩
  | x :: r, b => ⟨fun h => ⟨⟨h.1, (fnL_app.mp h.2).1⟩, (fnL_app.mp h.2).2⟩, fun h => ⟨h.1.1, fnL_app.mpr ⟨h.1.2, h.2⟩⟩⟩
theorem fnL_mem : ∀ {xs : List Tm} {x : Tm}, fnL xs → x ∈ xs → x.fn
  | y :: r, x, h, m => by
    rcases List.mem_cons.mp m with rfl | m
    · exact h.1
    · exact fnL_mem h.2 m
theorem fnL_of : ∀ {xs : List Tm}, (∀ x ∈ xs, x.fn) → fnL xs
  | [], _ => trivial
  | x :: r, h => ⟨h x List.mem_cons_self, fnL_of fun y hy => h y (List.mem_cons_of_mem _ hy)⟩
theorem dpL_app (a b : List Tm) : dpL (a ++ b) = max (dpL a) (dpL b) := by
  induction a with
  | nil => simp [dpL]
  | cons x r ih => rw [List.cons_append, dpL, dpL, ih]; omega
theorem dpL_le {n : Nat} : ∀ {xs : List Tm}, (∀ x ∈ xs, x.dp ≤ n) → dpL xs ≤ n
  | [], _ => Nat.zero_le _
  | x :: r, h => by
    have h1 := h x List.mem_cons_self
    have h2 := dpL_le fun y hy => h y (List.mem_cons_of_mem x hy)
    rw [dpL]; omega
/-- the name of a number -/
theorem cps_tos (k : Nat) : (Str.ofString (toString (k : Int))).cps.toList = Lt (.int (k : Int)) := rfl
theorem nm_fn {k : Nat} (h : k < 100000) : (Tm.w (("p" : Str) ++ (Str.ofString (toString (k : Int))))).fn := by
  have e : (("p" : Str) ++ (Str.ofString (toString (k : Int)))).cps.toList = ("p" : Str).cps.toList ++ Lt (.int (k : Int)) := cps_app _ _
  have ep : ("p" : Str).cps.toList = [112] := by decide +kernel
  rw [ep] at e
  have hl := int_text_length_le10 (k := 5) (a := (k : Int)) (by decide) (by show Int.natAbs (k : Int) < 10 ^ 5; omega)
  refine ⟨?_, ?_⟩
  · unfold PyData.strOk
    rw [← Array.all_toList, e, List.all_eq_true]
    intro c hc
    rcases List.mem_append.mp hc with hc | hc
    · rw [List.mem_singleton.mp hc]; decide
    · have := Lt_int_nS _ c hc
      unfold nS at this
      exact decide_eq_true (by omega)
  · have h2 : (Lt (.int (k : Int))).length ≤ 7 := by
      show ((Str.ofString (toString (k : Int))).cps.toList).length ≤ 7
      have : (Str.ofString (toString (k : Int))).length = (toString (k : Int)).length := PySem.ofString_length _
      have e3 : ((Str.ofString (toString (k : Int))).cps.toList).length = (Str.ofString (toString (k : Int))).length := by
        rw [Array.length_toList]; rfl
      omega
    have h3 : (("p" : Str) ++ (Str.ofString (toString (k : Int)))).cps.size = [112].length + (Lt (.int (k : Int))).length := by
      rw [← Array.length_toList, e, List.length_append]
    rw [h3, List.length_singleton]
    omega
end

section
open PySem PySem.Spec PyProof.Rows L2 Kt Evl
section
variable {P : Program} {w : World} {K : PySem.W.Frag} {mg : Str → Option Value} {base : Heap} {c : Cs}
set_option maxHeartbeats 1000000
local macro_rules | `(tactic| walk_at "wE") => `(tactic| ((with_reducible refine' wE_nx ?h ?hi ?q); (case h => exact rfl); (case hi => exact Nat.le_of_ble_eq_true rfl)))
local macro_rules | `(tactic| walk_at "wS") => `(tactic| ((with_reducible refine' wS_nx ?h ?hi ?q); (case h => exact rfl); (case hi => exact Nat.le_of_ble_eq_true rfl)))
theorem cut_to {ds : List PyData} {k : Nat} (h : k ≤ ds.length) : Kt.cutD ds none (some (k : Int)) = ds.take k := by
  unfold Kt.cutD
  have e1 : HT.sIx ds.length ds.length (some (k : Int)) = k := (HT.sIx_nat _ _ k).trans (Nat.min_eq_left h)
  rw [e1, HT.sIx_none, Nat.sub_zero, List.drop_zero]
theorem pyL_take (j : Nat) : ∀ (ts : List Tm), (pyL ts).take j = pyL (ts.take j) := by
  induction j with
  | zero => intro ts; rfl
  | succ j ih =>
    intro ts
    cases ts with
    | nil => rfl
    | cons x r => show x.py :: (pyL r).take j = x.py :: pyL (r.take j); rw [ih]
theorem pyL_drop (j : Nat) : ∀ (ts : List Tm), (pyL ts).drop j = pyL (ts.drop j) := by
  induction j with
  | zero => intro ts; rfl
  | succ j ih =>
    intro ts
    cases ts with
    | nil => rfl
    | cons x r => exact ih r
/-! ### a drawn pattern -/
def pS : Nat → Nat
  | 0 => 1
  | s + 1 => 3 * pS s + 3
def pD : Nat → Nat
  | 0 => 2
  | s + 1 => 3 * pD s + 8
def pX : Nat → Nat
  | 0 => 1
  | s + 1 => 3 * pX s + 1
def prPat (n : Nat) : Dn → List Wd → Nat × Nat → (Wd → Nat × Nat → Prop) → Prop := fun t ws g P => ∃ s : Nat, ws = [.z (.ref t.m), .d (.int (s : Int))] ∧ s < n ∧ s ≤ 3 ∧ g.1 + pD s ≤ 900000 ∧ g.2 + pX s ≤ 90000 ∧ ∀ (x : Tm) (g' : Nat × Nat), x.fn → x.dp ≤ s → x.sz ≤ pS s → g'.1 ≤ g.1 + pD s → g'.2 ≤ g.2 + pX s → P (.d x.py) g'
abbrev s_law_pattern : Stmt := topS 42
theorem sc_law_pattern : FnScope ["m", "size", "way", "items", "k", "spot", "tail"] ["m", "size"] (defScope s_law_pattern) := ⟨rfl, rfl, rfl, by decide +kernel, rfl, by decide +kernel, by decide +kernel⟩
theorem c_law_pattern (T : Txt K mg c) (D : DefG K mg "_law_pattern" s_law_pattern ["m", "size"]) (c_law_draw : CalG P w K mg base 1 "_law_draw" (spW K (On K) prDraw)) (c_law_of : CalG P w K mg base 2 "_law_of" (spW K (On K) prOf)) (c_law_w : CalO P w K mg base 1 "_law_w" (spP K prLW)) : ∀ n : Nat, CalG P w K mg base (3 + n) "_law_pattern" (spW K (On K) (prPat n)) := by
  intro n
  induction n with
  | zero =>
    refine calG D sc_law_pattern (fun vs H Q E h => ?_) (fun cdv f A outer s H vs Q E hA hr h => ?_)
    · obtain ⟨th, ws, g, P, ⟨s, rfl, hs, h3, hg1, hg2, z⟩, hv, _⟩ := h
      exact hv.len
    · obtain ⟨th, ws, g, P, ⟨s, rfl, hs, h3, hg1, hg2, z⟩, hv, hj, hs, q⟩ := h
      exfalso; omega
  | succ n c_law_pattern =>
  rw [show 3 + (n + 1) = (3 + n) + 1 by omega]
  refine calG D sc_law_pattern (fun vs H Q E h => ?_) (fun cdv f A outer s H vs Q E hA hr h => ?_)
  · obtain ⟨th, ws, g, P, ⟨s, rfl, hs, h3, hg1, hg2, z⟩, hv, _⟩ := h
    exact hv.len
  · obtain ⟨th, ws, g, P, ⟨s, rfl, hs, h3, hg1, hg2, z⟩, hv, hj, hs, q⟩ := h
    have hu := hu_of hr
    have hR := hR_of hr
    refine ⟨_, pss_cons (ps_set (i := 2) sc_law_pattern.nd rfl (Or.inl rfl) (pe_ifExp (pt_cmpR op_gt (pv 1) pe_int (nomark _)) (pe_WG c_law_draw hA hr (by omega) (by rfl) (pa_cons (pv 0) (pa_cons pe_int pa_nil))) (pe_WG c_law_draw hA hr (by omega) (by rfl) (pa_cons (pv 0) (pa_cons pe_int pa_nil)))))
      (pss_cons (ps_if (pt_cmpR op_lt (pv 2) pe_int (nomark _))
        (pss_cons (ps_dput hu (pv 0) pe_str (pe_op op_add (pe_dget hu (pv 0) pe_str (fun _ _ => rfl)) pe_int) rfl)
        (pss_one (ps_ret (pe_WO c_law_w hr (by omega) (by rfl) (pa_cons (pe_op op_add_str pe_str (pe_callTy call_strI (by rfl) T.str (by decide +kernel) (pa_cons (pe_dget hu (pv 0) pe_str (fun _ _ => rfl)) pa_nil))) pa_nil)))))
        (pss_nil))
      (pss_cons (ps_if (pt_cmpR op_lt (pv 2) pe_int (nomark _))
        (pss_one (ps_ret (pe_WG c_law_of hA hr (by omega) (by rfl) (pa_cons (pv 0) (pa_cons (pe_lst (pa_cons (pe_WO c_law_w hr (by omega) (by rfl) (pa_cons pe_str pa_nil)) (pa_cons (pe_WO c_law_w hr (by omega) (by rfl) (pa_cons pe_str pa_nil)) (pa_cons pe_int (pa_cons pe_bl (pa_cons (pe_tup pa_nil) pa_nil)))))) pa_nil)))))
        (pss_nil))
      (pss_cons (ps_setLc (i := 3) (own := [("k", 4)]) (g := gName 4) (tt := tYes) (by rfl) sc_law_pattern.nd rfl rfl (sw_true rfl rfl rfl (by decide +kernel)) (pi_range1 (by rfl) T.range (pa_cons (pe_op op_add pe_int (pe_WG c_law_draw hA hr (by omega) (by rfl) (pa_cons (pv 0) (pa_cons pe_int pa_nil)))) pa_nil)) (blkOk_by (own := [("k", 4)]) (N := ["m", "size", "way", "items", "k", "spot", "tail"]) (sc := defScope s_law_pattern) (by decide +kernel)) (fun _ _ _ _ _ => pg_name (i := 4) sc_law_pattern.nd rfl (Or.inl rfl)) (fun _ _ _ _ _ => pts_nil) (fun _ _ _ _ _ => pe_WG c_law_pattern hA hr (by omega) (by rfl) (pa_cons (pv 0) (pa_cons (pe_op op_sub (pv 1) pe_int) pa_nil))))
      (pss_cons (ps_if (pt_cmpR op_eq (pe_WG c_law_draw hA hr (by omega) (by rfl) (pa_cons (pv 0) (pa_cons pe_int pa_nil))) pe_int (nomark _))
        (pss_cons (ps_set (i := 5) sc_law_pattern.nd rfl (Or.inl rfl) (pe_op op_add pe_int (pe_WG c_law_draw hA hr (by omega) (by rfl) (pa_cons (pv 0) (pa_cons (pe_callB call_lenO (by rfl) T.len (by decide +kernel) (pa_cons (pv 3) pa_nil)) pa_nil)))))
        (pss_one (ps_set (i := 3) sc_law_pattern.nd rfl (Or.inl rfl) (pe_op op_cat (pe_op op_cat (pe_slice sl_list (pv 3) po_none (po_some (pv 5))) (pe_lst (pa_cons (pe_WO c_law_w hr (by omega) (by rfl) (pa_cons pe_str pa_nil)) pa_nil))) (pe_slice sl_list (pv 3) (po_some (pv 5)) po_none)))))
        (pss_nil))
      (pss_cons (ps_set (i := 6) sc_law_pattern.nd rfl (Or.inl rfl) (pe_ifExp (pt_cmpR op_eq (pe_WG c_law_draw hA hr (by omega) (by rfl) (pa_cons (pv 0) (pa_cons pe_int pa_nil))) pe_int (nomark _)) (pe_WG c_law_pattern hA hr (by omega) (by rfl) (pa_cons (pv 0) (pa_cons pe_int pa_nil))) (pe_tup pa_nil)))
      (pss_one (ps_ret (pe_tup (pa_cons pe_str (pa_cons (pe_callTy call_tupO (by rfl) T.tuple (by decide +kernel) (pa_cons (pv 3) pa_nil)) (pa_cons (pv 6) pa_nil))))))))))), ?_⟩
    refine bodyW hv hj hs q (Nat.le_of_ble_eq_true rfl) ?_
    try dsimp only [cx_K]
    refine wS_cut (fun ρ' g' => ∃ r : Int, 0 ≤ r ∧ (s = 0 → r < 4) ∧ ρ' = [.z (.ref th.m), .d (.int (s : Int)), .d (.int r), .no, .no, .no, .no] ∧ g' = (g.1 + 1, g.2)) ?_ ?_
    · have h2 : 2 ≤ pD s := by cases s <;> (unfold pD; omega)
      walk_at "w"
      refine ite_b (fun h => ?_) (fun h => ?_)
      · have h0 := of_decide_eq_true h
        walk_at "w"
        refine ⟨7, rfl, by omega, by omega, by omega, fun r r0 r1 => ?_⟩
        exact ⟨r, r0, fun e => by omega, rfl, rfl⟩
      · walk_at "w"
        refine ⟨4, rfl, by omega, by omega, by omega, fun r r0 r1 => ?_⟩
        exact ⟨r, r0, fun e => r1, rfl, rfl⟩
    · rintro ρ' g' ⟨r, r0, r4, rfl, rfl⟩
      have h2 : 2 ≤ pD s := by cases s <;> (unfold pD; omega)
      have hx1 : 1 ≤ pX s := by cases s <;> (unfold pX; omega)
      have hs1 : 1 ≤ pS s := by cases s <;> (unfold pS; omega)
      walk_at "w"
      refine ite_b (fun hb1 => ?_) (fun hb1 => ?_)
      · walk_at "w"
        refine ⟨g.2 + 1, rfl, by show g.1 + 1 ≤ _; omega, ?_⟩
        walk_at "w"
        refine wC_strI ?_ ?_
        · show ((g.2 + 1 : Nat) : Int).natAbs.log2 < 1920
          have : ((g.2 + 1 : Nat) : Int).natAbs < 10 ^ 38 := Nat.lt_of_lt_of_le (by omega : _ < 100000) (by decide)
          have := log2_small this
          omega
        walk_at "w"
        have hnm := nm_fn (k := g.2 + 1) (by omega)
        refine wR_addS (szO ?_) ?_
        · have : (("p" : Str) ++ (Str.ofString (toString ((g.2 + 1 : Nat) : Int)))).cps.size ≤ 20 := hnm.2
          have e : (("p" : Str) ++ (Str.ofString (toString ((g.2 + 1 : Nat) : Int)))).cps.size = ("p" : Str).cps.size + (Str.ofString (toString ((g.2 + 1 : Nat) : Int))).cps.size := by
            rw [← Array.length_toList, cps_app, List.length_append, Array.length_toList, Array.length_toList]
          show ("p" : Str).cps.size + (Str.ofString (toString ((g.2 + 1 : Nat) : Int))).cps.size ≤ 200000
          omega
        walk_at "w"
        refine ⟨_, rfl, ?_⟩
        exact z (.w (("p" : Str) ++ (Str.ofString (toString ((g.2 + 1 : Nat) : Int))))) _ hnm (Nat.zero_le _) hs1 (by show g.1 + 1 ≤ _; omega) (by show g.2 + 1 ≤ _; omega)
      · walk_at "w"
        refine ite_b (fun hb2 => ?_) (fun hb2 => ?_)
        · walk_at "w"
          refine ⟨_, rfl, ?_⟩
          walk_at "w"
          refine ⟨_, rfl, ?_⟩
          walk_at "w"
          refine ⟨_, _, rfl, rfl, by show g.1 + 1 < _; omega, by simp, by simp, fun i d hd => ?_⟩
          have fin : ∀ x : Tm, x.fn → x.dp = 0 → x.sz = 1 → P (.d x.py) (g.1 + 1 + 1, g.2) := fun x f d1 d2 => z x _ f (by omega) (by omega) (by show g.1 + 1 + 1 ≤ _; omega) (by show g.2 ≤ _; omega)
          match i, hd with
          | 0, hd => cases hd; exact fin (.w "lit") ⟨by decide +kernel, by decide +kernel⟩ rfl rfl
          | 1, hd => cases hd; exact fin (.w "_") ⟨by decide +kernel, by decide +kernel⟩ rfl rfl
          | 2, hd => cases hd; exact fin (.i 5) (by show Int.natAbs 5 < 1000; decide) rfl rfl
          | 3, hd => cases hd; exact fin (.b true) trivial rfl rfl
          | 4, hd => cases hd; exact fin .u trivial rfl rfl
          | i + 5, hd => cases hd
        · have hs0 : s ≠ 0 := fun e => by have := r4 e; have := of_decide_eq_false hb2; omega
          obtain ⟨s, rfl⟩ : ∃ s', s = s' + 1 := ⟨s - 1, by omega⟩
          have e1 : pD (s + 1) = 3 * pD s + 8 := rfl
          have e2 : pX (s + 1) = 3 * pX s + 1 := rfl
          have e3 : pS (s + 1) = 3 * pS s + 3 := rfl
          refine wS_next ?_
          dsimp only
          refine wS_cut (fun ρ' g' => ∃ ts : List Tm, ρ' = [.z (.ref th.m), .d (.int ((s + 1 : Nat) : Int)), .d (.int r), .o (pyL ts), .no, .no, .no] ∧ 1 ≤ ts.length ∧ ts.length ≤ 3 ∧ fnL ts ∧ dpL ts ≤ s ∧ szL ts ≤ 3 * pS s ∧ g'.1 ≤ g.1 + 2 + 3 * pD s ∧ g'.2 ≤ g.2 + 3 * pX s) ?_ ?_
          · walk_at "w"
            refine ⟨3, rfl, by show g.1 + 1 < _; omega, by omega, by omega, fun c c0 c3 => ?_⟩
            walk_at "w"
            refine ⟨1 + c, rfl, by omega, by omega, fun i acc g' => ∃ ts : List Tm, acc = pyL ts ∧ ts.length = i ∧ fnL ts ∧ dpL ts ≤ s ∧ szL ts ≤ i * pS s ∧ g'.1 ≤ g.1 + 2 + i * pD s ∧ g'.2 ≤ g.2 + i * pX s, fun _ => trivial, ⟨[], rfl, rfl, trivial, Nat.zero_le _, Nat.zero_le _, by show g.1 + 1 + 1 ≤ _; omega, by show g.2 ≤ _; omega⟩, ?_, ?_⟩
            · rintro i d acc g' v1 hd ⟨ts, rfl, hl, hf, hdp, hsz, hg1', hg2'⟩
              obtain ⟨rfl, hi⟩ := intsD_get hd
              have i2 : i ≤ 2 := by omega
              have m1 : i * pD s ≤ 2 * pD s := Nat.mul_le_mul_right _ i2
              have m2 : i * pX s ≤ 2 * pX s := Nat.mul_le_mul_right _ i2
              have n1 : (i + 1) * pD s = i * pD s + pD s := Nat.succ_mul _ _
              have n2 : (i + 1) * pX s = i * pX s + pX s := Nat.succ_mul _ _
              have n3 : (i + 1) * pS s = i * pS s + pS s := Nat.succ_mul _ _
              walk_at "w"
              refine ⟨s, by rw [show ((s + 1 : Nat) : Int) - 1 = (s : Int) by omega], by omega, by omega, by omega, by omega, fun x g2 xf xd xs xg1 xg2 => ?_⟩
              walk_at "w"
              refine q_Sz ?_ (szO (by rw [pyL_len]; omega))
              refine ⟨ts ++ [x], by rw [pyL_app]; rfl, by rw [List.length_append, hl]; rfl, fnL_app.mpr ⟨hf, xf, trivial⟩, ?_, ?_, by omega, by omega⟩
              · rw [dpL_app]
                show max (dpL ts) (max x.dp 0) ≤ s
                omega
              · rw [szL_app]
                show szL ts + (x.sz + 0) ≤ _
                omega
            · rintro acc g' ⟨ts, rfl, hl, hf, hdp, hsz, hg1', hg2'⟩
              rw [intsD_len] at hl hsz hg1' hg2'
              have hc : (1 + c).toNat ≤ 3 := by omega
              have m1 : (1 + c).toNat * pD s ≤ 3 * pD s := Nat.mul_le_mul_right _ hc
              have m2 : (1 + c).toNat * pX s ≤ 3 * pX s := Nat.mul_le_mul_right _ hc
              have m3 : (1 + c).toNat * pS s ≤ 3 * pS s := Nat.mul_le_mul_right _ hc
              exact ⟨ts, rfl, by omega, by omega, hf, hdp, by omega, by omega, by omega⟩
          rintro ρ' g' ⟨ts, rfl, hl1, hl3, hf, hdp, hsz, hg1', hg2'⟩
          refine wS_cut (fun ρ' g2 => ∃ (ts2 : List Tm) (e : Wd), ρ' = [.z (.ref th.m), .d (.int ((s + 1 : Nat) : Int)), .d (.int r), .o (pyL ts2), .no, e, .no] ∧ 1 ≤ ts2.length ∧ ts2.length ≤ 4 ∧ fnL ts2 ∧ dpL ts2 ≤ s ∧ szL ts2 ≤ szL ts + 1 ∧ g2.1 ≤ g'.1 + 2 ∧ g2.2 = g'.2) ?_ ?_
          · walk_at "w"
            refine ⟨2, rfl, by omega, by omega, by omega, fun b b0 b2 => ?_⟩
            walk_at "w"
            refine ite_b (fun hb3 => ?_) (fun hb3 => ?_)
            · walk_at "w"
              refine ⟨_, rfl, by show g'.1 + 1 < _; omega, by rw [pyL_len]; omega, by rw [pyL_len]; omega, fun k k0 k1 => ?_⟩
              rw [pyL_len] at k1
              obtain ⟨j, rfl⟩ : ∃ j : Nat, k = (j : Int) := ⟨k.toNat, by omega⟩
              have hj : 1 + j ≤ ts.length := by omega
              walk_at "w"
              rw [show (1 : Int) + (j : Int) = ((1 + j : Nat) : Int) by omega]
              refine ⟨_, rfl, ?_⟩
              walk_at "w"
              rw [cut_to (by rw [pyL_len]; exact hj), pyL_take]
              refine q_Sz ?_ (szO (by rw [pyL_len, List.length_take]; show _ + 1 ≤ _; omega))
              walk_at "w"
              rw [cut_from (by rw [pyL_len]; exact hj), pyL_drop]
              refine q_Sz ?_ (szO (by rw [List.length_append, pyL_len, pyL_len, List.length_take, List.length_drop]; show _ + 1 + _ ≤ _; omega))
              have hsp := szL_app (ts.take (1 + j)) (ts.drop (1 + j))
              rw [List.take_append_drop] at hsp
              have hdpp := dpL_app (ts.take (1 + j)) (ts.drop (1 + j))
              rw [List.take_append_drop] at hdpp
              have hff := hf
              rw [← List.take_append_drop (1 + j) ts] at hff
              have hff' := fnL_app.mp hff
              refine ⟨ts.take (1 + j) ++ [.w "&"] ++ ts.drop (1 + j), _, by rw [pyL_app, pyL_app]; rfl, ?_, ?_, ?_, ?_, ?_, by show g'.1 + 1 + 1 ≤ _; omega, rfl⟩
              · rw [List.length_append, List.length_append, List.length_take]; show 1 ≤ _ + 1 + _; omega
              · rw [List.length_append, List.length_append, List.length_take, List.length_drop]; show _ + 1 + _ ≤ 4; omega
              · exact fnL_app.mpr ⟨fnL_app.mpr ⟨hff'.1, ⟨by decide +kernel, by decide +kernel⟩, trivial⟩, hff'.2⟩
              · rw [dpL_app, dpL_app]; show max (max _ (max 0 0)) _ ≤ s; omega
              · rw [szL_app, szL_app]; show _ + (1 + 0) + _ ≤ _; omega
            · walk_at "w"
              exact ⟨ts, _, rfl, hl1, by omega, hf, hdp, by omega, by show g'.1 + 1 ≤ _; omega, rfl⟩
          rintro ρ' g2 ⟨ts2, e, rfl, hl1', hl3', hf', hdp', hsz', hg1'', hg2''⟩
          walk_at "w"
          refine ⟨4, rfl, by omega, by omega, by omega, fun b b0 b4 => ?_⟩
          have fin : ∀ (t : Tm) (g3 : Nat × Nat), t.fn → t.dp = 0 → t.sz ≤ 1 → g3.1 ≤ g2.1 + 3 → g3.2 ≤ g2.2 + 1 → P (.d (Tm.l ts2 t).py) g3 := fun t g3 f d1 d2 h1 h2 => by
            refine z (.l ts2 t) g3 ⟨hl1', hf', f⟩ ?_ ?_ (by omega) (by omega)
            · show max (dpL ts2) t.dp + 1 ≤ s + 1
              omega
            · show szL ts2 + t.sz + 1 ≤ _
              omega
          walk_at "w"
          refine ite_b (fun hb4 => ?_) (fun hb4 => ?_)
          · walk_at "w"
            refine ⟨0, rfl, by omega, by omega, by show g2.1 + 1 + 2 ≤ _; omega, by show g2.2 + 1 ≤ _; omega, fun x g3 xf xd xs xg1 xg2 => ?_⟩
            walk_at "w"
            exact fin x g3 xf (by omega) xs (by have : pD 0 = 2 := rfl; have h : g3.1 ≤ g2.1 + 1 + pD 0 := xg1; omega) (by have : pX 0 = 1 := rfl; have h : g3.2 ≤ g2.2 + pX 0 := xg2; omega)
          · walk_at "w"
            exact fin .u _ trivial rfl (Nat.le_refl _) (by show g2.1 + 1 ≤ _; omega) (by show g2.2 ≤ _; omega)
end
end

section
open PySem PySem.Spec PyProof.Rows L2 Kt Evl
section
variable {P : Program} {w : World} {K : PySem.W.Frag} {mg : Str → Option Value} {base : Heap} {c : Cs}
set_option maxHeartbeats 1000000
local macro_rules | `(tactic| walk_at "wE") => `(tactic| with_reducible refine wE_callS sub_on ?_)
/-! ### a drawn template -/
def nmOk (g : Kv) : Prop := ∀ k d, (k, d) ∈ g → ∃ (x : Str) (z : Int), k = .inr x ∧ d = .int z ∧ PyData.strOk x = true ∧ x.cps.size ≤ 20
theorem kGet_mem {g : Kv} {k : Key} {d : PyData} (h : kGet g k = some d) : (k, d) ∈ g := by
  induction g with
  | nil => cases h
  | cons kv r ih =>
    obtain ⟨k1, d1⟩ := kv
    rw [kGet_cons] at h
    by_cases e : k1 = k
    · rw [if_pos e] at h
      cases h
      rw [e]
      exact List.mem_cons_self
    · rw [if_neg e] at h
      exact List.mem_cons_of_mem _ (ih h)
theorem nmOk.ik {g : Kv} (h : nmOk g) : intK g := fun k d e => by
  obtain ⟨x, z, _, h2, _⟩ := h k d (kGet_mem e)
  exact ⟨z, h2⟩
theorem selK_strs {g : Kv} (h : nmOk g) (f : Int → Bool) : ∃ L : List Str, (selK g f).map keyD = L.map .str ∧ (∀ x ∈ L, PyData.strOk x = true ∧ x.cps.size ≤ 20) ∧ L.length ≤ g.length := by
  have gen : ∀ ks : List Key, (∀ k ∈ ks, ∃ x : Str, k = .inr x ∧ PyData.strOk x = true ∧ x.cps.size ≤ 20) → ∃ L : List Str, ks.map keyD = L.map .str ∧ (∀ x ∈ L, PyData.strOk x = true ∧ x.cps.size ≤ 20) ∧ L.length = ks.length := by
    intro ks
    induction ks with
    | nil => exact fun _ => ⟨[], rfl, (fun x m => absurd m (by simp)), rfl⟩
    | cons k r ih =>
      intro hk
      obtain ⟨x, rfl, h1, h2⟩ := hk k List.mem_cons_self
      obtain ⟨L, e, h3, h4⟩ := ih fun y hy => hk y (List.mem_cons_of_mem _ hy)
      refine ⟨x :: L, by rw [List.map_cons, List.map_cons, e]; rfl, fun y hy => ?_, by rw [List.length_cons, List.length_cons, h4]⟩
      rcases List.mem_cons.mp hy with rfl | hy
      · exact ⟨h1, h2⟩
      · exact h3 y hy
  obtain ⟨L, e, h1, h2⟩ := gen (selK g f) fun k hk => by
    obtain ⟨kd, m, rfl⟩ := List.mem_map.mp (List.mem_filter.mp hk).1
    obtain ⟨x, z, e1, _, e3⟩ := h kd.1 kd.2 m
    exact ⟨x, e1, e3⟩
  refine ⟨L, e, h1, ?_⟩
  rw [h2]
  have := List.length_filter_le (fun k => match kGet g k with | some (.int v) => f v | _ => false) (g.map (·.1))
  rw [List.length_map] at this
  exact this
theorem wT_mono {γ : Type} {W : Wc γ} {tt : TT} {ρ : List Wd} {g : γ} {QT : Bool → γ → Prop} (M : Bool → γ → Prop) (h : wT W tt ρ g M) (q : ∀ b g', M b g' → QT b g') : wT W tt ρ g QT := fun σ H C R k => h σ H C R fun b H' g' e j z => k b H' g' e j (q b g' z)
def tS : Nat → Nat
  | 0 => 1
  | s + 1 => 3 * tS s + 16
def tD : Nat → Nat
  | 0 => 2
  | s + 1 => 3 * tD s + 12
def prTpl (n : Nat) : Pn → List Wd → (Nat × Nat) × Kv → (Wd → (Nat × Nat) × Kv → Prop) → Prop := fun t ws g P => ∃ (s : Nat) (d : Int), ws = [.z (.ref t.d.m), .z (.ref t.a), .d (.int d), .d (.int (s : Int))] ∧ s < n ∧ s ≤ 4 ∧ g.1.1 + tD s ≤ 900000 ∧ nmOk g.2 ∧ g.2.length ≤ 10000 ∧
  ∀ (x : Tm) (g' : Nat × Nat), x.fn → x.dp ≤ 2 * s → x.sz ≤ tS s → g'.1 ≤ g.1.1 + tD s → g'.2 = g.1.2 → P (.d x.py) (g', g.2)
abbrev s_law_template : Stmt := topS 43
theorem sc_law_template : FnScope ["m", "names", "depth", "size", "here", "name", "deeper", "items", "k", "inner"] ["m", "names", "depth", "size"] (defScope s_law_template) := ⟨rfl, rfl, rfl, by decide +kernel, rfl, by decide +kernel, by decide +kernel⟩
theorem c_law_template (T : Txt K mg c) (D : DefG K mg "_law_template" s_law_template ["m", "names", "depth", "size"]) (c_law_draw : CalG P w K mg base 1 "_law_draw" (spW K (On K) prDraw)) (c_law_of : CalG P w K mg base 2 "_law_of" (spW K (On K) prOf)) (c_law_w : CalO P w K mg base 1 "_law_w" (spP K prLW)) : ∀ n : Nat, CalG P w K mg base (3 + n) "_law_template" (spW K (OR K) (prTpl n)) := by
  intro n
  induction n with
  | zero =>
    refine calG D sc_law_template (fun vs H Q E h => ?_) (fun cdv f A outer s H vs Q E hA hr h => ?_)
    · obtain ⟨th, ws, g, P, ⟨s, d, rfl, hs, h4, hg1, nk, hgl, z⟩, hv, _⟩ := h
      exact hv.len
    · obtain ⟨th, ws, g, P, ⟨s, d, rfl, hs, h4, hg1, nk, hgl, z⟩, hv, hj, hs, q⟩ := h
      exfalso; omega
  | succ n c_law_template =>
  rw [show 3 + (n + 1) = (3 + n) + 1 by omega]
  refine calG D sc_law_template (fun vs H Q E h => ?_) (fun cdv f A outer s H vs Q E hA hr h => ?_)
  · obtain ⟨th, ws, g, P, ⟨s, d, rfl, hs, h4, hg1, nk, hgl, z⟩, hv, _⟩ := h
    exact hv.len
  · obtain ⟨th, ws, g, P, ⟨s, d, rfl, hs, h4, hg1, nk, hgl, z⟩, hv, hj, hs, q⟩ := h
    have hu := hu_of hr
    have hR := hR_of hr
    refine ⟨_, pss_cons (ps_set (i := 4) sc_law_template.nd rfl (Or.inl rfl) (pe_callB cr_sortedA (by rfl) T.sorted (by decide +kernel) (pa_cons (pe_lock (pe_lc (own := [("name", 5)]) (g := gName 5) (by rfl) sc_law_template.nd (pi_keys (pv 1)) (blkOk_by (own := [("name", 5)]) (N := ["m", "names", "depth", "size", "here", "name", "deeper", "items", "k", "inner"]) (sc := defScope s_law_template) (by decide +kernel)) (fun _ _ _ _ _ => pg_name (i := 5) sc_law_template.nd rfl (Or.inl rfl)) (fun _ _ _ _ _ => pts_one (pt_cmpR op_eq (pe_dget hu (pv 1) (pv 5) (fun _ _ => rfl)) (pv 2) (nomark _))) (fun _ _ _ _ _ => pv 5))) pa_nil)))
      (pss_cons (ps_set (i := 6) sc_law_template.nd rfl (Or.inl rfl) (pe_callB cr_sortedA (by rfl) T.sorted (by decide +kernel) (pa_cons (pe_lock (pe_lc (own := [("name", 5)]) (g := gName 5) (by rfl) sc_law_template.nd (pi_keys (pv 1)) (blkOk_by (own := [("name", 5)]) (N := ["m", "names", "depth", "size", "here", "name", "deeper", "items", "k", "inner"]) (sc := defScope s_law_template) (by decide +kernel)) (fun _ _ _ _ _ => pg_name (i := 5) sc_law_template.nd rfl (Or.inl rfl)) (fun _ _ _ _ _ => pts_one (pt_cmpR op_gt (pe_dget hu (pv 1) (pv 5) (fun _ _ => rfl)) (pv 2) (nomark _))) (fun _ _ _ _ _ => pv 5))) pa_nil)))
      (pss_cons (ps_if (PW.pt (pw_or (pt_cmpR op_lt (pv 3) pe_int (nomark _)) (pw_or1 (pt_cmpR op_eq (pe_WG c_law_draw hA hr (by omega) (by rfl) (pa_cons (pv 0) (pa_cons pe_int pa_nil))) pe_int (nomark _)))))
        (pss_one (ps_ret (pe_ifExp (PW.pt (pw_and (pt_cmpR (op_neD hr.units) (pv 4) (pe_lst pa_nil) (nomark _)) (pw_and1 (pt_cmpR op_gt (pe_WG c_law_draw hA hr (by omega) (by rfl) (pa_cons (pv 0) (pa_cons pe_int pa_nil))) pe_int (nomark _))))) (pe_WO c_law_w hr (by omega) (by rfl) (pa_cons (pe_WG c_law_of hA hr (by omega) (by rfl) (pa_cons (pv 0) (pa_cons (pv 4) pa_nil))) pa_nil)) (pe_WG c_law_of hA hr (by omega) (by rfl) (pa_cons (pv 0) (pa_cons (pe_lst (pa_cons pe_int (pa_cons (pe_tup pa_nil) (pa_cons (pe_WO c_law_w hr (by omega) (by rfl) (pa_cons pe_str pa_nil)) (pa_cons (pe_WO c_law_w hr (by omega) (by rfl) (pa_cons pe_str pa_nil)) pa_nil))))) pa_nil))))))
        (pss_nil))
      (pss_cons (ps_if (pt_cmpR op_eq (pe_WG c_law_draw hA hr (by omega) (by rfl) (pa_cons (pv 0) (pa_cons pe_int pa_nil))) pe_int (nomark _))
        (pss_one (ps_ret (pe_tup (pa_cons pe_str (pa_cons (pe_tup (pa_cons (pe_WO c_law_w hr (by omega) (by rfl) (pa_cons pe_str pa_nil)) (pa_cons (pe_tup (pa_cons pe_str (pa_cons (pe_tup (pa_cons (pe_WG c_law_template hA hr (by omega) (by rfl) (pa_cons (pv 0) (pa_cons (pv 1) (pa_cons (pv 2) (pa_cons pe_int pa_nil))))) (pa_cons (pe_WO c_law_w hr (by omega) (by rfl) (pa_cons pe_str pa_nil)) pa_nil))) (pa_cons (pe_tup pa_nil) pa_nil)))) pa_nil))) (pa_cons (pe_tup pa_nil) pa_nil))))))
        (pss_nil))
      (pss_cons (ps_set (i := 7) sc_law_template.nd rfl (Or.inl rfl) (pe_lst pa_nil))
      (pss_cons (ps_for PassesOwn.never rfl (pi_range1 (by rfl) T.range (pa_cons (pe_op op_add pe_int (pe_WG c_law_draw hA hr (by omega) (by rfl) (pa_cons (pv 0) (pa_cons pe_int pa_nil)))) pa_nil)) (pg_name (i := 8) sc_law_template.nd rfl (Or.inl rfl))
        (pss_one (ps_if (PW.pt (pw_and (pt_cmpR (op_neD hr.units) (pv 6) (pe_lst pa_nil) (nomark _)) (pw_and1 (pt_cmpR op_eq (pe_WG c_law_draw hA hr (by omega) (by rfl) (pa_cons (pv 0) (pa_cons pe_int pa_nil))) pe_int (nomark _)))))
          (pss_cons (ps_set (i := 9) sc_law_template.nd rfl (Or.inl rfl) (pe_lst (pa_cons (pe_WG c_law_template hA hr (by omega) (by rfl) (pa_cons (pv 0) (pa_cons (pv 1) (pa_cons (pe_op op_add (pv 2) pe_int) (pa_cons (pe_op op_sub (pv 3) pe_int) pa_nil))))) (pa_cons (pe_WO c_law_w hr (by omega) (by rfl) (pa_cons (pe_WG c_law_of hA hr (by omega) (by rfl) (pa_cons (pv 0) (pa_cons (pv 6) pa_nil))) pa_nil)) pa_nil))))
          (pss_one (ps_set (i := 7) sc_law_template.nd rfl (Or.inl rfl) (pe_op op_cat (pv 7) (pe_lst (pa_cons (pe_tup (pa_cons pe_str (pa_cons (pe_callTy call_tupO (by rfl) T.tuple (by decide +kernel) (pa_cons (pv 9) pa_nil)) (pa_cons (pe_tup pa_nil) pa_nil)))) (pa_cons (pe_WO c_law_w hr (by omega) (by rfl) (pa_cons pe_str pa_nil)) pa_nil)))))))
          (pss_one (ps_expr (pe_bm PySem.F.plainAttrs_list PySem.F.slot_list_append PySem.F.type_list_append mt_append (pv 7) (pa_cons (pe_WG c_law_template hA hr (by omega) (by rfl) (pa_cons (pv 0) (pa_cons (pv 1) (pa_cons (pv 2) (pa_cons (pe_op op_sub (pv 3) pe_int) pa_nil))))) pa_nil)))))))
      (pss_one (ps_ret (pe_tup (pa_cons pe_str (pa_cons (pe_callTy call_tupO (by rfl) T.tuple (by decide +kernel) (pa_cons (pv 7) pa_nil)) (pa_cons (pe_ifExp (pt_cmpR op_eq (pe_WG c_law_draw hA hr (by omega) (by rfl) (pa_cons (pv 0) (pa_cons pe_int pa_nil))) pe_int (nomark _)) (pe_WO c_law_w hr (by omega) (by rfl) (pa_cons pe_str pa_nil)) (pe_tup pa_nil)) pa_nil))))))))))), ?_⟩
    refine bodyW hv hj hs q (Nat.le_of_ble_eq_true rfl) ?_
    try dsimp only [cx_K]
    obtain ⟨LH, eh, fh, lh⟩ := selK_strs nk (fun v => decide (v = d))
    obtain ⟨LD, ed, fd, ld⟩ := selK_strs nk (fun v => decide (d < v))
    refine wS_cut (fun ρ' g' => ∃ ms : List Str, ms.Perm LH ∧ ρ' = [.z (.ref th.d.m), .z (.ref th.a), .d (.int d), .d (.int (s : Int)), .o (ms.map .str), .no, .no, .no, .no, .no] ∧ g' = g) ?_ ?_
    · walk_at "w"
      refine wE_sel (fun a b => decide (a = b)) lens_or rfl (Nat.le_of_ble_eq_true rfl) rfl (Nat.le_of_ble_eq_true rfl) (Nat.le_of_ble_eq_true rfl) (by decide) (by decide) r_eqz nk.ik (by omega) ?_
      rw [eh]
      walk_at "w"
      refine wC_sortedA (ns := LH) rfl (fun ms hp => ?_)
      exact ⟨ms, hp, rfl, rfl⟩
    rintro ρ' g' ⟨mh, ph, rfl, rfl⟩
    refine wS_cut (fun ρ' g2 => ∃ ms : List Str, ms.Perm LD ∧ ρ' = [.z (.ref th.d.m), .z (.ref th.a), .d (.int d), .d (.int (s : Int)), .o (mh.map .str), .no, .o (ms.map .str), .no, .no, .no] ∧ g2 = g') ?_ ?_
    · walk_at "w"
      refine wE_sel (fun a b => decide (b < a)) lens_or rfl (Nat.le_of_ble_eq_true rfl) rfl (Nat.le_of_ble_eq_true rfl) (Nat.le_of_ble_eq_true rfl) (by decide) (by decide) (fun a b H Q q => ⟨a, b, rfl, rfl, q⟩) nk.ik (by omega) ?_
      rw [ed]
      walk_at "w"
      refine wC_sortedA (ns := LD) rfl (fun ms hp => ?_)
      exact ⟨ms, hp, rfl, rfl⟩
    rintro ρ' g2 ⟨md, pd, rfl, rfl⟩
    have lmh := ph.length_eq
    have lmd := pd.length_eq
    have fmh : ∀ x ∈ mh, PyData.strOk x = true ∧ x.cps.size ≤ 20 := fun x hx => fh x (ph.mem_iff.mp hx)
    have fmd : ∀ x ∈ md, PyData.strOk x = true ∧ x.cps.size ≤ 20 := fun x hx => fd x (pd.mem_iff.mp hx)
    have hD : 2 ≤ tD s := by cases s <;> (unfold tD; omega)
    have hS : 1 ≤ tS s := by cases s <;> (unfold tS; omega)
    refine wS_cut (fun ρ' g' => 1 ≤ s ∧ ρ' = [.z (.ref th.d.m), .z (.ref th.a), .d (.int d), .d (.int (s : Int)), .o (mh.map .str), .no, .o (md.map .str), .no, .no, .no] ∧ g' = ((g2.1.1 + 1, g2.1.2), g2.2)) ?_ ?_
    · refine wS_if (wT_mono (fun b g' => (b = false → 1 ≤ s ∧ g' = ((g2.1.1 + 1, g2.1.2), g2.2)) ∧ g'.1.1 + 2 ≤ g2.1.1 + tD s ∧ g'.1.2 = g2.1.2 ∧ g'.2 = g2.2) ?_ ?_)
      · walk_at "w"
        refine ite_b (fun hb => ?_) (fun hb => ?_)
        · exact ⟨(fun e => by cases e), by omega, rfl, rfl⟩
        · have h0 : 1 ≤ s := by have := of_decide_eq_false hb; omega
          have h14 : 14 ≤ tD s := by
            obtain ⟨s', rfl⟩ : ∃ s', s = s' + 1 := ⟨s - 1, by omega⟩
            show 14 ≤ 3 * tD s' + 12
            have : 2 ≤ tD s' := by cases s' <;> (unfold tD; omega)
            omega
          walk_at "w"
          refine ⟨4, rfl, by show g2.1.1 < _; omega, by omega, by omega, fun r r0 r4 => ?_⟩
          walk_at "w"
          exact ⟨fun _ => ⟨h0, rfl⟩, by show g2.1.1 + 1 + 2 ≤ _; omega, rfl, rfl⟩
      · rintro b g' ⟨h1, h2, h3, h5⟩
        cases b with
        | false =>
          obtain ⟨h6, rfl⟩ := h1 rfl
          walk_at "w"
          exact ⟨h6, rfl, rfl⟩
        | true =>
          have fin : ∀ (x : Tm) (q1 q2 : Nat), x.fn → x.dp = 0 → x.sz = 1 → q1 ≤ g'.1.1 + 2 → q2 = g'.1.2 → P (.d x.py) ((q1, q2), g'.2) := fun x q1 q2 f d1 d2 e1 e2 => by
            have := z x (q1, q2) f (by omega) (by omega) (by show q1 ≤ _; omega) (by show q2 = _; rw [e2, h3])
            rw [← h5] at this
            exact this
          have shh : SeqAt.shaped (.list (mh.map .str)) = true := shaped_strs mh fun y hy => (fmh y hy).1
          walk_at "w"
          refine wR_neL rfl rfl (q_shp shh (by decide +kernel) ?_)
          rw [eqv_nil]
          walk_at "w"
          refine ite_b (fun hb => ?_) (fun hb => ?_)
          · walk_at "w"
            refine ⟨3, rfl, by show g'.1.1 < _; omega, by omega, by omega, fun r r0 r4 => ?_⟩
            walk_at "w"
            refine ite_b (fun hb2 => ?_) (fun hb2 => ?_)
            · walk_at "w"
              refine ⟨_, _, rfl, rfl, by show g'.1.1 + 1 < _; omega, ?_, by rw [List.length_map]; omega, fun i dd hd => ?_⟩
              · rw [List.length_map]
                cases mh with
                | nil => cases hb
                | cons a b => rw [List.length_cons]; omega
              rw [List.getElem?_map] at hd
              cases hx : mh[i]? with
              | none => rw [hx] at hd; cases hd
              | some x =>
                rw [hx] at hd
                cases hd
                walk_at "w"
                refine ⟨x, rfl, ?_⟩
                exact fin (.w x) _ _ (fmh x (List.mem_of_getElem? hx)) rfl rfl (by first | omega | (dsimp only; omega)) rfl
            · walk_at "w"
              refine ⟨_, rfl, ?_⟩
              walk_at "w"
              refine ⟨_, rfl, ?_⟩
              walk_at "w"
              refine ⟨_, _, rfl, rfl, by show g'.1.1 + 1 < _; omega, by simp, by simp, fun i d hd => ?_⟩
              match i, hd with
              | 0, hd => cases hd; exact fin (.i 7) _ _ (by show Int.natAbs 7 < 1000; decide) rfl rfl (by first | omega | (dsimp only; omega)) rfl
              | 1, hd => cases hd; exact fin .u _ _ trivial rfl rfl (by first | omega | (dsimp only; omega)) rfl
              | 2, hd => cases hd; exact fin (.w "new") _ _ ⟨by decide +kernel, by decide +kernel⟩ rfl rfl (by first | omega | (dsimp only; omega)) rfl
              | 3, hd => cases hd; exact fin (.w "_") _ _ ⟨by decide +kernel, by decide +kernel⟩ rfl rfl (by first | omega | (dsimp only; omega)) rfl
              | i + 4, hd => cases hd
          · walk_at "w"
            refine ⟨_, rfl, ?_⟩
            walk_at "w"
            refine ⟨_, rfl, ?_⟩
            walk_at "w"
            refine ⟨_, _, rfl, rfl, by show g'.1.1 < _; omega, by simp, by simp, fun i d hd => ?_⟩
            match i, hd with
            | 0, hd => cases hd; exact fin (.i 7) _ _ (by show Int.natAbs 7 < 1000; decide) rfl rfl (by first | omega | (dsimp only; omega)) rfl
            | 1, hd => cases hd; exact fin .u _ _ trivial rfl rfl (by first | omega | (dsimp only; omega)) rfl
            | 2, hd => cases hd; exact fin (.w "new") _ _ ⟨by decide +kernel, by decide +kernel⟩ rfl rfl (by first | omega | (dsimp only; omega)) rfl
            | 3, hd => cases hd; exact fin (.w "_") _ _ ⟨by decide +kernel, by decide +kernel⟩ rfl rfl (by first | omega | (dsimp only; omega)) rfl
            | i + 4, hd => cases hd
    rintro ρ' g' ⟨h1, rfl, rfl⟩
    obtain ⟨s, rfl⟩ : ∃ s', s = s' + 1 := ⟨s - 1, by omega⟩
    have e1 : tD (s + 1) = 3 * tD s + 12 := rfl
    have e2 : tS (s + 1) = 3 * tS s + 16 := rfl
    have eD0 : tD 0 = 2 := rfl
    have eS0 : tS 0 = 1 := rfl
    have hmk : (Tm.w "&").fn := ⟨by decide +kernel, by decide +kernel⟩
    refine wS_cut (fun ρ' g' => ρ' = [.z (.ref th.d.m), .z (.ref th.a), .d (.int d), .d (.int ((s + 1 : Nat) : Int)), .o (mh.map .str), .no, .o (md.map .str), .no, .no, .no] ∧ g' = ((g2.1.1 + 2, g2.1.2), g2.2)) ?_ ?_
    · walk_at "w"
      refine ⟨8, rfl, by show g2.1.1 + 1 < _; omega, by omega, by omega, fun r r0 r4 => ?_⟩
      walk_at "w"
      refine ite_b (fun hb => ?_) (fun hb => ?_)
      · walk_at "w"
        refine ⟨_, rfl, ?_⟩
        walk_at "w"
        refine ⟨0, d, rfl, by omega, by omega, by show g2.1.1 + 1 + 1 + tD 0 ≤ _; omega, nk, hgl, fun x g3 xf xd xs xg1 xg2 => ?_⟩
        have xg1' : g3.1 ≤ g2.1.1 + 1 + 1 + tD 0 := xg1
        walk_at "w"
        refine ⟨_, rfl, ?_⟩
        walk_at "w"
        refine z (.l [.w "&", .l [x, .w "&"] .u] .u) g3 ⟨by simp, ⟨hmk, ⟨by simp, ⟨xf, hmk, trivial⟩, trivial⟩, trivial⟩, trivial⟩ ?_ ?_ (by omega) xg2
        · show max (max 0 (max (max (max x.dp (max 0 0)) 0 + 1) 0)) 0 + 1 ≤ _
          omega
        · show (1 + (((x.sz + (1 + 0)) + 1 + 1) + 0)) + 1 + 1 ≤ _
          omega
      · walk_at "w"
        exact ⟨rfl, rfl⟩
    rintro ρ' g' ⟨rfl, rfl⟩
    refine wS_cut (fun ρ' g' => ρ' = [.z (.ref th.d.m), .z (.ref th.a), .d (.int d), .d (.int ((s + 1 : Nat) : Int)), .o (mh.map .str), .no, .o (md.map .str), .o [], .no, .no] ∧ g' = ((g2.1.1 + 2, g2.1.2), g2.2)) ?_ ?_
    · walk_at "w"
      exact ⟨rfl, rfl⟩
    rintro ρ' g' ⟨rfl, rfl⟩
    refine wS_cut (fun ρ' g' => ∃ (ts : List Tm) (e1 e2 : Wd), ρ' = [.z (.ref th.d.m), .z (.ref th.a), .d (.int d), .d (.int ((s + 1 : Nat) : Int)), .o (mh.map .str), .no, .o (md.map .str), .o (pyL ts), e1, e2] ∧ fnL ts ∧ 1 ≤ ts.length ∧ ts.length ≤ 6 ∧ dpL ts ≤ 2 * s + 1 ∧ szL ts ≤ 3 * (tS s + 4) ∧ g'.1.1 ≤ g2.1.1 + 3 + 3 * (tD s + 2) ∧ g'.1.2 = g2.1.2 ∧ g'.2 = g2.2) ?_ ?_
    · walk_at "w"
      refine ⟨3, rfl, by show g2.1.1 + 2 < _; omega, by omega, by omega, fun c c0 c3 => ?_⟩
      walk_at "w"
      refine ⟨1 + c, rfl, by omega, by omega, fun i ρ g3 => ∃ (ts : List Tm) (e1 e2 : Wd), ρ = [.z (.ref th.d.m), .z (.ref th.a), .d (.int d), .d (.int ((s + 1 : Nat) : Int)), .o (mh.map .str), .no, .o (md.map .str), .o (pyL ts), e1, e2] ∧ fnL ts ∧ i ≤ ts.length ∧ ts.length ≤ 2 * i ∧ dpL ts ≤ 2 * s + 1 ∧ szL ts ≤ i * (tS s + 4) ∧ g3.1.1 ≤ g2.1.1 + 3 + i * (tD s + 2) ∧ g3.1.2 = g2.1.2 ∧ g3.2 = g2.2, ⟨[], .no, .no, rfl, trivial, Nat.le_refl _, Nat.le_refl _, Nat.zero_le _, Nat.zero_le _, by show g2.1.1 + 2 + 1 ≤ _; omega, rfl, rfl⟩, fun _ _ _ _ => trivial, ?_, ?_⟩
      · rintro i dd ρ' g3 hdd ⟨ts, e1, e2, rfl, hf, hl1, hl2, hdp, hsz, hq1, hq2, hq3⟩
        obtain ⟨rfl, hi⟩ := intsD_get hdd
        have i2 : i ≤ 2 := by omega
        have m1 : i * (tD s + 2) ≤ 2 * (tD s + 2) := Nat.mul_le_mul_right _ i2
        have m2 : i * (tS s + 4) ≤ 2 * (tS s + 4) := Nat.mul_le_mul_right _ i2
        have n1 : (i + 1) * (tD s + 2) = i * (tD s + 2) + (tD s + 2) := Nat.succ_mul _ _
        have n2 : (i + 1) * (tS s + 4) = i * (tS s + 4) + (tS s + 4) := Nat.succ_mul _ _
        have es : ((s + 1 : Nat) : Int) - 1 = (s : Int) := by omega
        have plain : ∀ (k : Nat), k ≤ 1 → ∀ (x : Tm) (g4 : Nat × Nat) (e1 e2 : Wd), x.fn → x.dp ≤ 2 * s → x.sz ≤ tS s → g4.1 ≤ g3.1.1 + k + tD s → g4.2 = g3.1.2 → ∃ (ts' : List Tm) (e1' e2' : Wd), [.z (.ref th.d.m), .z (.ref th.a), .d (.int d), .d (.int ((s + 1 : Nat) : Int)), .o (mh.map .str), .no, .o (md.map .str), .o (pyL ts ++ [x.py]), e1, e2] = [.z (.ref th.d.m), .z (.ref th.a), .d (.int d), .d (.int ((s + 1 : Nat) : Int)), .o (mh.map .str), .no, .o (md.map .str), .o (pyL ts'), e1', e2'] ∧ fnL ts' ∧ i + 1 ≤ ts'.length ∧ ts'.length ≤ 2 * (i + 1) ∧ dpL ts' ≤ 2 * s + 1 ∧ szL ts' ≤ (i + 1) * (tS s + 4) ∧ g4.1 ≤ g2.1.1 + 3 + (i + 1) * (tD s + 2) ∧ g4.2 = g2.1.2 ∧ g3.2 = g2.2 := fun k hk x g4 e1 e2 xf xd xs xg1 xg2 => by
          refine ⟨ts ++ [x], e1, e2, by rw [pyL_app]; rfl, fnL_app.mpr ⟨hf, xf, trivial⟩, by rw [List.length_append, List.length_singleton]; omega, by rw [List.length_append, List.length_singleton]; omega, ?_, ?_, by omega, by omega, hq3⟩
          · rw [dpL_app]; show max _ (max x.dp 0) ≤ _; omega
          · rw [szL_app]; show _ + (x.sz + 0) ≤ _; omega
        have shd : SeqAt.shaped (.list (md.map .str)) = true := shaped_strs md fun y hy => (fmd y hy).1
        walk_at "w"
        refine wR_neL rfl rfl (q_shp shd (by decide +kernel) ?_)
        rw [eqv_nil]
        walk_at "w"
        refine ite_b (fun hb => ?_) (fun hb => ?_)
        · walk_at "w"
          refine ⟨2, rfl, by omega, by omega, by omega, fun r r0 r4 => ?_⟩
          walk_at "w"
          refine ite_b (fun hb2 => ?_) (fun hb2 => ?_)
          · walk_at "w"
            rw [es]
            refine ⟨s, d + 1, rfl, by omega, by omega, by show g3.1.1 + 1 + tD s ≤ _; omega, by rw [hq3]; exact nk, by rw [hq3]; exact hgl, fun x g4 xf xd xs xg1 xg2 => ?_⟩
            have xg1' : g4.1 ≤ g3.1.1 + 1 + tD s := xg1
            have xg2' : g4.2 = g3.1.2 := xg2
            walk_at "w"
            refine ⟨_, _, rfl, rfl, by show g4.1 < _; omega, ?_, by rw [List.length_map]; omega, fun j dd hd => ?_⟩
            · rw [List.length_map]
              cases md with
              | nil => cases hb
              | cons a b => rw [List.length_cons]; omega
            rw [List.getElem?_map] at hd
            cases hx : md[j]? with
            | none => rw [hx] at hd; cases hd
            | some y =>
              rw [hx] at hd
              cases hd
              have fy := fmd y (List.mem_of_getElem? hx)
              walk_at "w"
              refine ⟨y, rfl, ?_⟩
              walk_at "w"
              refine ⟨_, rfl, ?_⟩
              walk_at "w"
              refine q_Sz ?_ (szO (by rw [pyL_len]; show _ + 2 ≤ _; omega))
              refine ⟨ts ++ [.l [x, .w y] .u, .w "&"], _, _, by rw [pyL_app]; rfl, fnL_app.mpr ⟨hf, (show fnL [.l [x, .w y] .u, .w "&"] from ⟨⟨by simp, ⟨xf, fy, trivial⟩, trivial⟩, hmk, trivial⟩)⟩, by rw [List.length_append]; show _ ≤ _ + 2; omega, by rw [List.length_append]; show _ + 2 ≤ _; omega, ?_, ?_, ?_, ?_, hq3⟩
              · rw [dpL_app]; show max _ (max (max (max x.dp (max 0 0)) 0 + 1) (max 0 0)) ≤ _; omega
              · rw [szL_app]; show _ + (((x.sz + (1 + 0)) + 1 + 1) + (1 + 0)) ≤ _; omega
              · show g4.1 + 1 ≤ _; omega
              · show g4.2 = _; omega
          · walk_at "w"
            rw [es]
            refine ⟨s, d, rfl, by omega, by omega, by show g3.1.1 + 1 + tD s ≤ _; omega, by rw [hq3]; exact nk, by rw [hq3]; exact hgl, fun x g4 xf xd xs xg1 xg2 => ?_⟩
            walk_at "w"
            refine q_Sz ?_ (szO (by rw [pyL_len]; omega))
            exact plain 1 (Nat.le_refl _) x g4 _ _ xf xd xs xg1 xg2
        · walk_at "w"
          rw [es]
          refine ⟨s, d, rfl, by omega, by omega, by show g3.1.1 + tD s ≤ _; omega, by rw [hq3]; exact nk, by rw [hq3]; exact hgl, fun x g4 xf xd xs xg1 xg2 => ?_⟩
          walk_at "w"
          refine q_Sz ?_ (szO (by rw [pyL_len]; omega))
          exact plain 0 (by omega) x g4 _ _ xf xd xs xg1 xg2
      · rintro ρ' g3 ⟨ts, e1, e2, rfl, hf, hl1, hl2, hdp, hsz, hq1, hq2, hq3⟩
        rw [intsD_len] at hl1 hl2 hsz hq1
        have hc : (1 + c).toNat ≤ 3 := by omega
        have m1 : (1 + c).toNat * (tS s + 4) ≤ 3 * (tS s + 4) := Nat.mul_le_mul_right _ hc
        have m2 : (1 + c).toNat * (tD s + 2) ≤ 3 * (tD s + 2) := Nat.mul_le_mul_right _ hc
        exact ⟨ts, e1, e2, rfl, hf, by omega, by omega, hdp, by omega, by omega, hq2, hq3⟩
    rintro ρ' g3 ⟨ts, e1, e2, rfl, hf, hl1, hl2, hdp, hsz, hq1, hq2, hq3⟩
    walk_at "w"
    refine ⟨6, rfl, by show g3.1.1 < _; omega, by omega, by omega, fun r r0 r6 => ?_⟩
    have fin : ∀ (t : Tm) (g4 : Nat × Nat), t.fn → t.dp = 0 → t.sz = 1 → g4.1 ≤ g3.1.1 + 1 → g4.2 = g3.1.2 → P (.d (Tm.l ts t).py) (g4, g3.2) := fun t g4 f d1 d2 h1 h2 => by
      have := z (.l ts t) g4 ⟨hl1, hf, f⟩ ?_ ?_ (by omega) (by show g4.2 = _; omega)
      · rw [hq3]; exact this
      · show max (dpL ts) t.dp + 1 ≤ _
        omega
      · show szL ts + t.sz + 1 ≤ _
        omega
    walk_at "w"
    refine ite_b (fun hb => ?_) (fun hb => ?_)
    · walk_at "w"
      refine ⟨_, rfl, ?_⟩
      walk_at "w"
      exact fin (.w "new") _ ⟨by decide +kernel, by decide +kernel⟩ rfl rfl (Nat.le_refl _) rfl
    · walk_at "w"
      exact fin .u _ trivial rfl rfl (Nat.le_refl _) rfl
end
end

section
open PySem PySem.Spec PyProof.Rows L2 Kt Evl
section
variable {P : Program} {w : World} {K : PySem.W.Frag} {mg : Str → Option Value} {base : Heap} {c : Cs}
set_option maxHeartbeats 1000000
theorem wS_par3 {γ : Type} {W : Wc γ} {ρ : List Wd} {g : γ} {O : WO γ} {i j l : Nat} {t : TA} (hi : i < W.n) (hj : j < W.n) (hl : l < W.n) (q : wA W t ρ g fun ws g1 => ∃ a b c, ws = [Wd.d a, Wd.d b, Wd.d c] ∧ O.nx (((ρ.set i (.d a)).set j (.d b)).set l (.d c)) g1) : wS W (tPar3 i j l t) ρ g O := fun σ H D R kn _ _ _ =>
  q σ H _ R fun vs H1 ws g1 e j1 h ⟨a, b, c, ew, z⟩ => by
    subst ew
    cases h with
    | cons x1 h => cases h with
      | cons x2 h => cases h with
        | cons x3 h =>
          cases h
          exact ⟨_, _, _, rfl, kn _ _ H1 g1 ((((R.grow e j1).set (w := .d a) hi ⟨_, rfl, x1⟩ rfl).set (w := .d b) hj ⟨_, rfl, x2⟩ rfl).set (w := .d c) hl ⟨_, rfl, x3⟩ rfl) z⟩
local macro_rules | `(tactic| walk_at "wS") => `(tactic| ((with_reducible refine' wS_par3 ?hi ?hj ?hl ?q); (case hi => exact Nat.le_of_ble_eq_true rfl); (case hj => exact Nat.le_of_ble_eq_true rfl); (case hl => exact Nat.le_of_ble_eq_true rfl)))
/-! ### a datum with something in it made another one -/
def prBent (n : Nat) : Dn → List Wd → Nat × Nat → (Wd → Nat × Nat → Prop) → Prop := fun t ws g P => ∃ (x : Tm) (ss : List Tm), ws = [.z (.ref t.m), .d x.py, .l (pyL ss)] ∧ x.dp < n ∧ n ≤ 30 ∧ x.fn ∧ x.sz ≤ 50000 ∧ 1 ≤ ss.length ∧ ss.length ≤ 100 ∧ (∀ y ∈ ss, y.fn ∧ y.dp = 0 ∧ y.sz = 1) ∧ g.1 + 5 * n ≤ 900000 ∧
  ∀ (y : Tm) (g' : Nat × Nat), y.fn → y.dp ≤ x.dp → y.sz ≤ 2 * x.sz → g'.1 ≤ g.1 + 5 * n → g'.2 = g.2 → P (.d y.py) g'
theorem pyL_py {ss : List Tm} {i : Nat} {d : PyData} (h : (pyL ss)[i]? = some d) : ∃ y ∈ ss, d = y.py := by
  obtain ⟨y, h1, h2⟩ := pyL_get ss i d h
  exact ⟨y, List.mem_of_getElem? h1, h2⟩
theorem sz1 (t : Tm) : 1 ≤ t.sz := by cases t <;> simp [Tm.sz]
abbrev s_law_bent : Stmt := topS 44
theorem sc_law_bent : FnScope ["m", "datum", "some", "items", "k", "way"] ["m", "datum", "some"] (defScope s_law_bent) := ⟨rfl, rfl, rfl, by decide +kernel, rfl, by decide +kernel, by decide +kernel⟩
theorem c_law_bent (T : Txt K mg c) (D : DefG K mg "_law_bent" s_law_bent ["m", "datum", "some"]) (c_law_draw : CalG P w K mg base 1 "_law_draw" (spW K (On K) prDraw)) (c_law_of : CalG P w K mg base 2 "_law_of" (spW K (On K) prOf)) (c_law_w : CalO P w K mg base 1 "_law_w" (spP K prLW)) (c_law_is_list : CalO P w K mg base 1 "_law_is_list" (spP K prIsL)) : ∀ n : Nat, CalG P w K mg base (3 + n) "_law_bent" (spW K (On K) (prBent n)) := by
  intro n
  induction n with
  | zero =>
    refine calG D sc_law_bent (fun vs H Q E h => ?_) (fun cdv f A outer s H vs Q E hA hr h => ?_)
    · obtain ⟨th, ws, g, P, ⟨x, ss, rfl, hd, hn, hf, hz, hs1, hs2, hss, hg, z⟩, hv, _⟩ := h
      exact hv.len
    · obtain ⟨th, ws, g, P, ⟨x, ss, rfl, hd, hn, hf, hz, hs1, hs2, hss, hg, z⟩, hv, hj, hs, q⟩ := h
      exfalso; omega
  | succ n c_law_bent =>
  rw [show 3 + (n + 1) = (3 + n) + 1 by omega]
  refine calG D sc_law_bent (fun vs H Q E h => ?_) (fun cdv f A outer s H vs Q E hA hr h => ?_)
  · obtain ⟨th, ws, g, P, ⟨x, ss, rfl, hd, hn, hf, hz, hs1, hs2, hss, hg, z⟩, hv, _⟩ := h
    exact hv.len
  · obtain ⟨th, ws, g, P, ⟨x, ss, rfl, hd, hn, hf, hz, hs1, hs2, hss, hg, z⟩, hv, hj, hs, q⟩ := h
    have hu := hu_of hr
    have hR := hR_of hr
    refine ⟨_, pss_cons (ps_if (PW.pt (pw_or (pt_not (pt_val (pe_WO c_law_is_list hr (by omega) (by rfl) (pa_cons (pv 1) pa_nil)))) (pw_or1 (pt_cmpR op_eq (pe_WG c_law_draw hA hr (by omega) (by rfl) (pa_cons (pv 0) (pa_cons pe_int pa_nil))) pe_int (nomark _)))))
        (pss_one (ps_ret (pe_WG c_law_of hA hr (by omega) (by rfl) (pa_cons (pv 0) (pa_cons (pv 2) pa_nil)))))
        (pss_nil))
      (pss_cons (ps_par3 (i := 3) (j := 4) (l := 5) (by rfl) sc_law_bent.nd rfl rfl rfl (by decide) (by decide) (by decide) rfl rfl rfl (pa_cons (pe_ix ix_tup (pv 1) pe_int (fun _ _ => rfl)) (pa_cons (pe_WG c_law_draw hA hr (by omega) (by rfl) (pa_cons (pv 0) (pa_cons (pe_callB call_lenO (by rfl) T.len (by decide +kernel) (pa_cons (pe_ix ix_tup (pv 1) pe_int (fun _ _ => rfl)) pa_nil)) pa_nil))) (pa_cons (pe_WG c_law_draw hA hr (by omega) (by rfl) (pa_cons (pv 0) (pa_cons pe_int pa_nil))) pa_nil))) (by rfl))
      (pss_cons (ps_if (pt_cmpR op_eq (pv 5) pe_int (nomark _))
        (pss_one (ps_ret (pe_tup (pa_cons pe_str (pa_cons (pv 3) (pa_cons (pe_WG c_law_of hA hr (by omega) (by rfl) (pa_cons (pv 0) (pa_cons (pe_lst (pa_cons (pe_WO c_law_w hr (by omega) (by rfl) (pa_cons pe_str pa_nil)) (pa_cons (pe_WO c_law_w hr (by omega) (by rfl) (pa_cons pe_str pa_nil)) (pa_cons pe_int pa_nil)))) pa_nil))) pa_nil))))))
        (pss_nil))
      (pss_cons (ps_if (PW.pt (pw_and (pt_cmpR op_eq (pv 5) pe_int (nomark _)) (pw_and1 (pt_cmpR op_gt (pe_callB call_lenO (by rfl) T.len (by decide +kernel) (pa_cons (pv 3) pa_nil)) pe_int (nomark _)))))
        (pss_one (ps_ret (pe_tup (pa_cons pe_str (pa_cons (pe_op op_catA (pe_slice sl_tupA (pv 3) po_none (po_some (pv 4))) (pe_slice sl_tupA (pv 3) (po_some (pe_op op_add (pv 4) pe_int)) po_none)) (pa_cons (pe_ix ix_tup (pv 1) pe_int (fun _ _ => rfl)) pa_nil))))))
        (pss_nil))
      (pss_cons (ps_if (pt_cmpR op_lt (pv 5) pe_int (nomark _))
        (pss_one (ps_ret (pe_tup (pa_cons pe_str (pa_cons (pe_op op_catA (pe_op op_catA (pe_slice sl_tupA (pv 3) po_none (po_some (pv 4))) (pe_tup (pa_cons (pe_ifExp (pt_cmpR op_gt (pv 5) pe_int (nomark _)) (pe_WG c_law_of hA hr (by omega) (by rfl) (pa_cons (pv 0) (pa_cons (pv 2) pa_nil))) (pe_ix ix_tup (pv 3) (pv 4) (fun _ _ => rfl))) pa_nil))) (pe_slice sl_tupA (pv 3) (po_some (pv 4)) po_none)) (pa_cons (pe_ix ix_tup (pv 1) pe_int (fun _ _ => rfl)) pa_nil))))))
        (pss_nil))
      (pss_one (ps_ret (pe_tup (pa_cons pe_str (pa_cons (pe_op op_catA (pe_op op_catA (pe_slice sl_tupA (pv 3) po_none (po_some (pv 4))) (pe_tup (pa_cons (pe_WG c_law_bent hA hr (by omega) (by rfl) (pa_cons (pv 0) (pa_cons (pe_ix ix_tup (pv 3) (pv 4) (fun _ _ => rfl)) (pa_cons (pv 2) pa_nil)))) pa_nil))) (pe_slice sl_tupA (pv 3) (po_some (pe_op op_add (pv 4) pe_int)) po_none)) (pa_cons (pe_ix ix_tup (pv 1) pe_int (fun _ _ => rfl)) pa_nil)))))))))), ?_⟩
    refine bodyW hv hj hs q (Nat.le_of_ble_eq_true rfl) ?_
    try dsimp only [cx_K]
    have x1 := sz1 x
    have leaf : ∀ (y : Tm) (g' : Nat × Nat), y ∈ ss → g'.1 ≤ g.1 + 5 * (n + 1) → g'.2 = g.2 → P (.d y.py) g' := fun y g' hy h1 h2 => by
      obtain ⟨f1, f2, f3⟩ := hss y hy
      exact z y g' f1 (by omega) (by omega) h1 h2
    refine wS_cut (fun ρ' g' => ∃ (xs : List Tm) (t : Tm), x = .l xs t ∧ ρ' = [.z (.ref th.m), .d (.tuple [.str "list", .tuple (pyL xs), t.py]), .b (pyL ss), .no, .no, .no] ∧ g' = (g.1 + 1, g.2)) ?_ ?_
    · walk_at "w"
      refine ⟨x, rfl, ?_⟩
      walk_at "w"
      refine ite_b (fun hb => ?_) (fun hb => ?_)
      · walk_at "w"
        refine ⟨_, _, rfl, rfl, by omega, by rw [pyL_len]; omega, by rw [pyL_len]; omega, fun i d hd => ?_⟩
        obtain ⟨y, hy, rfl⟩ := pyL_py hd
        exact leaf y _ hy (by show g.1 + 1 ≤ _; omega) rfl
      · walk_at "w"
        refine ⟨6, rfl, by omega, by omega, by omega, fun r r0 r6 => ?_⟩
        walk_at "w"
        refine ite_b (fun hb2 => ?_) (fun hb2 => ?_)
        · walk_at "w"
          refine ⟨_, _, rfl, rfl, by show g.1 + 1 < _; omega, by rw [pyL_len]; omega, by rw [pyL_len]; omega, fun i d hd => ?_⟩
          obtain ⟨y, hy, rfl⟩ := pyL_py hd
          exact leaf y _ hy (by show g.1 + 1 + 1 ≤ _; omega) rfl
        · walk_at "w"
          cases x with
          | l xs t => exact ⟨xs, t, rfl, rfl, rfl⟩
          | w _ => cases hb
          | i _ => cases hb
          | b _ => cases hb
          | u => cases hb
    rintro ρ' g' ⟨xs, t, rfl, rfl, rfl⟩
    have hl1 : 1 ≤ xs.length := hf.1
    have hfx : fnL xs := hf.2.1
    have hft : t.fn := hf.2.2
    have hd' : max (dpL xs) t.dp + 1 < n + 1 := hd
    have hz' : szL xs + t.sz + 1 ≤ 50000 := hz
    have hxl := szL_len xs
    have ht1 := sz1 t
    have fin : ∀ (ys : List Tm) (u : Tm) (g' : Nat × Nat), 1 ≤ ys.length → fnL ys → u.fn → dpL ys ≤ dpL xs → u.dp ≤ t.dp → szL ys ≤ 2 * szL xs + 1 → u.sz ≤ t.sz → g'.1 ≤ g.1 + 5 * (n + 1) → g'.2 = g.2 → P (.d (Tm.l ys u).py) g' := fun ys u g' h1 h2 h3 h4 h5 h6 h7 h8 h9 => by
      refine z (.l ys u) g' ⟨h1, h2, h3⟩ ?_ ?_ h8 h9
      · show max (dpL ys) u.dp + 1 ≤ max (dpL xs) t.dp + 1
        omega
      · show szL ys + u.sz + 1 ≤ 2 * (szL xs + t.sz + 1)
        omega
    refine wS_cut (fun ρ' g' => ∃ (k : Nat) (way : Int), k < xs.length ∧ ρ' = [.z (.ref th.m), .d (.tuple [.str "list", .tuple (pyL xs), t.py]), .b (pyL ss), .d (.tuple (pyL xs)), .d (.int (k : Int)), .d (.int way)] ∧ g' = (g.1 + 3, g.2)) ?_ ?_
    · walk_at "w"
      refine ⟨_, rfl, by show g.1 + 1 < _; omega, by rw [pyL_len]; omega, by rw [pyL_len]; omega, fun k k0 k1 => ?_⟩
      rw [pyL_len] at k1
      obtain ⟨j, rfl⟩ : ∃ j : Nat, k = (j : Int) := ⟨k.toNat, by omega⟩
      walk_at "w"
      refine ⟨10, rfl, by show g.1 + 1 + 1 < _; omega, by omega, by omega, fun r r0 r6 => ?_⟩
      walk_at "w"
      exact ⟨_, _, _, rfl, j, r, by omega, rfl, rfl⟩
    rintro ρ' g' ⟨k, way, hk, rfl, rfl⟩
    have hx : xs[k]? = some xs[k] := List.getElem?_eq_getElem hk
    have hdr : xs.drop k = xs[k] :: xs.drop (k + 1) := List.drop_eq_getElem_cons hk
    generalize xs[k] = x at hx hdr
    have hm := List.mem_of_getElem? hx
    have hfk := fnL_mem hfx hm
    have mk1 := dpL_mem hm
    have mk2 := szL_mem hm
    have esz : szL xs = szL (xs.take k) + (x.sz + szL (xs.drop (k + 1))) := by
      have := szL_app (xs.take k) (xs.drop k)
      rw [List.take_append_drop, hdr] at this
      rw [this]; rfl
    have edp : dpL xs = max (dpL (xs.take k)) (max x.dp (dpL (xs.drop (k + 1)))) := by
      have := dpL_app (xs.take k) (xs.drop k)
      rw [List.take_append_drop, hdr] at this
      rw [this]; rfl
    have eff : fnL (xs.take k) ∧ x.fn ∧ fnL (xs.drop (k + 1)) := by
      have h := hfx
      rw [← List.take_append_drop k xs, hdr] at h
      have h2 := fnL_app.mp h
      exact ⟨h2.1, h2.2.1, h2.2.2⟩
    have htl : (xs.take k).length = k := by rw [List.length_take]; omega
    have hdl : (xs.drop (k + 1)).length = xs.length - (k + 1) := List.length_drop
    have ek : ((k : Nat) : Int) + 1 = ((k + 1 : Nat) : Int) := by omega
    walk_at "w"
    refine ite_b (fun hb1 => ?_) (fun hb1 => ?_)
    · walk_at "w"
      refine ⟨_, rfl, ?_⟩
      walk_at "w"
      refine ⟨_, rfl, ?_⟩
      walk_at "w"
      refine ⟨_, _, rfl, rfl, by show g.1 + 3 < _; omega, by simp, by simp, fun i d hd => ?_⟩
      have leaf2 : ∀ u : Tm, u.fn → u.dp = 0 → u.sz = 1 → P (.d (Tm.l xs u).py) (g.1 + 3 + 1, g.2) := fun u f1 f2 f3 => fin xs u _ hl1 hfx f1 (Nat.le_refl _) (by omega) (by omega) (by omega) (by show g.1 + 3 + 1 ≤ _; omega) rfl
      match i, hd with
      | 0, hd => cases hd; walk_at "w"; exact leaf2 (.w "&") ⟨by decide +kernel, by decide +kernel⟩ rfl rfl
      | 1, hd => cases hd; walk_at "w"; exact leaf2 (.w "p1") ⟨by decide +kernel, by decide +kernel⟩ rfl rfl
      | 2, hd => cases hd; walk_at "w"; exact leaf2 (.i 5) (by show Int.natAbs 5 < 1000; decide) rfl rfl
      | i + 3, hd => cases hd
    · refine wS_next ?_
      dsimp only
      refine wS_cut (fun ρ' g' => ρ' = [.z (.ref th.m), .d (.tuple [.str "list", .tuple (pyL xs), t.py]), .b (pyL ss), .d (.tuple (pyL xs)), .d (.int (k : Int)), .d (.int way)] ∧ g' = (g.1 + 3, g.2)) ?_ ?_
      · walk_at "w"
        refine ite_b (fun hb2 => ?_) (fun hb2 => ?_)
        · walk_at "w"
          refine ite_b (fun hb3 => ?_) (fun hb3 => ?_)
          · have h2 : 1 < xs.length := by have := of_decide_eq_true hb3; rw [pyL_len] at this; omega
            walk_at "w"
            rw [cut_to (by rw [pyL_len]; omega), pyL_take, ek]
            walk_at "w"
            rw [cut_from (by rw [pyL_len]; omega), pyL_drop]
            refine q_Sz ?_ (szO (by rw [pyL_len, pyL_len]; omega))
            walk_at "w"
            rw [← pyL_app]
            refine fin (xs.take k ++ xs.drop (k + 1)) t _ (by rw [List.length_append]; omega) (fnL_app.mpr ⟨eff.1, eff.2.2⟩) hft ?_ (Nat.le_refl _) ?_ (Nat.le_refl _) (by show g.1 + 3 ≤ _; omega) rfl
            · rw [dpL_app]; omega
            · rw [szL_app]; omega
          · walk_at "w"
            exact ⟨rfl, rfl⟩
        · walk_at "w"
          exact ⟨rfl, rfl⟩
      rintro ρ' g' ⟨rfl, rfl⟩
      have join : ∀ (y : Tm) (q : Nat), y.fn → y.dp ≤ dpL xs → y.sz ≤ x.sz → q ≤ g.1 + 5 → P (.d (Tm.l (xs.take k ++ [y] ++ xs.drop k) t).py) (q, g.2) := fun y q f1 f2 f3 f4 => by
        have efd : fnL (xs.drop k) := by rw [hdr]; exact ⟨eff.2.1, eff.2.2⟩
        refine fin _ t _ (by rw [List.length_append, List.length_append, List.length_singleton]; omega) (fnL_app.mpr ⟨fnL_app.mpr ⟨eff.1, f1, trivial⟩, efd⟩) hft ?_ (Nat.le_refl _) ?_ (Nat.le_refl _) (by show q ≤ _; omega) rfl
        · rw [dpL_app, dpL_app, hdr]; show max (max _ (max y.dp 0)) (max x.dp (dpL (xs.drop (k + 1)))) ≤ _; omega
        · rw [szL_app, szL_app, hdr]; show _ + (y.sz + 0) + (x.sz + szL (xs.drop (k + 1))) ≤ _; omega
      have xk1 := sz1 x
      walk_at "w"
      refine ite_b (fun hb2 => ?_) (fun hb2 => ?_)
      · walk_at "w"
        rw [cut_to (by rw [pyL_len]; omega), pyL_take]
        refine ite_b (fun hb3 => ?_) (fun hb3 => ?_)
        · walk_at "w"
          refine ⟨_, _, rfl, rfl, by show g.1 + 3 < _; omega, by rw [pyL_len]; omega, by rw [pyL_len]; omega, fun i d hd => ?_⟩
          obtain ⟨y, hy, rfl⟩ := pyL_py hd
          obtain ⟨f1, f2, f3⟩ := hss y hy
          walk_at "w"
          refine q_Sz ?_ (szO (by rw [pyL_len]; show _ + 1 ≤ _; omega))
          walk_at "w"
          rw [cut_from (by rw [pyL_len]; omega), pyL_drop]
          refine q_Sz ?_ (szO (by rw [List.length_append, pyL_len, pyL_len, List.length_drop]; show _ + 1 + _ ≤ _; omega))
          walk_at "w"
          have := join y (g.1 + 3 + 1) f1 (by omega) (by omega) (by omega)
          rw [Tm.py, pyL_app, pyL_app] at this
          exact this
        · walk_at "w"
          refine q_At (py_at hx) ?_
          walk_at "w"
          refine q_Sz ?_ (szO (by rw [pyL_len]; show _ + 1 ≤ _; omega))
          walk_at "w"
          rw [cut_from (by rw [pyL_len]; omega), pyL_drop]
          refine q_Sz ?_ (szO (by rw [List.length_append, pyL_len, pyL_len, List.length_drop]; show _ + 1 + _ ≤ _; omega))
          walk_at "w"
          have := join x (g.1 + 3) hfk (by omega) (by omega) (by omega)
          rw [Tm.py, pyL_app, pyL_app] at this
          exact this
      · walk_at "w"
        rw [cut_to (by rw [pyL_len]; omega), pyL_take]
        refine q_At (py_at hx) ?_
        walk_at "w"
        refine ⟨x, ss, rfl, by omega, by omega, hfk, by omega, hs1, hs2, hss, by show g.1 + 3 + 5 * n ≤ _; omega, fun y g2 yf yd ys yg1 yg2 => ?_⟩
        have yg1' : g2.1 ≤ g.1 + 3 + 5 * n := yg1
        walk_at "w"
        refine q_Sz ?_ (szO (by rw [pyL_len]; show _ + 1 ≤ _; omega))
        walk_at "w"
        rw [ek]
        walk_at "w"
        rw [cut_from (by rw [pyL_len]; omega), pyL_drop]
        refine q_Sz ?_ (szO (by rw [List.length_append, pyL_len, pyL_len]; show _ + 1 + _ ≤ _; omega))
        walk_at "w"
        have := fin (xs.take k ++ [y] ++ xs.drop (k + 1)) t g2 (by rw [List.length_append, List.length_append, List.length_singleton]; omega) (fnL_app.mpr ⟨fnL_app.mpr ⟨eff.1, yf, trivial⟩, eff.2.2⟩) hft ?_ (Nat.le_refl _) ?_ (Nat.le_refl _) (by omega) yg2
        · rw [Tm.py, pyL_app, pyL_app] at this
          exact this
        · rw [dpL_app, dpL_app]; show max (max _ (max y.dp 0)) _ ≤ _; omega
        · rw [szL_app, szL_app]; show _ + (y.sz + 0) + _ ≤ _; omega
end
end

section
open PySem PySem.Spec PyProof.Rows L2 Kt Evl
/-! ### the program's and the law's first fault are one -/
abbrev LL : List Str := ["lit"]
abbrev lK : Kv := keysK LL
theorem lK_eq : lK = [(.inr "lit", .bool true)] := rfl
theorem lK_in (x : Str) : (kGet lK (.inr x)).isSome = inL LL x := by
  rw [lK_eq, kGet_cons]
  show _ = (decide ("lit" = x) || false)
  by_cases h : (Sum.inr "lit" : Key) = .inr x
  · rw [if_pos h, decide_eq_true (Sum.inr.inj h)]; rfl
  · rw [if_neg h, decide_eq_false (fun e => h (by rw [e]))]; rfl
def lp (xs : List Tm) (t : Tm) : Pf × Gd := lfC LL xs t [] 1 1 0 ([], []) 0
theorem Rl0 : Rl LL (lK, []) ([], []) := ⟨lK_in, fun _ => rfl, fun x h => by cases h⟩
theorem lp_same (xs : List Tm) (t : Tm) : pth (pfT lK (.l xs t) []) = (lp xs t).1 ∧ ∃ gp, Rl LL gp (lp xs t).2 := by
  have h := row_same LL (xs.drop 1) (lK, []) ([], []) [] 1 1 0 0 Rl0 (Nat.le_refl _) (Nat.zero_le _)
  rw [show decide (0 < 0) = false from rfl] at h
  unfold lp lfC
  show pth (wrI (lK, []) xs t [] 1).1 = _ ∧ _
  unfold wrI
  revert h
  cases wrL (lK, []) (xs.drop 1) [] 1 1 false with
  | mk o g1 =>
    cases lfL LL (xs.drop 1) [] 1 1 0 ([], []) 0 with
    | mk o2 g2 =>
      rintro ⟨e, r2⟩
      dsimp only at e r2 ⊢
      subst e
      cases o with
      | some q => exact ⟨rfl, g1, r2⟩
      | none =>
        have h2 := tail_same LL t g1 g2 [] xs 0 r2
        exact ⟨h2.1, _, h2.2⟩
theorem lp_clean {xs : List Tm} {t : Tm} (h : (lp xs t).1 = none) : Cln [] (lp xs t).2.1 ((nmP lK xs t []).map prK) := by
  unfold lp lfC at h ⊢
  unfold nmP
  rw [List.map_append]
  cases hq : lfL LL (xs.drop 1) [] 1 1 0 ([], []) 0 with
  | mk o g1 =>
    rw [hq] at h
    cases o with
    | some e => cases h
    | none =>
      dsimp only at h ⊢
      refine (row_clean lK_in (xs.drop 1) [] [] 1 1 1 0 ([], []) g1 0 hq).trans ?_
      exact pat_clean lK_in t ([] ++ [.int xs.length]) _ g1 (lfP LL t ([] ++ [.int xs.length]) g1 0).2 0 (Prod.ext h rfl)
/-- what the law tells of a rule -/
def told (pt tm : Tm) : PyData :=
  match pt with
  | .l xs t =>
    match (lp xs t).1 with
    | some p => .tuple [.str "pattern", .tuple p]
    | none =>
      match ltN (lp xs t).2.1 tm [] 0 with
      | some p => .tuple [.str "template", .tuple p]
      | none => .none
  | _ => .tuple [.str "pattern", .tuple []]
theorem told_same (pt tm : Tm) : rfT lK pt tm = told pt tm := by
  cases pt with
  | w x => rfl
  | i k => rfl
  | b k => rfl
  | u => rfl
  | l xs t =>
    obtain ⟨h1, gp, h2⟩ := lp_same xs t
    unfold rfT told
    dsimp only
    rw [← h1]
    cases hq : pfT lK (.l xs t) [] with
    | some e => rfl
    | none =>
      rw [hq] at h1
      have hc := lp_clean (xs := xs) (t := t) h1.symm
      have em : nmK (nmP lK xs t []) = (lp xs t).2.1 := hc.mer.symm
      have hm : kGet (lp xs t).2.1 (.inr "&") = none := by
        cases hk : kGet (lp xs t).2.1 (.inr "&") with
        | none => rfl
        | some d => exact absurd rfl (h2.cl "&" (by rw [hk]; rfl)).2.2
      have := tN_same hm tm [] 0
      dsimp only [pth]
      rw [← this, em]
      cases twN (lp xs t).2.1 tm [] 0 <;> rfl
/-! ### how great what is told is -/
def Pth (N : Nat) (p : List PyData) : Prop := p.length ≤ N ∧ ∀ d ∈ p, ∃ k : Nat, d = .int (k : Int) ∧ k < 100000
theorem Pth.nil {N : Nat} : Pth N [] := ⟨Nat.zero_le _, fun d h => by cases h⟩
theorem Pth.snoc {N k : Nat} {p : List PyData} (h : Pth N p) (hk : k < 100000) : Pth (N + 1) (p ++ [.int (k : Int)]) := by
  refine ⟨by rw [List.length_append, List.length_singleton]; have := h.1; omega, fun d hd => ?_⟩
  rcases List.mem_append.mp hd with hd | hd
  · exact h.2 d hd
  · exact ⟨k, List.mem_singleton.mp hd, hk⟩
theorem Pth.mono {N M : Nat} {p : List PyData} (h : Pth N p) (l : N ≤ M) : Pth M p := ⟨Nat.le_trans h.1 l, h.2⟩
def PthO (N : Nat) (o : Pf) : Prop := ∀ p, o = some p → Pth N p
theorem PthO.no {N : Nat} : PthO N none := fun _ e => by cases e
theorem PthO.so {N : Nat} {p : List PyData} (h : Pth N p) : PthO N (some p) := fun _ e => by cases e; exact h
theorem PthO.mono {N M : Nat} {o : Pf} (h : PthO N o) (l : N ≤ M) : PthO M o := fun p e => (h p e).mono l
theorem lwW_pth (L : List Str) {x : Str} {p : List PyData} {g : Gd} {d : Int} {N : Nat} (h : Pth N p) : PthO N (lwW L x p g d).1 := by
  unfold lwW
  repeat' split
  all_goals first | exact .so h | exact .no
mutual
theorem lfP_pth (L : List Str) : ∀ (t : Tm) (p : List PyData) (g : Gd) (d : Int) (N : Nat), Pth N p → t.sz ≤ 50000 → PthO (N + t.dp) (lfP L t p g d).1
  | .w x, p, g, d, N, h, _ => lwW_pth L h
  | .i _, _, _, _, _, _, _ => .no
  | .b _, _, _, _, _, _, _ => .no
  | .u, _, _, _, _, _, _ => .no
  | .l xs t, p, g, d, N, h, hz => by
    have hz' : szL xs + t.sz + 1 ≤ 50000 := hz
    have hxl := szL_len xs
    have h1 := lfL_pth L xs p 0 0 0 g d N h (by omega)
    rw [lfP]
    show PthO (N + (max (dpL xs) t.dp + 1)) _
    cases hq : lfL L xs p 0 0 0 g d with
    | mk o g1 =>
      rw [hq] at h1
      cases o with
      | some e => exact h1.mono (by omega)
      | none => exact (lfP_pth L t _ g1 d (N + 1) (h.snoc (by omega)) (by omega)).mono (by omega)
theorem lfL_pth (L : List Str) : ∀ (xs : List Tm) (p : List PyData) (k b m : Nat) (g : Gd) (d : Int) (N : Nat), Pth N p → k + szL xs ≤ 60000 → PthO (N + dpL xs + 1) (lfL L xs p k b m g d).1
  | [], _, _, _, _, _, _, _, _, _ => .no
  | x :: r, p, k, b, m, g, d, N, h, hz => by
    have hz' : k + (x.sz + szL r) ≤ 60000 := hz
    have hx1 := sz1 x
    have hr : ∀ m' g', PthO (N + dpL (x :: r) + 1) (lfL L r p (k + 1) b m' g' d).1 := fun m' g' => (lfL_pth L r p (k + 1) b m' g' d N h (by omega)).mono (by show _ ≤ N + max x.dp (dpL r) + 1; omega)
    rw [lfL]
    split
    · split
      · exact .so ((h.snoc (by omega)).mono (by omega))
      · exact hr _ _
    · have h1 := lfP_pth' L x (p ++ [.int k]) g (d + if nMark r = true then 1 else 0) (N + 1) (h.snoc (by omega)) (by omega)
      cases hq : lfP L x (p ++ [.int k]) g (d + if nMark r = true then 1 else 0) with
      | mk o g1 =>
        rw [hq] at h1
        cases o with
        | some e => exact h1.mono (by show _ ≤ N + max x.dp (dpL r) + 1; omega)
        | none => exact hr _ _
theorem lfP_pth' (L : List Str) : ∀ (t : Tm) (p : List PyData) (g : Gd) (d : Int) (N : Nat), Pth N p → t.sz ≤ 60000 → PthO (N + t.dp) (lfP L t p g d).1
  | .w x, p, g, d, N, h, _ => lwW_pth L h
  | .i _, _, _, _, _, _, _ => .no
  | .b _, _, _, _, _, _, _ => .no
  | .u, _, _, _, _, _, _ => .no
  | .l xs t, p, g, d, N, h, hz => by
    have hz' : szL xs + t.sz + 1 ≤ 60000 := hz
    have hxl := szL_len xs
    have h1 := lfL_pth L xs p 0 0 0 g d N h (by omega)
    rw [lfP]
    show PthO (N + (max (dpL xs) t.dp + 1)) _
    cases hq : lfL L xs p 0 0 0 g d with
    | mk o g1 =>
      rw [hq] at h1
      cases o with
      | some e => exact h1.mono (by omega)
      | none => exact (lfP_pth' L t _ g1 d (N + 1) (h.snoc (by omega)) (by omega)).mono (by omega)
end
theorem lp_pth {xs : List Tm} {t : Tm} (hz : szL xs + t.sz ≤ 50000) : PthO (max (dpL xs) t.dp + 1) (lp xs t).1 := by
  have hxl := szL_len xs
  have hsd := szL_drop xs 1
  unfold lp lfC
  have h1 := lfL_pth LL (xs.drop 1) [] 1 1 0 ([], []) 0 0 .nil (by omega)
  cases hq : lfL LL (xs.drop 1) [] 1 1 0 ([], []) 0 with
  | mk o g1 =>
    rw [hq] at h1
    cases o with
    | some e =>
      refine h1.mono ?_
      have : dpL (xs.drop 1) ≤ dpL xs := by cases xs with
        | nil => exact Nat.le_refl _
        | cons a r => show dpL r ≤ max a.dp (dpL r); omega
      omega
    | none => exact (lfP_pth LL t _ g1 0 1 ((Pth.nil (N := 0)).snoc (by omega)) (by omega)).mono (by omega)
end

section
open PySem PySem.Spec PyProof.Rows L2 Kt Evl
theorem ltW_pth {g : Kv} {x : Str} {p : List PyData} {d : Int} {s : Bool} {N : Nat} (h : Pth N p) : PthO N (ltW g x p d s) := by
  unfold ltW
  repeat' split
  all_goals first | exact .so h | exact .no
mutual
theorem ltA_pth (g : Kv) : ∀ (t : Tm) (p : List PyData) (d : Int) (N : Nat), Pth N p → t.sz ≤ 60000 → PthO (N + t.dp) (ltA g t p d)
  | .w x, p, d, N, h, _ => ltW_pth h
  | .i _, _, _, _, _, _ => .no
  | .b _, _, _, _, _, _ => .no
  | .u, _, _, _, _, _ => .no
  | .l xs t, p, d, N, h, hz => by
    have hz' : szL xs + t.sz + 1 ≤ 60000 := hz
    have hxl := szL_len xs
    have h1 := ltAL_pth g xs p 0 d N h (by omega)
    rw [ltA]
    show PthO (N + (max (dpL xs) t.dp + 1)) _
    cases hq : ltAL g xs p 0 d with
    | some e => rw [hq] at h1; exact h1.mono (by omega)
    | none => exact (ltA_pth g t _ d (N + 1) (h.snoc (by omega)) (by omega)).mono (by omega)
theorem ltAL_pth (g : Kv) : ∀ (xs : List Tm) (p : List PyData) (k : Nat) (d : Int) (N : Nat), Pth N p → k + szL xs ≤ 60000 → PthO (N + dpL xs + 1) (ltAL g xs p k d)
  | [], _, _, _, _, _, _ => .no
  | x :: r, p, k, d, N, h, hz => by
    have hz' : k + (x.sz + szL r) ≤ 60000 := hz
    have hx1 := sz1 x
    rw [ltAL]
    have h1 := ltA_pth g x (p ++ [.int k]) d (N + 1) (h.snoc (by omega)) (by omega)
    cases hq : ltA g x (p ++ [.int k]) d with
    | some e => rw [hq] at h1; exact h1.mono (by show _ ≤ N + max x.dp (dpL r) + 1; omega)
    | none => exact (ltAL_pth g r p (k + 1) d N h (by omega)).mono (by show _ ≤ N + max x.dp (dpL r) + 1; omega)
end
mutual
theorem ltN_pth (g : Kv) : ∀ (t : Tm) (p : List PyData) (d : Int) (N : Nat), Pth N p → t.sz ≤ 60000 → PthO (N + t.dp) (ltN g t p d)
  | .w x, p, d, N, h, _ => ltW_pth h
  | .i _, _, _, _, _, _ => .no
  | .b _, _, _, _, _, _ => .no
  | .u, _, _, _, _, _ => .no
  | .l xs t, p, d, N, h, hz => by
    have hz' : szL xs + t.sz + 1 ≤ 60000 := hz
    have hxl := szL_len xs
    show PthO (N + (max (dpL xs) t.dp + 1)) _
    cases ha : asIs xs t with
    | true =>
      obtain ⟨a, b, rfl⟩ := asIs_two ha
      rw [ltN, if_pos ha]
      have hb : szL [a, b] = a.sz + (b.sz + 0) := rfl
      have hd : dpL [a, b] = max a.dp (max b.dp 0) := rfl
      exact (ltA_pth g b _ d (N + 1) (h.snoc (k := 1) (by omega)) (by omega)).mono (by omega)
    | false =>
      have h1 := ltNL_pth g xs p 0 false d N h (by omega)
      rw [ltN_row ha]
      cases hq : ltNL g xs p 0 false d with
      | some e => rw [hq] at h1; exact h1.mono (by omega)
      | none => exact (ltN_pth g t _ d (N + 1) (h.snoc (by omega)) (by omega)).mono (by omega)
theorem ltNL_pth (g : Kv) : ∀ (xs : List Tm) (p : List PyData) (k : Nat) (ok : Bool) (d : Int) (N : Nat), Pth N p → k + szL xs ≤ 60000 → PthO (N + dpL xs + 1) (ltNL g xs p k ok d)
  | [], _, _, _, _, _, _, _ => .no
  | x :: r, p, k, ok, d, N, h, hz => by
    have hz' : k + (x.sz + szL r) ≤ 60000 := hz
    have hx1 := sz1 x
    rw [ltNL]
    have h1 := ltN_pth g x (p ++ [.int k]) d (N + 1) (h.snoc (by omega)) (by omega)
    have h2 := ltN_pth g x (p ++ [.int k]) (d + 1) (N + 1) (h.snoc (by omega)) (by omega)
    have h3 := (ltNL_pth g r p (k + 1) (!x.isW "&") d N h (by omega)).mono (M := N + dpL (x :: r) + 1) (by show _ ≤ N + max x.dp (dpL r) + 1; omega)
    have hs : PthO (N + dpL (x :: r) + 1) (some (p ++ [.int (k : Int)])) := .so ((h.snoc (by omega)).mono (by omega))
    have key : PthO (N + dpL (x :: r) + 1) (if x.isW "&" = true then (if ok = true then none else some (p ++ [.int k]))
      else if nMark r = true then (if hasN g x = true then ltN g x (p ++ [.int k]) (d + 1) else some (p ++ [.int k]))
      else ltN g x (p ++ [.int k]) d) := by
      split
      · split
        · exact .no
        · exact hs
      · split
        · split
          · exact h2.mono (by show _ ≤ N + max x.dp (dpL r) + 1; omega)
          · exact hs
        · exact h1.mono (by show _ ≤ N + max x.dp (dpL r) + 1; omega)
    revert key
    generalize (if x.isW "&" = true then (if ok = true then none else some (p ++ [.int k]))
      else if nMark r = true then (if hasN g x = true then ltN g x (p ++ [.int k]) (d + 1) else some (p ++ [.int k]))
      else ltN g x (p ++ [.int k]) d : Pf) = o
    intro key
    cases o with
    | some e => exact key
    | none => exact h3
end
/-! ### what the names are -/
def nmB (D : Int) (g : Kv) : Prop := ∀ k d, (k, d) ∈ g → ∃ (x : Str) (z : Int), k = .inr x ∧ d = .int z ∧ PyData.strOk x = true ∧ x.cps.size ≤ 20 ∧ 0 ≤ z ∧ z ≤ D
theorem nmB.nil {D : Int} : nmB D [] := fun k d h => by cases h
theorem nmB.ok {D : Int} {g : Kv} (h : nmB D g) : nmOk g := fun k d m => by
  obtain ⟨x, z, h1, h2, h3, h4, _⟩ := h k d m
  exact ⟨x, z, h1, h2, h3, h4⟩
theorem nmOk.flat {g : Kv} (h : nmOk g) : flatK g := fun kv m => by
  obtain ⟨x, z, _, h2, _⟩ := h kv.1 kv.2 m
  rw [h2]; rfl
theorem kPut_mem {g : Kv} {k k' : Key} {d d' : PyData} (h : (k', d') ∈ kPut g k d) : (k', d') ∈ g ∨ (k' = k ∧ d' = d) := by
  unfold kPut at h
  split at h
  · obtain ⟨kv, m, e⟩ := List.mem_map.mp h
    split at e
    · rename_i hk
      cases e
      exact .inr ⟨hk, rfl⟩
    · rw [e] at m
      exact .inl m
  · rcases List.mem_append.mp h with h | h
    · exact .inl h
    · have := List.mem_singleton.mp h
      cases this
      exact .inr ⟨rfl, rfl⟩
theorem lwW_nm (L : List Str) {x : Str} {p : List PyData} {g : Gd} {d : Int} {D : Int} (h : nmB D g.1) (hf : (Tm.w x).fn) (h0 : 0 ≤ d) (h1 : d ≤ D) : nmB D (lwW L x p g d).2.1 := by
  unfold lwW
  repeat' split
  all_goals first
    | exact h
    | (intro k e m
       rcases kPut_mem m with m | ⟨rfl, rfl⟩
       · exact h k e m
       · exact ⟨x, d, rfl, rfl, hf.1, hf.2, h0, h1⟩)
mutual
theorem lfP_nm (L : List Str) : ∀ (t : Tm) (p : List PyData) (g : Gd) (d D : Int), nmB D g.1 → t.fn → 0 ≤ d → d + t.dp ≤ D → nmB D (lfP L t p g d).2.1
  | .w x, p, g, d, D, h, hf, h0, h1 => lwW_nm L h hf h0 (by have : ((Tm.w x).dp : Int) = 0 := rfl; omega)
  | .i _, _, _, _, _, h, _, _, _ => h
  | .b _, _, _, _, _, h, _, _, _ => h
  | .u, _, _, _, _, h, _, _, _ => h
  | .l xs t, p, g, d, D, h, hf, h0, h1 => by
    have h1' : d + ((max (dpL xs) t.dp + 1 : Nat) : Int) ≤ D := h1
    have a := lfL_nm L xs p 0 0 0 g d D h hf.2.1 h0 (by omega)
    rw [lfP]
    cases hq : lfL L xs p 0 0 0 g d with
    | mk o g1 =>
      rw [hq] at a
      cases o with
      | some e => exact a
      | none => exact lfP_nm L t _ g1 d D a hf.2.2 h0 (by omega)
theorem lfL_nm (L : List Str) : ∀ (xs : List Tm) (p : List PyData) (k b m : Nat) (g : Gd) (d D : Int), nmB D g.1 → fnL xs → 0 ≤ d → d + 1 + dpL xs ≤ D → nmB D (lfL L xs p k b m g d).2.1
  | [], _, _, _, _, _, _, _, h, _, _, _ => h
  | x :: r, p, k, b, m, g, d, D, h, hf, h0, h1 => by
    have h1' : d + 1 + ((max x.dp (dpL r) : Nat) : Int) ≤ D := h1
    have hr : ∀ m' g', nmB D g'.1 → nmB D (lfL L r p (k + 1) b m' g' d).2.1 := fun m' g' h' => lfL_nm L r p (k + 1) b m' g' d D h' hf.2 h0 (by omega)
    rw [lfL]
    split
    · split
      · exact h
      · exact hr _ _ h
    · have a := lfP_nm L x (p ++ [.int k]) g (d + if nMark r = true then 1 else 0) D h hf.1 (by split <;> omega) (by split <;> omega)
      cases hq : lfP L x (p ++ [.int k]) g (d + if nMark r = true then 1 else 0) with
      | mk o g1 =>
        rw [hq] at a
        cases o with
        | some e => exact a
        | none => exact hr _ _ a
end
theorem fnL_drop {xs : List Tm} (h : fnL xs) (k : Nat) : fnL (xs.drop k) := fnL_of fun x m => fnL_mem h (List.mem_of_mem_drop m)
theorem dpL_drop (xs : List Tm) (k : Nat) : dpL (xs.drop k) ≤ dpL xs := by
  have := dpL_app (xs.take k) (xs.drop k)
  rw [List.take_append_drop] at this
  omega
theorem lp_nm {xs : List Tm} {t : Tm} (hf : (Tm.l xs t).fn) : nmB ((Tm.l xs t).dp : Int) (lp xs t).2.1 := by
  unfold lp lfC
  have e : (((Tm.l xs t).dp : Nat) : Int) = ((max (dpL xs) t.dp + 1 : Nat) : Int) := rfl
  have hd := dpL_drop xs 1
  have a := lfL_nm LL (xs.drop 1) [] 1 1 0 ([], []) 0 ((Tm.l xs t).dp : Int) .nil (fnL_drop hf.2.1 1) (Int.le_refl _) (by omega)
  cases hq : lfL LL (xs.drop 1) [] 1 1 0 ([], []) 0 with
  | mk o g1 =>
    rw [hq] at a
    cases o with
    | some e => exact a
    | none => exact lfP_nm LL t _ g1 0 _ a hf.2.2 (Int.le_refl _) (by omega)
theorem lp_len (xs : List Tm) (t : Tm) : (lp xs t).2.1.length ≤ szL xs + t.sz := by
  unfold lp lfC
  have h1 := lfL_len LL (xs.drop 1) [] 1 1 0 ([], []) 0
  have h2 := szL_drop xs 1
  have h0 : (([], []) : Gd).1.length = 0 := rfl
  cases hq : lfL LL (xs.drop 1) [] 1 1 0 ([], []) 0 with
  | mk o g1 =>
    rw [hq] at h1
    have h1' : g1.1.length ≤ 0 + szL (xs.drop 1) := h1
    cases o with
    | some e => dsimp only; omega
    | none =>
      have h3 := lfP_len LL t ([] ++ [.int xs.length]) g1 0
      dsimp only; omega
end

section
open PySem PySem.Spec PyProof.Rows L2 Kt Evl
theorem Pth.sm : ∀ {N : Nat} {p : List PyData}, Pth N p → SmAll (131 * N) 0 p
  | N, [], _ => ⟨rfl, rfl, Nat.le_refl _, Nat.zero_le _, rfl⟩
  | 0, d :: r, h => by have := h.1; simp at this
  | N + 1, d :: r, h => by
    obtain ⟨k, rfl, hk⟩ := h.2 d List.mem_cons_self
    have ih : Pth N r := ⟨by have := h.1; rw [List.length_cons] at this; omega, fun e he => h.2 e (List.mem_cons_of_mem _ he)⟩
    have a := SmAll.cons (Sm.int (i := (k : Int)) (Nat.lt_of_lt_of_le (by show Int.natAbs (k : Int) < 100000; omega) (by decide))) ih.sm
    exact ⟨a.sh, a.cl, Nat.le_trans a.de (Nat.le_refl _), Nat.le_trans a.wt (by omega), a.lf⟩
def fP (s : Str) : Pf → PyData
  | none => .none
  | some p => .tuple [.str s, .tuple p]
theorem fP_sm {s : Str} {o : Pf} (h : PthO 100 o) (hs : PyData.strOk s = true) (hz : s.cps.size ≤ 20) : Sm 20000 5 (fP s o) ∧ rp (fP s o) = true := by
  cases o with
  | none => exact ⟨Sm.none.more (Nat.zero_le _) (Nat.zero_le _), rfl⟩
  | some p =>
    have a := Sm.tuple (SmAll.cons (Sm.str hs) (SmAll.cons (Sm.tuple (h p rfl).sm) SmAll.nil))
    exact ⟨a.more (by omega) (by decide), rfl⟩
theorem told_l (xs : List Tm) (t tm : Tm) : told (.l xs t) tm = match (lp xs t).1 with
    | some p => fP "pattern" (some p)
    | none => fP "template" (ltN (lp xs t).2.1 tm [] 0) := by
  unfold told
  dsimp only
  cases (lp xs t).1 with
  | some p => rfl
  | none => dsimp only; cases ltN (lp xs t).2.1 tm [] 0 <;> rfl
theorem told_no {pt : Tm} (h : pt.isL = false) (tm : Tm) : told pt tm = .tuple [.str "pattern", .tuple []] := by
  cases pt with
  | l xs t => cases h
  | _ => rfl
theorem told_sm {pt tm : Tm} (h1 : pt.sz ≤ 50000) (h2 : pt.dp ≤ 30) (h3 : tm.sz ≤ 50000) (h4 : tm.dp ≤ 30) : Sm 20000 5 (told pt tm) ∧ rp (told pt tm) = true := by
  have gen : Sm 20000 5 (fP "pattern" (some [])) ∧ rp (fP "pattern" (some [])) = true := fP_sm (.so .nil) (by decide +kernel) (by decide +kernel)
  cases pt with
  | w x => exact gen
  | i k => exact gen
  | b k => exact gen
  | u => exact gen
  | l xs t =>
    have h1' : szL xs + t.sz + 1 ≤ 50000 := h1
    have h2' : max (dpL xs) t.dp + 1 ≤ 30 := h2
    rw [told_l]
    have a := (lp_pth (xs := xs) (t := t) (by omega)).mono (M := 100) (by omega)
    cases hq : (lp xs t).1 with
    | some p => rw [hq] at a; exact fP_sm a (by decide +kernel) (by decide +kernel)
    | none => exact fP_sm ((ltN_pth (lp xs t).2.1 tm [] 0 0 .nil (by omega)).mono (by omega)) (by decide +kernel) (by decide +kernel)
/-- the names as they are told -/
def prs (g : Kv) : List PyData := g.map fun kv => .tuple [keyD kv.1, kv.2]
theorem prs_sm {D : Int} (hD : D < 1000) : ∀ {g : Kv}, nmB D g → SmAll (34 * g.length) 1 (prs g)
  | [], _ => ⟨rfl, rfl, Nat.zero_le _, Nat.zero_le _, rfl⟩
  | (k, d) :: r, h => by
    obtain ⟨x, z, rfl, rfl, h1, h2, h3, h4⟩ := h k d List.mem_cons_self
    have ih := prs_sm hD (g := r) fun k' d' m => h k' d' (List.mem_cons_of_mem _ m)
    have a := SmAll.cons (Sm.tuple (SmAll.cons (Sm.str h1) (SmAll.cons (smInt3 (i := z) (by omega)) SmAll.nil))) ih
    refine ⟨a.sh, a.cl, Nat.le_trans a.de (by decide), Nat.le_trans a.wt ?_, a.lf⟩
    rw [List.length_cons]
    omega
theorem kGet_dist {g : Kv} {k : Key} {d : PyData} (h : dist g) (m : (k, d) ∈ g) : kGet g k = some d := by
  induction g with
  | nil => cases m
  | cons kv r ih =>
    obtain ⟨k1, d1⟩ := kv
    have h' := List.nodup_cons.mp h
    rw [kGet_cons]
    rcases List.mem_cons.mp m with e | m
    · cases e; rw [if_pos rfl]
    · rw [if_neg (fun e => h'.1 (by rw [e]; exact List.mem_map.mpr ⟨(k, d), m, rfl⟩))]
      exact ih h'.2 m
theorem lp_names {xs : List Tm} {t : Tm} (h : (lp xs t).1 = none) : (nmP lK xs t []).map nmW = prs (lp xs t).2.1 ∧ dist (lp xs t).2.1 := by
  have hc := lp_clean h
  have e : (lp xs t).2.1 = (nmP lK xs t []).map prK := by rw [hc.app]; rfl
  refine ⟨?_, hc.dis List.nodup_nil⟩
  rw [e]
  unfold prs
  rw [List.map_map]
  rfl
/-- the words and things that are put in -/
abbrev SS : List Tm := [.w "&", .w "_", .w "p1", .w "p2", .w "p3", .w "lit", .w "other", .i 5, .u]
theorem SS_ok : ∀ y ∈ SS, y.fn ∧ y.dp = 0 ∧ y.sz = 1 := by
  intro y hy
  simp only [List.mem_cons, List.not_mem_nil, or_false] at hy
  rcases hy with rfl | rfl | rfl | rfl | rfl | rfl | rfl | rfl | rfl
  · exact ⟨⟨by decide +kernel, by decide +kernel⟩, rfl, rfl⟩
  · exact ⟨⟨by decide +kernel, by decide +kernel⟩, rfl, rfl⟩
  · exact ⟨⟨by decide +kernel, by decide +kernel⟩, rfl, rfl⟩
  · exact ⟨⟨by decide +kernel, by decide +kernel⟩, rfl, rfl⟩
  · exact ⟨⟨by decide +kernel, by decide +kernel⟩, rfl, rfl⟩
  · exact ⟨⟨by decide +kernel, by decide +kernel⟩, rfl, rfl⟩
  · exact ⟨⟨by decide +kernel, by decide +kernel⟩, rfl, rfl⟩
  · exact ⟨by show Int.natAbs 5 < 1000; decide, rfl, rfl⟩
  · exact ⟨trivial, rfl, rfl⟩
end

section
open PySem PySem.Spec PyProof.Rows L2 Kt Evl
section
variable {P : Program} {w : World} {K : PySem.W.Frag} {mg : Str → Option Value} {base : Heap} {c : Cs}
set_option maxHeartbeats 1000000
local macro_rules | `(tactic| walk_at "wE") => `(tactic| ((with_reducible refine' wE_nx ?h ?hi ?q); (case h => exact rfl); (case hi => exact Nat.le_of_ble_eq_true rfl)))
local macro_rules | `(tactic| walk_at "wE") => `(tactic| ((with_reducible refine' wE_varPd ?h ?hi ?q); (case h => exact rfl); (case hi => exact Nat.le_of_ble_eq_true rfl)))
local macro_rules | `(tactic| walk_at "wS") => `(tactic| ((with_reducible refine' wS_nx ?h ?hi ?q); (case h => exact rfl); (case hi => exact Nat.le_of_ble_eq_true rfl)))
theorem pS3 : pS 3 = 66 := rfl
theorem pD3 : pD 3 = 158 := rfl
theorem pX3 : pX 3 = 40 := rfl
theorem tS4 : tS 4 = 721 := rfl
theorem tD4 : tD 4 = 642 := rfl
def prTurn : Dn → List Wd → Nat × Nat → (Wd → Nat × Nat → Prop) → Prop := fun t ws g P => ws = [.z (.ref t.m)] ∧ g.1 ≤ 10 ∧ ∀ g', P (.d (.bool true)) g'
abbrev s_law_turn_right : Stmt := topS 45
theorem sc_law_turn_right : FnScope ["m", "items", "k", "pattern", "names", "template", "some", "turn", "fault", "wrong", "name"] ["m"] (defScope s_law_turn_right) := ⟨rfl, rfl, rfl, by decide +kernel, rfl, by decide +kernel, by decide +kernel⟩
theorem c_law_turn_right (T : Txt K mg c) (D : DefG K mg "_law_turn_right" s_law_turn_right ["m"]) (c_rule_fault : CalO P w K mg base 27 "rule_fault" (spP K (prRF c 10))) (c_pattern_names : CalO P w K mg base 26 "pattern_names" (spP K (prPN c 10))) (c_law_draw : CalG P w K mg base 1 "_law_draw" (spW K (On K) prDraw)) (c_law_w : CalO P w K mg base 1 "_law_w" (spP K prLW)) (c_law_is_list : CalO P w K mg base 1 "_law_is_list" (spP K prIsL)) (c_law_p_items : CalO P w K mg base 24 "_law_p_items" (spW K (DV K) (prLPI 10))) (c_law_t_fault : CalG P w K mg base 13 "_law_t_fault" (spW K (DR K) (prLTF 10))) (c_law_pattern : CalG P w K mg base 7 "_law_pattern" (spW K (On K) (prPat 4))) (c_law_template : CalG P w K mg base 8 "_law_template" (spW K (OR K) (prTpl 5))) (c_law_bent : CalG P w K mg base 13 "_law_bent" (spW K (On K) (prBent 10))) : CalG P w K mg base 28 "_law_turn_right" (spW K (On K) prTurn) := by
  refine calG D sc_law_turn_right (fun vs H Q E h => ?_) (fun cdv f A outer s H vs Q E hA hr h => ?_)
  · obtain ⟨th, ws, g, P, ⟨rfl, hg, z⟩, hv, _⟩ := h
    exact hv.len
  · obtain ⟨th, ws, g, P, ⟨rfl, hg, z⟩, hv, hj, hs, q⟩ := h
    have hu := hu_of hr
    have hR := hR_of hr
    refine ⟨_, pss_cons (ps_dput hu (pv 0) pe_str pe_int rfl)
      (pss_cons (ps_set (i := 1) sc_law_turn_right.nd rfl (Or.inl rfl) (pe_op op_cat (pe_lst (pa_cons (pe_WO c_law_w hr (by decide) (by rfl) (pa_cons pe_str pa_nil)) pa_nil)) (pe_lc (own := [("k", 2)]) (g := gName 2) (tt := tYes) (by rfl) sc_law_turn_right.nd (pi_range1 (by rfl) T.range (pa_cons (pe_WG c_law_draw hA hr (by decide) (by rfl) (pa_cons (pv 0) (pa_cons pe_int pa_nil))) pa_nil)) (blkOk_by (own := [("k", 2)]) (N := ["m", "items", "k", "pattern", "names", "template", "some", "turn", "fault", "wrong", "name"]) (sc := defScope s_law_turn_right) (by decide +kernel)) (fun _ _ _ _ _ => pg_name (i := 2) sc_law_turn_right.nd rfl (Or.inl rfl)) (fun _ _ _ _ _ => pts_nil) (fun _ _ _ _ _ => pe_WG c_law_pattern hA hr (by decide) (by rfl) (pa_cons (pv 0) (pa_cons pe_int pa_nil))))))
      (pss_cons (ps_asg (pe_tup (pa_cons (pe_tup (pa_cons pe_str (pa_cons (pe_callTy call_tupO (by rfl) T.tuple (by decide +kernel) (pa_cons (pv 1) pa_nil)) (pa_cons (pe_tup pa_nil) pa_nil)))) (pa_cons pe_dnewK pa_nil))) (pg_tup rfl (pgs_cons (pg_name (i := 3) sc_law_turn_right.nd rfl (Or.inl rfl)) (pgs_cons (pg_name (i := 4) sc_law_turn_right.nd rfl (Or.inr rfl)) pgs_nil))))
      (pss_cons (ps_expr (pe_WO c_law_p_items hr (by decide) (by rfl) (pa_cons (pv 3) (pa_cons pe_int (pa_cons (pe_tup pa_nil) (pa_cons (pe_tup (pa_cons pe_str pa_nil)) (pa_cons (pv 4) (pa_cons pe_int pa_nil))))))))
      (pss_cons (ps_set (i := 5) sc_law_turn_right.nd rfl (Or.inl rfl) (pe_WG c_law_template hA hr (by decide) (by rfl) (pa_cons (pv 0) (pa_cons (pv 4) (pa_cons pe_int (pa_cons pe_int pa_nil))))))
      (pss_cons (ps_set (i := 6) sc_law_turn_right.nd rfl (Or.inl rfl) (pe_lst (pa_cons (pe_WO c_law_w hr (by decide) (by rfl) (pa_cons pe_str pa_nil)) (pa_cons (pe_WO c_law_w hr (by decide) (by rfl) (pa_cons pe_str pa_nil)) (pa_cons (pe_WO c_law_w hr (by decide) (by rfl) (pa_cons pe_str pa_nil)) (pa_cons (pe_WO c_law_w hr (by decide) (by rfl) (pa_cons pe_str pa_nil)) (pa_cons (pe_WO c_law_w hr (by decide) (by rfl) (pa_cons pe_str pa_nil)) (pa_cons (pe_WO c_law_w hr (by decide) (by rfl) (pa_cons pe_str pa_nil)) (pa_cons (pe_WO c_law_w hr (by decide) (by rfl) (pa_cons pe_str pa_nil)) (pa_cons pe_int (pa_cons (pe_tup pa_nil) pa_nil)))))))))))
      (pss_cons (ps_for PassesOwn.never rfl (pi_range1 (by rfl) T.range (pa_cons pe_int pa_nil)) (pg_name (i := 7) sc_law_turn_right.nd rfl (Or.inl rfl))
        (pss_cons (ps_asg (pe_tup (pa_cons pe_dnewK (pa_cons (pe_tup (pa_cons pe_str (pa_cons (pe_tup pa_nil) pa_nil))) pa_nil))) (pg_tup rfl (pgs_cons (pg_name (i := 4) sc_law_turn_right.nd rfl (Or.inr rfl)) (pgs_cons (pg_name (i := 8) sc_law_turn_right.nd rfl (Or.inl rfl)) pgs_nil))))
        (pss_cons (ps_if (pt_val (pe_WO c_law_is_list hr (by decide) (by rfl) (pa_cons (pv 3) pa_nil)))
          (pss_cons (ps_set (i := 9) sc_law_turn_right.nd rfl (Or.inl rfl) (pe_WO c_law_p_items hr (by decide) (by rfl) (pa_cons (pv 3) (pa_cons pe_int (pa_cons (pe_tup pa_nil) (pa_cons (pe_tup (pa_cons pe_str pa_nil)) (pa_cons (pv 4) (pa_cons pe_int pa_nil))))))))
          (pss_one (ps_set (i := 8) sc_law_turn_right.nd rfl (Or.inl rfl) (pe_ifExp (pt_cmpR op_isN1 (pv 9) pe_non (nomark _)) pe_non (pe_tup (pa_cons pe_str (pa_cons (pv 9) pa_nil)))))))
          (pss_nil))
        (pss_cons (ps_if (pt_cmpR op_isN1 (pv 8) pe_non (nomark _))
          (pss_cons (ps_if (pt_cmpR op_ne (pe_callB (call_reprY hA hR) (by rfl) T.repr (by decide +kernel) (pa_cons (pe_WO c_pattern_names hr (by decide) (by rfl) (pa_cons (pe_tup (pa_cons pe_str pa_nil)) (pa_cons (pv 3) pa_nil))) pa_nil)) (pe_callB (call_reprY hA hR) (by rfl) T.repr (by decide +kernel) (pa_cons (pe_callTy call_tupO (by rfl) T.tuple (by decide +kernel) (pa_cons (pe_lc (own := [("name", 10)]) (g := gName 10) (tt := tYes) (by rfl) sc_law_turn_right.nd (pi_list (pe_callTy (call_lsD rfl) (by rfl) T.list (by decide +kernel) (pa_cons (pv 4) pa_nil))) (blkOk_by (own := [("name", 10)]) (N := ["m", "items", "k", "pattern", "names", "template", "some", "turn", "fault", "wrong", "name"]) (sc := defScope s_law_turn_right) (by decide +kernel)) (fun _ _ _ _ _ => pg_name (i := 10) sc_law_turn_right.nd rfl (Or.inl rfl)) (fun _ _ _ _ _ => pts_nil) (fun _ _ _ _ _ => pe_tup (pa_cons (pv 10) (pa_cons (pe_dget hu (pv 4) (pv 10) (fun _ _ => rfl)) pa_nil)))) pa_nil)) pa_nil)) (nomark _))
            (pss_one (ps_ret (pe_bl)))
            (pss_nil))
          (pss_cons (ps_set (i := 9) sc_law_turn_right.nd rfl (Or.inl rfl) (pe_WG c_law_t_fault hA hr (by decide) (by rfl) (pa_cons (pv 5) (pa_cons (pe_tup pa_nil) (pa_cons (pv 4) (pa_cons pe_int (pa_cons pe_bl pa_nil)))))))
          (pss_one (ps_set (i := 8) sc_law_turn_right.nd rfl (Or.inl rfl) (pe_ifExp (pt_cmpR op_isN1 (pv 9) pe_non (nomark _)) pe_non (pe_tup (pa_cons pe_str (pa_cons (pv 9) pa_nil))))))))
          (pss_nil))
        (pss_cons (ps_if (pt_cmpR op_ne (pe_callB (call_reprY hA hR) (by rfl) T.repr (by decide +kernel) (pa_cons (pe_WO c_rule_fault hr (by decide) (by rfl) (pa_cons (pe_tup (pa_cons pe_str pa_nil)) (pa_cons (pv 3) (pa_cons (pv 5) pa_nil)))) pa_nil)) (pe_callB (call_reprY hA hR) (by rfl) T.repr (by decide +kernel) (pa_cons (pv 8) pa_nil)) (nomark _))
          (pss_one (ps_ret (pe_bl)))
          (pss_nil))
        (pss_one (ps_if (pt_cmpR op_eq (pe_WG c_law_draw hA hr (by decide) (by rfl) (pa_cons (pv 0) (pa_cons pe_int pa_nil))) pe_int (nomark _))
          (pss_one (ps_set (i := 3) sc_law_turn_right.nd rfl (Or.inl rfl) (pe_WG c_law_bent hA hr (by decide) (by rfl) (pa_cons (pv 0) (pa_cons (pv 3) (pa_cons (pv 6) pa_nil))))))
          (pss_one (ps_set (i := 5) sc_law_turn_right.nd rfl (Or.inl rfl) (pe_WG c_law_bent hA hr (by decide) (by rfl) (pa_cons (pv 0) (pa_cons (pv 5) (pa_cons (pv 6) pa_nil)))))))))))))
      (pss_one (ps_ret (pe_bl))))))))), ?_⟩
    refine bodyW hv hj hs q (Nat.le_of_ble_eq_true rfl) ?_
    try dsimp only [cx_K]
    have cS3 := pS3
    have cD3 := pD3
    have cX3 := pX3
    have cS4 := tS4
    have cD4 := tD4
    refine wS_cut (fun ρ' g' => ρ' = [.z (.ref th.m), .no, .no, .no, .no, .no, .no, .no, .no, .no, .no] ∧ g' = (g.1, 0)) ?_ ?_
    · walk_at "w"
      exact ⟨0, rfl, by omega, rfl, rfl⟩
    rintro ρ' g' ⟨rfl, rfl⟩
    refine wS_cut (fun ρ' g' => ∃ ts : List Tm, ρ' = [.z (.ref th.m), .o (pyL (.w "_" :: ts)), .no, .no, .no, .no, .no, .no, .no, .no, .no] ∧ fnL ts ∧ ts.length ≤ 3 ∧ dpL ts ≤ 3 ∧ szL ts ≤ 3 * 66 ∧ g'.1 ≤ g.1 + 1 + 3 * 158) ?_ ?_
    · walk_at "w"
      refine ⟨_, rfl, ?_⟩
      walk_at "w"
      refine ⟨4, rfl, by show g.1 < _; omega, by omega, by omega, fun c c0 c3 => ?_⟩
      walk_at "w"
      refine ⟨c, rfl, by omega, by omega, fun i acc g' => ∃ ts : List Tm, acc = pyL ts ∧ ts.length = i ∧ fnL ts ∧ dpL ts ≤ 3 ∧ szL ts ≤ i * 66 ∧ g'.1 ≤ g.1 + 1 + i * 158 ∧ g'.2 ≤ i * 40, fun _ => trivial, ⟨[], rfl, rfl, trivial, Nat.zero_le _, Nat.zero_le _, by show g.1 + 1 ≤ _; omega, by show 0 ≤ _; omega⟩, ?_, ?_⟩
      · rintro i d acc g' v1 hd ⟨ts, rfl, hl, hf, hdp, hsz, hg1', hg2'⟩
        obtain ⟨rfl, hi⟩ := intsD_get hd
        have i2 : i ≤ 2 := by omega
        walk_at "w"
        refine ⟨3, rfl, by omega, by omega, by omega, by omega, fun x g2 xf xd xs xg1 xg2 => ?_⟩
        walk_at "w"
        refine q_Sz ?_ (szO (by rw [pyL_len]; omega))
        refine ⟨ts ++ [x], by rw [pyL_app]; rfl, by rw [List.length_append, hl]; rfl, fnL_app.mpr ⟨hf, xf, trivial⟩, ?_, ?_, by omega, by omega⟩
        · rw [dpL_app]
          show max (dpL ts) (max x.dp 0) ≤ 3
          omega
        · rw [szL_app]
          show szL ts + (x.sz + 0) ≤ _
          omega
      · rintro acc g' ⟨ts, rfl, hl, hf, hdp, hsz, hg1', hg2'⟩
        rw [intsD_len] at hl hsz hg1' hg2'
        have hc : c.toNat ≤ 3 := by omega
        walk_at "w"
        refine q_Sz ?_ (szO (by rw [pyL_len]; show 1 + _ ≤ _; omega))
        exact ⟨ts, rfl, hf, by omega, hdp, by omega, by omega⟩
    rintro ρ' g' ⟨ts, rfl, hf, hl, hdp, hsz, hg1⟩
    have hPf : (Tm.l (.w "_" :: ts) .u).fn := ⟨by simp, ⟨⟨by decide +kernel, by decide +kernel⟩, hf⟩, trivial⟩
    have hPd : (Tm.l (.w "_" :: ts) .u).dp ≤ 4 := by show max (max 0 (dpL ts)) 0 + 1 ≤ 4; omega
    have hPz : (Tm.l (.w "_" :: ts) .u).sz ≤ 201 := by show (1 + szL ts) + 1 + 1 ≤ _; omega
    refine wS_cut (fun ρ' g2 => ρ' = [.z (.ref th.m), .o (pyL (.w "_" :: ts)), .no, .d (Tm.l (.w "_" :: ts) .u).py, .k [], .no, .no, .no, .no, .no, .no] ∧ g2 = g') ?_ ?_
    · refine wS_parT (Nat.le_of_ble_eq_true rfl) (Nat.le_of_ble_eq_true rfl) rfl ?_
      walk_at "w"
      exact ⟨rfl, rfl⟩
    rintro ρ' g2 ⟨rfl, rfl⟩
    generalize (.w "_" :: ts : List Tm) = xs at hPf hPd hPz
    clear hf hl hdp hsz
    have hPf2 := hPf
    have hPl : 1 ≤ xs.length := hPf.1
    have hPd' : max (dpL xs) 0 + 1 ≤ 4 := hPd
    have hPz' : szL xs + 1 + 1 ≤ 201 := hPz
    have hnm := lp_nm hPf
    have hlen := lp_len xs .u
    have hu1 : Tm.sz .u = 1 := rfl
    refine wS_cut (fun ρ' g3 => ∃ a, ρ' = [.z (.ref th.m), .o (pyL xs), .no, .d (Tm.l xs .u).py, .pd (.ref a) (lp xs .u).2.1, .no, .no, .no, .no, .no, .no] ∧ g3 = g2) ?_ ?_
    · refine wS_pin (i := 4) rfl (Nat.le_of_ble_eq_true rfl) fun a => ?_
      refine wS_ownX (i := 4) (a := a) (kvs := []) rfl (Nat.le_of_ble_eq_true rfl) (fun kv h => by cases h) ?_
      walk_at "w"
      refine ⟨xs, .u, [], 1, LL, 0, rfl, Tm.fok _ hPf, hPl, by omega, by show 0 < 10; omega, by omega, by show 0 + szL xs + 1 ≤ _; omega, by show 0 + 1 + _ ≤ _; omega, by show 0 + 1 + 0 ≤ _; omega, ?_⟩
      exact ⟨a, rfl, rfl⟩
    rintro ρ' g3 ⟨a, rfl, rfl⟩
    refine wS_cut (fun ρ' g4 => ∃ (a : Addr) (tm : Tm), ρ' = [.z (.ref th.m), .o (pyL xs), .no, .d (Tm.l xs .u).py, .pd (.ref a) (lp xs .u).2.1, .d tm.py, .no, .no, .no, .no, .no] ∧ tm.fn ∧ tm.dp ≤ 8 ∧ tm.sz ≤ 721 ∧ g4.1 ≤ g3.1 + 642) ?_ ?_
    · walk_at "w"
      refine wE_ownD (i := 4) (a := a) rfl (Nat.le_of_ble_eq_true rfl) hnm.ok.flat ?_
      walk_at "w"
      refine ⟨4, 0, rfl, by omega, by omega, by show g3.1 + tD 4 ≤ _; omega, hnm.ok, by show (lp xs .u).2.1.length ≤ _; omega, fun x g' xf xd xs' xg1 xg2 => ?_⟩
      have xg1' : g'.1 ≤ g3.1 + tD 4 := xg1
      exact ⟨a, x, rfl, xf, by omega, by omega, by show g'.1 ≤ _; omega⟩
    rintro ρ' g4 ⟨a, tm, rfl, tf, td, tz, hg4⟩
    refine wS_cut (fun ρ' g5 => ρ' = [.z (.ref th.m), .o (pyL xs), .no, .d (Tm.l xs .u).py, .pd (.ref a) (lp xs .u).2.1, .d tm.py, .o (pyL SS), .no, .no, .no, .no] ∧ g5 = g4) ?_ ?_
    · walk_at "w"
      refine ⟨_, rfl, ?_⟩
      walk_at "w"
      refine ⟨_, rfl, ?_⟩
      walk_at "w"
      refine ⟨_, rfl, ?_⟩
      walk_at "w"
      refine ⟨_, rfl, ?_⟩
      walk_at "w"
      refine ⟨_, rfl, ?_⟩
      walk_at "w"
      refine ⟨_, rfl, ?_⟩
      walk_at "w"
      refine ⟨_, rfl, ?_⟩
      walk_at "w"
      exact ⟨rfl, rfl⟩
    rintro ρ' g5 ⟨rfl, rfl⟩
    walk_at "w"
    refine ⟨4, rfl, by omega, by omega, fun i ρ g' => ∃ (pt tm : Tm) (e4 e7 e8 e9 e10 : Wd), ρ = [.z (.ref th.m), .o (pyL xs), .no, .d pt.py, e4, .d tm.py, .o (pyL SS), e7, e8, e9, e10] ∧ pt.fn ∧ pt.dp ≤ 4 ∧ pt.sz ≤ 201 * 2 ^ i ∧ tm.fn ∧ tm.dp ≤ 8 ∧ tm.sz ≤ 721 * 2 ^ i ∧ g'.1 ≤ 2000 + i * 60, ⟨.l xs .u, tm, _, _, _, _, _, rfl, hPf, hPd, hPz, tf, td, tz, by omega⟩, fun _ _ _ _ => trivial, ?_, ?_⟩
    · rintro i dd ρ' g' hdd ⟨pt, tm, e4, e7, e8, e9, e10, rfl, pf, pd, pz, tf, td, tz, hg⟩
      obtain ⟨rfl, hi⟩ := intsD_get hdd
      have hi3 : i ≤ 3 := by
        have : (4 : Int).toNat = 4 := rfl
        omega
      have h8 : 2 ^ i ≤ 8 := Nat.pow_le_pow_right (by decide) hi3
      have pz8 : pt.sz ≤ 1608 := Nat.le_trans pz (Nat.le_trans (Nat.mul_le_mul_left 201 h8) (by decide))
      have tz8 : tm.sz ≤ 5768 := Nat.le_trans tz (Nat.le_trans (Nat.mul_le_mul_left 721 h8) (by decide))
      have hpow : 2 ^ (i + 1) = 2 ^ i * 2 := Nat.pow_succ 2 i
      refine wG_name (Nat.le_of_ble_eq_true rfl) ?_
      dsimp only
      refine wS_cut (fun ρ' g2 => ∃ e7 : Wd, ρ' = [.z (.ref th.m), .o (pyL xs), .no, .d pt.py, .k [], .d tm.py, .o (pyL SS), e7, .d (.tuple [.str "pattern", .tuple []]), e9, e10] ∧ g2 = g') ?_ ?_
      · refine wS_parT (Nat.le_of_ble_eq_true rfl) (Nat.le_of_ble_eq_true rfl) rfl ?_
        walk_at "w"
        exact ⟨_, rfl, rfl⟩
      rintro ρ' g2 ⟨e7, rfl, rfl⟩
      have tsm := told_sm (pt := pt) (tm := tm) (by omega) (by omega) (by omega) (by omega)
      refine wS_cut (fun ρ' g3 => ∃ (e4 e9 : Wd) (F : PyData), ρ' = [.z (.ref th.m), .o (pyL xs), .no, .d pt.py, e4, .d tm.py, .o (pyL SS), e7, .d F, e9, e10] ∧ g3 = g2 ∧ ((pt.isL = false ∧ F = .tuple [.str "pattern", .tuple []]) ∨ ∃ (ys : List Tm) (t : Tm) (a : Addr), pt = .l ys t ∧ e4 = .pd (.ref a) (lp ys t).2.1 ∧ F = fP "pattern" (lp ys t).1)) ?_ ?_
      · by_cases hL : pt.isL = true
        · obtain ⟨ys, t, rfl⟩ : ∃ ys t, pt = .l ys t := by
            cases pt with
            | l ys t => exact ⟨ys, t, rfl⟩
            | w _ => cases hL
            | i _ => cases hL
            | b _ => cases hL
            | u => cases hL
          have pd' : max (dpL ys) t.dp + 1 ≤ 4 := pd
          have pz' : szL ys + t.sz + 1 ≤ 1608 := pz8
          walk_at "w"
          refine ⟨.l ys t, rfl, ?_⟩
          walk_at "w1"
          refine ite_t rfl ?_
          refine wS_seq ?_
          refine wS_pin (i := 4) rfl (Nat.le_of_ble_eq_true rfl) fun a => ?_
          refine wS_ownA (i := 4) (j := 9) (a := a) (kvs := []) rfl (Nat.le_of_ble_eq_true rfl) (Nat.le_of_ble_eq_true rfl) (fun kv h => by cases h) ?_
          walk_at "w"
          refine ⟨ys, t, [], 1, LL, 0, rfl, Tm.fok _ pf, pf.1, by omega, by omega, by omega, by show 0 + szL ys + t.sz ≤ _; omega, by show 0 + 1 + _ ≤ _; omega, by show 0 + 1 + _ ≤ _; omega, ?_⟩
          refine ⟨_, rfl, ?_⟩
          show wS _ _ [.z (.ref th.m), .o (pyL xs), .no, .d (Tm.l ys t).py, .pd (.ref a) (lp ys t).2.1, .d tm.py, .o (pyL SS), e7, .d (.tuple [.str "pattern", .tuple []]), .d (pN (lp ys t).1), e10] _ _
          cases hq : (lp ys t).1 with
          | none =>
            dsimp only [pN]
            walk_at "w"
            exact ⟨_, _, _, rfl, rfl, .inr ⟨ys, t, a, rfl, rfl, by rw [hq]; rfl⟩⟩
          | some q =>
            dsimp only [pN]
            walk_at "w"
            exact ⟨_, _, _, rfl, rfl, .inr ⟨ys, t, a, rfl, rfl, by rw [hq]; rfl⟩⟩
        · have hL' : pt.isL = false := Bool.eq_false_iff.mpr hL
          walk_at "w"
          refine ⟨pt, rfl, ?_⟩
          rw [hL']
          walk_at "w"
          exact ⟨_, _, _, rfl, rfl, .inl ⟨rfl, rfl⟩⟩
      rintro ρ' g3 ⟨e4, e9, F, rfl, rfl, hF⟩
      refine wS_cut (fun ρ' g4 => ∃ e4 e9 : Wd, ρ' = [.z (.ref th.m), .o (pyL xs), .no, .d pt.py, e4, .d tm.py, .o (pyL SS), e7, .d (told pt tm), e9, e10] ∧ g4 = g3) ?_ ?_
      · rcases hF with ⟨hL, rfl⟩ | ⟨ys, t, a, rfl, rfl, rfl⟩
        · walk_at "w"
          exact ⟨_, _, by rw [told_no hL], rfl⟩
        · have pd' : max (dpL ys) t.dp + 1 ≤ 4 := pd
          have pz' : szL ys + t.sz + 1 ≤ 1608 := pz8
          cases hq : (lp ys t).1 with
          | some q =>
            have e : told (.l ys t) tm = fP "pattern" (some q) := by rw [told_l, hq]
            rw [e]
            dsimp only [fP]
            walk_at "w"
            exact ⟨_, _, rfl, rfl⟩
          | none =>
            have e : told (.l ys t) tm = fP "template" (ltN (lp ys t).2.1 tm [] 0) := by rw [told_l, hq]
            have nm := lp_nm pf
            have nl := lp_len ys t
            obtain ⟨en, ed⟩ := lp_names hq
            generalize (lp ys t).2.1 = kvs at e nm nl en ed
            rw [e]
            dsimp only [fP]
            have psm := Sm.tuple (prs_sm (D := ((Tm.l ys t).dp : Int)) (by omega) nm)
            have pw : 34 * kvs.length ≤ 390000 := by omega
            refine wS_unpin (i := 4) (a := a) (kvs := kvs) rfl (Nat.le_of_ble_eq_true rfl) ?_
            show wS _ _ [.z (.ref th.m), .o (pyL xs), .no, .d (Tm.l ys t).py, .k kvs, .d tm.py, .o (pyL SS), e7, .d .none, e9, e10] _ _
            walk_at "w"
            refine ⟨LL, ys, t, rfl, by decide, Tm.fok _ pf, pf.1, by omega, by omega, by omega, ?_⟩
            rw [en]
            walk_at "w"
            refine wC_reprY psm pw (by decide) rfl ?_
            walk_at "w"
            refine fun v => ⟨fun i acc g' => g' = g3 ∧ acc = prs (kvs.take i), fun _ => rfl, ⟨rfl, rfl⟩, ?_, ?_⟩
            · rintro i1 d1 acc g' v1 hd1 ⟨rfl, rfl⟩
              rw [List.getElem?_map] at hd1
              cases hx1 : kvs[i1]? with
              | none => rw [hx1] at hd1; cases hd1
              | some kv =>
                rw [hx1] at hd1
                cases hd1
                have hi1 := (List.getElem?_eq_some_iff.mp hx1).1
                have hmk := List.mem_of_getElem? hx1
                obtain ⟨k1, d1⟩ := kv
                obtain ⟨x, zz, rfl, rfl, _⟩ := nm k1 d1 hmk
                have e1 : kvs.take (i1 + 1) = kvs.take i1 ++ [(.inr x, .int zz)] := by rw [List.take_succ, hx1]; rfl
                dsimp only [keyD]
                walk_at "w"
                refine ⟨.int zz, kGet_dist ed hmk, ?_⟩
                walk_at "w"
                refine q_Sz ?_ (szO (by unfold prs; rw [List.length_map, List.length_take]; omega))
                refine ⟨rfl, ?_⟩
                rw [e1]
                unfold prs
                rw [List.map_append]
                rfl
            · rintro acc g' ⟨rfl, rfl⟩
              rw [List.length_map, List.take_length]
              walk_at "w"
              refine wC_reprY psm pw (by decide) rfl ?_
              walk_at "w"
              refine ite_f (by rw [decide_eq_true rfl]; rfl) ?_
              refine wS_next ?_
              dsimp only
              refine wS_seq ?_
              refine wS_pin (i := 4) (kvs := kvs) rfl (Nat.le_of_ble_eq_true rfl) fun a2 => ?_
              show wS _ _ [.z (.ref th.m), .o (pyL xs), .no, .d (Tm.l ys t).py, .pd (.ref a2) kvs, .d tm.py, .o (pyL SS), e7, .d .none, e9, e10] _ _
              refine wS_asg (Nat.le_of_ble_eq_true rfl) ?_
              refine wE_ownR (i := 4) (a := a2) (kvs := kvs) rfl (Nat.le_of_ble_eq_true rfl) nm.ok.flat ?_
              walk_at "w"
              refine ⟨tm, [], 0, false, rfl, Tm.fok _ tf, Tm.fsm _ tf, by omega, by omega, by omega, by show 0 + tm.dp ≤ _; omega, nm.ok.ik, ?_⟩
              show wS _ _ [.z (.ref th.m), .o (pyL xs), .no, .d (Tm.l ys t).py, .pd (.ref a2) kvs, .d tm.py, .o (pyL SS), e7, .d .none, .d (pN (ltN kvs tm [] 0)), e10] _ _
              cases ltN kvs tm [] 0 with
              | none =>
                dsimp only [pN]
                walk_at "w"
                exact ⟨_, _, rfl, rfl⟩
              | some q =>
                dsimp only [pN]
                walk_at "w"
                exact ⟨_, _, rfl, rfl⟩
      rintro ρ' g4 ⟨e4, e9, rfl, rfl⟩
      refine wS_cut (fun ρ' g5 => ρ' = [.z (.ref th.m), .o (pyL xs), .no, .d pt.py, e4, .d tm.py, .o (pyL SS), e7, .d (told pt tm), e9, e10] ∧ g5 = g4) ?_ ?_
      · walk_at "w"
        refine ⟨LL, pt, tm, rfl, by decide, Tm.fok _ pf, Tm.fok _ tf, by omega, by omega, by omega, by omega, by omega, fun ys u e => by subst e; exact pf.1, ?_⟩
        rw [told_same]
        walk_at "w"
        refine wC_reprY tsm.1 (by decide) (by decide) tsm.2 ?_
        walk_at "w"
        refine wC_reprY tsm.1 (by decide) (by decide) tsm.2 ?_
        walk_at "w"
        refine ite_f (by rw [decide_eq_true rfl]; rfl) ?_
        walk_at "w"
        exact ⟨rfl, rfl⟩
      rintro ρ' g5 ⟨rfl, rfl⟩
      walk_at "w"
      refine ⟨2, rfl, by omega, by omega, by omega, fun r r0 r2 => ?_⟩
      walk_at "w"
      refine ite_b (fun hb => ?_) (fun hb => ?_)
      · walk_at "w"
        refine ⟨pt, SS, rfl, by omega, by omega, pf, by omega, by decide, by decide, SS_ok, by show g5.1 + 1 + 5 * 10 ≤ _; omega, fun y g' yf yd ys yg1 yg2 => ?_⟩
        have yg1' : g'.1 ≤ g5.1 + 1 + 5 * 10 := yg1
        walk_at "w"
        exact ⟨y, tm, _, _, _, _, _, rfl, yf, by omega, by omega, tf, td, by omega, by omega⟩
      · walk_at "w"
        refine ⟨tm, SS, rfl, by omega, by omega, tf, by omega, by decide, by decide, SS_ok, by show g5.1 + 1 + 5 * 10 ≤ _; omega, fun y g' yf yd ys yg1 yg2 => ?_⟩
        have yg1' : g'.1 ≤ g5.1 + 1 + 5 * 10 := yg1
        walk_at "w"
        exact ⟨pt, y, _, _, _, _, _, rfl, pf, pd, by omega, yf, by omega, by omega, by omega⟩
    · rintro ρ' g' ⟨pt, tm, e4, e7, e8, e9, e10, rfl, _⟩
      walk_at "w"
      exact z _
end
end

section
open PySem PySem.Spec PyProof.Rows L2 Kt Evl
section
variable {P : Program} {w : World} {K : PySem.W.Frag} {mg : Str → Option Value} {base : Heap} {c : Cs}
set_option maxHeartbeats 1000000
local macro_rules | `(tactic| walk_at "wS") => `(tactic| ((with_reducible refine' wS_par3 ?hi ?hj ?hl ?q); (case hi => exact Nat.le_of_ble_eq_true rfl); (case hj => exact Nat.le_of_ble_eq_true rfl); (case hl => exact Nat.le_of_ble_eq_true rfl)))
def prHand : List Wd → (Wd → Prop) → Prop := fun ws P => ws = [] ∧ P (.d (.bool true))
def hA_ : Tm := .w "a"
def hM_ : Tm := .w "&"
def hU_ : Tm := .w "_"
theorem okA_ : hA_.ok := by show PyData.strOk "a" = true; decide +kernel
theorem okM_ : hM_.ok := by show PyData.strOk "&" = true; decide +kernel
theorem okU_ : hU_.ok := by show PyData.strOk "_" = true; decide +kernel
def hPl : Tm := .l [hU_, hA_] .u
def hRo : Tm := .l [hU_, hA_, hM_] .u
def hp0 : Tm := hPl
def ht0 : Tm := .l [.l [hM_, .l [hA_, hM_] .u] .u, hA_] .u
theorem he0 : rfT (keysK []) hp0 ht0 = .none := by rfl
theorem hk0 : hp0.ok ∧ ht0.ok := by unfold hp0 ht0; (repeat' constructor) <;> first | exact okA_ | exact okM_ | exact okU_
theorem hn0 : ∀ ys u, hp0 = .l ys u → 1 ≤ ys.length := by unfold hp0; intro ys u e; cases e; decide
def hp1 : Tm := hRo
def ht1 : Tm := .l [.l [.i 5, .i 6] .u, hM_] .u
theorem he1 : rfT (keysK []) hp1 ht1 = .tuple [.str "template", .tuple [.int 0]] := by rfl
theorem hk1 : hp1.ok ∧ ht1.ok := by unfold hp1 ht1; (repeat' constructor) <;> first | exact okA_ | exact okM_ | exact okU_
theorem hn1 : ∀ ys u, hp1 = .l ys u → 1 ≤ ys.length := by unfold hp1; intro ys u e; cases e; decide
def hp2 : Tm := hPl
def ht2 : Tm := .l [.l [hA_, .i 5] .u, hM_] .u
theorem he2 : rfT (keysK []) hp2 ht2 = .tuple [.str "template", .tuple [.int 0, .int 0]] := by rfl
theorem hk2 : hp2.ok ∧ ht2.ok := by unfold hp2 ht2; (repeat' constructor) <;> first | exact okA_ | exact okM_ | exact okU_
theorem hn2 : ∀ ys u, hp2 = .l ys u → 1 ≤ ys.length := by unfold hp2; intro ys u e; cases e; decide
def hp3 : Tm := .l [hU_, hM_] .u
def ht3 : Tm := .i 1
theorem he3 : rfT (keysK []) hp3 ht3 = .tuple [.str "pattern", .tuple [.int 1]] := by rfl
theorem hk3 : hp3.ok ∧ ht3.ok := by unfold hp3 ht3; (repeat' constructor) <;> first | exact okA_ | exact okM_ | exact okU_
theorem hn3 : ∀ ys u, hp3 = .l ys u → 1 ≤ ys.length := by unfold hp3; intro ys u e; cases e; decide
def hp4 : Tm := .i 5
def ht4 : Tm := .i 1
theorem he4 : rfT (keysK []) hp4 ht4 = .tuple [.str "pattern", .tuple []] := by rfl
theorem hk4 : hp4.ok ∧ ht4.ok := by unfold hp4 ht4; (repeat' constructor) <;> first | exact okA_ | exact okM_ | exact okU_
theorem hn4 : ∀ ys u, hp4 = .l ys u → 1 ≤ ys.length := by unfold hp4; intro ys u e; cases e
def hp5 : Tm := hRo
def ht5 : Tm := hA_
theorem he5 : rfT (keysK []) hp5 ht5 = .tuple [.str "template", .tuple []] := by rfl
theorem hk5 : hp5.ok ∧ ht5.ok := by unfold hp5 ht5; (repeat' constructor) <;> first | exact okA_ | exact okM_ | exact okU_
theorem hn5 : ∀ ys u, hp5 = .l ys u → 1 ≤ ys.length := by unfold hp5; intro ys u e; cases e; decide
abbrev s_law_hand_right : Stmt := topS 46
theorem sc_law_hand_right : FnScope ["a", "mark", "under", "plain", "row", "told"] [] (defScope s_law_hand_right) := ⟨rfl, rfl, rfl, by decide +kernel, rfl, by decide +kernel, by decide +kernel⟩
theorem c_law_hand_right (T : Txt K mg c) (D : DefG K mg "_law_hand_right" s_law_hand_right []) (c_law_w : CalO P w K mg base 1 "_law_w" (spP K prLW)) (c_rule_fault : CalO P w K mg base 27 "rule_fault" (spP K (prRF c 10))) : CalG P w K mg base 28 "_law_hand_right" (spP K prHand) := by
  refine calG D sc_law_hand_right (fun vs H Q E h => ?_) (fun cdv f A outer s H vs Q E hA hr h => ?_)
  · obtain ⟨ws, P, ⟨rfl, p⟩, hv, _⟩ := h
    exact hv.len
  · obtain ⟨ws, P, ⟨rfl, p⟩, hv, q⟩ := h
    have hu := hu_of hr
    have hR := hR_of hr
    refine ⟨_, pss_cons (ps_par3 (i := 0) (j := 1) (l := 2) (by rfl) sc_law_hand_right.nd rfl rfl rfl (by decide) (by decide) (by decide) rfl rfl rfl (pa_cons (pe_WO c_law_w hr (by omega) (by rfl) (pa_cons pe_str pa_nil)) (pa_cons (pe_WO c_law_w hr (by omega) (by rfl) (pa_cons pe_str pa_nil)) (pa_cons (pe_WO c_law_w hr (by omega) (by rfl) (pa_cons pe_str pa_nil)) pa_nil))) (by rfl))
      (pss_cons (ps_par (i := 3) (j := 4) (by rfl) sc_law_hand_right.nd rfl rfl (by decide) rfl rfl (pa_cons (pe_tup (pa_cons pe_str (pa_cons (pe_tup (pa_cons (pv 2) (pa_cons (pv 0) pa_nil))) (pa_cons (pe_tup pa_nil) pa_nil)))) (pa_cons (pe_tup (pa_cons pe_str (pa_cons (pe_tup (pa_cons (pv 2) (pa_cons (pv 0) (pa_cons (pv 1) pa_nil)))) (pa_cons (pe_tup pa_nil) pa_nil)))) pa_nil)) (by rfl))
      (pss_cons (ps_set (i := 5) sc_law_hand_right.nd rfl (Or.inl rfl) (pe_lst (pa_cons (pe_WO c_rule_fault hr (by omega) (by rfl) (pa_cons (pe_tup pa_nil) (pa_cons (pv 3) (pa_cons (pe_tup (pa_cons pe_str (pa_cons (pe_tup (pa_cons (pe_tup (pa_cons pe_str (pa_cons (pe_tup (pa_cons (pv 1) (pa_cons (pe_tup (pa_cons pe_str (pa_cons (pe_tup (pa_cons (pv 0) (pa_cons (pv 1) pa_nil))) (pa_cons (pe_tup pa_nil) pa_nil)))) pa_nil))) (pa_cons (pe_tup pa_nil) pa_nil)))) (pa_cons (pv 0) pa_nil))) (pa_cons (pe_tup pa_nil) pa_nil)))) pa_nil)))) pa_nil)))
      (pss_cons (ps_expr (pe_bm PySem.F.plainAttrs_list PySem.F.slot_list_append PySem.F.type_list_append mt_append (pv 5) (pa_cons (pe_WO c_rule_fault hr (by omega) (by rfl) (pa_cons (pe_tup pa_nil) (pa_cons (pv 4) (pa_cons (pe_tup (pa_cons pe_str (pa_cons (pe_tup (pa_cons (pe_tup (pa_cons pe_str (pa_cons (pe_tup (pa_cons pe_int (pa_cons pe_int pa_nil))) (pa_cons (pe_tup pa_nil) pa_nil)))) (pa_cons (pv 1) pa_nil))) (pa_cons (pe_tup pa_nil) pa_nil)))) pa_nil)))) pa_nil)))
      (pss_cons (ps_expr (pe_bm PySem.F.plainAttrs_list PySem.F.slot_list_append PySem.F.type_list_append mt_append (pv 5) (pa_cons (pe_WO c_rule_fault hr (by omega) (by rfl) (pa_cons (pe_tup pa_nil) (pa_cons (pv 3) (pa_cons (pe_tup (pa_cons pe_str (pa_cons (pe_tup (pa_cons (pe_tup (pa_cons pe_str (pa_cons (pe_tup (pa_cons (pv 0) (pa_cons pe_int pa_nil))) (pa_cons (pe_tup pa_nil) pa_nil)))) (pa_cons (pv 1) pa_nil))) (pa_cons (pe_tup pa_nil) pa_nil)))) pa_nil)))) pa_nil)))
      (pss_cons (ps_set (i := 5) sc_law_hand_right.nd rfl (Or.inl rfl) (pe_op op_cat (pv 5) (pe_lst (pa_cons (pe_WO c_rule_fault hr (by omega) (by rfl) (pa_cons (pe_tup pa_nil) (pa_cons (pe_tup (pa_cons pe_str (pa_cons (pe_tup (pa_cons (pv 2) (pa_cons (pv 1) pa_nil))) (pa_cons (pe_tup pa_nil) pa_nil)))) (pa_cons pe_int pa_nil)))) (pa_cons (pe_WO c_rule_fault hr (by omega) (by rfl) (pa_cons (pe_tup pa_nil) (pa_cons pe_int (pa_cons pe_int pa_nil)))) (pa_cons (pe_WO c_rule_fault hr (by omega) (by rfl) (pa_cons (pe_tup pa_nil) (pa_cons (pv 4) (pa_cons (pv 0) pa_nil)))) pa_nil))))))
      (pss_one (ps_ret (pe_cmpR op_eq (pe_callB (call_reprY hA hR) (by rfl) T.repr (by decide +kernel) (pa_cons (pv 5) pa_nil)) (pe_callB (call_reprY hA hR) (by rfl) T.repr (by decide +kernel) (pa_cons (pe_lst (pa_cons pe_non (pa_cons (pe_tup (pa_cons pe_str (pa_cons (pe_tup (pa_cons pe_int pa_nil)) pa_nil))) (pa_cons (pe_tup (pa_cons pe_str (pa_cons (pe_tup (pa_cons pe_int (pa_cons pe_int pa_nil))) pa_nil))) (pa_cons (pe_tup (pa_cons pe_str (pa_cons (pe_tup (pa_cons pe_int pa_nil)) pa_nil))) (pa_cons (pe_tup (pa_cons pe_str (pa_cons (pe_tup pa_nil) pa_nil))) (pa_cons (pe_tup (pa_cons pe_str (pa_cons (pe_tup pa_nil) pa_nil))) pa_nil))))))) pa_nil)) (nomark _))))))))), ?_⟩
    refine bodyP hv q (Nat.le_of_ble_eq_true rfl) ?_
    try dsimp only [cx_K]
    walk_at "w"
    refine ⟨_, rfl, ?_⟩
    walk_at "w"
    refine ⟨_, rfl, ?_⟩
    walk_at "w"
    refine ⟨_, rfl, ?_⟩
    walk_at "w"
    refine ⟨_, _, _, rfl, ?_⟩
    dsimp only
    walk_at "w"
    refine ⟨[], hp0, ht0, rfl, by decide, hk0.1, hk0.2, by decide +kernel, by decide +kernel, by decide, by decide +kernel, by decide +kernel, hn0, ?_⟩
    rw [he0]
    walk_at "w"
    refine ⟨[], hp1, ht1, rfl, by decide, hk1.1, hk1.2, by decide +kernel, by decide +kernel, by decide, by decide +kernel, by decide +kernel, hn1, ?_⟩
    rw [he1]
    walk_at "w"
    refine ⟨[], hp2, ht2, rfl, by decide, hk2.1, hk2.2, by decide +kernel, by decide +kernel, by decide, by decide +kernel, by decide +kernel, hn2, ?_⟩
    rw [he2]
    walk_at "w"
    refine ⟨[], hp3, ht3, rfl, by decide, hk3.1, hk3.2, by decide +kernel, by decide +kernel, by decide, by decide +kernel, by decide +kernel, hn3, ?_⟩
    rw [he3]
    walk_at "w"
    refine ⟨[], hp4, ht4, rfl, by decide, hk4.1, hk4.2, by decide +kernel, by decide +kernel, by decide, by decide +kernel, by decide +kernel, hn4, ?_⟩
    rw [he4]
    walk_at "w"
    refine ⟨[], hp5, ht5, rfl, by decide, hk5.1, hk5.2, by decide +kernel, by decide +kernel, by decide, by decide +kernel, by decide +kernel, hn5, ?_⟩
    rw [he5]
    walk_at "w"
    have sm : Sm 300 22 (.list [.none, .tuple [.str "template", .tuple [.int 0]], .tuple [.str "template", .tuple [.int 0, .int 0]], .tuple [.str "pattern", .tuple [.int 1]], .tuple [.str "pattern", .tuple []], .tuple [.str "template", .tuple []]]) := ⟨by decide +kernel, by decide +kernel, by decide +kernel, by decide +kernel, by decide +kernel⟩
    refine wC_reprYL rfl ⟨sm, by decide, by decide, ?_⟩
    walk_at "w"
    refine wC_reprYL rfl ⟨sm, by decide, by decide, ?_⟩
    walk_at "w"
    refine Eq.mpr (congrArg (fun b => P (Wd.d (PyData.bool b))) (decide_eq_true ?_)) p
    rfl
end
end

section
open PySem PySem.Spec PyProof.Rows L2 Kt Evl
local macro_rules | `(tactic| walk_at "rd1") => `(tactic| first
  | with_reducible refine rd_seq ?_ | with_reducible refine rd_asg ?_ | with_reducible refine rd_name ?_ | with_reducible refine rd_c ?_
  | ((with_reducible refine' rd_var ?h ?q); (case h => exact rfl))
  | with_reducible refine rd_nil ?_ | with_reducible refine rd_cons ?_ | with_reducible refine rd_op ?_ | with_reducible refine rd_un ?_ | with_reducible refine rd_I0 ?_ | with_reducible refine rd_U ?_
  | with_reducible refine rd_cb ?_ | with_reducible refine rd_test ?_ | with_reducible refine rd_tB ?_ | with_reducible refine rd_bl ?_ | with_reducible refine rd_tup ?_ | with_reducible refine rd_lst ?_
  | with_reducible refine rd_and ?_ | with_reducible refine rd_or ?_ | with_reducible refine rd_not ?_ | with_reducible refine rd_next ?_ | with_reducible refine rd_par ?_ | with_reducible refine rd_par1 ?_
  | with_reducible refine rd_ifS ?_ | with_reducible refine rd_ret ?_ | with_reducible refine rd_drop ?_ | with_reducible refine rd_bm ?_ | with_reducible refine rd_bm0 ?_ | with_reducible refine rd_dget ?_ | with_reducible refine rd_dput ?_
  | with_reducible refine rd_sl ?_ | with_reducible refine rd_no ?_ | with_reducible refine rd_some ?_ | with_reducible refine rd_some1 ?_ | with_reducible refine rd_intO ?_ | with_reducible refine rd_yes ?_ | with_reducible refine rd_pcons ?_ | with_reducible refine rd_pnil ?_)
local macro_rules | `(tactic| walk_at "rd1") => `(tactic| first | with_reducible refine rd_for ?_ | with_reducible refine rd_gcons ?_ | with_reducible refine rd_gnil ?_ | with_reducible refine rd_lc ?_ | with_reducible refine rd_irng ?_ | with_reducible refine rd_ilst ?_ | with_reducible refine rd_itup ?_ | with_reducible refine rd_tRevL ?_ | with_reducible refine rd_tRevT ?_)
local macro_rules | `(tactic| walk_at "rd") => `(tactic| repeat (walk_at "rd1"))


def spBegunX (K : PySem.W.Frag) : Sp := fun vs H Q _ => ∃ (a : Addr) (ns : List Int) (k : Int), vs = [.ref a, .int k] ∧ SqL K H a (ns.map V.int) ∧ ns.length ≤ 63 ∧ 0 ≤ k ∧ k ≤ 100 ∧
  ∀ (m c : Addr) (H' : Hp), H m = none → Ex H H' → Drw H' m c 0 → Nxt H' m 0 → Cel K H' c → Q (.ref m) H'
section
variable {P : Program} {w : World} {K : PySem.W.Frag} {mg : Str → Option Value} {base : Heap} {c0 : Cs}
abbrev s_law_begun : Stmt := topS 31
theorem sc_law_begun : FnScope ["script", "k", "cells", "great", "cell", "begun"] ["script", "k"] (defScope s_law_begun) := ⟨rfl, rfl, rfl, by decide +kernel, rfl, by decide +kernel, by decide +kernel⟩
theorem c_law_begun (T : Txt K mg c0) (D : DefG K mg "_law_begun" s_law_begun ["script", "k"]) : CalG P w K mg base 1 "_law_begun" (spBegunX K) := by
  refine calG D sc_law_begun (fun vs H Q E h => ?_) (fun cdv f A outer s H vs Q E hA hr h => ?_)
  · obtain ⟨a, ns, k, rfl, _⟩ := h
    rfl
  · obtain ⟨a, ns, k, rfl, hS, hl, hk0, hk1, q⟩ := h
    have hu := hu_of hr
    refine ⟨_, pss_cons (ps_set (i := 2) sc_law_begun.nd rfl (Or.inl rfl) (pe_op op_cat (pe_slice sl_list (pv 0) (po_some (pv 1)) po_none) (pe_slice sl_list (pv 0) po_none (po_some (pv 1)))))
      (pss_cons (ps_setLc (i := 3) (own := [("cell", 4)]) (g := gName 4) (by rfl) sc_law_begun.nd rfl rfl (sw_true rfl rfl rfl (by decide +kernel)) (pi_list (pv 0)) (blkOk_by (own := [("cell", 4)]) (N := ["script", "k", "cells", "great", "cell", "begun"]) (sc := defScope s_law_begun) (by decide +kernel)) (fun _ _ _ _ _ => pg_name (i := 4) sc_law_begun.nd rfl (Or.inl rfl)) (fun _ _ _ _ _ => pts_one (pt_cmpR op_ge (pv 4) (pe_op op_pow pe_int pe_int) (nomark _))) (fun _ _ _ _ _ => pv 4))
      (pss_cons (ps_set (i := 5) sc_law_begun.nd rfl (Or.inl rfl) (pe_op op_add pe_int (pe_op op_mul pe_int (pv 1))))
      (pss_cons (ps_for PassesOwn.never rfl (pi_list (pv 2)) (pg_name (i := 4) sc_law_begun.nd rfl (Or.inl rfl))
        (pss_one (ps_set (i := 5) sc_law_begun.nd rfl (Or.inl rfl) (pe_op op_modN (pe_callTy call_intO (by rfl) T.int (by decide +kernel) (pa_cons (pe_op op_add (pe_op op_mul (pv 5) pe_int) (pv 4)) pa_nil)) pe_int))))
      (pss_one (ps_ret (pe_disp (pps_cons pe_str (pe_ifExp (pt_cmpR op_lt (pv 1) (pe_callB call_lenO (by rfl) T.len (by decide +kernel) (pa_cons (pv 3) pa_nil)) (nomark _)) (pe_ix ix_list (pv 3) (pv 1) (fun _ _ => rfl)) pe_int) (pps_cons pe_str (pv 5) (pps_cons pe_str (pe_op op_cat (pv 2) (pe_lst (pa_cons (pe_op op_add (pe_op op_mul pe_int (pv 1)) pe_int) pa_nil))) (pps_cons pe_str pe_int (pps_cons pe_str pe_int pps_nil))))) (by rfl) (by rfl) (fun z => by cases z) (by decide))))))), ?_⟩
    walk_at "rd"
    refine rd_slL hS fun p1 H1 n1 e1 h1 => ?_
    walk_at "rd"
    refine rd_slL (ex_l e1 hS) fun p2 H2 n2 e12 h2 => ?_
    obtain ⟨m1, q1, l1⟩ := cut_ints ns (some k) none
    obtain ⟨m2, q2, l2⟩ := cut_ints ns none (some k)
    rw [q1] at h1
    rw [q2] at h2
    have e2 := e1.trans e12
    refine rd_cat (e12 _ _ h1) h2 ?_ fun cl H3 n3 e23 g3 => ?_
    · rw [List.length_map, List.length_map]
      exact Nat.le_trans (by omega : _ ≤ 126) (by decide)
    have e3 := e2.trans e23
    have n3' : H cl = none := fresh_back e2 n3
    rw [← List.map_append] at g3
    have hcl : (m1 ++ m2).length ≤ 126 := by rw [List.length_append]; omega
    generalize m1 ++ m2 = cs at *
    walk_at "rd"
    refine rd_lstW (ex_l e3 hS) fun gr n4 => ?_
    refine lc_list (xs := ns.map V.int) (fun i H' => Ex H3 H' ∧ ∃ gs : List Int, H' gr = some (.lst (gs.map V.int)) ∧ gs.length ≤ i) ⟨Ex.new n4, [], upd_same, Nat.le_refl _⟩ (fun i H' _ p => ex_l (e3.trans p.1) hS) (fun i x H' hi p => ?_) (fun H' p => ?_)
    · obtain ⟨z, rfl, hz⟩ := get_ints hi
      obtain ⟨e4, gs, h4, l4⟩ := p
      have hil : i < ns.length := (List.getElem?_eq_some_iff.mp hz).1
      walk_at "rd"
      refine ⟨rfl, ?_⟩
      walk_at "rd"
      refine rd_I ⟨by decide, by decide, by decide⟩ ?_
      walk_at "rd"
      refine ite2 (fun hb => ?_) (fun hb => ?_)
      · walk_at "rd"
        refine ⟨_, h4, ?_, e4.mut n4, gs ++ [z], ?_, ?_⟩
        · rw [List.length_map]
          exact Nat.lt_of_le_of_lt (by omega : _ ≤ 63) (by decide)
        · rw [upd_same, List.map_append]; rfl
        · rw [List.length_append]; exact Nat.succ_le_succ l4
      · exact ⟨e4, gs, h4, Nat.le_succ_of_le l4⟩
    · obtain ⟨e4, gs, h4, l4⟩ := p
      rw [List.length_map] at l4
      have e5 := e3.trans e4
      have h5 := e4 _ _ g3
      have n4' : H gr = none := fresh_back e3 n4
      walk_at "rd"
      refine rd_I (.inl ⟨by decide, by decide⟩) ?_
      walk_at "rd"
      refine rd_lstW (sq_of h5) (for_list (xs := cs.map V.int) (fun i σ H'' => ∃ (b : Int) (x : Option V), σ = [some (.ref a), some (.int k), some (.ref cl), some (.ref gr), x, some (.int b)] ∧ H'' = H' ∧ 0 ≤ b ∧ b < 2147483647)
        ⟨97 + 10 * k, none, rfl, rfl, by omega, by omega⟩ (fun i σ H'' _ p => ?_) (fun i x σ H'' hi p => ?_) (fun σ H'' p => ?_))
      · obtain ⟨b, x, rfl, rfl, _⟩ := p
        exact sq_of h5
      · obtain ⟨b, x', rfl, rfl, b0, b1⟩ := p
        obtain ⟨z, rfl, hz⟩ := get_ints hi
        walk_at "rd"
        refine rd_I (.inl ⟨by omega, by omega⟩) ?_
        walk_at "rd"
        refine rd_I (by omega) ?_
        walk_at "rd"
        exact ⟨_, some (.int z), rfl, rfl, Int.fmod_nonneg_of_pos _ (by omega), Int.fmod_lt_of_pos _ (by omega)⟩
      · obtain ⟨b, x', rfl, rfl, b0, b1⟩ := p
        walk_at "rd"
        intro m nm
        have e6 := e5.trans (Ex.new (o := .dK []) nm)
        have f1 : Ex H'' (upd H'' m (.dK [])) := Ex.new nm
        have m1' : (upd H'' m (.dK [])) m = some (.dK []) := upd_same
        have nm' : H m = none := fresh_back e5 nm
        generalize upd H'' m (.dK []) = H6 at *
        walk_at "rd"
        refine rd_ifE2 (f := V.int) (fun lf => ?_) (fun all => ?_)
        · walk_at "rd"
          refine rd_I (.inl ⟨by decide, by decide⟩) ?_
          walk_at "rd"
          refine rd_newL fun p6 H7 n6 e67 h7 => ?_
          refine rd_cat (e67 _ _ (f1 _ _ h5)) h7 ?_ fun cl2 H8 n7 e78 g8 => ?_
          · rw [List.length_map]
            exact Nat.le_trans (Nat.add_le_add_right hcl 1) (by decide)
          have g1 := e78 _ _ (e67 _ _ m1')
          have e8 := (e6.trans e67).trans e78
          rw [show cs.map V.int ++ [V.int (67 * k + 47)] = (cs ++ [67 * k + 47]).map V.int by rw [List.map_append]; rfl] at g8
          walk_at "rd"
          obtain ⟨z0, z1, z2, z3, z4⟩ := merge5 (.int lf) (.int b) (.ref cl2) (.int 0) (.int 0)
          refine ⟨g1, [(kLeft, .int lf), (kSeed, .int b), (kCells, .ref cl2), (kSpot, .int 0), (kNext, .int 0)], rfl, by show 5 ≤ 15; decide, ?_⟩
          refine q m cl2 _ nm' (e8.mut nm') ⟨_, lf, b, 0, upd_same, Nat.le_trans z0 (by decide), z1, z2, z3, z4, b0, b1, by decide, by decide⟩ ⟨_, upd_same, by show valV (putK (putK (putK (putK (putK [] kLeft (.int lf)) kSeed (.int b)) kCells (.ref cl2)) kSpot (.int 0)) kNext (.int 0)) kNext = some (.int 0); rw [valV_put, if_pos rfl]⟩ ⟨cs ++ [67 * k + 47], sq_of ((upd_ne (fun z => ?_)).trans g8), ?_, ?_⟩
          · rw [z, g1] at g8
            cases g8
          · rw [List.length_append]; exact Nat.succ_pos _
          · rw [List.length_append]; exact Nat.le_trans (Nat.add_le_add_right hcl 1) (by decide)
        · refine rd_ifE ?_
          walk_at "rd"
          refine rd_lenO (.inl (sq_of (f1 _ _ h4))) ?_
          rw [List.length_map]
          walk_at "rd"
          refine ite2 (fun hb => ?_) (fun hb => ?_)
          · obtain ⟨j, rfl⟩ : ∃ j : Nat, k = (j : Int) := ⟨k.toNat, (Int.toNat_of_nonneg hk0).symm⟩
            have hj : j < gs.length := by have := of_decide_eq_true hb; omega
            walk_at "rd"
            refine rd_ixL (sq_of (f1 _ _ h4)) (atI_nat (v := .int gs[j]) (by rw [List.getElem?_map, List.getElem?_eq_getElem hj]; rfl)) ?_
            exact all _
          · exact all 0
end
end

section
open PySem PySem.Spec PyProof.Rows L2 Kt Evl
section
variable {P : Program} {w : World} {K : PySem.W.Frag} {mg : Str → Option Value} {base : Heap} {c : Cs}
local macro_rules | `(tactic| walk_at "rd1") => `(tactic| first
  | with_reducible refine rd_seq ?_ | with_reducible refine rd_asg ?_ | with_reducible refine rd_name ?_ | with_reducible refine rd_c ?_
  | ((with_reducible refine' rd_var ?h ?q); (case h => exact rfl))
  | with_reducible refine rd_nil ?_ | with_reducible refine rd_cons ?_ | with_reducible refine rd_op ?_ | with_reducible refine rd_un ?_ | with_reducible refine rd_I0 ?_ | with_reducible refine rd_U ?_
  | with_reducible refine rd_cb ?_ | with_reducible refine rd_test ?_ | with_reducible refine rd_tB ?_ | with_reducible refine rd_bl ?_ | with_reducible refine rd_tup ?_ | with_reducible refine rd_lst ?_
  | with_reducible refine rd_and ?_ | with_reducible refine rd_or ?_ | with_reducible refine rd_not ?_ | with_reducible refine rd_next ?_ | with_reducible refine rd_par ?_ | with_reducible refine rd_par1 ?_
  | with_reducible refine rd_ifS ?_ | with_reducible refine rd_ret ?_ | with_reducible refine rd_drop ?_ | with_reducible refine rd_bm ?_ | with_reducible refine rd_bm0 ?_ | with_reducible refine rd_dget ?_ | with_reducible refine rd_dput ?_
  | with_reducible refine rd_sl ?_ | with_reducible refine rd_no ?_ | with_reducible refine rd_some ?_ | with_reducible refine rd_some1 ?_ | with_reducible refine rd_intO ?_ | with_reducible refine rd_yes ?_ | with_reducible refine rd_pcons ?_ | with_reducible refine rd_pnil ?_)
local macro_rules | `(tactic| walk_at "rd1") => `(tactic| first | with_reducible refine rd_for ?_ | with_reducible refine rd_gcons ?_ | with_reducible refine rd_gnil ?_ | with_reducible refine rd_lc ?_ | with_reducible refine rd_irng ?_ | with_reducible refine rd_ilst ?_ | with_reducible refine rd_itup ?_ | with_reducible refine rd_tRevL ?_ | with_reducible refine rd_tRevT ?_ | with_reducible refine rd_andV ?_ | with_reducible refine rd_orV ?_ | with_reducible refine rd_notV ?_ | with_reducible refine rd_isTy ?_ | with_reducible refine rd_notTy ?_ | with_reducible refine rd_isN ?_ | with_reducible refine rd_notN ?_ | with_reducible refine rd_enT ?_ | with_reducible refine rd_LZ ?_)
local macro_rules | `(tactic| walk_at "rd") => `(tactic| repeat (walk_at "rd1"))

def spTurnX (K : PySem.W.Frag) : Sp := fun vs H Q _ => ∃ (m c : Addr), vs = [.ref m] ∧ Drw H m c 0 ∧ Nxt H m 0 ∧ Cel K H c ∧ ∀ H', (∀ b o, b ≠ m → H b = some o → H' b = some o) → Q (.bl true) H'
theorem spTurn_W {vs : List V} {H : Hp} {Q : VK} {E : XK} (h : spTurnX K vs H Q E) : spW K (On K) prTurn vs H Q E := by
  obtain ⟨m, c, rfl, d, nx, ce, k⟩ := h
  obtain ⟨b, cb, hb⟩ := ce.toB
  refine ⟨⟨m, c, b⟩, [.z (.ref m)], (0, 0), fun w _ => w = .d (.bool true), ⟨rfl, by decide, fun g' => rfl⟩, .cons rfl .nil, ⟨d, cb, nx⟩, fun a ha => ?_, fun v H' w g' e j hw ew => ?_⟩
  · have hm : H m ≠ none := by
      obtain ⟨kv, h1, _⟩ := nx
      rw [h1]
      exact fun z => by cases z
    cases b with
    | true =>
      have ha' : a ∈ [m] := ha
      rw [List.mem_singleton.mp ha']
      exact hm
    | false =>
      have ha' : a ∈ [m, c] := ha
      rcases List.mem_cons.mp ha' with rfl | ha'
      · exact hm
      · rw [List.mem_singleton.mp ha']
        exact hb rfl
  · subst ew
    cases (show Tw K H' v (.bool true) from hw)
    exact k H' fun b o hb ho => e b o (fun z => hb (List.mem_singleton.mp z)) ho
def spLaw (K : PySem.W.Frag) : Sp := fun vs H Q _ => ∃ (a : Addr) (ns : List Int), vs = [.ref a] ∧ SqL K H a (ns.map V.int) ∧ ns.length ≤ 63 ∧ ∀ H', Q (.bl true) H'
theorem rd_pc {sp : Sp} {t : TA} {σ : L2.St} {H : Hp} {Q : VK} (q : t σ H fun vs H1 => sp vs H1 Q E0) : tPC sp t σ H Q := q
theorem sq_keep {K : PySem.W.Frag} {H H1 H2 : Hp} {a m : Addr} {xs : List V} (h0 : SqL K H a xs) (nm : H m = none) (e1 : Ex H H1) (e2 : ∀ b o, b ≠ m → H1 b = some o → H2 b = some o) : SqL K H2 a xs := by
  rcases h0 with (h | ⟨o, h⟩) | h
  · exact .inl (.inl (e2 a _ (fun z => by rw [z, nm] at h; cases h) (e1 a _ h)))
  · exact .inl (.inr ⟨o, e2 a _ (fun z => by rw [z, nm] at h; cases h) (e1 a _ h)⟩)
  · exact .inr h
abbrev s_law : Stmt := topS 47
theorem sc_law : FnScope ["script", "k"] ["script"] (defScope s_law) := ⟨rfl, rfl, rfl, by decide +kernel, rfl, by decide +kernel, by decide +kernel⟩
set_option maxHeartbeats 4000000 in
theorem g_law {fa : Addr} {fd : FuncData} (T : Txt K mg c) (F : Fun K "law" "law" s_law fa fd) (c_law_hand_right : CalG P w K mg base 28 "_law_hand_right" (spP K prHand)) (c_law_begun : CalG P w K mg base 1 "_law_begun" (spBegunX K)) (c_law_turn_right : CalG P w K mg base 28 "_law_turn_right" (spTurnX K)) : FnG P w K mg base CX0 29 fa fd ["script"] (spLaw K) := by
  refine FunG F sc_law (fun vs H Q E h => ?_) (fun cdv A outer s0 H vs Q E hA hr h => ?_)
  · obtain ⟨a, ns, rfl, _⟩ := h
    rfl
  · obtain ⟨sa, sn, rfl, hS, hl, q⟩ := h
    refine ⟨_, pss_cons (ps_if (pt_not (pt_val (pe_WG0 c_law_hand_right hA hr (by omega) (by rfl))))
        (pss_one (ps_ret (pe_bl)))
        (pss_nil))
      (pss_cons (ps_for PassesOwn.never rfl (pi_range1 (by rfl) T.range (pa_cons (pe_op op_add pe_int (pe_callB (call_min2 rfl) (by rfl) T.min (by decide +kernel) (pa_cons (pe_callB call_lenO (by rfl) T.len (by decide +kernel) (pa_cons (pv 0) pa_nil)) (pa_cons pe_int pa_nil)))) pa_nil)) (pg_name (i := 1) sc_law.nd rfl (Or.inl rfl))
        (pss_one (ps_if (pt_not (pt_val (pe_WG c_law_turn_right hA hr (by omega) (by rfl) (pa_cons (pe_WG c_law_begun hA hr (by omega) (by rfl) (pa_cons (pv 0) (pa_cons (pv 1) pa_nil))) pa_nil))))
          (pss_one (ps_ret (pe_bl)))
          (pss_nil))))
      (pss_one (ps_ret (pe_bl)))), ?_⟩
    walk_at "rd"
    refine ⟨[], fun x => x = .d (.bool true), ⟨rfl, rfl⟩, .nil, fun v H0 w0 e0 hv hw => ?_⟩
    subst hw
    cases (show Tw K H0 v (.bool true) from hv)
    have hS0 := ex_l e0 hS
    walk_at "rd"
    refine iteF ?_
    walk_at "rd"
    refine rd_lenO (.inl hS0) ?_
    rw [List.length_map]
    walk_at "rd"
    refine ⟨_, _, rfl, ?_⟩
    walk_at "rd"
    have hmn : ∃ n : Nat, (3 : Int) + (if (3 : Int) < (sn.length : Int) then 3 else (sn.length : Int)) = (n : Int) ∧ n ≤ 6 := by
      split
      · exact ⟨6, rfl, Nat.le_refl _⟩
      · exact ⟨3 + sn.length, by omega, by omega⟩
    obtain ⟨nn, en, hn⟩ := hmn
    rw [en]
    refine rd_rngW (by omega) (by omega) ?_
    rw [Int.toNat_natCast]
    refine rd_forN (fun i σ H' => ∃ y1, σ = [some (.ref sa), y1] ∧ SqL K H' sa (sn.map V.int)) ⟨none, rfl, hS0⟩ (fun i σ H' hi p => ?_) (fun σ H' p => ?_)
    · obtain ⟨y1, rfl, hS1⟩ := p
      walk_at "rd"
      refine rd_pc ?_
      walk_at "rd"
      refine rd_pc ?_
      walk_at "rd"
      refine ⟨sa, sn, i, rfl, hS1, hl, by omega, by omega, fun m c H1 nm e1 d1 nx1 ce1 => ?_⟩
      have hS2 := ex_l e1 hS1
      walk_at "rd"
      refine ⟨m, c, rfl, d1, nx1, ce1, fun H2 e2 => ?_⟩
      walk_at "rd"
      refine iteF ?_
      walk_at "rd"
      exact ⟨_, rfl, sq_keep hS1 nm e1 e2⟩
    · obtain ⟨y1, rfl, hS1⟩ := p
      walk_at "rd"
      exact q _
end
end

section
open PySem PySem.Spec PyProof.Rows L2 Kt Evl
section
theorem defG_mk {K : PySem.W.Frag} {h : Heap} {mg : Str → Option Value} {x : Str} {st : Stmt} {ps : List Str} {f : Addr} {oc kV dc pm cd ct : Value} {od an : Option Addr} {sl : Array (Option Value)} (X : K.In h) (G : h.Ns mainGlobals mg)
    (a : PySem.W.nsIn K mainGlobals x = some (some (.ref f))) (l : K.lookup f = some ⟨oc, od, .func (PySem.W.fnOf x x (defArgs st) (defBody st) (defScope st) .none kV dc pm an cd ct), sl⟩) (c : PySem.W.codeIn K cd x = true) (k : PySem.W.keepIn K (.ref f) = true)
    (hb : ∀ (kV doc pm : Value) (an : Option Addr) (cdv ct : Value) (us : List Value), us.length = ps.length → bindArgs (PySem.W.fnOf x x (defArgs st) (defBody st) (defScope st) .none kV doc pm an cdv ct) ⟨us, []⟩ = pure (ps.zip us)) : DefG K mg x st ps :=
  ⟨f, _, fun_mk l c k, PySem.W.mg_of X G a, (fun_mk l c k).binds hb⟩
theorem defM_mk {K : PySem.W.Frag} {C : Addr} {x q : Str} {st : Stmt} {ps : List Str} {f : Addr} {oc kV dc pm cd ct : Value} {od an : Option Addr} {sl : Array (Option Value)} (hc : Cls K C)
    (a : PySem.W.findIn K (.ref C) x = some (some (.ref f))) (i : PySem.W.isFn K (.ref f) = true) (l : K.lookup f = some ⟨oc, od, .func (PySem.W.fnOf x q (defArgs st) (defBody st) (defScope st) .none kV dc pm an cd ct), sl⟩) (c : PySem.W.codeIn K cd q = true) (k : PySem.W.keepIn K (.ref f) = true)
    (hb : ∀ (kV doc pm : Value) (an : Option Addr) (cdv ct : Value) (us : List Value), us.length = ps.length → bindArgs (PySem.W.fnOf x q (defArgs st) (defBody st) (defScope st) .none kV doc pm an cdv ct) ⟨us, []⟩ = pure (ps.zip us)) : DefM K C x q st ps :=
  ⟨f, _, fun_mk l c k, hc, ⟨a, i, k⟩, (fun_mk l c k).binds hb⟩
theorem defI_mk {K : PySem.W.Frag} {h : Heap} {mg : Str → Option Value} {C : Addr} {y q : Str} {st : Stmt} {ps : List Str} {f : Addr} {oc kV dc pm cd ct : Value} {od an : Option Addr} {sl : Array (Option Value)} (X : K.In h) (G : h.Ns mainGlobals mg)
    (g : PySem.W.nsIn K mainGlobals y = some (some (.ref C))) (mk : PySem.W.makesIn K C = true) (kc : PySem.W.keepIn K (.ref C) = true)
    (a : PySem.W.findIn K (.ref C) "__init__" = some (some (.ref f))) (i : PySem.W.isFn K (.ref f) = true) (l : K.lookup f = some ⟨oc, od, .func (PySem.W.fnOf "__init__" q (defArgs st) (defBody st) (defScope st) .none kV dc pm an cd ct), sl⟩) (c : PySem.W.codeIn K cd q = true) (k : PySem.W.keepIn K (.ref f) = true)
    (hb : ∀ (kV doc pm : Value) (an : Option Addr) (cdv ct : Value) (us : List Value), us.length = ps.length → bindArgs (PySem.W.fnOf "__init__" q (defArgs st) (defBody st) (defScope st) .none kV doc pm an cdv ct) ⟨us, []⟩ = pure (ps.zip us)) : DefI K mg y C q st ps :=
  ⟨f, _, fun_mk l c k, ⟨mk, a, i, kc⟩, PySem.W.mg_of X G g, (fun_mk l c k).binds hb⟩
theorem kit_me {K : PySem.W.Frag} {C : Addr} : PySem.W.kitOne K (.ref C) (.ref C) = some true := by
  unfold PySem.W.kitOne
  rw [if_pos (by simp)]
theorem kit_no {K : PySem.W.Frag} {C D : Addr} (h1 : PySem.W.subIn K (.ref C) (.ref D) = some false) (h0 : PySem.W.subIn K (.ref D) (.ref D) = some true) (h2 : PySem.W.isClsIn K D = true) (h3 : PySem.W.typeIn K (.ref D) = some (.type "type")) : PySem.W.kitOne K (.ref C) (.ref D) = some false := by
  have ne : C ≠ D := fun e => by rw [e, h0] at h1; cases h1
  have e : (PySem.W.clsIn K D).isSome = true := h2
  simp [PySem.W.kitOne, PySem.W.kitCls, ne, h1, h3, e]
theorem cf_nil {K : PySem.W.Frag} {C : Addr} : ∀ n ∈ ([] : List Str), NoAttr K C n := fun n h => by cases h
theorem cf_cons {K : PySem.W.Frag} {C : Addr} {f : Str} {r : List Str} (h : PySem.W.findIn K (.ref C) f = some none) (t : ∀ n ∈ r, NoAttr K C n) : ∀ n ∈ f :: r, NoAttr K C n := fun n m => by
  rcases List.mem_cons.mp m with rfl | m
  · exact h
  · exact t n m
set_option maxHeartbeats 8000000 in
theorem all_mk {P : Program} {w : World} {K : PySem.W.Frag} {h : Heap} {mg : Str → Option Value} {fa : Addr} (X : K.In h) (G : h.Ns mainGlobals mg) (hfa : mg "law" = some (.ref fa))
    {f0 : Addr}
    {oc0 kV0 dc0 pm0 cd0 ct0 : Value} {od0 an0 : Option Addr} {sl0 : Array (Option Value)}
    (a0 : PySem.W.nsIn K mainGlobals "is_nothing" = some (some (.ref f0)))
    (l0 : K.lookup f0 = some ⟨oc0, od0, .func (PySem.W.fnOf "is_nothing" "is_nothing" (defArgs s_is_nothing) (defBody s_is_nothing) (defScope s_is_nothing) .none kV0 dc0 pm0 an0 cd0 ct0), sl0⟩)
    (c0 : PySem.W.codeIn K cd0 "is_nothing" = true)
    (k0 : PySem.W.keepIn K (.ref f0) = true)
    {f1 : Addr}
    {oc1 kV1 dc1 pm1 cd1 ct1 : Value} {od1 an1 : Option Addr} {sl1 : Array (Option Value)}
    (a1 : PySem.W.nsIn K mainGlobals "is_spelled" = some (some (.ref f1)))
    (l1 : K.lookup f1 = some ⟨oc1, od1, .func (PySem.W.fnOf "is_spelled" "is_spelled" (defArgs s_is_spelled) (defBody s_is_spelled) (defScope s_is_spelled) .none kV1 dc1 pm1 an1 cd1 ct1), sl1⟩)
    (c1 : PySem.W.codeIn K cd1 "is_spelled" = true)
    (k1 : PySem.W.keepIn K (.ref f1) = true)
    {f2 : Addr}
    {oc2 kV2 dc2 pm2 cd2 ct2 : Value} {od2 an2 : Option Addr} {sl2 : Array (Option Value)}
    (a2 : PySem.W.nsIn K mainGlobals "node_of" = some (some (.ref f2)))
    (l2 : K.lookup f2 = some ⟨oc2, od2, .func (PySem.W.fnOf "node_of" "node_of" (defArgs s_node_of) (defBody s_node_of) (defScope s_node_of) .none kV2 dc2 pm2 an2 cd2 ct2), sl2⟩)
    (c2 : PySem.W.codeIn K cd2 "node_of" = true)
    (k2 : PySem.W.keepIn K (.ref f2) = true)
    {f3 : Addr}
    {oc3 kV3 dc3 pm3 cd3 ct3 : Value} {od3 an3 : Option Addr} {sl3 : Array (Option Value)}
    (a3 : PySem.W.nsIn K mainGlobals "words_in" = some (some (.ref f3)))
    (l3 : K.lookup f3 = some ⟨oc3, od3, .func (PySem.W.fnOf "words_in" "words_in" (defArgs s_words_in) (defBody s_words_in) (defScope s_words_in) .none kV3 dc3 pm3 an3 cd3 ct3), sl3⟩)
    (c3 : PySem.W.codeIn K cd3 "words_in" = true)
    (k3 : PySem.W.keepIn K (.ref f3) = true)
    {f4 : Addr}
    {oc4 kV4 dc4 pm4 cd4 ct4 : Value} {od4 an4 : Option Addr} {sl4 : Array (Option Value)}
    (a4 : PySem.W.nsIn K mainGlobals "is_repeat" = some (some (.ref f4)))
    (l4 : K.lookup f4 = some ⟨oc4, od4, .func (PySem.W.fnOf "is_repeat" "is_repeat" (defArgs s_is_repeat) (defBody s_is_repeat) (defScope s_is_repeat) .none kV4 dc4 pm4 an4 cd4 ct4), sl4⟩)
    (c4 : PySem.W.codeIn K cd4 "is_repeat" = true)
    (k4 : PySem.W.keepIn K (.ref f4) = true)
    {f5 : Addr}
    {oc5 kV5 dc5 pm5 cd5 ct5 : Value} {od5 an5 : Option Addr} {sl5 : Array (Option Value)}
    (a5 : PySem.W.nsIn K mainGlobals "is_pattern_name" = some (some (.ref f5)))
    (l5 : K.lookup f5 = some ⟨oc5, od5, .func (PySem.W.fnOf "is_pattern_name" "is_pattern_name" (defArgs s_is_pattern_name) (defBody s_is_pattern_name) (defScope s_is_pattern_name) .none kV5 dc5 pm5 an5 cd5 ct5), sl5⟩)
    (c5 : PySem.W.codeIn K cd5 "is_pattern_name" = true)
    (k5 : PySem.W.keepIn K (.ref f5) = true)
    {f6 : Addr}
    {oc6 kV6 dc6 pm6 cd6 ct6 : Value} {od6 an6 : Option Addr} {sl6 : Array (Option Value)}
    (a6 : PySem.W.nsIn K mainGlobals "pattern_fault" = some (some (.ref f6)))
    (l6 : K.lookup f6 = some ⟨oc6, od6, .func (PySem.W.fnOf "pattern_fault" "pattern_fault" (defArgs s_pattern_fault) (defBody s_pattern_fault) (defScope s_pattern_fault) .none kV6 dc6 pm6 an6 cd6 ct6), sl6⟩)
    (c6 : PySem.W.codeIn K cd6 "pattern_fault" = true)
    (k6 : PySem.W.keepIn K (.ref f6) = true)
    {f7 : Addr}
    {oc7 kV7 dc7 pm7 cd7 ct7 : Value} {od7 an7 : Option Addr} {sl7 : Array (Option Value)}
    (a7 : PySem.W.nsIn K mainGlobals "items_from" = some (some (.ref f7)))
    (l7 : K.lookup f7 = some ⟨oc7, od7, .func (PySem.W.fnOf "items_from" "items_from" (defArgs s_items_from) (defBody s_items_from) (defScope s_items_from) .none kV7 dc7 pm7 an7 cd7 ct7), sl7⟩)
    (c7 : PySem.W.codeIn K cd7 "items_from" = true)
    (k7 : PySem.W.keepIn K (.ref f7) = true)
    {f8 : Addr}
    {oc8 kV8 dc8 pm8 cd8 ct8 : Value} {od8 an8 : Option Addr} {sl8 : Array (Option Value)}
    (a8 : PySem.W.nsIn K mainGlobals "names_in" = some (some (.ref f8)))
    (l8 : K.lookup f8 = some ⟨oc8, od8, .func (PySem.W.fnOf "names_in" "names_in" (defArgs s_names_in) (defBody s_names_in) (defScope s_names_in) .none kV8 dc8 pm8 an8 cd8 ct8), sl8⟩)
    (c8 : PySem.W.codeIn K cd8 "names_in" = true)
    (k8 : PySem.W.keepIn K (.ref f8) = true)
    {f9 : Addr}
    {oc9 kV9 dc9 pm9 cd9 ct9 : Value} {od9 an9 : Option Addr} {sl9 : Array (Option Value)}
    (a9 : PySem.W.nsIn K mainGlobals "names_from" = some (some (.ref f9)))
    (l9 : K.lookup f9 = some ⟨oc9, od9, .func (PySem.W.fnOf "names_from" "names_from" (defArgs s_names_from) (defBody s_names_from) (defScope s_names_from) .none kV9 dc9 pm9 an9 cd9 ct9), sl9⟩)
    (c9 : PySem.W.codeIn K cd9 "names_from" = true)
    (k9 : PySem.W.keepIn K (.ref f9) = true)
    {f10 : Addr}
    {oc10 kV10 dc10 pm10 cd10 ct10 : Value} {od10 an10 : Option Addr} {sl10 : Array (Option Value)}
    (a10 : PySem.W.nsIn K mainGlobals "is_as_it_is" = some (some (.ref f10)))
    (l10 : K.lookup f10 = some ⟨oc10, od10, .func (PySem.W.fnOf "is_as_it_is" "is_as_it_is" (defArgs s_is_as_it_is) (defBody s_is_as_it_is) (defScope s_is_as_it_is) .none kV10 dc10 pm10 an10 cd10 ct10), sl10⟩)
    (c10 : PySem.W.codeIn K cd10 "is_as_it_is" = true)
    (k10 : PySem.W.keepIn K (.ref f10) = true)
    {f11 : Addr}
    {oc11 kV11 dc11 pm11 cd11 ct11 : Value} {od11 an11 : Option Addr} {sl11 : Array (Option Value)}
    (a11 : PySem.W.nsIn K mainGlobals "has_name" = some (some (.ref f11)))
    (l11 : K.lookup f11 = some ⟨oc11, od11, .func (PySem.W.fnOf "has_name" "has_name" (defArgs s_has_name) (defBody s_has_name) (defScope s_has_name) .none kV11 dc11 pm11 an11 cd11 ct11), sl11⟩)
    (c11 : PySem.W.codeIn K cd11 "has_name" = true)
    (k11 : PySem.W.keepIn K (.ref f11) = true)
    {f12 : Addr}
    {oc12 kV12 dc12 pm12 cd12 ct12 : Value} {od12 an12 : Option Addr} {sl12 : Array (Option Value)}
    (a12 : PySem.W.nsIn K mainGlobals "template_fault" = some (some (.ref f12)))
    (l12 : K.lookup f12 = some ⟨oc12, od12, .func (PySem.W.fnOf "template_fault" "template_fault" (defArgs s_template_fault) (defBody s_template_fault) (defScope s_template_fault) .none kV12 dc12 pm12 an12 cd12 ct12), sl12⟩)
    (c12 : PySem.W.codeIn K cd12 "template_fault" = true)
    (k12 : PySem.W.keepIn K (.ref f12) = true)
    {f13 : Addr}
    {oc13 kV13 dc13 pm13 cd13 ct13 : Value} {od13 an13 : Option Addr} {sl13 : Array (Option Value)}
    (a13 : PySem.W.nsIn K mainGlobals "keys_of" = some (some (.ref f13)))
    (l13 : K.lookup f13 = some ⟨oc13, od13, .func (PySem.W.fnOf "keys_of" "keys_of" (defArgs s_keys_of) (defBody s_keys_of) (defScope s_keys_of) .none kV13 dc13 pm13 an13 cd13 ct13), sl13⟩)
    (c13 : PySem.W.codeIn K cd13 "keys_of" = true)
    (k13 : PySem.W.keepIn K (.ref f13) = true)
    {f14 : Addr}
    {oc14 kV14 dc14 pm14 cd14 ct14 : Value} {od14 an14 : Option Addr} {sl14 : Array (Option Value)}
    (a14 : PySem.W.nsIn K mainGlobals "named" = some (some (.ref f14)))
    (l14 : K.lookup f14 = some ⟨oc14, od14, .func (PySem.W.fnOf "named" "named" (defArgs s_named) (defBody s_named) (defScope s_named) .none kV14 dc14 pm14 an14 cd14 ct14), sl14⟩)
    (c14 : PySem.W.codeIn K cd14 "named" = true)
    (k14 : PySem.W.keepIn K (.ref f14) = true)
    {f15 : Addr}
    {oc15 kV15 dc15 pm15 cd15 ct15 : Value} {od15 an15 : Option Addr} {sl15 : Array (Option Value)}
    (a15 : PySem.W.nsIn K mainGlobals "rule_fault" = some (some (.ref f15)))
    (l15 : K.lookup f15 = some ⟨oc15, od15, .func (PySem.W.fnOf "rule_fault" "rule_fault" (defArgs s_rule_fault) (defBody s_rule_fault) (defScope s_rule_fault) .none kV15 dc15 pm15 an15 cd15 ct15), sl15⟩)
    (c15 : PySem.W.codeIn K cd15 "rule_fault" = true)
    (k15 : PySem.W.keepIn K (.ref f15) = true)
    {f16 : Addr}
    {oc16 kV16 dc16 pm16 cd16 ct16 : Value} {od16 an16 : Option Addr} {sl16 : Array (Option Value)}
    (a16 : PySem.W.nsIn K mainGlobals "pattern_names" = some (some (.ref f16)))
    (l16 : K.lookup f16 = some ⟨oc16, od16, .func (PySem.W.fnOf "pattern_names" "pattern_names" (defArgs s_pattern_names) (defBody s_pattern_names) (defScope s_pattern_names) .none kV16 dc16 pm16 an16 cd16 ct16), sl16⟩)
    (c16 : PySem.W.codeIn K cd16 "pattern_names" = true)
    (k16 : PySem.W.keepIn K (.ref f16) = true)
    {f17 : Addr}
    {oc17 kV17 dc17 pm17 cd17 ct17 : Value} {od17 an17 : Option Addr} {sl17 : Array (Option Value)}
    (a17 : PySem.W.nsIn K mainGlobals "_law_begun" = some (some (.ref f17)))
    (l17 : K.lookup f17 = some ⟨oc17, od17, .func (PySem.W.fnOf "_law_begun" "_law_begun" (defArgs s_law_begun) (defBody s_law_begun) (defScope s_law_begun) .none kV17 dc17 pm17 an17 cd17 ct17), sl17⟩)
    (c17 : PySem.W.codeIn K cd17 "_law_begun" = true)
    (k17 : PySem.W.keepIn K (.ref f17) = true)
    {f18 : Addr}
    {oc18 kV18 dc18 pm18 cd18 ct18 : Value} {od18 an18 : Option Addr} {sl18 : Array (Option Value)}
    (a18 : PySem.W.nsIn K mainGlobals "_law_draw" = some (some (.ref f18)))
    (l18 : K.lookup f18 = some ⟨oc18, od18, .func (PySem.W.fnOf "_law_draw" "_law_draw" (defArgs s_law_draw) (defBody s_law_draw) (defScope s_law_draw) .none kV18 dc18 pm18 an18 cd18 ct18), sl18⟩)
    (c18 : PySem.W.codeIn K cd18 "_law_draw" = true)
    (k18 : PySem.W.keepIn K (.ref f18) = true)
    {f19 : Addr}
    {oc19 kV19 dc19 pm19 cd19 ct19 : Value} {od19 an19 : Option Addr} {sl19 : Array (Option Value)}
    (a19 : PySem.W.nsIn K mainGlobals "_law_of" = some (some (.ref f19)))
    (l19 : K.lookup f19 = some ⟨oc19, od19, .func (PySem.W.fnOf "_law_of" "_law_of" (defArgs s_law_of) (defBody s_law_of) (defScope s_law_of) .none kV19 dc19 pm19 an19 cd19 ct19), sl19⟩)
    (c19 : PySem.W.codeIn K cd19 "_law_of" = true)
    (k19 : PySem.W.keepIn K (.ref f19) = true)
    {f20 : Addr}
    {oc20 kV20 dc20 pm20 cd20 ct20 : Value} {od20 an20 : Option Addr} {sl20 : Array (Option Value)}
    (a20 : PySem.W.nsIn K mainGlobals "_law_w" = some (some (.ref f20)))
    (l20 : K.lookup f20 = some ⟨oc20, od20, .func (PySem.W.fnOf "_law_w" "_law_w" (defArgs s_law_w) (defBody s_law_w) (defScope s_law_w) .none kV20 dc20 pm20 an20 cd20 ct20), sl20⟩)
    (c20 : PySem.W.codeIn K cd20 "_law_w" = true)
    (k20 : PySem.W.keepIn K (.ref f20) = true)
    {f21 : Addr}
    {oc21 kV21 dc21 pm21 cd21 ct21 : Value} {od21 an21 : Option Addr} {sl21 : Array (Option Value)}
    (a21 : PySem.W.nsIn K mainGlobals "_law_is_list" = some (some (.ref f21)))
    (l21 : K.lookup f21 = some ⟨oc21, od21, .func (PySem.W.fnOf "_law_is_list" "_law_is_list" (defArgs s_law_is_list) (defBody s_law_is_list) (defScope s_law_is_list) .none kV21 dc21 pm21 an21 cd21 ct21), sl21⟩)
    (c21 : PySem.W.codeIn K cd21 "_law_is_list" = true)
    (k21 : PySem.W.keepIn K (.ref f21) = true)
    {f22 : Addr}
    {oc22 kV22 dc22 pm22 cd22 ct22 : Value} {od22 an22 : Option Addr} {sl22 : Array (Option Value)}
    (a22 : PySem.W.nsIn K mainGlobals "_law_is_word" = some (some (.ref f22)))
    (l22 : K.lookup f22 = some ⟨oc22, od22, .func (PySem.W.fnOf "_law_is_word" "_law_is_word" (defArgs s_law_is_word) (defBody s_law_is_word) (defScope s_law_is_word) .none kV22 dc22 pm22 an22 cd22 ct22), sl22⟩)
    (c22 : PySem.W.codeIn K cd22 "_law_is_word" = true)
    (k22 : PySem.W.keepIn K (.ref f22) = true)
    {f23 : Addr}
    {oc23 kV23 dc23 pm23 cd23 ct23 : Value} {od23 an23 : Option Addr} {sl23 : Array (Option Value)}
    (a23 : PySem.W.nsIn K mainGlobals "_law_is_mark" = some (some (.ref f23)))
    (l23 : K.lookup f23 = some ⟨oc23, od23, .func (PySem.W.fnOf "_law_is_mark" "_law_is_mark" (defArgs s_law_is_mark) (defBody s_law_is_mark) (defScope s_law_is_mark) .none kV23 dc23 pm23 an23 cd23 ct23), sl23⟩)
    (c23 : PySem.W.codeIn K cd23 "_law_is_mark" = true)
    (k23 : PySem.W.keepIn K (.ref f23) = true)
    {f24 : Addr}
    {oc24 kV24 dc24 pm24 cd24 ct24 : Value} {od24 an24 : Option Addr} {sl24 : Array (Option Value)}
    (a24 : PySem.W.nsIn K mainGlobals "_law_words_in" = some (some (.ref f24)))
    (l24 : K.lookup f24 = some ⟨oc24, od24, .func (PySem.W.fnOf "_law_words_in" "_law_words_in" (defArgs s_law_words_in) (defBody s_law_words_in) (defScope s_law_words_in) .none kV24 dc24 pm24 an24 cd24 ct24), sl24⟩)
    (c24 : PySem.W.codeIn K cd24 "_law_words_in" = true)
    (k24 : PySem.W.keepIn K (.ref f24) = true)
    {f25 : Addr}
    {oc25 kV25 dc25 pm25 cd25 ct25 : Value} {od25 an25 : Option Addr} {sl25 : Array (Option Value)}
    (a25 : PySem.W.nsIn K mainGlobals "_law_p_fault" = some (some (.ref f25)))
    (l25 : K.lookup f25 = some ⟨oc25, od25, .func (PySem.W.fnOf "_law_p_fault" "_law_p_fault" (defArgs s_law_p_fault) (defBody s_law_p_fault) (defScope s_law_p_fault) .none kV25 dc25 pm25 an25 cd25 ct25), sl25⟩)
    (c25 : PySem.W.codeIn K cd25 "_law_p_fault" = true)
    (k25 : PySem.W.keepIn K (.ref f25) = true)
    {f26 : Addr}
    {oc26 kV26 dc26 pm26 cd26 ct26 : Value} {od26 an26 : Option Addr} {sl26 : Array (Option Value)}
    (a26 : PySem.W.nsIn K mainGlobals "_law_p_items" = some (some (.ref f26)))
    (l26 : K.lookup f26 = some ⟨oc26, od26, .func (PySem.W.fnOf "_law_p_items" "_law_p_items" (defArgs s_law_p_items) (defBody s_law_p_items) (defScope s_law_p_items) .none kV26 dc26 pm26 an26 cd26 ct26), sl26⟩)
    (c26 : PySem.W.codeIn K cd26 "_law_p_items" = true)
    (k26 : PySem.W.keepIn K (.ref f26) = true)
    {f27 : Addr}
    {oc27 kV27 dc27 pm27 cd27 ct27 : Value} {od27 an27 : Option Addr} {sl27 : Array (Option Value)}
    (a27 : PySem.W.nsIn K mainGlobals "_law_t_fault" = some (some (.ref f27)))
    (l27 : K.lookup f27 = some ⟨oc27, od27, .func (PySem.W.fnOf "_law_t_fault" "_law_t_fault" (defArgs s_law_t_fault) (defBody s_law_t_fault) (defScope s_law_t_fault) .none kV27 dc27 pm27 an27 cd27 ct27), sl27⟩)
    (c27 : PySem.W.codeIn K cd27 "_law_t_fault" = true)
    (k27 : PySem.W.keepIn K (.ref f27) = true)
    {f28 : Addr}
    {oc28 kV28 dc28 pm28 cd28 ct28 : Value} {od28 an28 : Option Addr} {sl28 : Array (Option Value)}
    (a28 : PySem.W.nsIn K mainGlobals "_law_pattern" = some (some (.ref f28)))
    (l28 : K.lookup f28 = some ⟨oc28, od28, .func (PySem.W.fnOf "_law_pattern" "_law_pattern" (defArgs s_law_pattern) (defBody s_law_pattern) (defScope s_law_pattern) .none kV28 dc28 pm28 an28 cd28 ct28), sl28⟩)
    (c28 : PySem.W.codeIn K cd28 "_law_pattern" = true)
    (k28 : PySem.W.keepIn K (.ref f28) = true)
    {f29 : Addr}
    {oc29 kV29 dc29 pm29 cd29 ct29 : Value} {od29 an29 : Option Addr} {sl29 : Array (Option Value)}
    (a29 : PySem.W.nsIn K mainGlobals "_law_template" = some (some (.ref f29)))
    (l29 : K.lookup f29 = some ⟨oc29, od29, .func (PySem.W.fnOf "_law_template" "_law_template" (defArgs s_law_template) (defBody s_law_template) (defScope s_law_template) .none kV29 dc29 pm29 an29 cd29 ct29), sl29⟩)
    (c29 : PySem.W.codeIn K cd29 "_law_template" = true)
    (k29 : PySem.W.keepIn K (.ref f29) = true)
    {f30 : Addr}
    {oc30 kV30 dc30 pm30 cd30 ct30 : Value} {od30 an30 : Option Addr} {sl30 : Array (Option Value)}
    (a30 : PySem.W.nsIn K mainGlobals "_law_bent" = some (some (.ref f30)))
    (l30 : K.lookup f30 = some ⟨oc30, od30, .func (PySem.W.fnOf "_law_bent" "_law_bent" (defArgs s_law_bent) (defBody s_law_bent) (defScope s_law_bent) .none kV30 dc30 pm30 an30 cd30 ct30), sl30⟩)
    (c30 : PySem.W.codeIn K cd30 "_law_bent" = true)
    (k30 : PySem.W.keepIn K (.ref f30) = true)
    {f31 : Addr}
    {oc31 kV31 dc31 pm31 cd31 ct31 : Value} {od31 an31 : Option Addr} {sl31 : Array (Option Value)}
    (a31 : PySem.W.nsIn K mainGlobals "_law_turn_right" = some (some (.ref f31)))
    (l31 : K.lookup f31 = some ⟨oc31, od31, .func (PySem.W.fnOf "_law_turn_right" "_law_turn_right" (defArgs s_law_turn_right) (defBody s_law_turn_right) (defScope s_law_turn_right) .none kV31 dc31 pm31 an31 cd31 ct31), sl31⟩)
    (c31 : PySem.W.codeIn K cd31 "_law_turn_right" = true)
    (k31 : PySem.W.keepIn K (.ref f31) = true)
    {f32 : Addr}
    {oc32 kV32 dc32 pm32 cd32 ct32 : Value} {od32 an32 : Option Addr} {sl32 : Array (Option Value)}
    (a32 : PySem.W.nsIn K mainGlobals "_law_hand_right" = some (some (.ref f32)))
    (l32 : K.lookup f32 = some ⟨oc32, od32, .func (PySem.W.fnOf "_law_hand_right" "_law_hand_right" (defArgs s_law_hand_right) (defBody s_law_hand_right) (defScope s_law_hand_right) .none kV32 dc32 pm32 an32 cd32 ct32), sl32⟩)
    (c32 : PySem.W.codeIn K cd32 "_law_hand_right" = true)
    (k32 : PySem.W.keepIn K (.ref f32) = true)
    {f33 : Addr}
    {oc33 kV33 dc33 pm33 cd33 ct33 : Value} {od33 an33 : Option Addr} {sl33 : Array (Option Value)}
    (a33 : PySem.W.nsIn K mainGlobals "law" = some (some (.ref f33)))
    (l33 : K.lookup f33 = some ⟨oc33, od33, .func (PySem.W.fnOf "law" "law" (defArgs s_law) (defBody s_law) (defScope s_law) .none kV33 dc33 pm33 an33 cd33 ct33), sl33⟩)
    (c33 : PySem.W.codeIn K cd33 "law" = true)
    (k33 : PySem.W.keepIn K (.ref f33) = true)
    {cW cF cB cR cP cT : Addr}
    {tkU tkR tkA : Tok}
    (gU : PySem.W.nsIn K mainGlobals "UNKNOWN" = some (some (.int 1000000000 tkU)))
    (gR : PySem.W.nsIn K mainGlobals "REPEAT" = some (some (.str "&" tkR)))
    (gA : PySem.W.nsIn K mainGlobals "ANYTHING" = some (some (.str "_" tkA)))
    (hn : PySem.W.specialIn K (.builtin "object.__class__") "__get__" = some (some (.builtin "getset_descriptor.__get__")))
    (htk : PySem.W.takesIn K (.builtin "object.__class__") = some true)
    (gcW : PySem.W.nsIn K mainGlobals "Word" = some (some (.ref cW)))
    (pgcW : PySem.W.plainGet K cW Str.empty = true)
    (hdcW : PySem.W.hasDictIn K cW = true)
    (pocW : PySem.W.plainOver K cW = true)
    (sacW : PySem.W.findIn K (.ref cW) "__setattr__" = some (some (.builtin "object.__setattr__")))
    (hacW : PySem.W.findIn K (.ref cW) "__class__" = some (some (.builtin "object.__class__")))
    (hmcW : PySem.W.mroIn K cW (.type "object") = some true)
    (iccW : PySem.W.isClsIn K cW = true)
    (tycW : PySem.W.typeIn K (.ref cW) = some (.type "type"))
    (sscW : PySem.W.subIn K (.ref cW) (.ref cW) = some true)
    (mkcW : PySem.W.makesIn K cW = true)
    (kccW : PySem.W.keepIn K (.ref cW) = true)
    (nocW0 : PySem.W.findIn K (.ref cW) "key" = some none)
    (nocW1 : PySem.W.findIn K (.ref cW) "letters" = some none)
    (nocW2 : PySem.W.findIn K (.ref cW) "path" = some none)
    (nocW3 : PySem.W.findIn K (.ref cW) "spot" = some none)
    (nocW4 : PySem.W.findIn K (.ref cW) "is_row" = some none)
    {fcW_0 : Addr}
    {occW_0 kVcW_0 dccW_0 pmcW_0 cdcW_0 ctcW_0 : Value} {odcW_0 ancW_0 : Option Addr} {slcW_0 : Array (Option Value)}
    (acW_0 : PySem.W.findIn K (.ref cW) "__init__" = some (some (.ref fcW_0)))
    (icW_0 : PySem.W.isFn K (.ref fcW_0) = true)
    (lcW_0 : K.lookup fcW_0 = some ⟨occW_0, odcW_0, .func (PySem.W.fnOf "__init__" "Word.__init__" (defArgs s_Word) (defBody s_Word) (defScope s_Word) .none kVcW_0 dccW_0 pmcW_0 ancW_0 cdcW_0 ctcW_0), slcW_0⟩)
    (ccW_0 : PySem.W.codeIn K cdcW_0 "Word.__init__" = true)
    (kcW_0 : PySem.W.keepIn K (.ref fcW_0) = true)
    (gcF : PySem.W.nsIn K mainGlobals "Fixed" = some (some (.ref cF)))
    (pgcF : PySem.W.plainGet K cF Str.empty = true)
    (hdcF : PySem.W.hasDictIn K cF = true)
    (pocF : PySem.W.plainOver K cF = true)
    (sacF : PySem.W.findIn K (.ref cF) "__setattr__" = some (some (.builtin "object.__setattr__")))
    (hacF : PySem.W.findIn K (.ref cF) "__class__" = some (some (.builtin "object.__class__")))
    (hmcF : PySem.W.mroIn K cF (.type "object") = some true)
    (iccF : PySem.W.isClsIn K cF = true)
    (tycF : PySem.W.typeIn K (.ref cF) = some (.type "type"))
    (sscF : PySem.W.subIn K (.ref cF) (.ref cF) = some true)
    (mkcF : PySem.W.makesIn K cF = true)
    (kccF : PySem.W.keepIn K (.ref cF) = true)
    (nocF0 : PySem.W.findIn K (.ref cF) "value" = some none)
    (nocF1 : PySem.W.findIn K (.ref cF) "path" = some none)
    (nocF2 : PySem.W.findIn K (.ref cF) "is_row" = some none)
    {fcF_0 : Addr}
    {occF_0 kVcF_0 dccF_0 pmcF_0 cdcF_0 ctcF_0 : Value} {odcF_0 ancF_0 : Option Addr} {slcF_0 : Array (Option Value)}
    (acF_0 : PySem.W.findIn K (.ref cF) "__init__" = some (some (.ref fcF_0)))
    (icF_0 : PySem.W.isFn K (.ref fcF_0) = true)
    (lcF_0 : K.lookup fcF_0 = some ⟨occF_0, odcF_0, .func (PySem.W.fnOf "__init__" "Fixed.__init__" (defArgs s_Fixed) (defBody s_Fixed) (defScope s_Fixed) .none kVcF_0 dccF_0 pmcF_0 ancF_0 cdcF_0 ctcF_0), slcF_0⟩)
    (ccF_0 : PySem.W.codeIn K cdcF_0 "Fixed.__init__" = true)
    (kcF_0 : PySem.W.keepIn K (.ref fcF_0) = true)
    (gcB : PySem.W.nsIn K mainGlobals "Bound" = some (some (.ref cB)))
    (pgcB : PySem.W.plainGet K cB Str.empty = true)
    (hdcB : PySem.W.hasDictIn K cB = true)
    (pocB : PySem.W.plainOver K cB = true)
    (sacB : PySem.W.findIn K (.ref cB) "__setattr__" = some (some (.builtin "object.__setattr__")))
    (hacB : PySem.W.findIn K (.ref cB) "__class__" = some (some (.builtin "object.__class__")))
    (hmcB : PySem.W.mroIn K cB (.type "object") = some true)
    (iccB : PySem.W.isClsIn K cB = true)
    (tycB : PySem.W.typeIn K (.ref cB) = some (.type "type"))
    (sscB : PySem.W.subIn K (.ref cB) (.ref cB) = some true)
    (mkcB : PySem.W.makesIn K cB = true)
    (kccB : PySem.W.keepIn K (.ref cB) = true)
    (nocB0 : PySem.W.findIn K (.ref cB) "most" = some none)
    (nocB1 : PySem.W.findIn K (.ref cB) "deepest" = some none)
    {fcB_0 : Addr}
    {occB_0 kVcB_0 dccB_0 pmcB_0 cdcB_0 ctcB_0 : Value} {odcB_0 ancB_0 : Option Addr} {slcB_0 : Array (Option Value)}
    (acB_0 : PySem.W.findIn K (.ref cB) "__init__" = some (some (.ref fcB_0)))
    (icB_0 : PySem.W.isFn K (.ref fcB_0) = true)
    (lcB_0 : K.lookup fcB_0 = some ⟨occB_0, odcB_0, .func (PySem.W.fnOf "__init__" "Bound.__init__" (defArgs s_Bound) (defBody s_Bound) (defScope s_Bound) .none kVcB_0 dccB_0 pmcB_0 ancB_0 cdcB_0 ctcB_0), slcB_0⟩)
    (ccB_0 : PySem.W.codeIn K cdcB_0 "Bound.__init__" = true)
    (kcB_0 : PySem.W.keepIn K (.ref fcB_0) = true)
    (gcR : PySem.W.nsIn K mainGlobals "Row" = some (some (.ref cR)))
    (pgcR : PySem.W.plainGet K cR Str.empty = true)
    (hdcR : PySem.W.hasDictIn K cR = true)
    (pocR : PySem.W.plainOver K cR = true)
    (sacR : PySem.W.findIn K (.ref cR) "__setattr__" = some (some (.builtin "object.__setattr__")))
    (hacR : PySem.W.findIn K (.ref cR) "__class__" = some (some (.builtin "object.__class__")))
    (hmcR : PySem.W.mroIn K cR (.type "object") = some true)
    (iccR : PySem.W.isClsIn K cR = true)
    (tycR : PySem.W.typeIn K (.ref cR) = some (.type "type"))
    (sscR : PySem.W.subIn K (.ref cR) (.ref cR) = some true)
    (mkcR : PySem.W.makesIn K cR = true)
    (kccR : PySem.W.keepIn K (.ref cR) = true)
    (nocR0 : PySem.W.findIn K (.ref cR) "parts" = some none)
    (nocR1 : PySem.W.findIn K (.ref cR) "tail" = some none)
    (nocR2 : PySem.W.findIn K (.ref cR) "path" = some none)
    (nocR3 : PySem.W.findIn K (.ref cR) "bound" = some none)
    (nocR4 : PySem.W.findIn K (.ref cR) "is_row" = some none)
    (nocR5 : PySem.W.findIn K (.ref cR) "is_measured" = some none)
    (nocR6 : PySem.W.findIn K (.ref cR) "pattern_parts" = some none)
    (nocR7 : PySem.W.findIn K (.ref cR) "template_parts" = some none)
    {fcR_0 : Addr}
    {occR_0 kVcR_0 dccR_0 pmcR_0 cdcR_0 ctcR_0 : Value} {odcR_0 ancR_0 : Option Addr} {slcR_0 : Array (Option Value)}
    (acR_0 : PySem.W.findIn K (.ref cR) "__init__" = some (some (.ref fcR_0)))
    (icR_0 : PySem.W.isFn K (.ref fcR_0) = true)
    (lcR_0 : K.lookup fcR_0 = some ⟨occR_0, odcR_0, .func (PySem.W.fnOf "__init__" "Row.__init__" (defArgs s_Row) (defBody s_Row) (defScope s_Row) .none kVcR_0 dccR_0 pmcR_0 ancR_0 cdcR_0 ctcR_0), slcR_0⟩)
    (ccR_0 : PySem.W.codeIn K cdcR_0 "Row.__init__" = true)
    (kcR_0 : PySem.W.keepIn K (.ref fcR_0) = true)
    (gcP : PySem.W.nsIn K mainGlobals "PatternCheck" = some (some (.ref cP)))
    (pgcP : PySem.W.plainGet K cP Str.empty = true)
    (hdcP : PySem.W.hasDictIn K cP = true)
    (pocP : PySem.W.plainOver K cP = true)
    (sacP : PySem.W.findIn K (.ref cP) "__setattr__" = some (some (.builtin "object.__setattr__")))
    (hacP : PySem.W.findIn K (.ref cP) "__class__" = some (some (.builtin "object.__class__")))
    (hmcP : PySem.W.mroIn K cP (.type "object") = some true)
    (iccP : PySem.W.isClsIn K cP = true)
    (tycP : PySem.W.typeIn K (.ref cP) = some (.type "type"))
    (sscP : PySem.W.subIn K (.ref cP) (.ref cP) = some true)
    (mkcP : PySem.W.makesIn K cP = true)
    (kccP : PySem.W.keepIn K (.ref cP) = true)
    (nocP0 : PySem.W.findIn K (.ref cP) "literals" = some none)
    (nocP1 : PySem.W.findIn K (.ref cP) "names" = some none)
    {fcP_0 : Addr}
    {occP_0 kVcP_0 dccP_0 pmcP_0 cdcP_0 ctcP_0 : Value} {odcP_0 ancP_0 : Option Addr} {slcP_0 : Array (Option Value)}
    (acP_0 : PySem.W.findIn K (.ref cP) "__init__" = some (some (.ref fcP_0)))
    (icP_0 : PySem.W.isFn K (.ref fcP_0) = true)
    (lcP_0 : K.lookup fcP_0 = some ⟨occP_0, odcP_0, .func (PySem.W.fnOf "__init__" "PatternCheck.__init__" (defArgs s_PatternCheck) (defBody s_PatternCheck) (defScope s_PatternCheck) .none kVcP_0 dccP_0 pmcP_0 ancP_0 cdcP_0 ctcP_0), slcP_0⟩)
    (ccP_0 : PySem.W.codeIn K cdcP_0 "PatternCheck.__init__" = true)
    (kcP_0 : PySem.W.keepIn K (.ref fcP_0) = true)
    {fcP_1 : Addr}
    {occP_1 kVcP_1 dccP_1 pmcP_1 cdcP_1 ctcP_1 : Value} {odcP_1 ancP_1 : Option Addr} {slcP_1 : Array (Option Value)}
    (acP_1 : PySem.W.findIn K (.ref cP) "wrong_word" = some (some (.ref fcP_1)))
    (icP_1 : PySem.W.isFn K (.ref fcP_1) = true)
    (lcP_1 : K.lookup fcP_1 = some ⟨occP_1, odcP_1, .func (PySem.W.fnOf "wrong_word" "PatternCheck.wrong_word" (defArgs s_PatternCheck_wrong_word) (defBody s_PatternCheck_wrong_word) (defScope s_PatternCheck_wrong_word) .none kVcP_1 dccP_1 pmcP_1 ancP_1 cdcP_1 ctcP_1), slcP_1⟩)
    (ccP_1 : PySem.W.codeIn K cdcP_1 "PatternCheck.wrong_word" = true)
    (kcP_1 : PySem.W.keepIn K (.ref fcP_1) = true)
    {fcP_2 : Addr}
    {occP_2 kVcP_2 dccP_2 pmcP_2 cdcP_2 ctcP_2 : Value} {odcP_2 ancP_2 : Option Addr} {slcP_2 : Array (Option Value)}
    (acP_2 : PySem.W.findIn K (.ref cP) "wrong" = some (some (.ref fcP_2)))
    (icP_2 : PySem.W.isFn K (.ref fcP_2) = true)
    (lcP_2 : K.lookup fcP_2 = some ⟨occP_2, odcP_2, .func (PySem.W.fnOf "wrong" "PatternCheck.wrong" (defArgs s_PatternCheck_wrong) (defBody s_PatternCheck_wrong) (defScope s_PatternCheck_wrong) .none kVcP_2 dccP_2 pmcP_2 ancP_2 cdcP_2 ctcP_2), slcP_2⟩)
    (ccP_2 : PySem.W.codeIn K cdcP_2 "PatternCheck.wrong" = true)
    (kcP_2 : PySem.W.keepIn K (.ref fcP_2) = true)
    {fcP_3 : Addr}
    {occP_3 kVcP_3 dccP_3 pmcP_3 cdcP_3 ctcP_3 : Value} {odcP_3 ancP_3 : Option Addr} {slcP_3 : Array (Option Value)}
    (acP_3 : PySem.W.findIn K (.ref cP) "wrong_in" = some (some (.ref fcP_3)))
    (icP_3 : PySem.W.isFn K (.ref fcP_3) = true)
    (lcP_3 : K.lookup fcP_3 = some ⟨occP_3, odcP_3, .func (PySem.W.fnOf "wrong_in" "PatternCheck.wrong_in" (defArgs s_PatternCheck_wrong_in) (defBody s_PatternCheck_wrong_in) (defScope s_PatternCheck_wrong_in) .none kVcP_3 dccP_3 pmcP_3 ancP_3 cdcP_3 ctcP_3), slcP_3⟩)
    (ccP_3 : PySem.W.codeIn K cdcP_3 "PatternCheck.wrong_in" = true)
    (kcP_3 : PySem.W.keepIn K (.ref fcP_3) = true)
    (gcT : PySem.W.nsIn K mainGlobals "TemplateCheck" = some (some (.ref cT)))
    (pgcT : PySem.W.plainGet K cT Str.empty = true)
    (hdcT : PySem.W.hasDictIn K cT = true)
    (pocT : PySem.W.plainOver K cT = true)
    (sacT : PySem.W.findIn K (.ref cT) "__setattr__" = some (some (.builtin "object.__setattr__")))
    (hacT : PySem.W.findIn K (.ref cT) "__class__" = some (some (.builtin "object.__class__")))
    (hmcT : PySem.W.mroIn K cT (.type "object") = some true)
    (iccT : PySem.W.isClsIn K cT = true)
    (tycT : PySem.W.typeIn K (.ref cT) = some (.type "type"))
    (sscT : PySem.W.subIn K (.ref cT) (.ref cT) = some true)
    (mkcT : PySem.W.makesIn K cT = true)
    (kccT : PySem.W.keepIn K (.ref cT) = true)
    (nocT0 : PySem.W.findIn K (.ref cT) "names" = some none)
    {fcT_0 : Addr}
    {occT_0 kVcT_0 dccT_0 pmcT_0 cdcT_0 ctcT_0 : Value} {odcT_0 ancT_0 : Option Addr} {slcT_0 : Array (Option Value)}
    (acT_0 : PySem.W.findIn K (.ref cT) "__init__" = some (some (.ref fcT_0)))
    (icT_0 : PySem.W.isFn K (.ref fcT_0) = true)
    (lcT_0 : K.lookup fcT_0 = some ⟨occT_0, odcT_0, .func (PySem.W.fnOf "__init__" "TemplateCheck.__init__" (defArgs s_TemplateCheck) (defBody s_TemplateCheck) (defScope s_TemplateCheck) .none kVcT_0 dccT_0 pmcT_0 ancT_0 cdcT_0 ctcT_0), slcT_0⟩)
    (ccT_0 : PySem.W.codeIn K cdcT_0 "TemplateCheck.__init__" = true)
    (kcT_0 : PySem.W.keepIn K (.ref fcT_0) = true)
    {fcT_1 : Addr}
    {occT_1 kVcT_1 dccT_1 pmcT_1 cdcT_1 ctcT_1 : Value} {odcT_1 ancT_1 : Option Addr} {slcT_1 : Array (Option Value)}
    (acT_1 : PySem.W.findIn K (.ref cT) "wrong_word" = some (some (.ref fcT_1)))
    (icT_1 : PySem.W.isFn K (.ref fcT_1) = true)
    (lcT_1 : K.lookup fcT_1 = some ⟨occT_1, odcT_1, .func (PySem.W.fnOf "wrong_word" "TemplateCheck.wrong_word" (defArgs s_TemplateCheck_wrong_word) (defBody s_TemplateCheck_wrong_word) (defScope s_TemplateCheck_wrong_word) .none kVcT_1 dccT_1 pmcT_1 ancT_1 cdcT_1 ctcT_1), slcT_1⟩)
    (ccT_1 : PySem.W.codeIn K cdcT_1 "TemplateCheck.wrong_word" = true)
    (kcT_1 : PySem.W.keepIn K (.ref fcT_1) = true)
    {fcT_2 : Addr}
    {occT_2 kVcT_2 dccT_2 pmcT_2 cdcT_2 ctcT_2 : Value} {odcT_2 ancT_2 : Option Addr} {slcT_2 : Array (Option Value)}
    (acT_2 : PySem.W.findIn K (.ref cT) "wrong" = some (some (.ref fcT_2)))
    (icT_2 : PySem.W.isFn K (.ref fcT_2) = true)
    (lcT_2 : K.lookup fcT_2 = some ⟨occT_2, odcT_2, .func (PySem.W.fnOf "wrong" "TemplateCheck.wrong" (defArgs s_TemplateCheck_wrong) (defBody s_TemplateCheck_wrong) (defScope s_TemplateCheck_wrong) .none kVcT_2 dccT_2 pmcT_2 ancT_2 cdcT_2 ctcT_2), slcT_2⟩)
    (ccT_2 : PySem.W.codeIn K cdcT_2 "TemplateCheck.wrong" = true)
    (kcT_2 : PySem.W.keepIn K (.ref fcT_2) = true)
    {fcT_3 : Addr}
    {occT_3 kVcT_3 dccT_3 pmcT_3 cdcT_3 ctcT_3 : Value} {odcT_3 ancT_3 : Option Addr} {slcT_3 : Array (Option Value)}
    (acT_3 : PySem.W.findIn K (.ref cT) "wrong_item" = some (some (.ref fcT_3)))
    (icT_3 : PySem.W.isFn K (.ref fcT_3) = true)
    (lcT_3 : K.lookup fcT_3 = some ⟨occT_3, odcT_3, .func (PySem.W.fnOf "wrong_item" "TemplateCheck.wrong_item" (defArgs s_TemplateCheck_wrong_item) (defBody s_TemplateCheck_wrong_item) (defScope s_TemplateCheck_wrong_item) .none kVcT_3 dccT_3 pmcT_3 ancT_3 cdcT_3 ctcT_3), slcT_3⟩)
    (ccT_3 : PySem.W.codeIn K cdcT_3 "TemplateCheck.wrong_item" = true)
    (kcT_3 : PySem.W.keepIn K (.ref fcT_3) = true)
    (kkWF : PySem.W.subIn K (.ref cW) (.ref cF) = some false)
    (kkWR : PySem.W.subIn K (.ref cW) (.ref cR) = some false)
    (kkFW : PySem.W.subIn K (.ref cF) (.ref cW) = some false)
    (kkFR : PySem.W.subIn K (.ref cF) (.ref cR) = some false)
    (kkRW : PySem.W.subIn K (.ref cR) (.ref cW) = some false)
    (kkRF : PySem.W.subIn K (.ref cR) (.ref cF) = some false)
    (z0 : PySem.W.nsIn K mainGlobals "len" = some none)
    (z1 : PySem.W.nsIn K mainGlobals "int" = some none)
    (z2 : PySem.W.nsIn K mainGlobals "repr" = some none)
    (z3 : PySem.W.nsIn K mainGlobals "tuple" = some none)
    (z4 : PySem.W.nsIn K mainGlobals "list" = some none)
    (z5 : PySem.W.nsIn K mainGlobals "range" = some none)
    (z6 : PySem.W.nsIn K mainGlobals "sorted" = some none)
    (z7 : PySem.W.nsIn K mainGlobals "enumerate" = some none)
    (z8 : PySem.W.nsIn K mainGlobals "any" = some none)
    (z9 : PySem.W.nsIn K mainGlobals "type" = some none)
    (z10 : PySem.W.nsIn K mainGlobals "dict" = some none)
    (z11 : PySem.W.nsIn K mainGlobals "str" = some none)
    (z12 : PySem.W.nsIn K mainGlobals "min" = some none)
    (z13 : PySem.W.nsIn K mainGlobals "isinstance" = some none) :
    ∃ fd : FuncData, (∀ (s : Shared) (u : Value), BindsTo s fd ⟨[u], []⟩ [("script", u)]) ∧ ∀ base : Heap, K.In base → base.Ns mainGlobals mg → FnG P w K mg base CX0 29 fa fd ["script"] (spLaw K) := by
  have e := hfa.symm.trans (PySem.W.mg_of X G a33)
  cases e
  have LcW : Cls K cW := ⟨pgcW, hdcW, pocW, sacW⟩
  have QcW : CF K cW nsW := ⟨⟨LcW, hacW, hn, htk, hmcW, kit_me⟩, (cf_cons nocW0 (cf_cons nocW1 (cf_cons nocW2 (cf_cons nocW3 (cf_cons nocW4 cf_nil)))))⟩
  have LcF : Cls K cF := ⟨pgcF, hdcF, pocF, sacF⟩
  have QcF : CF K cF nsF := ⟨⟨LcF, hacF, hn, htk, hmcF, kit_me⟩, (cf_cons nocF0 (cf_cons nocF1 (cf_cons nocF2 cf_nil)))⟩
  have LcB : Cls K cB := ⟨pgcB, hdcB, pocB, sacB⟩
  have QcB : CF K cB nsB := ⟨⟨LcB, hacB, hn, htk, hmcB, kit_me⟩, (cf_cons nocB0 (cf_cons nocB1 cf_nil))⟩
  have LcR : Cls K cR := ⟨pgcR, hdcR, pocR, sacR⟩
  have QcR : CF K cR nsR := ⟨⟨LcR, hacR, hn, htk, hmcR, kit_me⟩, (cf_cons nocR0 (cf_cons nocR1 (cf_cons nocR2 (cf_cons nocR3 (cf_cons nocR4 (cf_cons nocR5 (cf_cons nocR6 (cf_cons nocR7 cf_nil))))))))⟩
  have LcP : Cls K cP := ⟨pgcP, hdcP, pocP, sacP⟩
  have QcP : CF K cP nsP := ⟨⟨LcP, hacP, hn, htk, hmcP, kit_me⟩, (cf_cons nocP0 (cf_cons nocP1 cf_nil))⟩
  have LcT : Cls K cT := ⟨pgcT, hdcT, pocT, sacT⟩
  have QcT : CF K cT nsT := ⟨⟨LcT, hacT, hn, htk, hmcT, kit_me⟩, (cf_cons nocT0 cf_nil)⟩
  have T : Txt K mg ⟨cW, cF, cB, cR, cP, cT⟩ := ⟨PySem.W.mg_none_of X G z0, PySem.W.mg_none_of X G z1, PySem.W.mg_none_of X G z2, PySem.W.mg_none_of X G z3, PySem.W.mg_none_of X G z4, PySem.W.mg_none_of X G z5, PySem.W.mg_none_of X G z6, PySem.W.mg_none_of X G z7, PySem.W.mg_none_of X G z8, PySem.W.mg_none_of X G z9, PySem.W.mg_none_of X G z10, PySem.W.mg_none_of X G z11, PySem.W.mg_none_of X G z12, PySem.W.mg_none_of X G z13, ⟨_, PySem.W.mg_of X G gcW, rfl⟩, ⟨_, PySem.W.mg_of X G gcF, rfl⟩, ⟨_, PySem.W.mg_of X G gcR, rfl⟩, ⟨_, PySem.W.mg_of X G gU, ⟨_, rfl⟩⟩, ⟨_, PySem.W.mg_of X G gR, ⟨_, rfl⟩⟩, ⟨_, PySem.W.mg_of X G gA, ⟨_, rfl⟩⟩, QcW, QcF, QcB, QcR, QcP, QcT, kit_no kkWF sscF iccF tycF, kit_no kkWR sscR iccR tycR, kit_no kkFW sscW iccW tycW, kit_no kkFR sscR iccR tycR, kit_no kkRW sscW iccW tycW, kit_no kkRF sscF iccF tycF⟩
  refine ⟨PySem.W.fnOf "law" "law" (defArgs s_law) (defBody s_law) (defScope s_law) .none kV33 dc33 pm33 an33 cd33 ct33, fun s v => .of_eq rfl, fun base _ _ => ?_⟩
  have D_is_nothing : DefG K mg "is_nothing" s_is_nothing ["node"] := defG_mk X G a0 l0 c0 k0 fun _ _ _ _ _ _ us hl => match us, hl with | [_], _ => rfl
  have D_is_spelled : DefG K mg "is_spelled" s_is_spelled ["node", "letters"] := defG_mk X G a1 l1 c1 k1 fun _ _ _ _ _ _ us hl => match us, hl with | [_, _], _ => rfl
  have D_node_of : DefG K mg "node_of" s_node_of ["datum", "path"] := defG_mk X G a2 l2 c2 k2 fun _ _ _ _ _ _ us hl => match us, hl with | [_, _], _ => rfl
  have D_words_in : DefG K mg "words_in" s_words_in ["node"] := defG_mk X G a3 l3 c3 k3 fun _ _ _ _ _ _ us hl => match us, hl with | [_], _ => rfl
  have D_is_repeat : DefG K mg "is_repeat" s_is_repeat ["node"] := defG_mk X G a4 l4 c4 k4 fun _ _ _ _ _ _ us hl => match us, hl with | [_], _ => rfl
  have D_is_pattern_name : DefG K mg "is_pattern_name" s_is_pattern_name ["node", "literals"] := defG_mk X G a5 l5 c5 k5 fun _ _ _ _ _ _ us hl => match us, hl with | [_, _], _ => rfl
  have D_pattern_fault : DefG K mg "pattern_fault" s_pattern_fault ["literals", "pattern"] := defG_mk X G a6 l6 c6 k6 fun _ _ _ _ _ _ us hl => match us, hl with | [_, _], _ => rfl
  have D_items_from : DefG K mg "items_from" s_items_from ["row", "begin"] := defG_mk X G a7 l7 c7 k7 fun _ _ _ _ _ _ us hl => match us, hl with | [_, _], _ => rfl
  have D_names_in : DefG K mg "names_in" s_names_in ["literals", "node", "depth"] := defG_mk X G a8 l8 c8 k8 fun _ _ _ _ _ _ us hl => match us, hl with | [_, _, _], _ => rfl
  have D_names_from : DefG K mg "names_from" s_names_from ["literals", "row", "begin", "depth"] := defG_mk X G a9 l9 c9 k9 fun _ _ _ _ _ _ us hl => match us, hl with | [_, _, _, _], _ => rfl
  have D_is_as_it_is : DefG K mg "is_as_it_is" s_is_as_it_is ["node"] := defG_mk X G a10 l10 c10 k10 fun _ _ _ _ _ _ us hl => match us, hl with | [_], _ => rfl
  have D_has_name : DefG K mg "has_name" s_has_name ["node", "names"] := defG_mk X G a11 l11 c11 k11 fun _ _ _ _ _ _ us hl => match us, hl with | [_, _], _ => rfl
  have D_template_fault : DefG K mg "template_fault" s_template_fault ["names", "template"] := defG_mk X G a12 l12 c12 k12 fun _ _ _ _ _ _ us hl => match us, hl with | [_, _], _ => rfl
  have D_keys_of : DefG K mg "keys_of" s_keys_of ["literals"] := defG_mk X G a13 l13 c13 k13 fun _ _ _ _ _ _ us hl => match us, hl with | [_], _ => rfl
  have D_named : DefG K mg "named" s_named ["literals", "pattern"] := defG_mk X G a14 l14 c14 k14 fun _ _ _ _ _ _ us hl => match us, hl with | [_, _], _ => rfl
  have D_rule_fault : DefG K mg "rule_fault" s_rule_fault ["literals", "pattern", "template"] := defG_mk X G a15 l15 c15 k15 fun _ _ _ _ _ _ us hl => match us, hl with | [_, _, _], _ => rfl
  have D_pattern_names : DefG K mg "pattern_names" s_pattern_names ["literals", "pattern"] := defG_mk X G a16 l16 c16 k16 fun _ _ _ _ _ _ us hl => match us, hl with | [_, _], _ => rfl
  have D_law_begun : DefG K mg "_law_begun" s_law_begun ["script", "k"] := defG_mk X G a17 l17 c17 k17 fun _ _ _ _ _ _ us hl => match us, hl with | [_, _], _ => rfl
  have D_law_draw : DefG K mg "_law_draw" s_law_draw ["m", "below"] := defG_mk X G a18 l18 c18 k18 fun _ _ _ _ _ _ us hl => match us, hl with | [_, _], _ => rfl
  have D_law_of : DefG K mg "_law_of" s_law_of ["m", "some"] := defG_mk X G a19 l19 c19 k19 fun _ _ _ _ _ _ us hl => match us, hl with | [_, _], _ => rfl
  have D_law_w : DefG K mg "_law_w" s_law_w ["word"] := defG_mk X G a20 l20 c20 k20 fun _ _ _ _ _ _ us hl => match us, hl with | [_], _ => rfl
  have D_law_is_list : DefG K mg "_law_is_list" s_law_is_list ["datum"] := defG_mk X G a21 l21 c21 k21 fun _ _ _ _ _ _ us hl => match us, hl with | [_], _ => rfl
  have D_law_is_word : DefG K mg "_law_is_word" s_law_is_word ["datum"] := defG_mk X G a22 l22 c22 k22 fun _ _ _ _ _ _ us hl => match us, hl with | [_], _ => rfl
  have D_law_is_mark : DefG K mg "_law_is_mark" s_law_is_mark ["datum"] := defG_mk X G a23 l23 c23 k23 fun _ _ _ _ _ _ us hl => match us, hl with | [_], _ => rfl
  have D_law_words_in : DefG K mg "_law_words_in" s_law_words_in ["datum"] := defG_mk X G a24 l24 c24 k24 fun _ _ _ _ _ _ us hl => match us, hl with | [_], _ => rfl
  have D_law_p_fault : DefG K mg "_law_p_fault" s_law_p_fault ["datum", "path", "literals", "names", "depth"] := defG_mk X G a25 l25 c25 k25 fun _ _ _ _ _ _ us hl => match us, hl with | [_, _, _, _, _], _ => rfl
  have D_law_p_items : DefG K mg "_law_p_items" s_law_p_items ["datum", "begin", "path", "literals", "names", "depth"] := defG_mk X G a26 l26 c26 k26 fun _ _ _ _ _ _ us hl => match us, hl with | [_, _, _, _, _, _], _ => rfl
  have D_law_t_fault : DefG K mg "_law_t_fault" s_law_t_fault ["datum", "path", "names", "depth", "is_bare"] := defG_mk X G a27 l27 c27 k27 fun _ _ _ _ _ _ us hl => match us, hl with | [_, _, _, _, _], _ => rfl
  have D_law_pattern : DefG K mg "_law_pattern" s_law_pattern ["m", "size"] := defG_mk X G a28 l28 c28 k28 fun _ _ _ _ _ _ us hl => match us, hl with | [_, _], _ => rfl
  have D_law_template : DefG K mg "_law_template" s_law_template ["m", "names", "depth", "size"] := defG_mk X G a29 l29 c29 k29 fun _ _ _ _ _ _ us hl => match us, hl with | [_, _, _, _], _ => rfl
  have D_law_bent : DefG K mg "_law_bent" s_law_bent ["m", "datum", "some"] := defG_mk X G a30 l30 c30 k30 fun _ _ _ _ _ _ us hl => match us, hl with | [_, _, _], _ => rfl
  have D_law_turn_right : DefG K mg "_law_turn_right" s_law_turn_right ["m"] := defG_mk X G a31 l31 c31 k31 fun _ _ _ _ _ _ us hl => match us, hl with | [_], _ => rfl
  have D_law_hand_right : DefG K mg "_law_hand_right" s_law_hand_right [] := defG_mk X G a32 l32 c32 k32 fun _ _ _ _ _ _ us hl => match us, hl with | [], _ => rfl
  have D_Word : DefI K mg "Word" cW "Word.__init__" s_Word ["self", "key", "letters", "path", "spot"] := defI_mk X G gcW mkcW kccW acW_0 icW_0 lcW_0 ccW_0 kcW_0 fun _ _ _ _ _ _ us hl => match us, hl with | [_, _, _, _, _], _ => rfl
  have D_Fixed : DefI K mg "Fixed" cF "Fixed.__init__" s_Fixed ["self", "value", "path"] := defI_mk X G gcF mkcF kccF acF_0 icF_0 lcF_0 ccF_0 kcF_0 fun _ _ _ _ _ _ us hl => match us, hl with | [_, _, _], _ => rfl
  have D_Bound : DefI K mg "Bound" cB "Bound.__init__" s_Bound ["self", "most", "deepest"] := defI_mk X G gcB mkcB kccB acB_0 icB_0 lcB_0 ccB_0 kcB_0 fun _ _ _ _ _ _ us hl => match us, hl with | [_, _, _], _ => rfl
  have D_Row : DefI K mg "Row" cR "Row.__init__" s_Row ["self", "parts", "tail", "path", "bound"] := defI_mk X G gcR mkcR kccR acR_0 icR_0 lcR_0 ccR_0 kcR_0 fun _ _ _ _ _ _ us hl => match us, hl with | [_, _, _, _, _], _ => rfl
  have D_PatternCheck : DefI K mg "PatternCheck" cP "PatternCheck.__init__" s_PatternCheck ["self", "literals"] := defI_mk X G gcP mkcP kccP acP_0 icP_0 lcP_0 ccP_0 kcP_0 fun _ _ _ _ _ _ us hl => match us, hl with | [_, _], _ => rfl
  have D_PatternCheck_wrong_word : DefM K cP "wrong_word" "PatternCheck.wrong_word" s_PatternCheck_wrong_word ["self", "node"] := defM_mk LcP acP_1 icP_1 lcP_1 ccP_1 kcP_1 fun _ _ _ _ _ _ us hl => match us, hl with | [_, _], _ => rfl
  have D_PatternCheck_wrong : DefM K cP "wrong" "PatternCheck.wrong" s_PatternCheck_wrong ["self", "node"] := defM_mk LcP acP_2 icP_2 lcP_2 ccP_2 kcP_2 fun _ _ _ _ _ _ us hl => match us, hl with | [_, _], _ => rfl
  have D_PatternCheck_wrong_in : DefM K cP "wrong_in" "PatternCheck.wrong_in" s_PatternCheck_wrong_in ["self", "row", "begin"] := defM_mk LcP acP_3 icP_3 lcP_3 ccP_3 kcP_3 fun _ _ _ _ _ _ us hl => match us, hl with | [_, _, _], _ => rfl
  have D_TemplateCheck : DefI K mg "TemplateCheck" cT "TemplateCheck.__init__" s_TemplateCheck ["self", "names"] := defI_mk X G gcT mkcT kccT acT_0 icT_0 lcT_0 ccT_0 kcT_0 fun _ _ _ _ _ _ us hl => match us, hl with | [_, _], _ => rfl
  have D_TemplateCheck_wrong_word : DefM K cT "wrong_word" "TemplateCheck.wrong_word" s_TemplateCheck_wrong_word ["self", "word", "depth", "as_it_is"] := defM_mk LcT acT_1 icT_1 lcT_1 ccT_1 kcT_1 fun _ _ _ _ _ _ us hl => match us, hl with | [_, _, _, _], _ => rfl
  have D_TemplateCheck_wrong : DefM K cT "wrong" "TemplateCheck.wrong" s_TemplateCheck_wrong ["self", "node", "depth", "as_it_is"] := defM_mk LcT acT_2 icT_2 lcT_2 ccT_2 kcT_2 fun _ _ _ _ _ _ us hl => match us, hl with | [_, _, _, _], _ => rfl
  have D_TemplateCheck_wrong_item : DefM K cT "wrong_item" "TemplateCheck.wrong_item" s_TemplateCheck_wrong_item ["self", "row", "k", "depth", "as_it_is"] := defM_mk LcT acT_3 icT_3 lcT_3 ccT_3 kcT_3 fun _ _ _ _ _ _ us hl => match us, hl with | [_, _, _, _, _], _ => rfl
  have C_Word := c_Word (P := P) (w := w) (base := base) T D_Word
  have C_Fixed := c_Fixed (P := P) (w := w) (base := base) T D_Fixed
  have C_Bound := c_Bound (P := P) (w := w) (base := base) T D_Bound
  have C_Row := c_Row (P := P) (w := w) (base := base) T D_Row
  have C_is_nothing := c_is_nothing (P := P) (w := w) (base := base) T D_is_nothing
  have C_is_spelled := c_is_spelled (P := P) (w := w) (base := base) T D_is_spelled
  have C_is_repeat := c_is_repeat (P := P) (w := w) (base := base) T D_is_repeat C_is_spelled
  have C_is_pattern_name := c_is_pattern_name (P := P) (w := w) (base := base) T D_is_pattern_name
  have C_node_of := c_node_of (P := P) (w := w) (base := base) T D_node_of C_Word C_Fixed C_Bound C_Row
  have C_words_in := c_words_in (P := P) (w := w) (base := base) T D_words_in
  have C_keys_of := c_keys_of (P := P) (w := w) (base := base) T D_keys_of
  have C_has_name := c_has_name (P := P) (w := w) (base := base) T D_has_name C_words_in
  have C_is_as_it_is := c_is_as_it_is (P := P) (w := w) (base := base) T D_is_as_it_is C_is_nothing C_is_repeat
  have C_items_from := c_items_from (P := P) (w := w) (base := base) T D_items_from C_is_repeat
  have C_names_in := c_names_in (P := P) (w := w) (base := base) T D_names_in C_is_pattern_name D_names_from C_items_from
  have C_names_from := c_names_from (P := P) (w := w) (base := base) (n := 10) T D_names_from C_items_from (C_names_in 10)
  have C_PatternCheck_wrong_word := c_PatternCheck_wrong_word (P := P) (w := w) (base := base) T D_PatternCheck_wrong_word C_is_repeat C_is_pattern_name
  have C_PatternCheck_wrong := c_PatternCheck_wrong (P := P) (w := w) (base := base) T D_PatternCheck_wrong C_PatternCheck_wrong_word D_PatternCheck_wrong_in C_is_repeat
  have C_PatternCheck_wrong_in := c_PatternCheck_wrong_in (P := P) (w := w) (base := base) (n := 10) T D_PatternCheck_wrong_in C_is_repeat (C_PatternCheck_wrong 10)
  have C_PatternCheck := c_PatternCheck (P := P) (w := w) (base := base) T D_PatternCheck
  have C_pattern_fault := c_pattern_fault (P := P) (w := w) (base := base) (n := 10) T D_pattern_fault C_PatternCheck C_PatternCheck_wrong_in
  have C_TemplateCheck_wrong_word := c_TemplateCheck_wrong_word (P := P) (w := w) (base := base) T D_TemplateCheck_wrong_word C_is_repeat
  have C_TemplateCheck_wrong := c_TemplateCheck_wrong (P := P) (w := w) (base := base) T D_TemplateCheck_wrong C_is_as_it_is C_TemplateCheck_wrong_word D_TemplateCheck_wrong_item C_is_repeat C_has_name
  have C_TemplateCheck := c_TemplateCheck (P := P) (w := w) (base := base) T D_TemplateCheck
  have C_template_fault := c_template_fault (P := P) (w := w) (base := base) (n := 10) T D_template_fault C_TemplateCheck (C_TemplateCheck_wrong 10)
  have C_named := c_named (P := P) (w := w) (base := base) (n := 10) T D_named C_names_from C_keys_of
  have C_rule_fault := c_rule_fault (P := P) (w := w) (base := base) (n := 10) T D_rule_fault (C_node_of 10) C_pattern_fault C_template_fault C_keys_of C_named
  have C_pattern_names := c_pattern_names (P := P) (w := w) (base := base) (n := 10) T D_pattern_names (C_node_of 10) C_named
  have C_law_w := c_law_w (P := P) (w := w) (base := base) T D_law_w
  have C_law_is_list := c_law_is_list (P := P) (w := w) (base := base) T D_law_is_list
  have C_law_is_word := c_law_is_word (P := P) (w := w) (base := base) T D_law_is_word
  have C_law_is_mark := c_law_is_mark (P := P) (w := w) (base := base) T D_law_is_mark
  have C_law_words_in := c_law_words_in (P := P) (w := w) (base := base) T D_law_words_in C_law_is_list C_law_is_word
  have C_law_p_fault := c_law_p_fault (P := P) (w := w) (base := base) T D_law_p_fault C_law_is_list C_law_is_word D_law_p_items C_law_is_mark
  have C_law_p_items := c_law_p_items (P := P) (w := w) (base := base) (n := 10) T D_law_p_items C_law_is_mark (C_law_p_fault 10)
  have C_law_drawX := c_law_draw (P := P) (w := w) (base := base) T D_law_draw
  have C_law_draw := c_law_drawN (P := P) (w := w) (base := base) T D_law_draw
  have C_law_of := c_law_ofN (P := P) (w := w) (base := base) T D_law_of C_law_drawX
  have C_law_t_fault := c_law_t_fault (P := P) (w := w) (base := base) T D_law_t_fault C_law_is_list C_law_is_word C_law_is_mark C_law_words_in
  have C_law_pattern := c_law_pattern (P := P) (w := w) (base := base) T D_law_pattern C_law_draw C_law_of C_law_w
  have C_law_template := c_law_template (P := P) (w := w) (base := base) T D_law_template C_law_draw C_law_of C_law_w
  have C_law_bent := c_law_bent (P := P) (w := w) (base := base) T D_law_bent C_law_draw C_law_of C_law_w C_law_is_list
  have C_law_turn_right := c_law_turn_right (P := P) (w := w) (base := base) T D_law_turn_right C_rule_fault C_pattern_names C_law_draw C_law_w C_law_is_list C_law_p_items (C_law_t_fault 10) (C_law_pattern 4) (C_law_template 5) (C_law_bent 10)
  have C_law_hand_right := c_law_hand_right (P := P) (w := w) (base := base) T D_law_hand_right C_law_w C_rule_fault
  have C_law_begun := c_law_begun (P := P) (w := w) (base := base) T D_law_begun
  exact g_law T (fun_mk (st := s_law) l33 c33 k33) C_law_hand_right C_law_begun (C_law_turn_right.weak fun vs H Q E h => spTurn_W h)
end
end
end K96
open PySem PySem.W PyProof.Rows
set_option maxRecDepth 100000 in
set_option maxHeartbeats 0 in
theorem PySem.Challenge.cw_keptrest_k96_whole_rule_faults_holds : PySem.Challenge.rw_keptrest_k96_whole_rule_faults.Holds := by
  w_on; o_law; k_head; (case hw => w_witness2)
  k_fill
  refine Kt.walk_ofG (l := PySem.Challenge.rw_keptrest_k96_whole_rule_faults) (n := 63) (k := 29) (x := "script") (sp := K96.spLaw) rfl (by decide) rfl ⟨rfl, by decide, by decide⟩ (fun w h Y => PySem.W.kIn_of Y) ?F (fun K H a ns hl hS => ⟨a, ns, rfl, hS, hl, fun _ => rfl⟩)
  case F =>
    intro w mg fa h KX G hmg
    refine' K96.all_mk KX G hmg ?a0 ?l0 ?c0 ?k0 ?a1 ?l1 ?c1 ?k1 ?a2 ?l2 ?c2 ?k2 ?a3 ?l3 ?c3 ?k3 ?a4 ?l4 ?c4 ?k4 ?a5 ?l5 ?c5 ?k5 ?a6 ?l6 ?c6 ?k6 ?a7 ?l7 ?c7 ?k7 ?a8 ?l8 ?c8 ?k8 ?a9 ?l9 ?c9 ?k9 ?a10 ?l10 ?c10 ?k10 ?a11 ?l11 ?c11 ?k11 ?a12 ?l12 ?c12 ?k12 ?a13 ?l13 ?c13 ?k13 ?a14 ?l14 ?c14 ?k14 ?a15 ?l15 ?c15 ?k15 ?a16 ?l16 ?c16 ?k16 ?a17 ?l17 ?c17 ?k17 ?a18 ?l18 ?c18 ?k18 ?a19 ?l19 ?c19 ?k19 ?a20 ?l20 ?c20 ?k20 ?a21 ?l21 ?c21 ?k21 ?a22 ?l22 ?c22 ?k22 ?a23 ?l23 ?c23 ?k23 ?a24 ?l24 ?c24 ?k24 ?a25 ?l25 ?c25 ?k25 ?a26 ?l26 ?c26 ?k26 ?a27 ?l27 ?c27 ?k27 ?a28 ?l28 ?c28 ?k28 ?a29 ?l29 ?c29 ?k29 ?a30 ?l30 ?c30 ?k30 ?a31 ?l31 ?c31 ?k31 ?a32 ?l32 ?c32 ?k32 ?a33 ?l33 ?c33 ?k33 ?gU ?gR ?gA ?hn ?htk ?gcW ?pgcW ?hdcW ?pocW ?sacW ?hacW ?hmcW ?iccW ?tycW ?sscW ?mkcW ?kccW ?nocW0 ?nocW1 ?nocW2 ?nocW3 ?nocW4 ?acW_0 ?icW_0 ?lcW_0 ?ccW_0 ?kcW_0 ?gcF ?pgcF ?hdcF ?pocF ?sacF ?hacF ?hmcF ?iccF ?tycF ?sscF ?mkcF ?kccF ?nocF0 ?nocF1 ?nocF2 ?acF_0 ?icF_0 ?lcF_0 ?ccF_0 ?kcF_0 ?gcB ?pgcB ?hdcB ?pocB ?sacB ?hacB ?hmcB ?iccB ?tycB ?sscB ?mkcB ?kccB ?nocB0 ?nocB1 ?acB_0 ?icB_0 ?lcB_0 ?ccB_0 ?kcB_0 ?gcR ?pgcR ?hdcR ?pocR ?sacR ?hacR ?hmcR ?iccR ?tycR ?sscR ?mkcR ?kccR ?nocR0 ?nocR1 ?nocR2 ?nocR3 ?nocR4 ?nocR5 ?nocR6 ?nocR7 ?acR_0 ?icR_0 ?lcR_0 ?ccR_0 ?kcR_0 ?gcP ?pgcP ?hdcP ?pocP ?sacP ?hacP ?hmcP ?iccP ?tycP ?sscP ?mkcP ?kccP ?nocP0 ?nocP1 ?acP_0 ?icP_0 ?lcP_0 ?ccP_0 ?kcP_0 ?acP_1 ?icP_1 ?lcP_1 ?ccP_1 ?kcP_1 ?acP_2 ?icP_2 ?lcP_2 ?ccP_2 ?kcP_2 ?acP_3 ?icP_3 ?lcP_3 ?ccP_3 ?kcP_3 ?gcT ?pgcT ?hdcT ?pocT ?sacT ?hacT ?hmcT ?iccT ?tycT ?sscT ?mkcT ?kccT ?nocT0 ?acT_0 ?icT_0 ?lcT_0 ?ccT_0 ?kcT_0 ?acT_1 ?icT_1 ?lcT_1 ?ccT_1 ?kcT_1 ?acT_2 ?icT_2 ?lcT_2 ?ccT_2 ?kcT_2 ?acT_3 ?icT_3 ?lcT_3 ?ccT_3 ?kcT_3 ?kkWF ?kkWR ?kkFW ?kkFR ?kkRW ?kkRF ?z0 ?z1 ?z2 ?z3 ?z4 ?z5 ?z6 ?z7 ?z8 ?z9 ?z10 ?z11 ?z12 ?z13
    (case a0 => k_is)
    (case l0 => k_is)
    (case c0 => k_is)
    (case k0 => k_is)
    (case a1 => k_is)
    (case l1 => k_is)
    (case c1 => k_is)
    (case k1 => k_is)
    (case a2 => k_is)
    (case l2 => k_is)
    (case c2 => k_is)
    (case k2 => k_is)
    (case a3 => k_is)
    (case l3 => k_is)
    (case c3 => k_is)
    (case k3 => k_is)
    (case a4 => k_is)
    (case l4 => k_is)
    (case c4 => k_is)
    (case k4 => k_is)
    (case a5 => k_is)
    (case l5 => k_is)
    (case c5 => k_is)
    (case k5 => k_is)
    (case a6 => k_is)
    (case l6 => k_is)
    (case c6 => k_is)
    (case k6 => k_is)
    (case a7 => k_is)
    (case l7 => k_is)
    (case c7 => k_is)
    (case k7 => k_is)
    (case a8 => k_is)
    (case l8 => k_is)
    (case c8 => k_is)
    (case k8 => k_is)
    (case a9 => k_is)
    (case l9 => k_is)
    (case c9 => k_is)
    (case k9 => k_is)
    (case a10 => k_is)
    (case l10 => k_is)
    (case c10 => k_is)
    (case k10 => k_is)
    (case a11 => k_is)
    (case l11 => k_is)
    (case c11 => k_is)
    (case k11 => k_is)
    (case a12 => k_is)
    (case l12 => k_is)
    (case c12 => k_is)
    (case k12 => k_is)
    (case a13 => k_is)
    (case l13 => k_is)
    (case c13 => k_is)
    (case k13 => k_is)
    (case a14 => k_is)
    (case l14 => k_is)
    (case c14 => k_is)
    (case k14 => k_is)
    (case a15 => k_is)
    (case l15 => k_is)
    (case c15 => k_is)
    (case k15 => k_is)
    (case a16 => k_is)
    (case l16 => k_is)
    (case c16 => k_is)
    (case k16 => k_is)
    (case a17 => k_is)
    (case l17 => k_is)
    (case c17 => k_is)
    (case k17 => k_is)
    (case a18 => k_is)
    (case l18 => k_is)
    (case c18 => k_is)
    (case k18 => k_is)
    (case a19 => k_is)
    (case l19 => k_is)
    (case c19 => k_is)
    (case k19 => k_is)
    (case a20 => k_is)
    (case l20 => k_is)
    (case c20 => k_is)
    (case k20 => k_is)
    (case a21 => k_is)
    (case l21 => k_is)
    (case c21 => k_is)
    (case k21 => k_is)
    (case a22 => k_is)
    (case l22 => k_is)
    (case c22 => k_is)
    (case k22 => k_is)
    (case a23 => k_is)
    (case l23 => k_is)
    (case c23 => k_is)
    (case k23 => k_is)
    (case a24 => k_is)
    (case l24 => k_is)
    (case c24 => k_is)
    (case k24 => k_is)
    (case a25 => k_is)
    (case l25 => k_is)
    (case c25 => k_is)
    (case k25 => k_is)
    (case a26 => k_is)
    (case l26 => k_is)
    (case c26 => k_is)
    (case k26 => k_is)
    (case a27 => k_is)
    (case l27 => k_is)
    (case c27 => k_is)
    (case k27 => k_is)
    (case a28 => k_is)
    (case l28 => k_is)
    (case c28 => k_is)
    (case k28 => k_is)
    (case a29 => k_is)
    (case l29 => k_is)
    (case c29 => k_is)
    (case k29 => k_is)
    (case a30 => k_is)
    (case l30 => k_is)
    (case c30 => k_is)
    (case k30 => k_is)
    (case a31 => k_is)
    (case l31 => k_is)
    (case c31 => k_is)
    (case k31 => k_is)
    (case a32 => k_is)
    (case l32 => k_is)
    (case c32 => k_is)
    (case k32 => k_is)
    (case a33 => k_is)
    (case l33 => k_is)
    (case c33 => k_is)
    (case k33 => k_is)
    (case gU => k_is)
    (case gR => k_is)
    (case gA => k_is)
    (case hn => k_is)
    (case htk => k_is)
    (case gcW => k_is)
    (case pgcW => k_is)
    (case hdcW => k_is)
    (case pocW => k_is)
    (case sacW => k_is)
    (case hacW => k_is)
    (case hmcW => k_is)
    (case iccW => k_is)
    (case tycW => k_is)
    (case sscW => k_is)
    (case mkcW => k_is)
    (case kccW => k_is)
    (case nocW0 => k_is)
    (case nocW1 => k_is)
    (case nocW2 => k_is)
    (case nocW3 => k_is)
    (case nocW4 => k_is)
    (case acW_0 => k_is)
    (case icW_0 => k_is)
    (case lcW_0 => k_is)
    (case ccW_0 => k_is)
    (case kcW_0 => k_is)
    (case gcF => k_is)
    (case pgcF => k_is)
    (case hdcF => k_is)
    (case pocF => k_is)
    (case sacF => k_is)
    (case hacF => k_is)
    (case hmcF => k_is)
    (case iccF => k_is)
    (case tycF => k_is)
    (case sscF => k_is)
    (case mkcF => k_is)
    (case kccF => k_is)
    (case nocF0 => k_is)
    (case nocF1 => k_is)
    (case nocF2 => k_is)
    (case acF_0 => k_is)
    (case icF_0 => k_is)
    (case lcF_0 => k_is)
    (case ccF_0 => k_is)
    (case kcF_0 => k_is)
    (case gcB => k_is)
    (case pgcB => k_is)
    (case hdcB => k_is)
    (case pocB => k_is)
    (case sacB => k_is)
    (case hacB => k_is)
    (case hmcB => k_is)
    (case iccB => k_is)
    (case tycB => k_is)
    (case sscB => k_is)
    (case mkcB => k_is)
    (case kccB => k_is)
    (case nocB0 => k_is)
    (case nocB1 => k_is)
    (case acB_0 => k_is)
    (case icB_0 => k_is)
    (case lcB_0 => k_is)
    (case ccB_0 => k_is)
    (case kcB_0 => k_is)
    (case gcR => k_is)
    (case pgcR => k_is)
    (case hdcR => k_is)
    (case pocR => k_is)
    (case sacR => k_is)
    (case hacR => k_is)
    (case hmcR => k_is)
    (case iccR => k_is)
    (case tycR => k_is)
    (case sscR => k_is)
    (case mkcR => k_is)
    (case kccR => k_is)
    (case nocR0 => k_is)
    (case nocR1 => k_is)
    (case nocR2 => k_is)
    (case nocR3 => k_is)
    (case nocR4 => k_is)
    (case nocR5 => k_is)
    (case nocR6 => k_is)
    (case nocR7 => k_is)
    (case acR_0 => k_is)
    (case icR_0 => k_is)
    (case lcR_0 => k_is)
    (case ccR_0 => k_is)
    (case kcR_0 => k_is)
    (case gcP => k_is)
    (case pgcP => k_is)
    (case hdcP => k_is)
    (case pocP => k_is)
    (case sacP => k_is)
    (case hacP => k_is)
    (case hmcP => k_is)
    (case iccP => k_is)
    (case tycP => k_is)
    (case sscP => k_is)
    (case mkcP => k_is)
    (case kccP => k_is)
    (case nocP0 => k_is)
    (case nocP1 => k_is)
    (case acP_0 => k_is)
    (case icP_0 => k_is)
    (case lcP_0 => k_is)
    (case ccP_0 => k_is)
    (case kcP_0 => k_is)
    (case acP_1 => k_is)
    (case icP_1 => k_is)
    (case lcP_1 => k_is)
    (case ccP_1 => k_is)
    (case kcP_1 => k_is)
    (case acP_2 => k_is)
    (case icP_2 => k_is)
    (case lcP_2 => k_is)
    (case ccP_2 => k_is)
    (case kcP_2 => k_is)
    (case acP_3 => k_is)
    (case icP_3 => k_is)
    (case lcP_3 => k_is)
    (case ccP_3 => k_is)
    (case kcP_3 => k_is)
    (case gcT => k_is)
    (case pgcT => k_is)
    (case hdcT => k_is)
    (case pocT => k_is)
    (case sacT => k_is)
    (case hacT => k_is)
    (case hmcT => k_is)
    (case iccT => k_is)
    (case tycT => k_is)
    (case sscT => k_is)
    (case mkcT => k_is)
    (case kccT => k_is)
    (case nocT0 => k_is)
    (case acT_0 => k_is)
    (case icT_0 => k_is)
    (case lcT_0 => k_is)
    (case ccT_0 => k_is)
    (case kcT_0 => k_is)
    (case acT_1 => k_is)
    (case icT_1 => k_is)
    (case lcT_1 => k_is)
    (case ccT_1 => k_is)
    (case kcT_1 => k_is)
    (case acT_2 => k_is)
    (case icT_2 => k_is)
    (case lcT_2 => k_is)
    (case ccT_2 => k_is)
    (case kcT_2 => k_is)
    (case acT_3 => k_is)
    (case icT_3 => k_is)
    (case lcT_3 => k_is)
    (case ccT_3 => k_is)
    (case kcT_3 => k_is)
    (case kkWF => k_is)
    (case kkWR => k_is)
    (case kkFW => k_is)
    (case kkFR => k_is)
    (case kkRW => k_is)
    (case kkRF => k_is)
    (case z0 => k_is)
    (case z1 => k_is)
    (case z2 => k_is)
    (case z3 => k_is)
    (case z4 => k_is)
    (case z5 => k_is)
    (case z6 => k_is)
    (case z7 => k_is)
    (case z8 => k_is)
    (case z9 => k_is)
    (case z10 => k_is)
    (case z11 => k_is)
    (case z12 => k_is)
    (case z13 => k_is)

