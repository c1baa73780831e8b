import PyProof.Rows.All
import Wide.All
import OpenK.AllK
import Wide.FinOn
import PyProof.ReprRoads
import PyProof.ReprLen
import HandS.Base
import HandS.Call
import HandS.List
import HandS.Comp
import HandS.Ends
import HandS.Dict
import HandS.Iter
import HandS.Text
import HandS.Words
import HandS.WordsList
import HandS.ForMost
import HandS.Style
import HandS.Wide
import HandS.Evl
import KE.GoesMore
import HandS.Zip
import KE.KDictZip
import HandS.ListItems
import HandS.More
import HandS.IsInst
import HandS.Steps
import HandS.ExcInit
import HandS.ExcField
import HandS.WordsExc
import HandS.Conv
import HandS.TupAny
import HandS.RaiseMore
import PySem.Challenge.RW_keptrest_k22_whole_least_roads
set_option Elab.async false
set_option linter.all false
set_option maxRecDepth 100000
/-! Kt, part A: defs that are known to run while no repr is under way, so that repr of data can be told. -/
namespace Kt
open PySem PySem.Spec PyProof.Rows L2

/-- as FnOk, for calls while nothing guarded is under way -/
structure FnG (P : Program) (w : World) (K : PySem.W.Frag) (mg : Str → Option Value) (base : Heap) (CX : CXT) (k : Nat) (f : Addr) (fd : FuncData) (ps : List Str) (sp : Sp) : Prop where
  len : ∀ vs H Q E, sp vs H Q E → vs.length = ps.length
  run : ∀ (A : Around) (outer : List Env) (s : Shared) (H : Hp) (args : Args) (us : List Value) (vs : List V) (Q : VK) (E : XK), A.guards = some [] → Room k A → Env0 P w K mg base A outer s H →
    BindsTo s fd args (ps.zip us) → Vals vs us → sp vs H Q E → codeAny (model P w) A (.call (.ref f) args) (CR CX outer P w H s Q E) s

section
variable {P : Program} {w : World} {K : PySem.W.Frag} {mg : Str → Option Value} {base : Heap}

theorem FnG.mono {CX : CXT} {j k : Nat} {f : Addr} {fd : FuncData} {ps : List Str} {sp : Sp} (F : FnG P w K mg base CX j f fd ps sp) (h : j ≤ k) : FnG P w K mg base CX k f fd ps sp :=
  ⟨F.len, fun A outer s H args us vs Q E hg hr => F.run A outer s H args us vs Q E hg (hr.mono h)⟩

theorem FnG.of {CX : CXT} {k : Nat} {f : Addr} {fd : FuncData} {ps : List Str} {sp : Sp} (F : FnOk P w K mg base CX k f fd ps sp) : FnG P w K mg base CX k f fd ps sp :=
  ⟨F.len, fun A outer s H args us vs Q E _ hr => F.run A outer s H args us vs Q E hr⟩

/-- a def by its body, while no repr is under way -/
theorem FunG {x qual : Str} {st : Stmt} {f : Addr} {fd : FuncData} {N ps : List Str} {k : Nat} {sp : Sp} (F : Fun K x qual st f fd) (S : FnScope N ps (defScope st))
    (len : ∀ vs H Q E, sp vs H Q E → vs.length = ps.length)
    (hbody : ∀ (cdv : Value) (A : Around) (outer : List Env) (s : Shared) (H : Hp) (vs : List V) (Q : VK) (E : XK), A.guards = some [] → Room k (A.deeper (envOfC qual (defScope st) s.heap.objs.size f cdv)) → sp vs H Q E →
      ∃ t, PSs (cxOf CX0 P w K mg base N qual (defScope st) f cdv A outer s H E).nox (defBody st) t ∧ t { nx := fun _ H' => Q .non H', rt := Q } (start N vs) H) : FnG P w K mg base CX0 (k + 1) f fd ps sp := by
  obtain ⟨oc, od, kV, doc, pm, an, cdv, ct, osl, rfl, lk, hcd⟩ := F.ex
  refine ⟨len, ?_⟩
  intro A outer s H args us vs Q E hg hr e0 hb r hsp
  have keepB : ∀ b o, base.get? b = some o → s.heap.get? b = some o := fun b o e => (e0.bs b o e).1
  have KX := e0.mod.kin.keeps keepB
  have lim := e0.mod.nolimit.keeps keepB
  refine codeAny_call_function hr.depth (KX _ _ lk) rfl S.co S.gen rfl (PySem.W.codeRec_of KX hcd) (hb _ _ _ _ ?_)
  refine wpAny_newFunctionEnv_cells S.kind (fun y hy => ?_) fun env he s1 x1 => ?_
  · obtain ⟨n, v⟩ := y
    exact (S.par n (List.of_mem_zip hy).1).imp id fun q => ⟨q, PySem.W.cellsFrom_some _ _ _ (.inl q)⟩
  subst he
  refine ⟨lim.keeps x1.toInCall.keep, codeAny_func ?_⟩
  obtain ⟨t, ht, hq⟩ := hbody cdv A outer s H vs Q E hg (hr.deeper _) hsp
  refine wpAny_mono (ht.nox.run [] s1 (start N vs) H _ (inv_start (P := P) (w := w) S hr.hd e0 (len _ _ _ _ hsp) r x1) hq) (fun fl s' hs => ?_) fun _ _ hs => hs
  cases fl with
  | ret u =>
    obtain ⟨v, σ', H', J, rv, q⟩ := hs
    exact ⟨v, H', J.os, J.bare, J.base, J.hok, rv, q⟩
  | next =>
    obtain ⟨σ', H', J, q⟩ := hs
    exact ⟨V.non, H', J.os, J.bare, J.base, J.hok, rfl, q⟩
  | brk =>
    obtain ⟨_, _, _, q⟩ := hs
    exact q.elim
  | cont =>
    obtain ⟨_, _, _, q⟩ := hs
    exact q.elim

/-- a def that may be called by its name -/
structure CalG (P : Program) (w : World) (K : PySem.W.Frag) (mg : Str → Option Value) (base : Heap) (k : Nat) (x : Str) (sp : Sp) : Prop where
  ex : ∃ (f : Addr) (fd : FuncData) (ps : List Str), FnG P w K mg base CX0 k f fd ps sp ∧ mg x = some (.ref f) ∧ PySem.W.keepIn K (.ref f) = true ∧ Binds K fd ps []
/-- a def of the module's text, under its name -/
structure DefG (K : PySem.W.Frag) (mg : Str → Option Value) (x : Str) (st : Stmt) (ps : List Str) : Prop where
  ex : ∃ (f : Addr) (fd : FuncData), Fun K x x st f fd ∧ mg x = some (.ref f) ∧ Binds K fd ps []
theorem calG {x : Str} {st : Stmt} {N ps : List Str} {k : Nat} {sp : Sp} (D : DefG K mg x st ps) (S : FnScope N ps (defScope st)) (len : ∀ vs H Q E, sp vs H Q E → vs.length = ps.length)
    (hbody : ∀ (cdv : Value) (f : Addr) (A : Around) (outer : List Env) (s : Shared) (H : Hp) (vs : List V) (Q : VK) (E : XK), A.guards = some [] → Room k (A.deeper (envOfC x (defScope st) s.heap.objs.size f cdv)) → sp vs H Q E →
      ∃ t, PSs (cxOf CX0 P w K mg base N x (defScope st) f cdv A outer s H E).nox (defBody st) t ∧ t { nx := fun _ H' => Q .non H', rt := Q } (start N vs) H) : CalG P w K mg base (k + 1) x sp := by
  obtain ⟨f, fd, F, m, b⟩ := D.ex
  exact ⟨f, fd, ps, FunG F S len fun cdv => hbody cdv f, m, F.kp, b⟩
end

section
variable {X : Cx} {k j : Nat} {x : Str} {sp : Sp} {p pos : Pos} {e : Expr} {es : List Expr} {t : TA}
theorem run_fnG {f : Addr} {fd : FuncData} {ps : List Str} {pins : List (Addr × Obj)} {σ : L2.St} {H : Hp} {s : Shared} {Q : VK} {us : List Value} {vs : List V} (F : FnG X.prog X.w X.K X.mg X.base CX0 k f fd ps sp) (hA : X.A.guards = some []) (hr : Room k X.A) (hb : Binds X.K fd ps [])
    (I : Inv X pins σ H s) (r : Vals vs us) (h : sp vs H Q E0) : wpAny (model X.prog X.w) X.A (call (.ref f) us) (EP X pins σ Q) X.xe s := by
  have e0 : us ++ [] = us := List.append_nil us
  have hl : (us ++ []).length = ps.length := by rw [e0, ← r.length]; exact F.len _ _ _ _ h
  have hbs := hb s us I.kIn hl
  rw [e0] at hbs
  refine wpAny_call (codeAny_mono (F.run X.A X.stack s H ⟨us, []⟩ us vs Q E0 hA hr I.env0 hbs r h) fun r' s' hq => ?_)
  match r', hq with
  | .error _, hq => exact hq.elim
  | .ok (.ret _), hq => exact I.after hq
  | .ok .next, hq => exact False.elim hq
  | .ok .brk, hq => exact False.elim hq
  | .ok .cont, hq => exact False.elim hq
/-- f(e, ..) -/
theorem pe_cG (c : CalG X.prog X.w X.K X.mg X.base k x sp) (hA : X.A.guards = some []) (hr : Room j X.A) (hk : k ≤ j) (hg : Gl X x) (ha : PA X (e :: es) t) (hdb : (x == ("__debug__" : Str)) = false := by decide)
    (he : starEach (e :: es) X.env = (false, eval e X.env) :: starEach es X.env := by rfl) (hpl : (backTo pos (starEach es X.env)).any (·.1) = false := by rfl) :
    PE X (.Call (.Name x p) (e :: es) [] pos) (fun σ H Q => t σ H fun vs H1 => sp vs H1 Q E0) := by
  obtain ⟨f, fd, ps, F, m, kp, b⟩ := c.ex
  refine ⟨fun pins s σ H Q I h => ?_⟩
  refine wpAny_Call_Name_kw (ld_glob I hg m ?_ hdb)
  refine PySem.W.callWith_K (h₀ := X.base) I.ok.mod.kin kp (thn (ha.run pos pins s σ H _ I h) fun us s1 ⟨vs, H1, I1, r, q⟩ => ⟨I1.kIn, ?_⟩) he hpl
  exact run_fnG F hA (hr.mono hk) b I1 r q
end

/-! ### repr of data -/
section
variable {X : Cx}
def rReprD (K : PySem.W.Frag) : List V → Hp → VK → Prop := fun vs H Q => ∃ (a : Addr) (d : PyData), vs = [.ref a] ∧ Dp K H (.ref a) d ∧ d.showable = true ∧ d.canLay0 = true ∧ d.depth ≤ 128 ∧ d.shown.length ≤ sizeLine ∧ Q (.str d.shown) H
theorem call_reprD (hA : X.A.guards = some []) (hu : X.A.units + 129 < cLine) : CallR X (.builtin "repr") (rReprD X.K) := by
  intro pins s σ H vs us Q I r h
  obtain ⟨a, d, rfl, hd, hs, hc, hdp, hz, q⟩ := h
  obtain ⟨u, rfl, ru⟩ := vals1 r
  cases ru
  obtain ⟨as, rd⟩ := Dp.reads I d _ _ hd rfl
  refine repr_of_reads' rd hs (PyData.noDict_hsm (PyData.hasDict_of_canLay d hc)) hA (by omega) (fun _ _ e => e) (fun h' u tk hk => ?_) hz
  exact ⟨.str d.shown, H, I.kept hk, ⟨u, rfl⟩, q⟩
end
/-! ### the end of a law's row -/
section
variable {P : Program} {w : World} {K : PySem.W.Frag} {mg mb : Str → Option Value}
/-- what stands while the law is called: True, nothing old changed -/
def LawEnd (s₁ : Shared) (r : Result) (s' : Shared) : Prop := r = .ok (.ret (.bool true)) ∧ OldK s₁.heap s'.heap ∧ s'.os = s₁.os ∧ AllBare s'.gens
/-- the heap in which the script alone is tracked -/
def scriptHp (a : Addr) (vs : List Value) (ns : List Int) : Hp := fun b => if b = a then some (.frz { cls := .type "list", data := .seq vs.toArray } (.lst (ns.map V.int))) else none
theorem scriptHp_self {a : Addr} {vs : List Value} {ns : List Int} : scriptHp a vs ns a = some (.frz { cls := .type "list", data := .seq vs.toArray } (.lst (ns.map V.int))) := if_pos rfl
theorem scriptHp_other {a b : Addr} {vs : List Value} {ns : List Int} (h : b ≠ a) : scriptHp a vs ns b = none := if_neg h

theorem lawG_core {k : Nat} {fa a : Addr} {fd : FuncData} {x : Str} {sp : Sp} {s₁ : Shared} {vs : List Value} {ns : List Int} {H : Hp}
    (KX : K.In s₁.heap) (hns : s₁.heap.Ns mainGlobals mg) (hb : s₁.heap.Ns builtinsNs mb) (hbb : ∀ x : Str, x ≠ "__name__" → mb x = bootBuiltins x) (hlim : s₁.heap.NoLimit) (hg : s₁.gens = #[])
    (ha : s₁.heap.get? a = some { cls := .type "list", data := .seq vs.toArray }) (hr : Room k callerA)
    (F : ∀ base : Heap, K.In base → base.Ns mainGlobals mg → FnG P w K mg base CX0 k fa fd [x] sp) (hbind : ∀ (s : Shared) (u : Value), BindsTo s fd ⟨[u], []⟩ [(x, u)])
    (hsp : sp [.ref a] H (fun v _ => v = .bl true) E0)
    (hO : ∀ b, H b = none ∨ (b = a ∧ K.lookup a = none ∧ H b = some (.frz { cls := .type "list", data := .seq vs.toArray } (.lst (ns.map V.int))))) (hok : HOk P w H s₁.heap) :
    codeAny (model P w) callerA (.call (.ref fa) ⟨[.ref a], []⟩) (LawEnd s₁) s₁ := by
  have isA : ∀ {b : Addr} {u : HO}, H b = some u → b = a ∧ K.lookup a = none := fun {b u} e => by
    rcases hO b with z | ⟨z1, z2, _⟩
    · rw [e] at z; cases z
    · exact ⟨z1, z2⟩
  have seen : ∀ {b : Addr} {o : Obj}, s₁.heap.get? b = some o → (b = a → False) → (hidT s₁.heap H).get? b = some o := fun {b o} e n => hidT_get e (by
    cases q : H b with
    | none => rfl
    | some u => exact (n (isA q).1).elim)
  have nsK : ∀ {b : Addr} {m : Str → Option Value}, s₁.heap.Ns b m → (hidT s₁.heap H).Ns b m := fun {b m} ⟨o, es, ep, e, d, r⟩ => ⟨o, es, ep, seen e (fun z => by
    subst z
    rw [ha] at e
    cases e
    cases d), d, r⟩
  have hKb : K.In (hidT s₁.heap H) := fun b o e => hidT_get (KX b o e) (by
    cases q : H b with
    | none => rfl
    | some u =>
      obtain ⟨z1, z2⟩ := isA q
      subst z1
      rw [z2] at e
      cases e)
  obtain ⟨mc, l1, l2⟩ := hlim
  have hM : Mod K mg (hidT s₁.heap H) := ⟨hKb, nsK hns, ⟨mb, nsK hb, hbb⟩, ⟨mc, nsK l1, l2⟩⟩
  have none_in : ∀ {b : Addr}, b ∉ frs ([] : List Env) := fun z => by cases z
  have e0 : Env0 P w K mg (hidT s₁.heap H) callerA [] s₁ H := ⟨rfl, hM, fun b o e => of_hidT e, Nat.le_of_eq (hidT_size _ _), trivial, fun b z => (none_in z).elim, hok, .of_eq hg⟩
  refine codeAny_mono ((F _ hKb (nsK hns)).run callerA [] s₁ H ⟨[.ref a], []⟩ [.ref a] [.ref a] _ _ rfl hr e0 (hbind s₁ (.ref a)) (.cons rfl .nil) hsp) fun r s' h => ?_
  match r, h with
  | .error _, h => exact h.elim
  | .ok .next, h => exact False.elim h
  | .ok .brk, h => exact False.elim h
  | .ok .cont, h => exact False.elim h
  | .ok (.ret u), h =>
    obtain ⟨v, H', os, bare, un, hok', rv, q⟩ := h
    have q' : v = .bl true := q
    subst q'
    cases (show u = Value.bool true from rv)
    refine ⟨rfl, OldK.of_keep fun b o e => ?_, os, bare⟩
    rcases hO b with z | ⟨z1, _, z⟩
    · exact un.keep b o e z none_in (fun y => by cases y)
    · obtain ⟨e1, _⟩ := hok b _ z
      obtain ⟨e2, _⟩ := hok' b _ (un.frzs b _ _ z)
      rw [e] at e1
      cases e1
      exact e2

theorem walk_ofG {l : PySem.W.OpenLaw} {n k : Nat} {q : Program} {loose : List Str} {XP : (Str → Option Value) → Heap → Prop} {YP : World → Heap → Prop} {d : DefRec} {K : Params → PySem.W.Frag} {sp : PySem.W.Frag → Sp} {x : Str}
    (hn : l.most = some n) (hn2 : n ≤ sizeLine) (hdf : d.params.defaults = []) (hr : Room k callerA) (hY : ∀ (w : World) (h : Heap), YP w h → (K w.params).In h)
    (F : ∀ (w : World) (mg : Str → Option Value) (fa : Addr) (h : Heap), (K w.params).In h → h.Ns mainGlobals mg → mg d.name = some (.ref fa) →
      ∃ fd : FuncData, (∀ (s : Shared) (u : Value), BindsTo s fd ⟨[u], []⟩ [(x, u)]) ∧ ∀ base : Heap, (K w.params).In base → base.Ns mainGlobals mg → FnG l.prog w (K w.params) mg base CX0 k fa fd [x] (sp (K w.params)))
    (hsp : ∀ (K : PySem.W.Frag) (H : Hp) (a : Addr) (ns : List Int), ns.length ≤ n → SqL K H a (ns.map V.int) → sp K [.ref a] H (fun v _ => v = .bl true) E0) :
    PySem.W.WalkO q loose XP YP l.row.toRowW d [] (fun f vs => PySem.call f vs) := by
  refine Att.attach_call hn hdf fun w s₀ s₁ mg mb fa o pm cd doc a vs ns G Y ho hd hcd hmg hobj hints hlen hg => ?_
  have KX := hY w _ Y
  obtain ⟨fd, hb, hF⟩ := F w mg fa _ KX G.T.g hmg
  have rv := vals_ints hints
  have hl2 : ns.length ≤ sizeLine := Nat.le_trans hlen hn2
  cases hk : (K w.params).lookup a with
  | some oo =>
    have e := KX a oo hk
    rw [hobj] at e
    cases e
    refine lawG_core (ns := ns) (H := fun _ => none) KX G.T.g G.T.b G.T.builtins G.T.nolimit hg hobj hr hF hb (hsp _ _ a ns hlen (.inr ⟨_, vs.toArray, _, hk, rfl, rfl, rfl, ?_, by simpa using rv⟩)) (fun b => .inl rfl) (fun b u z => by cases z)
    rw [List.size_toArray, hints.length]
    exact hl2
  | none =>
    refine lawG_core (ns := ns) (H := scriptHp a vs ns) KX G.T.g G.T.b G.T.builtins G.T.nolimit hg hobj hr hF hb (hsp _ _ a ns hlen (.inl (.inr ⟨_, scriptHp_self⟩))) (fun b => ?_) (fun b u z => ?_)
    · by_cases hb' : b = a
      · subst hb'
        exact .inr ⟨rfl, hk, scriptHp_self⟩
      · exact .inl (scriptHp_other hb')
    · by_cases hb' : b = a
      · subst hb'
        rw [scriptHp_self] at z
        cases z
        exact ⟨hobj, by rw [List.length_map]; exact hl2, vs, _, rv, hobj⟩
      · rw [scriptHp_other hb'] at z
        cases z
end
end Kt
/-! Kt, part B: one small step a combinator, and a walk over them. -/
namespace Kt
open PySem PySem.Spec PyProof.Rows L2 Evl
/-! ### readings under a name -/
/-- a new tuple, a new list, whose size is asked; and whose size is not -/
def NewT (xs : List V) (H : Hp) (Q : VK) : Prop := xs.length ≤ sizeLine ∧ ∀ p, H p = none → Q (.ref p) (upd H p (.tup xs))
def NewL (xs : List V) (H : Hp) (Q : VK) : Prop := xs.length ≤ sizeLine ∧ ∀ p, H p = none → Q (.ref p) (upd H p (.lst xs))
def MakT (xs : List V) (H : Hp) (Q : VK) : Prop := ∀ p, H p = none → Q (.ref p) (upd H p (.tup xs))
def MakL (xs : List V) (H : Hp) (Q : VK) : Prop := ∀ p, H p = none → Q (.ref p) (upd H p (.lst xs))
def rTupO (K : PySem.W.Frag) : List V → Hp → VK → Prop := fun vs H Q => ∃ p ys, vs = [.ref p] ∧ ((SqL K H p ys ∧ MakT ys H Q) ∨ (SqT K H p ys ∧ Q (.ref p) H))
def rLstO (K : PySem.W.Frag) : List V → Hp → VK → Prop := fun vs H Q => ∃ p ys, vs = [.ref p] ∧ (SqL K H p ys ∨ SqT K H p ys) ∧ MakL ys H Q
def rLenO (K : PySem.W.Frag) : List V → Hp → VK → Prop := fun vs H Q => ∃ p ys, vs = [.ref p] ∧ (SqL K H p ys ∨ SqT K H p ys) ∧ Q (.int ys.length) H
def rIntO : List V → Hp → VK → Prop := fun vs H Q => (∃ i, vs = [.int i] ∧ Q (.int i) H) ∨ ∃ k, vs = [.bl k] ∧ Q (.int (if k then 1 else 0)) H
section
variable {X : Cx}
theorem call_tupO : CallR X (.type "tuple") (rTupO X.K) := call_tuple_of
theorem call_lstO : CallR X (.type "list") (rLstO X.K) := call_list_of
theorem call_lenO : CallR X (.builtin "len") (rLenO X.K) := call_len_seq
theorem call_intO : CallR X (.type "int") rIntO := call_int1
end
/-! their steps -/
section
variable {H : Hp} {Q : VK} {K : PySem.W.Frag}
theorem rd_newT {xs : List V} (q : ∀ p H', H p = none → Ex H H' → H' p = some (.tup xs) → Q (.ref p) H') (hz : xs.length ≤ sizeLine := by exact Nat.le_of_ble_eq_true rfl) : NewT xs H Q := ⟨hz, fun p hp => q p _ hp (Ex.new hp) upd_same⟩
theorem rd_newL {xs : List V} (q : ∀ p H', H p = none → Ex H H' → H' p = some (.lst xs) → Q (.ref p) H') (hz : xs.length ≤ sizeLine := by exact Nat.le_of_ble_eq_true rfl) : NewL xs H Q := ⟨hz, fun p hp => q p _ hp (Ex.new hp) upd_same⟩
theorem rd_makT {xs : List V} (q : ∀ p H', H p = none → Ex H H' → H' p = some (.tup xs) → Q (.ref p) H') : MakT xs H Q := fun p hp => q p _ hp (Ex.new hp) upd_same
theorem rd_makL {xs : List V} (q : ∀ p H', H p = none → Ex H H' → H' p = some (.lst xs) → Q (.ref p) H') : MakL xs H Q := fun p hp => q p _ hp (Ex.new hp) upd_same
theorem rd_tupO {p : Addr} {ys : List V} (h : SqL K H p ys) (q : ∀ p H', H p = none → Ex H H' → H' p = some (.tup ys) → Q (.ref p) H') : rTupO K [.ref p] H Q := ⟨p, ys, rfl, Or.inl ⟨h, rd_makT q⟩⟩
theorem rd_tupT {p : Addr} {ys : List V} (h : SqT K H p ys) (q : Q (.ref p) H) : rTupO K [.ref p] H Q := ⟨p, ys, rfl, Or.inr ⟨h, q⟩⟩
theorem rd_lstO {p : Addr} {ys : List V} (h : SqL K H p ys ∨ SqT K H p ys) (q : ∀ p H', H p = none → Ex H H' → H' p = some (.lst ys) → Q (.ref p) H') : rLstO K [.ref p] H Q := ⟨p, ys, rfl, h, rd_makL q⟩
theorem rd_lenO {p : Addr} {ys : List V} (h : SqL K H p ys ∨ SqT K H p ys) (q : Q (.int ys.length) H) : rLenO K [.ref p] H Q := ⟨p, ys, rfl, h, q⟩
theorem rd_intO {a : Int} (q : Q (.int a) H) : rIntO [.int a] H Q := Or.inl ⟨a, rfl, q⟩
theorem rd_slL {a : Addr} {xs : List V} {lo hi : Option Int} (h : SqL K H a xs) (q : ∀ p H', H p = none → Ex H H' → H' p = some (.lst (cutV xs lo hi)) → Q (.ref p) H') : rSlL K (.ref a) lo hi H Q := ⟨a, xs, rfl, h, rd_makL q⟩
theorem rd_cat {l b : Addr} {xs zs : List V} (h1 : H l = some (.lst xs)) (h2 : H b = some (.lst zs)) (hz : xs.length + zs.length ≤ sizeLine) (q : ∀ p H', H p = none → Ex H H' → H' p = some (.lst (xs ++ zs)) → Q (.ref p) H') : rCat (.ref l) (.ref b) H Q := ⟨l, b, xs, zs, rfl, rfl, h1, h2, hz, rd_makL q⟩
end
section
variable {K : PySem.W.Frag} {σ : L2.St} {H : Hp} {Q : VK} {QB : Bool → Hp → Prop} {QA : List V → Hp → Prop} {D : Ends} {v x y : V} {ta tb te tc : TE} {tt tu : TT} {tr : TA} {s u z : TS} {r : R2} {i : Nat}
theorem rd_var (h : σ[i]? = some (some v)) (q : Q v H) : tVar i σ H Q := ⟨v, h, q⟩
theorem rd_c (q : Q v H) : tC v σ H Q := q
theorem rd_nil (q : QA [] H) : tNil σ H QA := q
theorem rd_cons (q : ta σ H fun x H1 => tr σ H1 fun xs H2 => QA (x :: xs) H2) : tCons ta tr σ H QA := q
theorem rd_op (q : ta σ H fun x H1 => tb σ H1 fun y H2 => r x y H2 Q) : tOp r ta tb σ H Q := q
theorem rd_un {r : V → Hp → VK → Prop} (q : ta σ H fun x H1 => r x H1 Q) : tUn r ta σ H Q := q
theorem rd_I0 {g : Int → Int → V} {a b : Int} (q : Q (g a b) H) : rI0 g (.int a) (.int b) H Q := ⟨a, b, rfl, rfl, q⟩
theorem rd_I {C : Int → Int → Prop} {g : Int → Int → V} {a b : Int} (c : C a b) (q : Q (g a b) H) : rI C g (.int a) (.int b) H Q := ⟨a, b, rfl, rfl, c, q⟩
theorem rd_U {g : Int → V} {a : Int} (q : Q (g a) H) : rU g (.int a) H Q := ⟨a, rfl, q⟩
theorem rd_cb {r : List V → Hp → VK → Prop} (q : tr σ H fun vs H1 => r vs H1 Q) : tCB r tr σ H Q := q
theorem rd_test (q : ta σ H fun x H' => ∃ k, x = .bl k ∧ QB k H') : tTest ta σ H QB := q
theorem rd_tB (q : ta σ H fun x H' => ∃ k, x = .bl k ∧ QB k H') : tB ta σ H QB := q
theorem rd_bl {b : Bool} {P : Bool → Prop} (q : P b) : ∃ k, V.bl b = .bl k ∧ P k := ⟨b, rfl, q⟩
theorem rd_eq (h : scal x y = true) (q : Q (.bl (decide (x = y))) H) : rEq x y H Q := ⟨h, q⟩
theorem rd_ne (h : scal x y = true) (q : Q (.bl (!decide (x = y))) H) : rNe x y H Q := ⟨h, q⟩
theorem rd_tup (q : tr σ H fun xs H1 => NewT xs H1 Q) : tTup tr σ H Q := q
theorem rd_lst (q : tr σ H fun xs H1 => NewL xs H1 Q) : tLst tr σ H Q := q
theorem rd_ifE (q : tt σ H fun c H1 => if c = true then ta σ H1 Q else tb σ H1 Q) : tIf tt ta tb σ H Q := q
theorem rd_and (q : tt σ H fun c H1 => if c = true then tu σ H1 QB else QB false H1) : tAnd tt tu σ H QB := q
theorem rd_or (q : tt σ H fun c H1 => if c = true then QB true H1 else tu σ H1 QB) : tOr tt tu σ H QB := q
theorem rd_not (q : tt σ H fun c H1 => QB (!c) H1) : tNot tt σ H QB := q
theorem rd_seq (q : s { D with nx := u D } σ H) : tSeq s u D σ H := q
theorem rd_next (q : D.nx σ H) : tNext D σ H := q
theorem rd_asg {g : TG} (q : te σ H fun x H1 => g x σ H1 D.nx) : tAsg te g D σ H := q
theorem rd_name {QS : L2.St → Hp → Prop} (q : QS (σ.set i (some v)) H) : gName i v σ H QS := q
theorem rd_par {j : Nat} (q : tr σ H fun vs H1 => ∃ v w, vs = [v, w] ∧ D.nx ((σ.set i (some v)).set j (some w)) H1) : tPar i j tr D σ H := q
theorem rd_par1 {P : V → V → Prop} {w : V} (q : P v w) : ∃ v' w', [v, w] = [v', w'] ∧ P v' w' := ⟨v, w, rfl, q⟩
theorem rd_ifS (q : tt σ H fun b H1 => if b = true then s D σ H1 else u D σ H1) : tIfS tt s u D σ H := q
theorem rd_ret (q : te σ H D.rt) : tRet te D σ H := q
theorem rd_drop (q : te σ H fun _ H1 => D.nx σ H1) : tDrop te D σ H := q
theorem rd_bm {T : String} {r : V → List V → Hp → VK → Prop} (q : ta σ H fun x H1 => tyV K T x H1 ∧ tr σ H1 fun xs H2 => r x xs H2 Q) : tBM K T r ta tr σ H Q := q
theorem rd_bm0 {T : String} {r : V → List V → Hp → VK → Prop} (q : ta σ H fun x H1 => tyV K T x H1 ∧ r x [] H1 Q) : tBM0 K T r ta σ H Q := q
theorem rd_dget (q : ta σ H fun x H1 => tb σ H1 fun y H2 => ∃ a v, x = .ref a ∧ DGet H2 a y (some v) ∧ Q v H2) : tDGet ta tb σ H Q := q
theorem rd_dput (q : tc σ H fun v H1 => ta σ H1 fun x H2 => tb σ H2 fun y H3 => ∃ a H4, x = .ref a ∧ DPut H3 a y v H4 ∧ D.nx σ H4) : sDPut ta tb tc D σ H := q
theorem rd_sl {r : V → Option Int → Option Int → Hp → VK → Prop} {tl th : TO} (q : te σ H fun x H1 => tl σ H1 fun l H2 => th σ H2 fun u H3 => r x l u H3 Q) : tSl r te tl th σ H Q := q
theorem rd_no {QO : Option Int → Hp → Prop} (q : QO none H) : tNoPart σ H QO := q
theorem rd_some {QO : Option Int → Hp → Prop} (q : te σ H fun x H1 => ∃ i, x = .int i ∧ QO (some i) H1) : tPart te σ H QO := q
theorem rd_some1 {P : Int → Prop} {a : Int} (q : P a) : ∃ i, V.int a = .int i ∧ P i := ⟨a, rfl, q⟩
theorem rd_yes (q : QB true H) : tYes σ H QB := q
/-! what the heap is asked -/
theorem rd_ixT {p : Addr} {xs : List V} {a : Int} (h : SqT K H p xs) (e : atI xs a = some v) (q : Q v H) : rIxT K (.ref p) (.int a) H Q := ⟨p, xs, a, v, rfl, rfl, h, e, q⟩
theorem rd_ixL {p : Addr} {xs : List V} {a : Int} (h : SqL K H p xs) (e : atI xs a = some v) (q : Q v H) : rIxL K (.ref p) (.int a) H Q := ⟨p, xs, a, v, rfl, rfl, h, e, q⟩
theorem rd_neD {d e : PyData} (h1 : Dp K H x d) (h2 : Dp K H y e) (s1 : SeqAt.shaped d = true) (s2 : SeqAt.shaped e = true) (q : Q (.bl (!PyData.eqv d e)) H) : rNeD K x y H Q := ⟨d, e, h1, h2, s1, s2, q⟩
theorem rd_eqD {d e : PyData} (h1 : Dp K H x d) (h2 : Dp K H y e) (s1 : SeqAt.shaped d = true) (s2 : SeqAt.shaped e = true) (q : Q (.bl (PyData.eqv d e)) H) : rEqD K x y H Q := ⟨d, e, h1, h2, s1, s2, q⟩
theorem rd_app {l : Addr} {xs : List V} (h : H l = some (.lst xs)) (hz : xs.length < sizeLine) (q : Q .non (upd H l (.lst (xs ++ [v])))) : rAppend (.ref l) [v] H Q := ⟨l, xs, v, rfl, rfl, h, hz, q⟩
theorem rd_tyL {l : Addr} {xs : List V} {P : Prop} (h : SqL K H l xs) (q : P) : tyV K "list" (.ref l) H ∧ P := ⟨Or.inl ⟨rfl, xs, h⟩, q⟩
theorem rd_dg {p : Addr} {kvs : List (Key × V)} {k : Key} (e : H p = some (.dK kvs)) {P : V → Prop} (l : valV kvs k = some v) (q : P v) : ∃ a v', V.ref p = .ref a ∧ DGet H a (kV k) (some v') ∧ P v' := ⟨p, v, rfl, l ▸ DGet.k (k := k) e, q⟩
theorem rd_dp {p : Addr} {kvs : List (Key × V)} {k : Key} {QH : Hp → Prop} (e : H p = some (.dK kvs)) (hl : kvs.length < sizeLine) (q : QH (upd H p (.dK (putK kvs k v)))) : ∃ a H4, V.ref p = .ref a ∧ DPut H a (kV k) v H4 ∧ QH H4 := ⟨p, _, rfl, DPut.k (k := k) e hl, q⟩
theorem rd_repr {a : Addr} {d : PyData} (h : Dp K H (.ref a) d) (h1 : d.showable = true) (h2 : d.canLay0 = true) (h3 : d.depth ≤ 128) (h4 : d.shown.length ≤ sizeLine) (q : Q (.str d.shown) H) : rReprD K [.ref a] H Q := ⟨a, d, rfl, h, h1, h2, h3, h4, q⟩
end
end Kt
namespace Kt
open PySem PySem.Spec PyProof.Rows L2 Evl
/-! ### heaps of which one object may have changed -/
/-- all that H holds but what stands at m is held by H' -/
def Keeps (m : Addr) (H H' : Hp) : Prop := ∀ b o, b ≠ m → H b = some o → H' b = some o
theorem Keeps.refl (m : Addr) (H : Hp) : Keeps m H H := fun _ _ _ h => h
theorem Keeps.trans {m : Addr} {H H1 H2 : Hp} (a : Keeps m H H1) (b : Keeps m H1 H2) : Keeps m H H2 := fun c o n h => b c o n (a c o n h)
theorem Keeps.ex {m : Addr} {H H' : Hp} (e : Ex H H') : Keeps m H H' := fun b o _ h => e b o h
theorem Keeps.put {m : Addr} {H : Hp} {o : HO} : Keeps m H (upd H m o) := fun b u n h => (upd_ne n).trans h
theorem Keeps.new {m p : Addr} {H : Hp} {o : HO} (h : H p = none) : Keeps m H (upd H p o) := Keeps.ex (Ex.new h)
theorem Keeps.mut {m p : Addr} {H H' : Hp} {o : HO} (e : Keeps m H H') (h : H p = none) : Keeps m H (upd H' p o) := fun b u n hb => (upd_ne (ne_of_none hb h)).trans (e b u n hb)
theorem Keeps.putm {m : Addr} {H H' : Hp} {o : HO} (e : Keeps m H H') : Keeps m H (upd H' m o) := e.trans Keeps.put
theorem Keeps.back {m p : Addr} {H H' : Hp} (e : Keeps m H H') (h : H' p = none) (n : p ≠ m) : H p = none := by
  cases q : H p with
  | none => rfl
  | some o => rw [e p o n q] at h; cases h
theorem Keeps.toEx {m : Addr} {H H' : Hp} (e : Keeps m H H') (h : H m = none) : Ex H H' := fun b o q => e b o (ne_of_none q h) q
/-- a tuple is none of the objects that change -/
theorem Keeps.tup {K : PySem.W.Frag} {m p : Addr} {H H' : Hp} {xs : List V} {kvs : List (Key × V)} (e : Keeps m H H') (hm : H m = some (.dK kvs)) (h : SqT K H p xs) : SqT K H' p xs := by
  rcases h with (h | ⟨o, h⟩) | h
  · exact .inl (.inl (e p _ (ne_of h hm (fun z => by cases z)) h))
  · exact .inl (.inr ⟨o, e p _ (ne_of h hm (fun z => by cases z)) h⟩)
  · exact .inr h
theorem Keeps.lst {K : PySem.W.Frag} {m p : Addr} {H H' : Hp} {xs : List V} {kvs : List (Key × V)} (e : Keeps m H H') (hm : H m = some (.dK kvs)) (h : SqL K H p xs) : SqL K H' p xs := by
  rcases h with (h | ⟨o, h⟩) | h
  · exact .inl (.inl (e p _ (ne_of h hm (fun z => by cases z)) h))
  · exact .inl (.inr ⟨o, e p _ (ne_of h hm (fun z => by cases z)) h⟩)
  · exact .inr h

/-! ### the state of the draws -/
abbrev kLeft : Key := Sum.inr "left"
abbrev kSeed : Key := Sum.inr "seed"
abbrev kCells : Key := Sum.inr "cells"
abbrev kSpot : Key := Sum.inr "spot"
theorem sum_ne {a b : Str} (h : ¬ a = b) : ¬ (Sum.inr a : Key) = Sum.inr b := fun e => h (Sum.inr.inj e)
theorem n_ls : ¬ kLeft = kSpot := sum_ne (by decide +kernel)
theorem n_ld : ¬ kLeft = kSeed := sum_ne (by decide +kernel)
theorem n_lc : ¬ kLeft = kCells := sum_ne (by decide +kernel)
theorem n_sd : ¬ kSpot = kSeed := sum_ne (by decide +kernel)
theorem n_sc : ¬ kSpot = kCells := sum_ne (by decide +kernel)
theorem n_dc : ¬ kSeed = kCells := sum_ne (by decide +kernel)
/-- at m stands the state of the draws, of which at most n have been drawn, its cells at c -/
structure Drw (H : Hp) (m c : Addr) (n : Nat) : Prop where
  ex : ∃ (kvs : List (Key × V)) (l sd sp : Int), H m = some (.dK kvs) ∧ kvs.length ≤ 10 + n ∧
    valV kvs kLeft = some (.int l) ∧ valV kvs kSeed = some (.int sd) ∧ valV kvs kSpot = some (.int sp) ∧ valV kvs kCells = some (.ref c) ∧ 0 ≤ sd ∧ sd < 2147483647 ∧ 0 ≤ sp ∧ sp ≤ n
/-- at c stand cells -/
def Cel (K : PySem.W.Frag) (H : Hp) (c : Addr) : Prop := ∃ ns : List Int, SqL K H c (ns.map V.int) ∧ 0 < ns.length ∧ ns.length ≤ 1000
theorem Drw.keep {H H' : Hp} {m c : Addr} {n : Nat} (d : Drw H m c n) (e : Ex H H') : Drw H' m c n := by
  obtain ⟨kvs, l, sd, sp, h1, h2⟩ := d.ex
  exact ⟨kvs, l, sd, sp, e _ _ h1, h2⟩
theorem Drw.mono {H : Hp} {m c : Addr} {n n' : Nat} (d : Drw H m c n) (h : n ≤ n') : Drw H m c n' := by
  obtain ⟨kvs, l, sd, sp, h1, h2, h3, h4, h5, h6, h10, h11, h12, h13⟩ := d.ex
  exact ⟨kvs, l, sd, sp, h1, by omega, h3, h4, h5, h6, h10, h11, h12, by omega⟩
theorem Drw.at {H : Hp} {m c : Addr} {n : Nat} (d : Drw H m c n) : ∃ kvs, H m = some (.dK kvs) := by
  obtain ⟨kvs, l, sd, sp, h1, _⟩ := d.ex
  exact ⟨kvs, h1⟩
/-- another object may change -/
theorem Drw.oth {H : Hp} {m c p : Addr} {n : Nat} {o : HO} (d : Drw H m c n) (h : m ≠ p) : Drw (upd H p o) m c n := by
  obtain ⟨kvs, l, sd, sp, h1, h2⟩ := d.ex
  exact ⟨kvs, l, sd, sp, (upd_ne h).trans h1, h2⟩
theorem Drw.tup {K : PySem.W.Frag} {H H' : Hp} {m c p : Addr} {n : Nat} {xs : List V} (d : Drw H m c n) (e : Keeps m H H') (h : SqT K H p xs) : SqT K H' p xs := let ⟨_, h1⟩ := d.at; e.tup h1 h
theorem Drw.lst {K : PySem.W.Frag} {H H' : Hp} {m c p : Addr} {n : Nat} {xs : List V} (d : Drw H m c n) (e : Keeps m H H') (h : SqL K H p xs) : SqL K H' p xs := let ⟨_, h1⟩ := d.at; e.lst h1 h
theorem Drw.cel {K : PySem.W.Frag} {H H' : Hp} {m c : Addr} {n : Nat} (d : Drw H m c n) (e : Keeps m H H') (h : Cel K H c) : Cel K H' c := let ⟨ns, h1, h2⟩ := h; ⟨ns, d.lst e h1, h2⟩
theorem Cel.keep {K : PySem.W.Frag} {H H' : Hp} {c : Addr} (h : Cel K H c) (e : Ex H H') : Cel K H' c := let ⟨ns, h1, h2⟩ := h; ⟨ns, ex_l e h1, h2⟩
theorem Drw.lne {H : Hp} {m c p : Addr} {n : Nat} {xs : List V} (d : Drw H m c n) (h : H p = some (.lst xs)) : p ≠ m := let ⟨_, h1⟩ := d.at; ne_of h h1 (fun z => by cases z)
/-! ### heaps in which no tuple has changed -/
structure Tx (H H' : Hp) : Prop where
  t : ∀ p xs, H p = some (.tup xs) → H' p = some (.tup xs)
  f : ∀ p o xs, H p = some (.frz o (.tup xs)) → H' p = some (.frz o (.tup xs))
theorem Tx.ex {H H' : Hp} (e : Ex H H') : Tx H H' := ⟨fun _ _ h => e _ _ h, fun _ _ _ h => e _ _ h⟩
theorem Tx.trans {H H1 H2 : Hp} (a : Tx H H1) (b : Tx H1 H2) : Tx H H2 := ⟨fun _ _ h => b.t _ _ (a.t _ _ h), fun _ _ _ h => b.f _ _ _ (a.f _ _ _ h)⟩
theorem Tx.lst {H : Hp} {p : Addr} {ys : List V} {o : HO} (h : H p = some (.lst ys)) : Tx H (upd H p o) :=
  ⟨fun q xs h' => (upd_ne (ne_of h' h (fun z => by cases z))).trans h', fun q u xs h' => (upd_ne (ne_of h' h (fun z => by cases z))).trans h'⟩
theorem Drw.tx {H H' : Hp} {m c : Addr} {n : Nat} (d : Drw H m c n) (e : Keeps m H H') : Tx H H' := by
  obtain ⟨kvs, h⟩ := d.at
  exact ⟨fun q xs h' => e _ _ (ne_of h' h (fun z => by cases z)) h', fun q u xs h' => e _ _ (ne_of h' h (fun z => by cases z)) h'⟩
theorem tx_t {K : PySem.W.Frag} {H H' : Hp} {a : Addr} {xs : List V} (e : Tx H H') (h : SqT K H a xs) : SqT K H' a xs := by
  rcases h with (h | ⟨o, h⟩) | h
  · exact .inl (.inl (e.t _ _ h))
  · exact .inl (.inr ⟨o, e.f _ _ _ h⟩)
  · exact .inr h
abbrev kNext : Key := Sum.inr "next"
theorem n_nl : ¬ kNext = kLeft := sum_ne (by decide +kernel)
theorem n_nd : ¬ kNext = kSeed := sum_ne (by decide +kernel)
theorem n_nc : ¬ kNext = kCells := sum_ne (by decide +kernel)
theorem n_ns : ¬ kNext = kSpot := sum_ne (by decide +kernel)
theorem merge4 (a b c d : V) : (mergeK [] [(kLeft, a), (kSeed, b), (kCells, c), (kSpot, d)]).length ≤ 5 ∧ valV (mergeK [] [(kLeft, a), (kSeed, b), (kCells, c), (kSpot, d)]) kLeft = some a ∧ valV (mergeK [] [(kLeft, a), (kSeed, b), (kCells, c), (kSpot, d)]) kSeed = some b ∧
    valV (mergeK [] [(kLeft, a), (kSeed, b), (kCells, c), (kSpot, d)]) kSpot = some d ∧ valV (mergeK [] [(kLeft, a), (kSeed, b), (kCells, c), (kSpot, d)]) kCells = some c := by
  show (putK (putK (putK (putK [] kLeft a) kSeed b) kCells c) kSpot d).length ≤ 5 ∧ valV (putK (putK (putK (putK [] kLeft a) kSeed b) kCells c) kSpot d) kLeft = some a ∧ valV (putK (putK (putK (putK [] kLeft a) kSeed b) kCells c) kSpot d) kSeed = some b ∧
    valV (putK (putK (putK (putK [] kLeft a) kSeed b) kCells c) kSpot d) kSpot = some d ∧ valV (putK (putK (putK (putK [] kLeft a) kSeed b) kCells c) kSpot d) kCells = some c
  have l1 := length_putK [] kLeft a
  have l2 := length_putK (putK [] kLeft a) kSeed b
  have l3 := length_putK (putK (putK [] kLeft a) kSeed b) kCells c
  have l4 := length_putK (putK (putK (putK [] kLeft a) kSeed b) kCells c) kSpot d
  refine ⟨by rw [List.length_nil] at l1; omega, ?_, ?_, ?_, ?_⟩
  · rw [valV_put, if_neg n_ls, valV_put, if_neg n_lc, valV_put, if_neg n_ld, valV_put, if_pos rfl]
  · rw [valV_put, if_neg (fun z => n_sd z.symm), valV_put, if_neg n_dc, valV_put, if_pos rfl]
  · rw [valV_put, if_pos rfl]
  · rw [valV_put, if_neg (fun z => n_sc z.symm), valV_put, if_pos rfl]
theorem merge5 (a b c d e : V) : (mergeK [] [(kLeft, a), (kSeed, b), (kCells, c), (kSpot, d), (kNext, e)]).length ≤ 6 ∧ valV (mergeK [] [(kLeft, a), (kSeed, b), (kCells, c), (kSpot, d), (kNext, e)]) kLeft = some a ∧ valV (mergeK [] [(kLeft, a), (kSeed, b), (kCells, c), (kSpot, d), (kNext, e)]) kSeed = some b ∧
    valV (mergeK [] [(kLeft, a), (kSeed, b), (kCells, c), (kSpot, d), (kNext, e)]) kSpot = some d ∧ valV (mergeK [] [(kLeft, a), (kSeed, b), (kCells, c), (kSpot, d), (kNext, e)]) kCells = some c := by
  obtain ⟨h1, h2, h3, h4, h5⟩ := merge4 a b c d
  show (putK (mergeK [] [(kLeft, a), (kSeed, b), (kCells, c), (kSpot, d)]) kNext e).length ≤ 6 ∧ valV (putK (mergeK [] [(kLeft, a), (kSeed, b), (kCells, c), (kSpot, d)]) kNext e) kLeft = some a ∧ valV (putK (mergeK [] [(kLeft, a), (kSeed, b), (kCells, c), (kSpot, d)]) kNext e) kSeed = some b ∧
    valV (putK (mergeK [] [(kLeft, a), (kSeed, b), (kCells, c), (kSpot, d)]) kNext e) kSpot = some d ∧ valV (putK (mergeK [] [(kLeft, a), (kSeed, b), (kCells, c), (kSpot, d)]) kNext e) kCells = some c
  have l5 := length_putK (mergeK [] [(kLeft, a), (kSeed, b), (kCells, c), (kSpot, d)]) kNext e
  refine ⟨by omega, ?_, ?_, ?_, ?_⟩
  · rw [valV_put, if_neg (fun z => n_nl z.symm)]; exact h2
  · rw [valV_put, if_neg (fun z => n_nd z.symm)]; exact h3
  · rw [valV_put, if_neg (fun z => n_ns z.symm)]; exact h4
  · rw [valV_put, if_neg (fun z => n_nc z.symm)]; exact h5
theorem cut_ints (ns : List Int) (lo hi : Option Int) : ∃ ms : List Int, cutV (ns.map V.int) lo hi = ms.map V.int ∧ ms.length ≤ ns.length := by
  refine ⟨(ns.drop (HT.sIx (ns.map V.int).length 0 lo)).take (HT.sIx (ns.map V.int).length (ns.map V.int).length hi - HT.sIx (ns.map V.int).length 0 lo), ?_, ?_⟩
  · unfold cutV
    rw [List.map_take, List.map_drop]
  · rw [List.length_take, List.length_drop]
    omega
theorem get_ints {ns : List Int} {i : Nat} {x : V} (h : (ns.map V.int)[i]? = some x) : ∃ z, x = .int z ∧ ns[i]? = some z := by
  rw [List.getElem?_map] at h
  cases e : ns[i]? with
  | none => rw [e] at h; cases h
  | some z => rw [e] at h; exact ⟨z, (Option.some.inj h).symm, rfl⟩
section
variable {σ : L2.St} {H : Hp} {Q : VK} {tk tv : TE} {trs : List (TE × TE)}
theorem rd_pnil {QP : List (V × V) → Hp → Prop} (q : QP [] H) : tPairs [] σ H QP := q
theorem rd_pcons {QP : List (V × V) → Hp → Prop} (q : tk σ H fun x H1 => tv σ H1 fun y H2 => tPairs trs σ H2 fun ps H3 => QP ((x, y) :: ps) H3) : tPairs ((tk, tv) :: trs) σ H QP := q
end
/-- a conditional expression whose two ways give a value of one kind: what follows is shown once -/
theorem rd_ifE2 {α : Type} {f : α → V} {tt : TT} {ta tb : TE} {σ : L2.St} {H : Hp} {Q : VK} (all : ∀ z : α, Q (f z) H) (h : (∀ z : α, Q (f z) H) → tIf tt ta tb σ H Q) : tIf tt ta tb σ H Q := h all
theorem rd_ifE3 {tt : TT} {ta tb : TE} {σ : L2.St} {H : Hp} {Q : VK} (P : V → Hp → Prop) (all : ∀ v H', P v H' → Q v H') (h : (∀ v H', P v H' → Q v H') → tIf tt ta tb σ H Q) : tIf tt ta tb σ H Q := h all
/-- _law_begun(script, k): the state of the draws, none drawn yet -/
def spBegun (K : PySem.W.Frag) : Sp := fun vs H Q _ => ∃ (a : Addr) (ns : List Int) (k : Int), vs = [.ref a, .int k] ∧ SqL K H a (ns.map V.int) ∧ ns.length ≤ 63 ∧ 0 ≤ k ∧ k ≤ 100 ∧
  ∀ (m c : Addr) (H' : Hp), H m = none → Ex H H' → Drw H' m c 0 → Cel K H' c → Q (.ref m) H'
/-- _law_draw(m, below) -/
def spDraw (K : PySem.W.Frag) : Sp := fun vs H Q _ => ∃ (m c : Addr) (b : Int) (n : Nat), vs = [.ref m, .int b] ∧ Drw H m c n ∧ Cel K H c ∧ n < 1000000 ∧ 0 < b ∧ b < 1000000 ∧
  ∀ (r : Int) (H' : Hp), 0 ≤ r → r < b → Keeps m H H' → Drw H' m c (n + 1) → Q (.int r) H'
/-- _law_of(m, some) -/
def spOf (K : PySem.W.Frag) : Sp := fun vs H Q _ => ∃ (m c p : Addr) (xs : List V) (n : Nat), vs = [.ref m, .ref p] ∧ SqL K H p xs ∧ 0 < xs.length ∧ xs.length < 1000000 ∧ Drw H m c n ∧ Cel K H c ∧ n < 1000000 ∧
  ∀ (i : Nat) (x : V) (H' : Hp), xs[i]? = some x → Keeps m H H' → Drw H' m c (n + 1) → Q x H'
end Kt
/-! Kt, part C: t[::-1] of a tuple. -/
namespace Kt
open PySem PySem.Spec PyProof.Rows L2
section
variable {prog : Program} {w : World} {A : Around} {E : Value → Shared → Prop} {s : Shared}
theorem adjust_back (n : Nat) : Builtin.Slice.sliceAdjust none none (-1) (n : Int) = ((n : Int) - 1, -1) := by
  unfold Builtin.Slice.sliceAdjust
  rfl
theorem places_back (n : Nat) : Builtin.Slice.slicePlaces ((n : Int) - 1) (-1) (-1) = n := by
  unfold Builtin.Slice.slicePlaces
  have h1 : ¬ ((-1 : Int) > 0) := by decide
  rw [if_neg h1]
  by_cases h : (n : Int) - 1 > -1
  · rw [if_pos h, show -(-1 : Int) = 1 by decide, Int.ediv_one]
    omega
  · rw [if_neg h]
    omega
theorem applied_back {sl : Addr} {tk : Tok} {n : Nat} {Q : Int × Int × Nat → Shared → Prop} (hs : s.heap.IsSliceOf sl .none .none (.int (-1) tk)) (h : Q ((n : Int) - 1, -1, n) s) :
    wpAny (model prog w) A (Builtin.Slice.sliceApplied (.ref sl) (pure (n : Int))) Q E s := by
  obtain ⟨os, hos, hcs, hds⟩ := id hs
  unfold Builtin.Slice.sliceApplied Builtin.Slice.sliceFields
  refine wpAny_bind (wpAny_bind (wpAny_field hos hds (x := .none) rfl (wpAny_bind (wpAny_field hos hds (x := .none) rfl (wpAny_bind (wpAny_field hos hds (x := .int (-1) tk) rfl (wpAny_pure ?_)))))))
  refine wpAny_bind (slicePart_int ?_)
  show wpAny _ _ (if ((-1 : Int) == 0) = true then _ else _) _ _ s
  rw [if_neg (by decide)]
  refine wpAny_bind (slicePart_none (wpAny_bind (slicePart_none (wpAny_bind (wpAny_pure ?_)))))
  show wpAny _ _ (match Builtin.Slice.sliceAdjust none none (-1) (n : Int) with | (lo, hi) => pure (lo, (-1 : Int), Builtin.Slice.slicePlaces lo hi (-1))) _ _ s
  rw [adjust_back]
  show wpAny _ _ (pure ((n : Int) - 1, (-1 : Int), Builtin.Slice.slicePlaces ((n : Int) - 1) (-1) (-1))) _ _ s
  rw [places_back]
  exact wpAny_pure h
theorem pick_back (xs : Array Value) : ((List.range xs.size).filterMap fun (k : Nat) => xs[((xs.size : Int) - 1 + (k : Int) * -1).toNat]?).toArray = xs.toList.reverse.toArray := by
  have e : (List.range xs.size).filterMap (fun (k : Nat) => xs[((xs.size : Int) - 1 + (k : Int) * -1).toNat]?) = ((List.range xs.size).map fun k => xs.size - 1 - k).filterMap (xs[·]?) := by
    rw [List.filterMap_map]
    have ef : (fun (k : Nat) => xs[((xs.size : Int) - 1 + (k : Int) * -1).toNat]?) = (xs[·]?) ∘ fun k => xs.size - 1 - k := by
      funext k
      have : ((xs.size : Int) - 1 + (k : Int) * -1).toNat = xs.size - 1 - k := by omega
      rw [this]
      rfl
    rw [ef]
  rw [e, PySem.W.krv_range, List.filterMap_reverse, PySem.W.krv_all]
theorem getItem_tuple_back {t sl : Addr} {items : Array Value} {tk : Tok} {Q : Value → Shared → Prop} (ht : IsTup s.heap t items) (hs : s.heap.IsSliceOf sl .none .none (.int (-1) tk))
    (h : Q (.ref s.heap.objs.size) { s with heap := s.heap.push { cls := .type "tuple", data := .seq items.toList.reverse.toArray } })
    (hsz : items.size ≤ sizeLine) : wpAny (model prog w) A (getItem (.ref t) (.ref sl)) Q E s := by
  have hz : sizeOk (.seq items.toList.reverse.toArray) := by
    show items.toList.reverse.toArray.size ≤ sizeLine
    rw [List.size_toArray, List.length_reverse, Array.length_toList]
    exact hsz
  obtain ⟨os, hos, hcs, hds⟩ := id hs
  have hTs : s.TypeIs (.ref sl) "slice" := ⟨os, hos, hcs⟩
  unfold getItem
  try with_reducible refine wpAny_holding ?_
  first | refine wpAny_bind (wpAny_pure ?_) | skip
  refine wpAny_bind (wpAny_sequenceKey ht.typeIs (by decide) ?_)
  refine wpAny_bind (wpAny_callSpecial?_slot (name := Str.ofString "__getitem__") ht.typeIs PyProof.Rows.slot_tuple_getitem
    (wpAny_call_entry PyProof.Rows.slot_tuple_getitem ht.typeIs entry_tuple_getitem ?_ (args_tuple_getitem _ _)))
  show wpAny _ _ (Builtin.Tuple.tupleItemsOf (.ref t) >>= _) _ _ s
  refine wpAny_bind (tupleItemsOf_ ht ?_)
  refine wpAny_bind (wpAny_typeOf hTs ?_)
  rw [if_pos (by decide)]
  refine wpAny_bind (applied_back (n := items.size) hs ?_)
  have hno : ¬ (((items.size : Int) - 1 == 0 && (-1 : Int) == 1 && items.size == items.size) = true) := by
    intro q
    rw [Bool.and_eq_true, Bool.and_eq_true] at q
    exact absurd q.1.2 (by decide)
  show wpAny _ _ (if ((items.size : Int) - 1 == 0 && (-1 : Int) == 1 && items.size == items.size) = true then _ else _) _ _ s
  rw [if_neg hno, pick_back]
  first
    | exact wpAny_bind (m := Builtin.Tuple.tupleExact _) (wpAny_newObj_type (wpAny_pure ⟨_, rfl, wpAny_pure h⟩) hz)
    | exact wpAny_bind (m := Builtin.Tuple.tupleExact _) (wpAny_newObj_type (wpAny_bind (wpAny_pure (wpAny_pure ⟨_, rfl, wpAny_pure h⟩))) hz)
    | exact wpAny_bind (wpAny_bind (m := Builtin.Tuple.tupleExact _) (wpAny_newObj_type (wpAny_pure (wpAny_pure ⟨_, rfl, wpAny_pure h⟩)) hz))
    | exact wpAny_bind (wpAny_bind (m := Builtin.Tuple.tupleExact _) (wpAny_newObj_type (wpAny_pure ⟨_, rfl, wpAny_pure h⟩) hz))
end
section
variable {X : Cx}
/-- t[::-1], t a tuple -/
def tRevT (K : PySem.W.Frag) (te : TE) : TE := fun σ H Q => te σ H fun x H1 => ∃ a xs, x = .ref a ∧ SqT K H1 a xs ∧ ∀ p, H1 p = none → Q (.ref p) (upd H1 p (.tup xs.reverse))
theorem pe_revT {e : Expr} {te : TE} {k : Nat} {p1 p2 p3 pos : Pos} (he : PE X e te) : PE X (.Subscript e (.Slice none none (some (.UnaryOp .USub (.Constant (.int 1) k p1) p2)) p3) pos) (tRevT X.K te) := by
  refine ⟨fun pins s σ H Q I h => ?_⟩
  refine Subscript_ (thn (he.run pins s σ H _ I h) fun v s1 ⟨x, H1, I1, r1, a, xs, ex, hx, q⟩ => ?_)
  subst ex
  cases r1
  refine wpAny_Slice (thn (po_none.run pins s1 σ H1 (fun o H2 => o = none ∧ H2 = H1) I1 ⟨rfl, rfl⟩) fun vl s2 ⟨l, H2, I2, pl, el, e2⟩ => ?_)
  subst el e2
  refine thn (po_none.run pins s2 σ H2 (fun o H3 => o = none ∧ H3 = H2) I2 ⟨rfl, rfl⟩) fun vu s3 ⟨u, H3, I3, pu, eu, e3⟩ => ?_
  subst eu e3
  refine thn ((po_some (pe_un un_neg pe_int)).run pins s3 σ H3 (fun o H4 => o = some (-1) ∧ H4 = H3) I3 ⟨1, rfl, -1, rfl, rfl, rfl⟩) fun vs s4 ⟨o, H4, I4, ps, eo, e4⟩ => ?_
  subst eo e4
  cases pl
  cases pu
  cases ps with
  | int _ tk =>
    have I5 : Inv X pins σ H4 { s4 with heap := s4.heap.push { cls := .type "slice", data := .fields #[.none, .none, .int (-1) tk] } } := I4.kept (t' := s4.toks) fun b ob q => Heap.get?_push_of_some _ q
    obtain ⟨its, r, ht, hz⟩ := I5.tuple hx
    show wpAny (model X.prog X.w) X.A (subscriptTail e (.Slice none none (some (.UnaryOp .USub (.Constant (.int 1) k p1) p2)) p3) (.ref a) (.ref s4.heap.objs.size)) (EP X pins σ Q) X.xe { s4 with heap := s4.heap.push { cls := .type "slice", data := .fields #[.none, .none, .int (-1) tk] } }
    refine tail_any (ops := [.ref a, .ref s4.heap.objs.size]) ht.typeIs PyProof.Rows.slot_tuple_getitem.lookup ?_ (by with_unfolding_all rfl)
    refine getItem_tuple_back ht (Heap.IsSliceOf.new _ _ _ _) ?_ (by rw [List.size_toArray, ← r.length]; exact hz)
    refine ⟨.ref _, _, I5.laid (t' := s4.toks) (o := .tup xs.reverse) (fun b ob q => Heap.get?_push_of_some _ q) (Nat.le_refl _) ?_, rfl, q _ (I5.hok.fresh (Nat.le_refl _))⟩
    exact ⟨by rw [List.length_reverse]; exact hz, _, r.reverse, IsTup.new _ _⟩
end
/-! ### loops -/
def ForW (J : It) (g : TG) (tb : TS) (D : Ends) (σ : L2.St) (H : Hp) : Prop := ∃ W : Nat → Nat → L2.St → Hp → Prop, (∃ m, W 0 m σ H) ∧ ∀ i m σ H, W i m σ H →
  (J.stop i H ∧ D.nx σ H) ∨ (J.go i H ∧ ∃ N : L2.St → Hp → Prop, (∀ σ' H', N σ' H' → ∃ m', m' < m ∧ W (i + 1) m' σ' H') ∧ ∀ x H', J.yld i H x H' → g x σ H' fun σ2 H2 => tb { D with nx := N, ct := N, bk := D.nx } σ2 H2)
def LcW (J : It) (g : TG) (tt : TT) (te : TE) (vs : List Nat) (σ : L2.St) (H1 : Hp) (Q : VK) : Prop := ∀ D, H1 D = none → ∃ W : Nat → Nat → Hp → Prop, (∃ m, W 0 m (upd H1 D (.lst []))) ∧ ∀ i m H, W i m H →
  (J.stop i H ∧ Q (.ref D) H) ∨ (J.go i H ∧ ∃ Nx : Hp → Prop, (∀ H', Nx H' → ∃ m', m' < m ∧ W (i + 1) m' H') ∧ ∀ x H', J.yld i H x H' → g x (wipe σ vs) H' fun σ2 H2 => wipe σ2 vs = wipe σ vs ∧ tt σ2 H2 fun b H3 =>
    if b = true then te σ2 H3 fun y H4 => ∃ acc, H4 D = some (.lst acc) ∧ acc.length < sizeLine ∧ Nx (upd H4 D (.lst (acc ++ [y]))) else Nx H3)
def RngW (vs : List V) (H : Hp) (R : It → Hp → Prop) : Prop := ∃ j : Int, vs = [.int j] ∧ -(2 ^ 62) ≤ j ∧ j < 2 ^ 62 ∧ R (Itr 0 j.toNat) H
def LstW (K : PySem.W.Frag) (x : V) (H : Hp) (R : It → Hp → Prop) : Prop := ∃ a, x = .ref a ∧ (∃ xs, SqL K H a xs) ∧ R (Itl K a) H
def TupW (K : PySem.W.Frag) (x : V) (H : Hp) (R : It → Hp → Prop) : Prop := ∃ a, x = .ref a ∧ (∃ xs, SqT K H a xs) ∧ R (Itt K a) H
section
variable {K : PySem.W.Frag} {wi : TI} {g : TG} {tb : TS} {D : Ends} {σ : L2.St} {H : Hp} {R : It → Hp → Prop} {ta : TA} {tl te : TE} {tt : TT} {vs : List Nat} {Q : VK}
theorem rd_for (q : wi σ H fun J H1 => ForW J g tb D σ H1) : tFor wi g tb D σ H := q
theorem rd_lc (q : wi σ H fun J H1 => LcW J g tt te vs σ H1 Q) : tLc wi g tt te vs σ H Q := q
theorem rd_irng (q : ta σ H fun vs H1 => RngW vs H1 R) : iRng1 ta σ H R := q
theorem rd_ilst (q : tl σ H fun x H1 => LstW K x H1 R) : iList K tl σ H R := q
theorem rd_itup (q : tl σ H fun x H1 => TupW K x H1 R) : iTup K tl σ H R := q
theorem rd_rngW {j : Int} (h1 : -(2 ^ 62) ≤ j) (h2 : j < 2 ^ 62) (q : R (Itr 0 j.toNat) H) : RngW [.int j] H R := ⟨j, rfl, h1, h2, q⟩
theorem rd_lstW {a : Addr} {xs : List V} (h : SqL K H a xs) (q : R (Itl K a) H) : LstW K (.ref a) H R := ⟨a, rfl, ⟨xs, h⟩, q⟩
theorem rd_tupW {a : Addr} {xs : List V} (h : SqT K H a xs) (q : R (Itt K a) H) : TupW K (.ref a) H R := ⟨a, rfl, ⟨xs, h⟩, q⟩
theorem rd_forN {j n : Nat} (Pv : Nat → L2.St → Hp → Prop) (h0 : Pv 0 σ H) (hs : ∀ i σ' H', i < n → Pv i σ' H' → tb { D with nx := Pv (i + 1), ct := Pv (i + 1), bk := D.nx } (σ'.set j (some (.int (i : Int)))) H')
    (hd : ∀ σ' H', Pv n σ' H' → D.nx σ' H') : ForW (Itr 0 n) (gName j) tb D σ H :=
  for_range (lo := 0) (n := n) Pv h0 (fun i σ' H' hi p => by
    show tb { D with nx := Pv (i + 1), ct := Pv (i + 1), bk := D.nx } (σ'.set j (some (.int ((0 : Int) + (i : Int))))) H'
    rw [Int.zero_add]
    exact hs i σ' H' hi p) hd
theorem rd_forL {a : Addr} {j : Nat} (xs : List V) (Pv : Nat → L2.St → Hp → Prop) (h0 : Pv 0 σ H) (hl : ∀ i σ' H', i ≤ xs.length → Pv i σ' H' → SqL K H' a xs)
    (hs : ∀ i x σ' H', xs[i]? = some x → Pv i σ' H' → tb { D with nx := Pv (i + 1), ct := Pv (i + 1), bk := D.nx } (σ'.set j (some x)) H') (hd : ∀ σ' H', Pv xs.length σ' H' → D.nx σ' H') : ForW (Itl K a) (gName j) tb D σ H :=
  for_list Pv h0 hl hs hd
theorem rd_forLg {a : Addr} (xs : List V) (Pv : Nat → L2.St → Hp → Prop) (h0 : Pv 0 σ H) (hl : ∀ i σ' H', i ≤ xs.length → Pv i σ' H' → SqL K H' a xs)
    (hs : ∀ i x σ' H', xs[i]? = some x → Pv i σ' H' → g x σ' H' fun σ2 H2 => tb { D with nx := Pv (i + 1), ct := Pv (i + 1), bk := D.nx } σ2 H2) (hd : ∀ σ' H', Pv xs.length σ' H' → D.nx σ' H') : ForW (Itl K a) g tb D σ H :=
  for_list Pv h0 hl hs hd
theorem rd_forTg {a : Addr} (xs : List V) (Pv : Nat → L2.St → Hp → Prop) (h0 : Pv 0 σ H) (hl : ∀ i σ' H', i ≤ xs.length → Pv i σ' H' → SqT K H' a xs)
    (hs : ∀ i x σ' H', xs[i]? = some x → Pv i σ' H' → g x σ' H' fun σ2 H2 => tb { D with nx := Pv (i + 1), ct := Pv (i + 1), bk := D.nx } σ2 H2) (hd : ∀ σ' H', Pv xs.length σ' H' → D.nx σ' H') : ForW (Itt K a) g tb D σ H :=
  for_tup Pv h0 hl hs hd
/-- a comprehension that filters a list by a test that changes nothing -/
theorem rd_lcF {a : Addr} {j : Nat} (xs : List V) (keep : V → Bool) (hx : ∀ H', Evl.Ex H H' → SqL K H' a xs) (hw : ∀ x, wipe ((wipe σ vs).set j (some x)) vs = wipe σ vs)
    (ht : ∀ x H', x ∈ xs → Evl.Ex H H' → ∀ Q' : Bool → Hp → Prop, Q' (keep x) H' → tt ((wipe σ vs).set j (some x)) H' Q') (he : ∀ x H', ∀ Q' : VK, Q' x H' → te ((wipe σ vs).set j (some x)) H' Q')
    (hz : xs.length < sizeLine) (q : ∀ p H', H p = none → Evl.Ex H H' → H' p = some (.lst (xs.filter keep)) → Q (.ref p) H') : LcW (Itl K a) (gName j) tt te vs σ H Q := fun Dl hD =>
  lc_list (xs := xs) (fun i H' => Evl.Ex H H' ∧ H' Dl = some (.lst ((xs.take i).filter keep))) ⟨Evl.Ex.new hD, upd_same⟩ (fun i H' _ p => hx H' p.1) (fun i x H' hi p => ⟨hw x, ht x H' (List.mem_of_getElem? hi) p.1 _ (by
    have e : xs.take (i + 1) = xs.take i ++ [x] := by rw [List.take_add_one, hi]; rfl
    have el : ((xs.take i).filter keep).length < sizeLine := Nat.lt_of_le_of_lt (Nat.le_trans (List.length_filter_le _ _) (by rw [List.length_take]; exact Nat.min_le_right _ _)) hz
    cases hk : keep x with
    | true =>
      refine iteT (he x H' _ ⟨_, p.2, el, p.1.mut hD, ?_⟩)
      rw [upd_same, e, List.filter_append, List.filter_cons, if_pos hk]
      rfl
    | false =>
      refine iteF ⟨p.1, ?_⟩
      rw [e, List.filter_append, List.filter_cons, if_neg (by rw [hk]; decide)]
      show H' Dl = some (.lst ((xs.take i).filter keep ++ []))
      rw [List.append_nil]
      exact p.2)⟩)
    (fun H' p => q Dl H' hD p.1 (by rw [← List.take_length (l := xs)]; exact p.2))
theorem rd_truL {p : Addr} {xs : List V} {P : Bool → Prop} (h : SqL K H p xs) (q : P (!xs.isEmpty)) : ∃ k, TruV K (.ref p) H k ∧ P k := ⟨_, .inl ⟨xs, h, rfl⟩, q⟩
theorem rd_pop {l : Addr} {xs : List V} {y : V} (h : H l = some (.lst (xs ++ [y]))) (q : Q y (upd H l (.lst xs))) : rPop (.ref l) [] H Q := ⟨l, xs ++ [y], y, rfl, rfl, h, by simp, by rw [List.dropLast_concat]; exact q⟩
theorem rd_revL {a : Addr} {xs : List V} {P : Addr → List V → Prop} (h : SqL K H a xs) (q : P a xs) : ∃ a' xs', V.ref a = .ref a' ∧ SqL K H a' xs' ∧ P a' xs' := ⟨a, xs, rfl, h, q⟩
def RevLW (K : PySem.W.Frag) (x : V) (H : Hp) (Q : VK) : Prop := ∃ a xs, x = .ref a ∧ SqL K H a xs ∧ MakL xs.reverse H Q
def RevTW (K : PySem.W.Frag) (x : V) (H : Hp) (Q : VK) : Prop := ∃ a xs, x = .ref a ∧ SqT K H a xs ∧ MakT xs.reverse H Q
theorem rd_tRevL (q : te σ H fun x H1 => RevLW K x H1 Q) : tRevL K te σ H Q := q
theorem rd_tRevT (q : te σ H fun x H1 => RevTW K x H1 Q) : tRevT K te σ H Q := q
theorem rd_revLW {a : Addr} {xs : List V} (h : SqL K H a xs) (q : ∀ p H', H p = none → Evl.Ex H H' → H' p = some (.lst xs.reverse) → Q (.ref p) H') : RevLW K (.ref a) H Q := ⟨a, xs, rfl, h, rd_makL q⟩
theorem rd_revTW {a : Addr} {xs : List V} (h : SqT K H a xs) (q : ∀ p H', H p = none → Evl.Ex H H' → H' p = some (.tup xs.reverse) → Q (.ref p) H') : RevTW K (.ref a) H Q := ⟨a, xs, rfl, h, rd_makT q⟩
theorem rd_in {neg : Bool} {x : V} {p : Addr} {xs : List V} (h : SqL K H p xs ∨ SqT K H p xs) (hx : flatV x = true) (ha : xs.all flatV = true) (q : Q (.bl (if neg then !inV x xs else inV x xs)) H) : rIn K neg x (.ref p) H Q := ⟨p, xs, rfl, h, hx, ha, q⟩
theorem flat_ints (ns : List Int) : (ns.map V.int).all flatV = true := by
  rw [List.all_map]
  exact List.all_eq_true.mpr fun _ _ => rfl
theorem in_ints (z : Int) (ns : List Int) : inV (.int z) (ns.map V.int) = decide (z ∈ ns) := by
  unfold inV
  rw [List.any_map]
  rw [Bool.eq_iff_iff]
  rw [List.any_eq_true, decide_eq_true_eq]
  constructor
  · rintro ⟨x, hx, e⟩
    have e' : (x == z) = true := e
    rw [beq_iff_eq] at e'
    exact e' ▸ hx
  · intro h
    exact ⟨z, h, by show (z == z) = true; exact beq_self_eq_true z⟩
theorem rd_whileX {tt : TT} (Exc : L2.St → Hp → Prop) (hd : ∀ σ' H', Exc σ' H' → D.nx σ' H') (h : (∀ σ' H', Exc σ' H' → D.nx σ' H') → tWhile tt tb D σ H) : tWhile tt tb D σ H := h hd
theorem filter_ints (l r : List Int) : (l.map V.int).filter (fun v => !inV v (r.map V.int)) = (l.filter fun z => !decide (z ∈ r)).map V.int := by
  rw [List.filter_map]
  congr 1
  apply List.filter_congr
  intro z _
  show (!inV (V.int z) (r.map V.int)) = _
  rw [in_ints]
theorem rd_gtup {n : Nat} {t : TGs} {a : Addr} {xs : List V} {QS : L2.St → Hp → Prop} (h : SqT K H a xs) (hn : xs.length = n) (q : t xs σ H QS) : gTup K n t (.ref a) σ H QS := ⟨a, xs, rfl, h, hn, q⟩
theorem rd_gcons {t : TG} {u : TGs} {v : V} {r : List V} {QS : L2.St → Hp → Prop} (q : t v σ H fun σ' H' => u r σ' H' QS) : gCons t u (v :: r) σ H QS := ⟨v, r, rfl, q⟩
theorem rd_gnil {QS : L2.St → Hp → Prop} (q : QS σ H) : gNil [] σ H QS := ⟨rfl, q⟩
end
end Kt
/-! Kt, part D: data whose repr is told: how great they are. -/
namespace Kt
open PySem PySem.Spec PyProof.Rows L2
/-- data of short ints and texts, of a weight and a depth of at most so much -/
structure Sm (w dp : Nat) (d : PyData) : Prop where
  sh : d.showable = true
  cl : d.canLay0 = true
  de : d.depth ≤ dp
  wt : d.weight ≤ w
  lf : d.leavesShort 40 = true
structure SmAll (w dp : Nat) (ds : List PyData) : Prop where
  sh : PyData.showableAll ds = true
  cl : PyData.canLayAll0 ds = true
  de : PyData.depthAll ds ≤ dp
  wt : PyData.weightAll ds ≤ w
  lf : PyData.leavesShortAll 40 ds = true
theorem log2_small {n : Nat} (h : n < 10 ^ 38) : n.log2 < 129 := by
  by_cases h0 : n = 0
  · subst h0; decide
  · rw [Nat.log2_lt h0]
    exact Nat.lt_of_lt_of_le h (by decide +kernel)
theorem shown_short {i : Int} (h : i.natAbs < 10 ^ 38) : (PyData.shown (.int i)).length ≤ 40 := by
  have e := int_text_length_le10 (k := 38) (by decide) h
  show (Str.ofString (toString i)).length ≤ 40
  rw [PySem.ofString_length]
  omega
theorem Sm.int {i : Int} (h : i.natAbs < 10 ^ 38) : Sm 130 0 (.int i) := by
  have hl := log2_small h
  refine ⟨?_, rfl, Nat.le_refl _, ?_, ?_⟩
  · simp only [PyData.showable, decide_eq_true_eq]
    omega
  · simp only [PyData.weight]
    split <;> omega
  · simp only [PyData.leavesShort, decide_eq_true_eq]
    exact shown_short h
theorem Sm.bool {b : Bool} : Sm 0 0 (.bool b) := ⟨rfl, rfl, Nat.le_refl _, Nat.le_refl _, rfl⟩
theorem Sm.none : Sm 0 0 .none := ⟨rfl, rfl, Nat.le_refl _, Nat.le_refl _, rfl⟩
theorem Sm.str {x : Str} (h : PyData.strOk x = true) : Sm x.cps.size 0 (.str x) := by
  have hc : PyData.canLay0 (.str x) = true := by simp only [PyData.canLay0]; exact h
  exact ⟨rfl, hc, Nat.le_refl _, by simp only [PyData.weight]; exact Nat.le_refl _, PyData.leavesShort_of_canLay0 40 _ hc rfl⟩
theorem SmAll.nil : SmAll 0 0 [] := ⟨rfl, rfl, Nat.le_refl _, Nat.le_refl _, rfl⟩
theorem SmAll.cons {w dp w' dp' : Nat} {d : PyData} {ds : List PyData} (a : Sm w dp d) (b : SmAll w' dp' ds) : SmAll (w + 1 + w') (max dp dp') (d :: ds) := by
  refine ⟨?_, ?_, ?_, ?_, ?_⟩
  · simp only [PyData.showableAll, a.sh, b.sh, Bool.and_self]
  · simp only [PyData.canLayAll0, a.cl, b.cl, Bool.and_self]
  · simp only [PyData.depthAll]; have := a.de; have := b.de; omega
  · simp only [PyData.weightAll]; have := a.wt; have := b.wt; omega
  · simp only [PyData.leavesShortAll, a.lf, b.lf, Bool.and_self]
theorem Sm.tuple {w dp : Nat} {ds : List PyData} (a : SmAll w dp ds) : Sm w (dp + 1) (.tuple ds) := by
  refine ⟨?_, ?_, ?_, ?_, ?_⟩
  · simp only [PyData.showable, a.sh]
  · simp only [PyData.canLay0, a.cl]
  · simp only [PyData.depth]; have := a.de; omega
  · simp only [PyData.weight]; exact a.wt
  · simp only [PyData.leavesShort, a.lf]
theorem Sm.list {w dp : Nat} {ds : List PyData} (a : SmAll w dp ds) : Sm w (dp + 1) (.list ds) := by
  refine ⟨?_, ?_, ?_, ?_, ?_⟩
  · simp only [PyData.showable, a.sh]
  · simp only [PyData.canLay0, a.cl]
  · simp only [PyData.depth]; have := a.de; omega
  · simp only [PyData.weight]; exact a.wt
  · simp only [PyData.leavesShort, a.lf]
theorem Sm.more {w dp w' dp' : Nat} {d : PyData} (a : Sm w dp d) (h1 : w ≤ w') (h2 : dp ≤ dp') : Sm w' dp' d := ⟨a.sh, a.cl, Nat.le_trans a.de h2, Nat.le_trans a.wt h1, a.lf⟩
theorem SmAll.ints : ∀ ns : List Int, (∀ z ∈ ns, z.natAbs < 10 ^ 38) → SmAll (131 * ns.length) 0 (ns.map .int)
  | [], _ => .nil
  | z :: r, h => by
    have q := SmAll.cons (Sm.int (h z List.mem_cons_self)) (SmAll.ints r fun y hy => h y (List.mem_cons_of_mem _ hy))
    rw [List.map_cons, List.length_cons]
    rw [show 131 * (r.length + 1) = 130 + 1 + 131 * r.length by omega]
    exact q
theorem Sm.fits {w dp : Nat} {d : PyData} (a : Sm w dp d) (h : w ≤ 390000) : d.shown.length ≤ sizeLine := by
  have q := PyData.shown_le 40 (by decide) d a.lf
  have h2 : (40 + 2) * d.weight ≤ 42 * 390000 := Nat.mul_le_mul (by decide) (Nat.le_trans a.wt h)
  have e : 42 * 390000 + 40 ≤ sizeLine := by decide
  omega
section
variable {K : PySem.W.Frag} {H : Hp} {Q : VK}
theorem dp_ints (ns : List Int) : DpAll K H (ns.map V.int) (ns.map .int) := by
  induction ns with
  | nil => exact .nil
  | cons z r ih => exact .cons (.int z) ih
theorem rd_repr' {a : Addr} {d : PyData} {w dp : Nat} (h : Dp K H (.ref a) d) (s : Sm w dp d) (hw : w ≤ 390000) (hd : dp ≤ 128) (q : Q (.str d.shown) H) : rReprD K [.ref a] H Q := ⟨a, d, rfl, h, s.sh, s.cl, Nat.le_trans s.de hd, s.fits hw, q⟩
end
end Kt
/-! Kt, part E: enumerate over a tuple. -/
namespace Kt
open PySem PySem.Spec PyProof.Rows L2
/-- the items of the tuple at a in turn, each in a new pair behind its number -/
def ItEn (K : PySem.W.Frag) (a : Addr) : It where
  go := fun i H => ∃ (xs : List V) (x : V), SqT K H a xs ∧ xs[i]? = some x
  yld := fun i H v H' => ∃ T x, v = .ref T ∧ H T = none ∧ H' = upd H T (.tup [.int (i : Nat), x]) ∧ ∀ xs, SqT K H a xs → xs[i]? = some x
  stop := fun i H => ∃ xs : List V, SqT K H a xs ∧ xs.length ≤ i
theorem enum_off {h : Heap} {e it a : Addr} {i : Int} {old : Value} {xs : Array Value} (he : IsEnum h e it i old) (p : h.IsTuple a xs) : e ≠ a := by
  rintro rfl
  obtain ⟨o, e1, e2, _⟩ := p
  have he' : h.get? e = some _ := he
  rw [he'] at e1
  cases e1
  exact absurd (Value.type.inj e2) (by decide)
theorem turn_en {P : Program} {w : World} {K : PySem.W.Frag} {elts : List Expr} {kk : Nat} {tpos : Pos} (a e it : Addr) :
    Turn P w K (.Tuple elts kk tpos) (ItEn K a) [e, it] e (fun i h => (∃ old, IsEnum h e it ((i : Nat) : Int) old) ∧ h.IsTupleIter it a i ∧ e ≠ it) where
  mem := List.mem_cons_self
  obj := by
    rintro i h ⟨⟨old, he⟩, ⟨o, ho, hc, hd⟩, _⟩ b hb
    rcases List.mem_cons.mp hb with rfl | hb
    · exact ⟨_, he, fun v q => nomatch q⟩
    · rw [List.mem_singleton.mp hb]
      exact ⟨o, ho, fun v q => by rw [hd] at q; cases q⟩
  keep := by
    rintro i h h' ⟨⟨old, he⟩, hi, hne⟩ k
    exact ⟨⟨old, k e List.mem_cons_self _ he⟩, hi.at fun o q => k it (List.mem_cons_of_mem _ List.mem_cons_self) o q, hne⟩
  item := by
    intro X hP hw hK hc i pins s σ H E I hf st hg
    subst hP hw hK
    obtain ⟨⟨old, he⟩, hit, hne⟩ := st
    obtain ⟨xs, x, hq, hx⟩ := hg
    obtain ⟨its, rv, p, hz⟩ := I.tuple hq
    obtain ⟨u, hu, ru⟩ := rv.get hx
    have p' : s.heap.IsTuple a its.toArray := p
    have hea := enum_off he p'
    have lt : i < its.toArray.size := by
      rw [List.size_toArray]
      exact (List.getElem?_eq_some_iff.mp hu).1
    have hia : a ≠ it := by
      rintro rfl
      obtain ⟨o, e1, e2, _⟩ := p'
      obtain ⟨o', f1, f2, _⟩ := hit
      rw [e1] at f1
      cases f1
      rw [e2] at f2
      exact absurd (Value.type.inj f2) (by decide)
    have hel : e < s.heap.objs.size := Heap.lt_size he
    have hil : it < s.heap.objs.size := by obtain ⟨_, q, _⟩ := hit; exact Heap.lt_size q
    refine wpAny_pyNext_enum_itemD (Draws.tuple (A := X.A.in1) (I.ok.hd hc) it a hia its.toArray) he ⟨hit, p'⟩ lt hne (by simp [hne, hea]) fun y h' tk hP ho hs' hT hsz hk => ?_
    have ey : y = u := by
      have q : its.toArray[i]? = some y := hP
      rw [List.getElem?_toArray, hu] at q
      exact (Option.some.inj q).symm
    subst ey
    refine ⟨_, rfl, wpAny_letOwnedTupleGo_enum (s := { s with heap := h', toks := tk + 1 }) ho fun h'' he' sb => ?_⟩
    have off : ∀ b, b ∈ [e, it] → b ≠ s.heap.objs.size := fun b hb => by
      rcases List.mem_cons.mp hb with rfl | hb
      · exact Nat.ne_of_lt hel
      · rw [List.mem_singleton.mp hb]; exact Nat.ne_of_lt hil
    have hT2 : h''.get? s.heap.objs.size = some { cls := .type "tuple", data := .seq #[.int i tk, y] } := (sb.2 _ (Nat.ne_of_gt hel)).trans hT
    have new : ObjOk X.prog X.w (upd H s.heap.objs.size (.tup [.int (i : Nat), x])) h'' s.heap.objs.size (.tup [.int (i : Nat), x]) :=
      ⟨by show 2 ≤ sizeLine; decide, [.int i tk, y], .cons ⟨_, rfl⟩ (.cons ru .nil), ⟨_, hT2, rfl, _, rfl⟩⟩
    have I1 : Inv X pins σ (upd H s.heap.objs.size (.tup [.int (i : Nat), x])) { s with heap := h'', toks := tk + 1 } :=
      I.turnedNew (ch := [e, it]) (fun b ob hb q => (sb.2 b (fun z => hb (by simp [z]))).trans (hk b ob (fun z => hb (by simp [z])) (fun z => hb (by simp [z])) q)) hf (Nat.le_refl _) new
    refine ⟨.ref s.heap.objs.size, _, I1, rfl, ⟨_, x, rfl, I.hok.fresh (Nat.le_refl _), rfl, fun ys hy => by rw [I.tuple_inj hy hq]; exact hx⟩, ⟨⟨y, ?_⟩, hs'.1.at fun o q => (sb.2 it (Ne.symm hne)).trans q, hne⟩, fun b hb => ?_⟩
    · rw [show ((i + 1 : Nat) : Int) = (i : Int) + 1 by omega]
      exact he'
    · rw [upd_ne (off b hb)]
      exact (hf b hb).1
  done := by
    intro X hP hw hK hc i pins s σ H E I hf st hg
    subst hP hw hK
    obtain ⟨⟨old, he⟩, hit, hne⟩ := st
    obtain ⟨xs, hq, hx⟩ := hg
    obtain ⟨its, rv, p, hz⟩ := I.tuple hq
    have p' : s.heap.IsTuple a its.toArray := p
    obtain ⟨f0, f1, f2, f3, f4, f5⟩ := hf it (List.mem_cons_of_mem _ List.mem_cons_self)
    have hl := rv.length
    have hT : s.TypeIs (.ref e) "enumerate" := ⟨_, he, rfl⟩
    unfold pyNext
    refine wpAny_bind (wpAny_attempt (wpAny_callSpecial?_slot (name := Str.ofString "__next__") hT F.slot_enumerate_next (wpAny_call_entry F.slot_enumerate_next hT F.entry_enumerate_next ?_ (F.args_enumerate_next_1 _))))
    show wpAny _ _ (field (.ref e) 2 >>= _) _ _ _
    refine wpAny_bind (wpAny_field he rfl (x := .ref it) rfl ?_)
    refine wpAny_bind (wpAny_nextOf_tuple_end (A := X.A.in1) (I.ok.hd hc) hit p' (by simp; omega) fun h' x he' hx' => ?_)
    obtain ⟨o, ho, hc'⟩ := hx'
    refine wpAny_bind (wpAny_isInstance (T := "StopIteration") (b := true) ⟨o, ho, hc'⟩ isSubtype_stop ?_)
    exact wpAny_pure ⟨rfl, I.turned (t' := s.toks) (fun b o hb q => he' b o hb q) f0 f1 f3 f4 f5⟩
  self := fun A i s Q E st h => let ⟨⟨_, he⟩, _⟩ := st; wpAny_pyIter_enum he h

theorem meets_en_new (l : Addr) (o : Obj) (ho : o.cls = .type "tuple") (items : Array Value) (n : Nat) (hd : o.data = .seq items n) :
    Meets (Builtin.«enumerate.__new__» ⟨[.type "enumerate", .ref l], []⟩) (fun _ R s => s.heap.get? l = some o ∧
      R (.ok (.ret (.ref (s.heap.push { cls := .type "tuple_iterator", data := .fields #[.ref l, .int 0 0] }).objs.size)))
        { s with heap := (s.heap.push { cls := .type "tuple_iterator", data := .fields #[.ref l, .int 0 0] }).push { cls := .type "enumerate", data := .fields #[.none, .bool false, .ref s.heap.objs.size, rawInt 0, .none, .none] } }) :=
  .of_wp fun prog w A R s h => by
    obtain ⟨hp, g, d, tk, os⟩ := s
    obtain ⟨hl, h⟩ := h
    have hsub := sub_enumerate
    have hL : Heap.IsTuple (Shared.heap ⟨hp, g, d, tk, os⟩) l items := ⟨_, hl, ho, n, hd⟩
    wp_walk using wpAny_pyIter_tuple hL
    refine wpAny_stack_any fun st => wpAny_pure ?_
    split
    · rename_i c _ _ _ _ _
      cases (c == Value.type "enumerate") <;> (wp_walk using wpAny_pyIter_tuple hL; exact ⟨_, rfl, h⟩)
    · wp_walk using wpAny_pyIter_tuple hL
      exact ⟨_, rfl, h⟩
section
variable {prog : Program} {w : World} {A : Around} {E : Value → Shared → Prop} {s : Shared}
theorem call_en {l : Addr} {items : Array Value} {Q : Value → Shared → Prop} (hL : s.heap.IsTuple l items)
    (h : ∀ h', IsEnum h' (s.heap.objs.size + 1) s.heap.objs.size 0 .none → h'.IsTupleIter s.heap.objs.size l 0 → (∀ b o, s.heap.get? b = some o → h'.get? b = some o) → Q (.ref (s.heap.objs.size + 1)) { s with heap := h' }) :
    wpAny (model prog w) A (call (.type "enumerate") [.ref l]) Q E s := by
  obtain ⟨o, hl, hc, n, hd⟩ := hL
  refine callType_new F.called_enumerate (by decide) (F.typeCall_enumerate_1 _) (F.newCall_enumerate_1 _) (fun obj => F.args_object_init_2 obj _) F.entry_enumerate_new (meets_en_new l o hc items n hd) ⟨hl, ?_⟩
  have hz : (s.heap.push { cls := .type "tuple_iterator", data := .fields #[.ref l, .int 0 0] }).objs.size = s.heap.objs.size + 1 := Heap.size_push ..
  show _ ∧ _
  rw [hz]
  have he : IsEnum ((s.heap.push { cls := .type "tuple_iterator", data := .fields #[.ref l, .int 0 0] }).push
      { cls := .type "enumerate", data := .fields #[.none, .bool false, .ref s.heap.objs.size, rawInt 0, .none, .none] }) (s.heap.objs.size + 1) s.heap.objs.size 0 .none := by
    rw [← hz]
    exact Heap.get?_push_size _ rfl
  exact ⟨⟨_, he, rfl⟩, h _ he ⟨_, Heap.get?_push_of_some _ (Heap.get?_push_size _ rfl), rfl, rfl⟩ fun b o x => Heap.get?_push_of_some _ (Heap.get?_push_of_some _ x)⟩
end
def EnW (K : PySem.W.Frag) (vs : List V) (H : Hp) (R : It → Hp → Prop) : Prop := ∃ a xs, vs = [.ref a] ∧ SqT K H a xs ∧ R (ItEn K a) H
def iEnT (K : PySem.W.Frag) (ta : TA) : TI := fun σ H R => ta σ H fun vs H1 => EnW K vs H1 R
theorem pi_enT {X : Cx} {e : Expr} {ta : TA} {p pos tpos : Pos} {elts : List Expr} {kk : Nat} (hg : Gl X "enumerate") (hm : X.mg "enumerate" = none) (ha : PA X [e] ta) (hs : starEach [e] X.env = [(false, eval e X.env)] := by rfl) :
    PI X (.Tuple elts kk tpos) (.Call (.Name "enumerate" p) [e] [] pos) (iEnT X.K ta) := by
  refine ⟨fun pins s σ H R I h => ?_⟩
  refine Call_ (ld_blt I hg hm boot_enumerate (PyProof.Rows.callWith_type1 (thn (ha.run pos pins s σ H _ I h) fun us s1 ⟨vs, H1, I1, r1, a, xs, ex, hq, q⟩ => ?_) hs rfl))
  subst ex
  obtain ⟨u, rfl, r⟩ := vals1 r1
  cases r
  obtain ⟨its, rv, p', hz⟩ := I1.tuple hq
  refine call_en (show s1.heap.IsTuple a its.toArray from p') fun h' he hit hk => wpAny_pyIter_enum he ?_
  have I2 : Inv X pins σ H1 { s1 with heap := h' } := I1.kept (t' := s1.toks) hk
  refine ⟨s1.heap.objs.size + 1, [s1.heap.objs.size + 1, s1.heap.objs.size], _, _, H1, rfl, I2, turn_en a (s1.heap.objs.size + 1) s1.heap.objs.size, ⟨⟨.none, he⟩, hit, Nat.succ_ne_self _⟩, fun b hb => ?_, q⟩
  have hle : s1.heap.objs.size ≤ b := by
    rcases List.mem_cons.mp hb with rfl | hb
    · exact Nat.le_add_right _ _
    · rw [List.mem_singleton.mp hb]; exact Nat.le_refl _
  exact I1.fpOk hle (I1.hok.fresh hle)
section
variable {K : PySem.W.Frag} {g : TG} {tb : TS} {D : Ends} {σ : L2.St} {H : Hp} {R : It → Hp → Prop} {ta : TA}
theorem rd_enT (q : ta σ H fun vs H1 => EnW K vs H1 R) : iEnT K ta σ H R := q
theorem rd_enW {a : Addr} {xs : List V} (h : SqT K H a xs) (q : R (ItEn K a) H) : EnW K [.ref a] H R := ⟨a, xs, rfl, h, q⟩
/-- for i, x in enumerate(t) -/
theorem rd_forEn {a : Addr} (xs : List V) (Pv : Nat → L2.St → Hp → Prop) (h0 : Pv 0 σ H) (hl : ∀ i σ' H', i ≤ xs.length → Pv i σ' H' → SqT K H' a xs)
    (hs : ∀ i x T σ' H' H2, xs[i]? = some x → Pv i σ' H' → H' T = none → Evl.Ex H' H2 → H2 T = some (.tup [.int (i : Nat), x]) → g (.ref T) σ' H2 fun σ2 H3 => tb { D with nx := Pv (i + 1), ct := Pv (i + 1), bk := D.nx } σ2 H3)
    (hd : ∀ σ' H', Pv xs.length σ' H' → D.nx σ' H') : ForW (ItEn K a) g tb D σ H := by
  refine ⟨fun i m σ H => m = xs.length - i ∧ i ≤ xs.length ∧ Pv i σ H, ⟨xs.length, rfl, Nat.zero_le _, h0⟩, ?_⟩
  rintro i m σ H ⟨rfl, hi, p⟩
  have q := hl i σ H hi p
  by_cases hlt : i < xs.length
  · have hx : xs[i]? = some xs[i] := List.getElem?_eq_getElem hlt
    refine .inr ⟨⟨xs, _, q, hx⟩, Pv (i + 1), fun σ' H' p' => ⟨xs.length - (i + 1), by omega, rfl, hlt, p'⟩, fun v H' y => ?_⟩
    obtain ⟨T, x', rfl, hT, rfl, f1⟩ := y
    exact hs i x' T σ H _ (f1 xs q) p hT (Evl.Ex.new hT) upd_same
  · have e : i = xs.length := by omega
    subst e
    exact .inl ⟨⟨xs, q, Nat.le_refl _⟩, hd σ H p⟩
end
end Kt
set_option maxHeartbeats 2000000
/-! Kt, part F: list(zip(t, u)) of two tuples of one length. -/
namespace Kt
open PySem PySem.Spec PyProof.Rows L2
/-- a zip of two tuples that has given k pairs, the last of which may still be out -/
structure ZSt (h : Heap) (z TI TO i1 i2 a b S : Addr) (xs ys : Array Value) (k : Nat) : Prop where
  ti : IsPair h TI (.ref i1) (.ref i2)
  t1 : h.IsTupleIter i1 a k
  t2 : h.IsTupleIter i2 b k
  a1 : h.IsTuple a xs
  a2 : h.IsTuple b ys
  st : (IsZip h z TI TO .none ∧ ∃ x y, IsPair h TO x y) ∨ ∃ T f oT, PySem.IsZipHeld h z TI TO T f ∧ h.get? T = some oT ∧ T ≠ z ∧ T ≠ TO ∧ T ≠ i1 ∧ T ≠ i2 ∧ T ≠ S
theorem ZSt.zip {h : Heap} {z TI TO i1 i2 a b S : Addr} {xs ys : Array Value} {k : Nat} (t : ZSt h z TI TO i1 i2 a b S xs ys k) : ∃ o, h.get? z = some o ∧ o.cls = .type "zip" := by
  rcases t.st with ⟨q, _⟩ | ⟨T, f, oT, q, _⟩
  · exact ⟨_, q, rfl⟩
  · exact ⟨_, q, rfl⟩
theorem ZSt.keep {h h' : Heap} {z TI TO i1 i2 a b S : Addr} {xs ys : Array Value} {k : Nat} (t : ZSt h z TI TO i1 i2 a b S xs ys k) (hz : z ≠ S) (hTI : TI ≠ S) (hTO : TO ≠ S) (h1 : i1 ≠ S) (h2 : i2 ≠ S) (ha : a ≠ S) (hb : b ≠ S)
    (kp : ∀ c o, c ≠ S → h.get? c = some o → h'.get? c = some o) : ZSt h' z TI TO i1 i2 a b S xs ys k := by
  refine ⟨kp _ _ hTI t.ti, t.t1.at fun o q => kp _ o h1 q, t.t2.at fun o q => kp _ o h2 q, let ⟨o, q, r⟩ := t.a1; ⟨o, kp _ o ha q, r⟩, let ⟨o, q, r⟩ := t.a2; ⟨o, kp _ o hb q, r⟩, ?_⟩
  rcases t.st with ⟨q, x, y, r⟩ | ⟨T, f, oT, q, r, n1, n2, n3, n4, n5⟩
  · exact .inl ⟨kp _ _ hz q, x, y, kp _ _ hTO r⟩
  · exact .inr ⟨T, f, oT, kp _ _ hz q, kp _ _ n5 r, n1, n2, n3, n4, n5⟩
section
variable {prog : Program} {w : World} {A : Around} {E : Value → Shared → Prop} {s : Shared} {z TI TO i1 i2 a b S : Addr} {xs ys : Array Value} {k : Nat}
theorem zl_held {T : Addr} {f : Bool} {oT : Obj} {x y : Value} {Q : Value → Shared → Prop} (D : ZipApart z TI TO i1 i2 a b) (hz : PySem.IsZipHeld s.heap z TI TO T f) (hT : s.heap.get? T = some oT) (hTI : IsPair s.heap TI (.ref i1) (.ref i2))
    (h1 : s.heap.IsTupleIter i1 a k) (h2 : s.heap.IsTupleIter i2 b k) (hl1 : s.heap.IsTuple a xs) (hl2 : s.heap.IsTuple b ys) (hx : xs[k]? = some x) (hy : ys[k]? = some y)
    (hQ : ∀ h', PySem.IsZipHeld h' z TI TO T true → h'.IsTupleIter i1 a (k + 1) → h'.IsTupleIter i2 b (k + 1) → IsPair h' s.heap.objs.size x y → h'.objs.size = s.heap.objs.size + 1 →
      (∀ c o, c ≠ z → c ≠ i1 → c ≠ i2 → s.heap.get? c = some o → h'.get? c = some o) → Q (.ref s.heap.objs.size) { s with heap := h' }) :
    wpAny (model prog w) A (Builtin.«zip.__next__» ⟨[.ref z], []⟩) (fun fin s' => ∃ v, fin = .done (.ret v) ∧ Q v s') E s := by
  show wpAny _ _ (field (.ref z) 2 >>= _) _ _ _
  refine wpAny_bind (wpAny_field hz rfl (x := .bool false) rfl ?_)
  show wpAny _ _ (field (.ref z) 3 >>= _) _ _ _
  refine wpAny_bind (wpAny_field hz rfl (x := .ref TI) rfl (wpAny_bind (wpAny_seqItems hTI rfl ?_)))
  show wpAny _ _ (Builtin.SmallTypes.ownedTupleIsFree (.ref z) >>= _) _ _ _
  refine wpAny_bind (PySem.wpAny_tupleHeld_zip hz hT fun u1 z1 s1 => ?_)
  simp only [Bool.false_eq_true, if_false]
  refine wpAny_bind ?_
  rw [← Array.forIn_toList]
  simp only [List.forIn_cons, List.forIn_nil]
  refine wpAny_bind (wpAny_bind (wpAny_holding ?_))
  show wpAny _ _ (Builtin.SmallTypes.nextOf (.ref i1) >>= _) _ _ _
  refine wpAny_bind (RZ.nextOf_tuple_item (s := { s with heap := u1 }) (h1.extBut s1.extBut D.i1z) (hl1.extBut s1.extBut D.l1z) hx fun u2 j1 s2 => wpAny_pure (wpAny_pure ?_))
  refine wpAny_bind (wpAny_bind (wpAny_holding ?_))
  show wpAny _ _ (Builtin.SmallTypes.nextOf (.ref i2) >>= _) _ _ _
  refine wpAny_bind (RZ.nextOf_tuple_item (s := { s with heap := u2 }) ((h2.extBut s1.extBut D.i2z).extBut s2.extBut D.i12.symm) ((hl2.extBut s1.extBut D.l2z).extBut s2.extBut D.l2i1) hy fun u3 j2 s3 => wpAny_pure (wpAny_pure (wpAny_pure ?_)))
  show wpAny _ _ (newTuple [x, y] >>= _) _ _ _
  refine wpAny_bind (wpAny_newTuple ?_)
  have sz : u3.objs.size = s.heap.objs.size := by rw [s3.1, s2.1, s1.1]
  have kp : ∀ c o, c ≠ z → c ≠ i1 → c ≠ i2 → s.heap.get? c = some o → u3.get? c = some o := fun c o n1 n2 n3 e => s3.extBut _ _ n3 (s2.extBut _ _ n2 (s1.extBut _ _ n1 e))
  have z3 : PySem.IsZipHeld u3 z TI TO T true := s3.extBut _ _ D.i2z.symm (s2.extBut _ _ D.i1z.symm z1)
  have j3 : u3.IsTupleIter i1 a (k + 1) := j1.extBut s3.extBut D.i12
  refine wpAny_pure ⟨_, rfl, ?_⟩
  have np : IsPair (u3.push { cls := .type "tuple", data := .seq #[x, y] }) u3.objs.size x y := Heap.get?_push_size _ rfl
  have nz : (u3.push { cls := .type "tuple", data := .seq #[x, y] }).objs.size = u3.objs.size + 1 := Heap.size_push ..
  show Q (.ref u3.objs.size) _
  rw [sz] at np nz ⊢
  exact hQ _ (Heap.get?_push_of_some _ z3) (j3.at fun o e => Heap.get?_push_of_some _ e) (j2.at fun o e => Heap.get?_push_of_some _ e) np nz fun c o n1 n2 n3 e => Heap.get?_push_of_some _ (kp c o n1 n2 n3 e)
theorem zl_held_end {T : Addr} {f : Bool} {oT : Obj} {Q : Fin → Shared → Prop} (hh : A.handled = none) (D : ZipApart z TI TO i1 i2 a b) (hz : PySem.IsZipHeld s.heap z TI TO T f) (hT : s.heap.get? T = some oT) (hTI : IsPair s.heap TI (.ref i1) (.ref i2))
    (h1 : s.heap.IsTupleIter i1 a k) (hl1 : s.heap.IsTuple a xs) (hx : xs[k]? = none)
    (hE : ∀ h' e, (∀ c o, c ≠ z → c ≠ i1 → c ≠ i2 → s.heap.get? c = some o → h'.get? c = some o) → (∃ o, h'.get? e = some o ∧ o.cls = .type "StopIteration") → E (.ref e) { s with heap := h' }) :
    wpAny (model prog w) A (Builtin.«zip.__next__» ⟨[.ref z], []⟩) Q E s := by
  show wpAny _ _ (field (.ref z) 2 >>= _) _ _ _
  refine wpAny_bind (wpAny_field hz rfl (x := .bool false) rfl ?_)
  show wpAny _ _ (field (.ref z) 3 >>= _) _ _ _
  refine wpAny_bind (wpAny_field hz rfl (x := .ref TI) rfl (wpAny_bind (wpAny_seqItems hTI rfl ?_)))
  show wpAny _ _ (Builtin.SmallTypes.ownedTupleIsFree (.ref z) >>= _) _ _ _
  refine wpAny_bind (PySem.wpAny_tupleHeld_zip hz hT fun u1 z1 s1 => ?_)
  simp only [Bool.false_eq_true, if_false]
  refine wpAny_bind ?_
  rw [← Array.forIn_toList]
  simp only [List.forIn_cons, List.forIn_nil]
  refine wpAny_bind (wpAny_bind (wpAny_holding ?_))
  show wpAny _ _ (Builtin.SmallTypes.nextOf (.ref i1) >>= _) _ _ _
  refine wpAny_bind (RZ.nextOf_tuple_end (s := { s with heap := u1 }) hh (h1.extBut s1.extBut D.i1z) (hl1.extBut s1.extBut D.l1z) hx fun u2 e s2 he => ?_)
  exact hE u2 e (fun c o n1 n2 _ x => s2 _ _ n2 (s1.extBut _ _ n1 x)) he
theorem zl_item {x y : Value} {Q : Option Value → Shared → Prop} (D : ZipApart z TI TO i1 i2 a b) (t : ZSt s.heap z TI TO i1 i2 a b S xs ys k) (hS : S < s.heap.objs.size) (hx : xs[k]? = some x) (hy : ys[k]? = some y)
    (hQ : ∀ h', ZSt h' z TI TO i1 i2 a b S xs ys (k + 1) → IsPair h' s.heap.objs.size x y → h'.objs.size = s.heap.objs.size + 1 → (∀ c o, c ≠ z → c ≠ TO → c ≠ i1 → c ≠ i2 → s.heap.get? c = some o → h'.get? c = some o) → Q (some (.ref s.heap.objs.size)) { s with heap := h' }) :
    wpAny (model prog w) A (pyNext (.ref z)) Q E s := by
  have lt : ∀ {c o}, s.heap.get? c = some o → s.heap.objs.size ≠ c := fun e => Nat.ne_of_gt (Heap.lt_size e)
  obtain ⟨o1, e1, r1⟩ := id t.t1
  obtain ⟨o2, e2, r2⟩ := id t.t2
  obtain ⟨oa, ea, ra⟩ := id t.a1
  obtain ⟨ob, eb, rb⟩ := id t.a2
  rcases t.st with ⟨q, x0, y0, r⟩ | ⟨T, f, oT, q, r, n1, n2, n3, n4, n5⟩
  · refine RZ.pyNext_zipT_item D q t.ti r t.t1 t.t2 t.a1 t.a2 hx hy fun h' z' TO' j1 j2 p sz kp => ?_
    exact hQ h' ⟨kp _ _ D.TIz D.TITO D.TIi1 D.TIi2 t.ti, j1, j2, ⟨oa, kp _ _ D.l1z D.l1TO D.l1i1 D.l1i2 ea, ra⟩, ⟨ob, kp _ _ D.l2z D.l2TO D.l2i1 D.l2i2 eb, rb⟩, .inr ⟨s.heap.objs.size, false, _, z', p, lt q, lt r, lt e1, lt e2, Nat.ne_of_gt hS⟩⟩ p sz kp
  · have hTy : s.TypeIs (.ref z) "zip" := ⟨_, q, rfl⟩
    unfold pyNext
    refine wpAny_bind (wpAny_attempt (wpAny_callSpecial?_slot (name := Str.ofString "__next__") hTy F.slot_zip_next (wpAny_call_entry F.slot_zip_next hTy F.entry_zip_next
      (zl_held D q r t.ti t.t1 t.t2 t.a1 t.a2 hx hy fun h' z' j1 j2 p sz kp => wpAny_pure ?_) (F.args_zip_next_1 _))))
    exact hQ h' ⟨kp _ _ D.TIz D.TIi1 D.TIi2 t.ti, j1, j2, ⟨oa, kp _ _ D.l1z D.l1i1 D.l1i2 ea, ra⟩, ⟨ob, kp _ _ D.l2z D.l2i1 D.l2i2 eb, rb⟩, .inr ⟨T, true, oT, z', kp _ _ n1 n3 n4 r, n1, n2, n3, n4, n5⟩⟩ p sz fun c o m1 _ m3 m4 e => kp c o m1 m3 m4 e
theorem zl_end {Q : Option Value → Shared → Prop} (hh : A.handled = none) (D : ZipApart z TI TO i1 i2 a b) (t : ZSt s.heap z TI TO i1 i2 a b S xs ys k) (hx : xs[k]? = none)
    (hQ : ∀ h', (∀ c o, c ≠ z → c ≠ TO → c ≠ i1 → c ≠ i2 → s.heap.get? c = some o → h'.get? c = some o) → Q none { s with heap := h' }) : wpAny (model prog w) A (pyNext (.ref z)) Q E s := by
  rcases t.st with ⟨q, x0, y0, r⟩ | ⟨T, f, oT, q, r, n1, n2, n3, n4, n5⟩
  · exact RZ.pyNext_zipT_end hh D q t.ti r t.t1 t.t2 t.a1 t.a2 (.inl hx) hQ
  · have hTy : s.TypeIs (.ref z) "zip" := ⟨_, q, rfl⟩
    unfold pyNext
    refine wpAny_bind (wpAny_attempt (wpAny_callSpecial?_slot (name := Str.ofString "__next__") hTy F.slot_zip_next (wpAny_call_entry F.slot_zip_next hTy F.entry_zip_next
      (zl_held_end (A := A.in1) hh D q r t.ti t.t1 t.a1 hx fun h' e kp he => ?_) (F.args_zip_next_1 _))))
    obtain ⟨o, ho, hc⟩ := he
    refine wpAny_bind (wpAny_isInstance (T := "StopIteration") (b := true) ⟨o, ho, hc⟩ isSubtype_stop ?_)
    exact wpAny_pure (hQ _ fun c o m1 _ m3 m4 e => kp c o m1 m3 m4 e)
end
/-- the pairs laid behind lo at the addresses as -/
structure ZG (xs ys : Array Value) (lo : Addr) (h : Heap) (as : List Addr) : Prop where
  rise : as.Pairwise (· < ·)
  above : ∀ c ∈ as, lo < c
  pairs : ∀ (j : Nat) (c : Addr), as[j]? = some c → ∃ x y, xs[j]? = some x ∧ ys[j]? = some y ∧ IsPair h c x y
theorem ZG.there {xs ys : Array Value} {lo : Addr} {h : Heap} {as : List Addr} (g : ZG xs ys lo h as) {c : Addr} (hc : c ∈ as) : c < h.objs.size := by
  obtain ⟨j, hj⟩ := List.mem_iff_getElem?.mp hc
  obtain ⟨_, _, _, _, e⟩ := g.pairs j c hj
  exact Heap.lt_size e
theorem ZG.keep {xs ys : Array Value} {lo : Addr} {h h' : Heap} {as : List Addr} (g : ZG xs ys lo h as) (k : ∀ c o, lo < c → h.get? c = some o → h'.get? c = some o) : ZG xs ys lo h' as :=
  ⟨g.rise, g.above, fun j c e => let ⟨x, y, e1, e2, e3⟩ := g.pairs j c e; ⟨x, y, e1, e2, k c _ (g.above c (List.mem_of_getElem? e)) e3⟩⟩
theorem ZG.push {xs ys : Array Value} {lo c : Addr} {h : Heap} {as : List Addr} {x y : Value} (g : ZG xs ys lo h as) (hl : ∀ b ∈ as, b < c) (hc : lo < c) (hx : xs[as.length]? = some x) (hy : ys[as.length]? = some y) (p : IsPair h c x y) : ZG xs ys lo h (as ++ [c]) := by
  refine ⟨List.pairwise_append.mpr ⟨g.rise, List.pairwise_singleton _ _, fun b hb d hd => ?_⟩, fun b hb => ?_, fun j d hj => ?_⟩
  · rw [List.mem_singleton.mp hd]; exact hl b hb
  · rcases List.mem_append.mp hb with hb | hb
    · exact g.above b hb
    · rw [List.mem_singleton.mp hb]; exact hc
  · rcases Nat.lt_trichotomy j as.length with q | q | q
    · rw [List.getElem?_append_left q] at hj
      exact g.pairs j d hj
    · subst q
      have e : c = d := by simpa using hj
      subst e
      exact ⟨x, y, hx, hy, p⟩
    · rw [List.getElem?_eq_none (by rw [List.length_append, List.length_singleton]; omega)] at hj
      cases hj
abbrev lstAt (acc : Array Value) (c : Nat) : Obj := { cls := .type "list", dict := none, data := .seq acc c, slots := #[] }
section
variable {prog : Program} {w : World} {A : Around} {s : Shared} {R : Result → Shared → Prop} {z TI TO i1 i2 a b S : Addr} {xs ys : Array Value}
theorem zl_loop (hh : A.handled = none) (D : ZipApart z TI TO i1 i2 a b) (hxy : xs.size = ys.size) (hn : xs.size ≤ sizeLine) (res : Value) {h₁ : Heap} (ns : S ≠ z ∧ S ≠ TI ∧ S ≠ TO ∧ S ≠ i1 ∧ S ≠ i2 ∧ S ≠ a ∧ S ≠ b)
    (lo : Addr) (hlo : S ≤ lo ∧ z ≤ lo ∧ TO ≤ lo ∧ i1 ≤ lo ∧ i2 ≤ lo)
    (hR : ∀ h' tk acc c as, (∀ d o, d ≠ S → d ≠ z → d ≠ TO → d ≠ i1 → d ≠ i2 → h₁.get? d = some o → h'.get? d = some o) → h'.get? S = some (lstAt acc c) → as.length = xs.size → ZG xs ys lo h' as → acc.toList = as.map Value.ref → R (.ok (.ret res)) { s with heap := h', toks := tk }) :
    ∀ (m i : Nat) (h : Heap) (tk c : Nat) (acc : Array Value) (as : List Addr), xs.size - i = m → i ≤ xs.size → ZSt h z TI TO i1 i2 a b S xs ys i → (∀ d o, d ≠ S → d ≠ z → d ≠ TO → d ≠ i1 → d ≠ i2 → h₁.get? d = some o → h.get? d = some o) →
      h.get? S = some (lstAt acc c) → acc.toList = as.map Value.ref → as.length = i → ZG xs ys lo h as → lo < h.objs.size →
      codeAny (model prog w) A (.builtin "list.extend.loop" ⟨[.ref S, .ref z, res], []⟩) R { s with heap := h, toks := tk } := by
  obtain ⟨nz, nTI, nTO, n1, n2, na, nb⟩ := ns
  obtain ⟨l0, l1, l2, l3, l4⟩ := hlo
  have off : ∀ {d y : Addr}, lo < d → y ≤ lo → d ≠ y := fun q l e => Nat.lt_irrefl lo (Nat.lt_of_lt_of_le q (Nat.le_trans (Nat.le_of_eq e) l))
  intro m
  induction m with
  | zero =>
    intro i h tk c acc as hm hi t kp hS hacc hl hG hs
    refine codeAny_builtin F.entry_extend_loop ?_
    rw [Around.under_plainId F.plain_extend_loop _]
    show wpAny _ A.in1 (pyNext (.ref z) >>= _) _ _ _
    refine wpAny_bind (zl_end (s := { s with heap := h, toks := tk }) (A := A.in1) hh D t (Array.getElem?_eq_none (by omega)) fun h' k' => ?_)
    refine wpAny_pure (hR h' tk acc c as (fun d o m1 m2 m3 m4 m5 e => k' d o m2 m3 m4 m5 (kp d o m1 m2 m3 m4 m5 e)) (k' S _ nz nTO n1 n2 hS) (by omega) (hG.keep fun d o q e => k' d o (off q l1) (off q l2) (off q l3) (off q l4) e) hacc)
  | succ m ih =>
    intro i h tk c acc as hm hi t kp hS hacc hl hG hs
    have lt : i < xs.size := by omega
    have hx : xs[i]? = some xs[i] := Array.getElem?_eq_getElem lt
    have hy : ys[i]? = some (ys[i]'(by omega)) := Array.getElem?_eq_getElem (by omega)
    have hsz : acc.size = i := by rw [← Array.length_toList, hacc, List.length_map, hl]
    refine codeAny_builtin F.entry_extend_loop ?_
    rw [Around.under_plainId F.plain_extend_loop _]
    show wpAny _ A.in1 (pyNext (.ref z) >>= _) _ _ _
    refine wpAny_bind (zl_item (s := { s with heap := h, toks := tk }) (S := S) D t (Heap.lt_size hS) hx hy fun h' t' p sz k' => ?_)
    dsimp only at p sz k' ⊢
    have hS' := k' S _ nz nTO n1 n2 hS
    have up : ∀ d o, d ≠ S → h'.get? d = some o → (h'.update S (Obj.mapSeq (·.push (Value.ref h.objs.size)))).get? d = some o := fun d o hd e => (Heap.get?_update_other _ _ (Ne.symm hd)).trans e
    have hSl : S < h.objs.size := Heap.lt_size hS
    have szu : (h'.update S (Obj.mapSeq (·.push (Value.ref h.objs.size)))).get? h.objs.size = _ := up _ _ (Nat.ne_of_gt hSl) p
    show wpAny _ A.in1 (updateSeq S (·.push (Value.ref h.objs.size)) >>= _) _ _ _
    refine wpAny_bind ?_
    refine wpAny_updateSeq hS' rfl (wpAny_pure ⟨plainId_quiet F.plain_extend_loop _, ih (i + 1) _ tk _ (acc.push (Value.ref h.objs.size)) (as ++ [h.objs.size]) (by omega) lt (t'.keep (Ne.symm nz) (Ne.symm nTI) (Ne.symm nTO) (Ne.symm n1) (Ne.symm n2) (Ne.symm na) (Ne.symm nb) up)
      (fun d o m1 m2 m3 m4 m5 e => up d o m1 (k' d o m2 m3 m4 m5 (kp d o m1 m2 m3 m4 m5 e))) (Heap.get?_update_self _ hS' rfl) (by rw [Array.toList_push, hacc, List.map_append]; rfl) (by rw [List.length_append, hl]; rfl) ?_ ?_⟩) (by rw [hsz]; omega) (by show (acc.push (Value.ref h.objs.size)).size ≤ sizeLine + 1; rw [Array.size_push, hsz]; omega)
    · refine ZG.push (hG.keep fun d o q e => up d o (off q l0) (k' d o (off q l1) (off q l2) (off q l3) (off q l4) e)) (fun d hd => hG.there hd) hs (by rw [hl]; exact hx) (by rw [hl]; exact hy) szu
    · exact Nat.lt_trans hs (Heap.lt_size szu)
end
theorem zip_no_len : typeLookup (.type "zip") "__len__" = pure none := am_miss_of_fast (by decide +kernel)
theorem zip_no_hint : typeLookup (.type "zip") "__length_hint__" = pure none := am_miss_of_fast (by decide +kernel)
end Kt
set_option maxHeartbeats 2000000
/-! Kt, part G: list(zip(t, u)): the call, and what is tracked behind it. -/
namespace Kt
open PySem PySem.Spec PyProof.Rows L2
section
variable {prog : Program} {w : World} {A : Around} {E : Value → Shared → Prop} {s : Shared} {z TI TO i1 i2 a b : Addr} {xs ys : Array Value}
theorem zl_extend {R : Result → Shared → Prop} {S : Addr} (hh : A.handled = none) (D : ZipApart z TI TO i1 i2 a b) (hxy : xs.size = ys.size) (hn : xs.size ≤ sizeLine) (res : Value) (t : ZSt s.heap z TI TO i1 i2 a b S xs ys 0) (q0 : IsZip s.heap z TI TO .none) (c₀ : Nat)
    (ns : z < S ∧ TI < S ∧ TO < S ∧ i1 < S ∧ i2 < S ∧ a < S ∧ b < S) (hS : s.heap.get? S = some (lstAt #[] c₀))
    (hR : ∀ h' tk acc c as, (∀ d o, d ≠ S → d ≠ z → d ≠ TO → d ≠ i1 → d ≠ i2 → s.heap.get? d = some o → h'.get? d = some o) → h'.get? S = some (lstAt acc c) → as.length = xs.size → ZG xs ys S h' as → acc.toList = as.map Value.ref → R (.ok (.ret res)) { s with heap := h', toks := tk }) :
    wpAny (model prog w) A.in1 (Builtin.List.listExtendWith (.ref S) (.ref z) res)
      (fun fin s' => match fin with | .done f => R (.ok f) s' | .again c' => c'.quiet = true ∧ codeAny (model prog w) A c' R s') (fun e s' => R (.error e) s') s := by
  obtain ⟨n1, n2, n3, n4, n5, n6, n7⟩ := ns
  have hT : s.TypeIs (.ref z) "zip" := t.zip
  have go : ∀ (h : Heap) (c tk : Nat), (∀ d o, d ≠ S → s.heap.get? d = some o → h.get? d = some o) → h.get? S = some (lstAt #[] c) → codeAny (model prog w) A (.builtin "list.extend.loop" ⟨[.ref S, .ref z, res], []⟩) R { s with heap := h, toks := tk } := fun h c tk k hS' =>
    zl_loop (A := A) (s := s) (R := R) hh D hxy hn res (h₁ := s.heap) ⟨Nat.ne_of_gt n1, Nat.ne_of_gt n2, Nat.ne_of_gt n3, Nat.ne_of_gt n4, Nat.ne_of_gt n5, Nat.ne_of_gt n6, Nat.ne_of_gt n7⟩ S ⟨Nat.le_refl _, Nat.le_of_lt n1, Nat.le_of_lt n3, Nat.le_of_lt n4, Nat.le_of_lt n5⟩ hR xs.size 0 h tk c #[] [] rfl (Nat.zero_le _)
      (t.keep (Nat.ne_of_lt n1) (Nat.ne_of_lt n2) (Nat.ne_of_lt n3) (Nat.ne_of_lt n4) (Nat.ne_of_lt n5) (Nat.ne_of_lt n6) (Nat.ne_of_lt n7) k) (fun d o m1 _ _ _ _ e => k d o m1 e) hS' rfl rfl ⟨List.Pairwise.nil, fun _ q => (nomatch q), fun j c q => by simp at q⟩ (Heap.lt_size hS')
  unfold Builtin.List.listExtendWith
  refine wpAny_bind (wpAny_typeOf hT ?_)
  have h1 : Builtin.List.listSameRef (.ref S) (.ref z) = false := by simp [Builtin.List.listSameRef, Nat.ne_of_gt n1]
  have h2 : (Value.type "zip" == Value.type "list") = false := by decide
  have h3 : (Value.type "zip" == Value.type "tuple") = false := by decide
  simp only [h1, h2, h3, Bool.or_false, Bool.false_eq_true, if_false]
  refine wpAny_bind (wpAny_pyIter_zip q0 ?_)
  refine wpAny_bind (wpAny_holding ?_)
  unfold Builtin.List.listLengthHint
  refine wpAny_bind (wpAny_specialOf hT zip_no_len ?_)
  show wpAny _ A.in1 (specialOf (Value.ref z) (Str.ofString "__length_hint__") >>= _) _ _ _
  refine wpAny_bind (wpAny_specialOf hT zip_no_hint ?_)
  refine wpAny_pure ?_
  show wpAny _ A.in1 (rule "list.extend.makes-room" >>= fun _ => Builtin.List.listTouch (.ref S) >>= fun _ => again (.builtin "list.extend.loop" ⟨[.ref S, .ref z, res], []⟩)) _ _ _
  refine wpAny_bind (wpAny_rule ?_)
  refine wpAny_bind ?_
  show wpAny _ A.in1 (updateSeq S (·.push .none) >>= fun _ => updateSeq S (·.pop)) _ _ _
  refine wpAny_bind (wpAny_updateSeq hS rfl ?_)
  have hS₂ := Heap.get?_update_self (Obj.mapSeq (·.push Value.none)) hS rfl
  refine wpAny_updateSeq (hz := by seq_fits) hS₂ rfl ?_
  have hS₃ := Heap.get?_update_self (Obj.mapSeq (·.pop)) hS₂ rfl
  exact wpAny_pure ⟨plainId_quiet F.plain_extend_loop _, go _ _ _ (fun d o hd e => (Heap.get?_update_other _ _ (Ne.symm hd)).trans ((Heap.get?_update_other _ _ (Ne.symm hd)).trans e)) hS₃⟩
theorem zl_init {R : Result → Shared → Prop} {S : Addr} (hh : A.handled = none) (D : ZipApart z TI TO i1 i2 a b) (hxy : xs.size = ys.size) (hn : xs.size ≤ sizeLine) (t : ZSt s.heap z TI TO i1 i2 a b S xs ys 0) (q0 : IsZip s.heap z TI TO .none)
    (ns : z < S ∧ TI < S ∧ TO < S ∧ i1 < S ∧ i2 < S ∧ a < S ∧ b < S) (hS : s.heap.get? S = some (lstAt #[] 0))
    (hR : ∀ h' tk acc c as, (∀ d o, d ≠ S → d ≠ z → d ≠ TO → d ≠ i1 → d ≠ i2 → s.heap.get? d = some o → h'.get? d = some o) → h'.get? S = some (lstAt acc c) → as.length = xs.size → ZG xs ys S h' as → acc.toList = as.map Value.ref → R (.ok (.ret .none)) { s with heap := h', toks := tk }) :
    wpAny (model prog w) A.in1 (Builtin.«list.__init__» ⟨[.ref S, .ref z], []⟩)
      (fun fin s' => match fin with | .done f => R (.ok f) s' | .again c' => c'.quiet = true ∧ codeAny (model prog w) A c' R s') (fun e s' => R (.error e) s') s := by
  show wpAny _ _ (do let old ← Builtin.List.listItems (.ref S); Builtin.List.listUpdate (.ref S) (fun _ => #[]); letGo old.toList.reverse; Builtin.List.listExtendWith (.ref S) (.ref z) .none) _ _ s
  refine wpAny_bind ?_
  unfold Builtin.List.listItems
  refine wpAny_bind (wpAny_seqItems hS rfl (wpAny_pure ?_))
  show wpAny _ _ (updateSeq S (fun _ => #[]) >>= fun _ => letGo (#[] : Array Value).toList.reverse >>= fun _ => Builtin.List.listExtendWith (.ref S) (.ref z) .none) _ _ s
  refine wpAny_bind (wpAny_updateSeq hS rfl ?_)
  have hS₂ := Heap.get?_update_self (Obj.mapSeq (fun _ => (#[] : Array Value))) hS rfl
  have oth : ∀ d o, d ≠ S → s.heap.get? d = some o → (s.heap.update S (Obj.mapSeq (fun _ => (#[] : Array Value)))).get? d = some o := fun d o hd e => (Heap.get?_update_other _ _ (Ne.symm hd)).trans e
  refine wpAny_bind (wpAny_letGo ?_)
  obtain ⟨n1, n2, n3, n4, n5, n6, n7⟩ := id ns
  refine zl_extend hh D hxy hn .none (t.keep (Nat.ne_of_lt n1) (Nat.ne_of_lt n2) (Nat.ne_of_lt n3) (Nat.ne_of_lt n4) (Nat.ne_of_lt n5) (Nat.ne_of_lt n6) (Nat.ne_of_lt n7) oth) (oth _ _ (Nat.ne_of_lt n1) q0) _ ns hS₂ fun h' tk acc c as hk hS' hl hG hacc => ?_
  exact hR h' tk acc c as (fun d o m1 m2 m3 m4 m5 e => hk d o m1 m2 m3 m4 m5 (oth d o m1 e)) hS' hl hG hacc
/-- list(z), z a new zip of two tuples of one length -/
theorem zl_call {Q : Value → Shared → Prop} (hh : A.handled = none) (D : ZipApart z TI TO i1 i2 a b) (hxy : xs.size = ys.size) (hn : xs.size ≤ sizeLine) (q0 : IsZip s.heap z TI TO .none) (hTI : IsPair s.heap TI (.ref i1) (.ref i2)) (hTO : IsPair s.heap TO .none .none)
    (h1 : s.heap.IsTupleIter i1 a 0) (h2 : s.heap.IsTupleIter i2 b 0) (ha : s.heap.IsTuple a xs) (hb : s.heap.IsTuple b ys)
    (hQ : ∀ h' tk acc c as, (∀ d o, d ≠ z → d ≠ TO → d ≠ i1 → d ≠ i2 → s.heap.get? d = some o → h'.get? d = some o) → h'.get? s.heap.objs.size = some (lstAt acc c) → as.length = xs.size → ZG xs ys s.heap.objs.size h' as → acc.toList = as.map Value.ref →
      Q (.ref s.heap.objs.size) { s with heap := h', toks := tk }) :
    wpAny (model prog w) A (call (.type "list") [.ref z]) Q E s := by
  refine callType_codes (Q₁ := fun obj s₁ => obj = .ref s.heap.objs.size ∧ s₁ = { s with heap := s.heap.push { cls := .type "list", data := .seq #[] } }) F.called_list (F.typeCall_list_1 _) F.entry_list_init (code_list_new _ ⟨rfl, rfl⟩) fun obj s₁ e₁ => ?_
  obtain ⟨rfl, rfl⟩ := e₁
  have hS : (s.heap.push { cls := .type "list", data := .seq #[] }).get? s.heap.objs.size = some { cls := .type "list", data := .seq #[] } := Heap.get?_push_size _ rfl
  have up : ∀ {d : Addr} {o : Obj}, s.heap.get? d = some o → (s.heap.push { cls := .type "list", data := .seq #[] }).get? d = some o := fun e => Heap.get?_push_of_some _ e
  obtain ⟨o1, e1, _⟩ := id h1
  obtain ⟨o2, e2, _⟩ := id h2
  obtain ⟨oa, ea, ra⟩ := id ha
  obtain ⟨ob, eb, rb⟩ := id hb
  have ns : z < s.heap.objs.size ∧ TI < s.heap.objs.size ∧ TO < s.heap.objs.size ∧ i1 < s.heap.objs.size ∧ i2 < s.heap.objs.size ∧ a < s.heap.objs.size ∧ b < s.heap.objs.size :=
    ⟨Heap.lt_size q0, Heap.lt_size hTI, Heap.lt_size hTO, Heap.lt_size e1, Heap.lt_size e2, Heap.lt_size ea, Heap.lt_size eb⟩
  refine ⟨⟨_, hS, rfl⟩, F.args_list_init_2 _ _, zl_init (A := A.in1) hh D hxy hn ⟨up hTI, h1.at fun o e => up e, h2.at fun o e => up e, ⟨oa, up ea, ra⟩, ⟨ob, up eb, rb⟩, .inl ⟨up q0, _, _, up hTO⟩⟩ (up q0) ns hS fun h' tk acc c as hk hS' hl hG hacc => ?_⟩
  exact ⟨rfl, hQ h' tk acc c as (fun d o m2 m3 m4 m5 e => hk d o (Nat.ne_of_lt (Heap.lt_size e)) m2 m3 m4 m5 (up e)) hS' hl hG hacc⟩
end
/-- the pairs tracked at their addresses -/
def putP : Hp → List Addr → List (V × V) → Hp
  | H, c :: as, p :: ps => putP (upd H c (.tup [p.1, p.2])) as ps
  | H, _, _ => H
theorem putP_off {d : Addr} : ∀ (as : List Addr) (ps : List (V × V)) (H : Hp), d ∉ as → putP H as ps d = H d
  | [], _, _, _ => rfl
  | _ :: _, [], _, _ => rfl
  | c :: as, p :: ps, H, h => by
    show putP (upd H c (.tup [p.1, p.2])) as ps d = H d
    rw [putP_off as ps _ (fun q => h (List.mem_cons_of_mem _ q)), upd_ne (fun q => h (by rw [q]; exact List.mem_cons_self))]
theorem putP_at : ∀ (as : List Addr) (ps : List (V × V)) (H : Hp), as.Nodup → ∀ (j : Nat) (c : Addr) (p : V × V), as[j]? = some c → ps[j]? = some p → putP H as ps c = some (.tup [p.1, p.2])
  | [], _, _, _, _, _, _, h, _ => by cases h
  | _ :: _, [], _, _, _, _, _, _, h => by cases h
  | d :: as, q :: ps, H, hn, 0, c, p, h, h' => by
    cases Option.some.inj h
    cases Option.some.inj h'
    show putP (upd H d (.tup [q.1, q.2])) as ps d = _
    rw [putP_off as ps _ (List.nodup_cons.mp hn).1, upd_same]
  | d :: as, q :: ps, H, hn, j + 1, c, p, h, h' => putP_at as ps _ (List.nodup_cons.mp hn).2 j c p h h'
def rLZ (K : PySem.W.Frag) (vs : List V) (H : Hp) (Q : VK) : Prop := ∃ (a b : Addr) (xs ys : List V), vs = [.ref a, .ref b] ∧ SqT K H a xs ∧ SqT K H b ys ∧ xs.length = ys.length ∧
  ∀ (H' : Hp) (p : Addr) (ts : List Addr), Evl.Ex H H' → H p = none → H' p = some (.lst (ts.map V.ref)) → ts.length = xs.length → (∀ (j : Nat) (t : Addr) (x y : V), ts[j]? = some t → xs[j]? = some x → ys[j]? = some y → t ≠ p ∧ H t = none ∧ H' t = some (.tup [x, y])) → Q (.ref p) H'
def tLZ (K : PySem.W.Frag) (ta : TA) : TE := fun σ H Q => ta σ H fun vs H1 => rLZ K vs H1 Q
section
variable {X : Cx} {e e2 : Expr} {ta : TA} {p p2 pos pos2 : Pos}
theorem zl_laid {pins : List (Addr × Obj)} {σ : L2.St} {H : Hp} {s s0 : Shared} {h' : Heap} {tk : Nat} {xs ys : List V} {us vs : List Value} {acc : Array Value} {c : Nat} {as : List Addr} (I : Inv X pins σ H s) (hz : xs.length ≤ sizeLine) (hxy : xs.length = ys.length) (rx : Vals xs us) (ry : Vals ys vs) {S : Addr} (hSz : s.heap.objs.size ≤ S)
    (hk : ∀ d o, s.heap.get? d = some o → h'.get? d = some o) (hS : h'.get? S = some (lstAt acc c)) (hl : as.length = us.length) (hG : ZG us.toArray vs.toArray S h' as) (hacc : acc.toList = as.map Value.ref) :
    ∃ H' : Hp, Evl.Ex H H' ∧ H S = none ∧ H' S = some (.lst (as.map V.ref)) ∧ (∀ (j : Nat) (t : Addr) (x y : V), as[j]? = some t → xs[j]? = some x → ys[j]? = some y → t ≠ S ∧ H t = none ∧ H' t = some (.tup [x, y])) ∧ Inv X pins σ H' { s with heap := h', toks := tk } := by
  have lx := rx.length
  have ly := ry.length
  have hSn : S ∉ as := fun q => Nat.lt_irrefl _ (hG.above _ q)
  have nd : as.Nodup := List.Pairwise.imp (fun {a b} (h : a < b) => Nat.ne_of_lt h) hG.rise
  have new : ∀ t ∈ as, H t = none := fun t ht => I.hok.fresh (Nat.le_trans hSz (Nat.le_of_lt (hG.above t ht)))
  have newS : H S = none := I.hok.fresh hSz
  have off : ∀ d, d ∉ as → d ≠ S → putP (upd H S (.lst (as.map V.ref))) as (xs.zip ys) d = H d := fun d h1 h2 => by rw [putP_off as _ _ h1, upd_ne h2]
  have kp : Evl.Ex H (putP (upd H S (.lst (as.map V.ref))) as (xs.zip ys)) := fun d u e => by
    rw [off d (fun q => by rw [new d q] at e; cases e) (fun q => by rw [q, newS] at e; cases e)]
    exact e
  have eS : putP (upd H S (.lst (as.map V.ref))) as (xs.zip ys) S = some (.lst (as.map V.ref)) := by rw [putP_off as _ _ hSn, upd_same]
  have at' : ∀ (j : Nat) (t : Addr) (x y : V), as[j]? = some t → xs[j]? = some x → ys[j]? = some y → putP (upd H S (.lst (as.map V.ref))) as (xs.zip ys) t = some (.tup [x, y]) := fun j t x y e1 e2 e3 =>
    putP_at as (xs.zip ys) _ nd j t (x, y) e1 (by rw [List.getElem?_zip_eq_some]; exact ⟨e2, e3⟩)
  refine ⟨putP (upd H S (.lst (as.map V.ref))) as (xs.zip ys), kp, newS, eS, fun j t x y e1 e2 e3 => ⟨fun q => hSn (q ▸ List.mem_of_getElem? e1), new t (List.mem_of_getElem? e1), at' j t x y e1 e2 e3⟩, ?_⟩
  have low : ∀ d o, s.heap.get? d = some o → d ∉ as ∧ d ≠ S := fun d o e => ⟨fun q => absurd (Heap.lt_size e) (Nat.not_lt.mpr (Nat.le_trans hSz (Nat.le_of_lt (hG.above d q)))), fun q => absurd (Heap.lt_size e) (Nat.not_lt.mpr (q ▸ hSz))⟩
  refine I.call' (ch := []) rfl ⟨fun d o q _ _ _ => hk d o q, fun d o q _ _ _ => ⟨o.slots, hk d o q⟩, fun d o q n _ => ?_, fun d o q _ => ⟨o, hk d o q⟩, fun d xs q => kp d _ q, fun d o u q => kp d _ q, fun d ps q => ⟨#[], by rw [kp d _ q]; simp⟩⟩ (fun d u q => ?_) I.bare fun d q => by cases q
  · obtain ⟨z1, z2⟩ := low d o q
    rw [off d z1 z2]
    exact n
  · by_cases hd : d ∈ as
    · obtain ⟨j, e1⟩ := List.mem_iff_getElem?.mp hd
      have hj : j < as.length := (List.getElem?_eq_some_iff.mp e1).1
      have ex : xs[j]? = some (xs[j]'(by omega)) := List.getElem?_eq_getElem _
      have ey : ys[j]? = some (ys[j]'(by omega)) := List.getElem?_eq_getElem _
      rw [at' j d _ _ e1 ex ey] at q
      cases q
      obtain ⟨x, y, f1, f2, f3⟩ := hG.pairs j d e1
      obtain ⟨u1, g1, g2⟩ := rx.get ex
      obtain ⟨u2, g3, g4⟩ := ry.get ey
      rw [List.getElem?_toArray] at f1 f2
      rw [f1] at g1
      rw [f2] at g3
      cases g1
      cases g3
      exact ⟨by show 2 ≤ sizeLine; decide, [x, y], .cons g2 (.cons g4 .nil), ⟨_, f3, rfl, _, rfl⟩⟩
    · by_cases hd2 : d = S
      · subst hd2
        rw [eS] at q
        cases q
        refine ⟨by rw [List.length_map]; omega, acc.toList, c, by rw [hacc]; exact LiI.vals_refs as, ?_⟩
        rw [Array.toArray_toList]
        exact hS
      · rw [off d hd hd2] at q
        exact (I.hok d u q).stay (fun d v _ y => hk d v y) (fun d y => kp d _ y) fun d xs y => kp d _ y
/-- list(zip(e, e2)), two tuples of one length -/
theorem pe_listZip (hc : X.calm = true) (ha : PA X [e, e2] ta) (hgl : Gl X "list") (hml : X.mg "list" = none) (hg : Gl X "zip") (hm : X.mg "zip" = none) (hvl : bootBuiltins "list" = some (.type "list") := by decide +kernel)
    (hs : starEach [e, e2] X.env = (false, eval e X.env) :: starEach [e2] X.env := by rfl) (hpl : (backTo pos2 (starEach [e2] X.env)).any (·.1) = false := by rfl)
    (hs1 : starEach [.Call (.Name "zip" p2) [e, e2] [] pos2] X.env = (false, eval (.Call (.Name "zip" p2) [e, e2] [] pos2) X.env) :: starEach [] X.env := by rfl) :
    PE X (.Call (.Name "list" p) [.Call (.Name "zip" p2) [e, e2] [] pos2] [] pos) (tLZ X.K ta) := by
  refine ⟨fun pins s σ H Q I hq => ?_⟩
  refine wpAny_Call_Name_kw (ld_blt I hgl hml hvl ?_)
  refine PyProof.Rows.callWith_type1 ?_ hs1 rfl
  rw [hs1]
  show wpAny _ _ (spliced ((false, eval (.Call (.Name "zip" p2) [e, e2] [] pos2) X.env) :: backTo pos (starEach [] X.env))) _ _ s
  refine Calls.spliced_cons ?_
  refine Call_ (ld_blt I hg hm PyProof.Rows.boot_zip (PyProof.Rows.callWith_type1 (thn (ha.run pos2 pins s σ H _ I hq) fun us s1 ⟨vs, H1, I1, r1, a, b, xs, ys, ex, ha1, hb1, hxy, q⟩ => ?_) hs hpl))
  subst ex
  cases r1 with
  | cons r rr =>
    cases rr with
    | cons r' rr =>
      cases rr
      cases r
      cases r'
      obtain ⟨its, rv, p1, hz⟩ := I1.tuple ha1
      obtain ⟨its2, rv2, p3, _⟩ := I1.tuple hb1
      have l1 := rv.length
      have l2 := rv2.length
      obtain ⟨o1, ho1, r1⟩ := id p1
      obtain ⟨o2, ho2, r2⟩ := id p3
      refine RZ.call_zipT (show s1.heap.IsTuple a its.toArray from p1) (show s1.heap.IsTuple b its2.toArray from p3) fun h' hz' hTI hTO h1 h2 hsz hk => ?_
      refine Calls.spliced_nil ?_
      refine zl_call (s := { s1 with heap := h' }) (A := X.A) (I1.ok.hd hc) (PySem.W.ktu_apart s1.heap.objs.size a b (Heap.lt_size ho1) (Heap.lt_size ho2)) (by simp; omega) (by simp; omega) hz' hTI hTO h1 h2 ⟨o1, hk _ _ ho1, r1⟩ ⟨o2, hk _ _ ho2, r2⟩ fun h'' tk acc c as hk' hS hl hG hacc => ?_
      have lt : ∀ {d o}, s1.heap.get? d = some o → ∀ n, d ≠ s1.heap.objs.size + n := fun e n q => absurd (Heap.lt_size e) (by rw [q]; exact Nat.not_lt.mpr (Nat.le_add_right _ _))
      obtain ⟨H', k1, k2, k3, k4, J⟩ := zl_laid (S := h'.objs.size) (tk := tk) (h' := h'') (s0 := s1) I1 hz hxy rv rv2 (by rw [hsz]; exact Nat.le_add_right _ _) (fun d o e => hk' d o (lt e 4) (lt e 3) (lt e 0) (lt e 1) (hk d o e)) hS (by simpa using hl) hG hacc
      exact ⟨.ref _, H', J, rfl, q H' _ as k1 k2 k3 (by simp at hl; omega) k4⟩
end
section
variable {K : PySem.W.Frag} {σ : L2.St} {H : Hp} {Q : VK} {ta : TA}
theorem rd_LZ (q : ta σ H fun vs H1 => rLZ K vs H1 Q) : tLZ K ta σ H Q := q
theorem rd_lzW {a b : Addr} {xs ys : List V} (ha : SqT K H a xs) (hb : SqT K H b ys) (hl : xs.length = ys.length)
    (q : ∀ (H' : Hp) (p : Addr) (ts : List Addr), Evl.Ex H H' → H p = none → H' p = some (.lst (ts.map V.ref)) → ts.length = xs.length → (∀ (j : Nat) (t : Addr) (x y : V), ts[j]? = some t → xs[j]? = some x → ys[j]? = some y → t ≠ p ∧ H t = none ∧ H' t = some (.tup [x, y])) → Q (.ref p) H') : rLZ K [.ref a, .ref b] H Q :=
  ⟨a, b, xs, ys, rfl, ha, hb, hl, q⟩
end
end Kt
/-! Kt, part H: types, t + u with an empty t, defs that may be called anywhere. -/
namespace Kt
open PySem PySem.Spec PyProof.Rows L2
theorem tup_add0 (l b : Addr) (n n2 : Nat) (ys : Array Value) (dd dd2 : Option Addr) (sl sl2 : Array (Option Value)) :
    Meets (Builtin.«tuple.__add__» ⟨[.ref l, .ref b], []⟩) (fun _ R s => s.heap.get? l = some { cls := .type "tuple", dict := dd, data := .seq #[] n, slots := sl } ∧ s.heap.get? b = some { cls := .type "tuple", dict := dd2, data := .seq ys n2, slots := sl2 } ∧ R (.ok (.ret (.ref b))) s) :=
  .of_wp fun prog w A R s h => by
    obtain ⟨hp, g, d, tk, os⟩ := s
    obtain ⟨hl, hb, h⟩ := h
    have f2 := AutoSeq1.sub_tuple_tuple
    wp_walk using AutoSeq1.wpAny_loadPart' hl, AutoSeq1.wpAny_loadPart' hb
    exact ⟨_, rfl, h⟩
theorem cat_tup0 {prog : Program} {w : World} {A : Around} {E : Value → Shared → Prop} {s : Shared} {t b : Addr} {ws : List Value} {Q : Value → Shared → Prop} (ht : IsTup s.heap t #[]) (hb : IsTup s.heap b ws.toArray) (h : Q (.ref b) s) : wpAny (model prog w) A (binaryOp .Add (.ref t) (.ref b)) Q E s := by
  obtain ⟨⟨cls, dd, data, sl⟩, ho, hc, n, hd⟩ := id ht
  obtain ⟨⟨cls2, dd2, data2, sl2⟩, ho2, hc2, n2, hd2⟩ := id hb
  simp only at hc hd hc2 hd2
  subst hc hd hc2 hd2
  exact concat_meets ⟨_, ho, rfl⟩ ⟨_, ho2, rfl⟩ noFill_tuple_add seq_tuple_add PySem.F.slot_tuple_add PySem.F.entry_tuple_add (PySem.F.args_tuple_add_2 _ _) (tup_add0 t b n n2 ws.toArray dd dd2 sl sl2) ⟨ho, ho2, h⟩
/-- t + u, u not empty -/
def rCatT' (K : PySem.W.Frag) : R2 := fun x y H Q => ∃ a b xs ys, x = .ref a ∧ y = .ref b ∧ SqT K H a xs ∧ SqT K H b ys ∧ ys ≠ [] ∧ xs.length + ys.length ≤ sizeLine ∧
  (xs = [] → Q (.ref b) H) ∧ (xs ≠ [] → MakT (xs ++ ys) H Q)
section
variable {X : Cx}
theorem op_catT' : OpR X (binaryOp .Add) (rCatT' X.K) := by
  intro pins s σ H x y v u Q I rx ry h
  obtain ⟨a, b, xs, ys, rfl, rfl, ha, hb, hy, hz, q1, q2⟩ := h
  by_cases hx : xs = []
  · subst hx
    cases rx
    cases ry
    obtain ⟨its, r1, p1, _⟩ := I.tuple ha
    obtain ⟨its2, r2, p2, _⟩ := I.tuple hb
    cases r1
    exact cat_tup0 p1 p2 ⟨.ref b, H, I, rfl, q1 rfl⟩
  · exact op_catT pins s σ H _ _ v u Q I rx ry ⟨a, b, xs, ys, rfl, rfl, ha, hb, hx, hz, fun e => absurd e hy, fun _ => q2 hx⟩
def rIsTy : R2 := fun x y H Q => ∃ a b, x = .ty a ∧ y = .ty b ∧ Q (.bl (decide (a = b))) H
theorem op_isTy' : OpR X (compareOp .Is) rIsTy := op_isTyB
end
section
variable {K : PySem.W.Frag} {H : Hp} {Q : VK}
theorem rd_catT {a b : Addr} {xs ys : List V} (ha : SqT K H a xs) (hb : H b = some (.tup ys)) (hy : ys ≠ []) (hz : xs.length + ys.length ≤ sizeLine) (q : ∀ p H', Evl.Ex H H' → H' p = some (.tup (xs ++ ys)) → Q (.ref p) H') : rCatT' K (.ref a) (.ref b) H Q :=
  ⟨a, b, xs, ys, rfl, rfl, ha, .inl (.inl hb), hy, hz, fun e => q b H (Evl.Ex.refl _) (by subst e; exact hb), fun _ p hp => q p _ (Evl.Ex.new hp) upd_same⟩
theorem rd_typ {x : V} {T : String} (t : TyB K H x T) (q : Q (.ty T) H) : rTyp K [x] H Q := ⟨x, T, rfl, t, q⟩
theorem rd_isTy {a b : String} (q : Q (.bl (decide (a = b))) H) : rIsTy (.ty a) (.ty b) H Q := ⟨a, b, rfl, rfl, q⟩
theorem rd_notTy {a b : String} (q : Q (.bl (!decide (a = b))) H) : rNT (.ty a) (.ty b) H Q := ⟨a, b, rfl, rfl, q⟩
theorem rd_isN {x : V} (q : Q (.bl (decide (x = .non))) H) : rIsN x .non H Q := ⟨rfl, q⟩
theorem rd_notN {x : V} (q : Q (.bl (!decide (x = .non))) H) : rNotN x .non H Q := ⟨rfl, q⟩
theorem rd_isi {x c : V} {t u : Value} {b : Bool} (k : ClsV c u) (ty : TyX K H x t) (e : PySem.W.kitOne K t u = some b) (q : Q (.bl b) H) : rIsi K [x, c] H Q := ⟨x, c, t, u, b, rfl, k, ty, e, q⟩
end
section
variable {σ : L2.St} {H : Hp} {Q : VK} {ta tb : TE}
theorem rd_andV (q : ta σ H fun x H1 => ∃ c, x = .bl c ∧ if c = true then tb σ H1 Q else Q (.bl false) H1) : tAndV ta tb σ H Q := q
theorem rd_orV (q : ta σ H fun x H1 => ∃ c, x = .bl c ∧ if c = true then Q (.bl true) H1 else tb σ H1 Q) : tOrV ta tb σ H Q := q
theorem rd_notV (q : ta σ H fun x H1 => ∃ c, x = .bl c ∧ Q (.bl (!c)) H1) : tNotV ta σ H Q := q
end
theorem if_yes {c : Prop} [Decidable c] {A B : Prop} (hc : c) (h : A) : if decide c = true then A else B := by rw [if_pos (decide_eq_true hc)]; exact h
theorem if_no {c : Prop} [Decidable c] {A B : Prop} (hc : ¬ c) (h : B) : if decide c = true then A else B := by rw [if_neg (by rw [decide_eq_false hc]; decide)]; exact h
theorem if_nyes {c : Prop} [Decidable c] {A B : Prop} (hc : c) (h : B) : if (!decide c) = true then A else B := by rw [decide_eq_true hc]; exact h
theorem if_nno {c : Prop} [Decidable c] {A B : Prop} (hc : ¬ c) (h : A) : if (!decide c) = true then A else B := by rw [decide_eq_false hc]; exact h
/-! ### defs that may be called anywhere -/
section
variable {P : Program} {w : World} {K : PySem.W.Frag} {mg : Str → Option Value} {base : Heap}
structure CalO (P : Program) (w : World) (K : PySem.W.Frag) (mg : Str → Option Value) (base : Heap) (k : Nat) (x : Str) (sp : Sp) : Prop where
  ex : ∃ (f : Addr) (fd : FuncData) (ps : List Str), FnOk P w K mg base CX0 k f fd ps sp ∧ mg x = some (.ref f) ∧ PySem.W.keepIn K (.ref f) = true ∧ Binds K fd ps []
theorem CalO.g {k : Nat} {x : Str} {sp : Sp} (c : CalO P w K mg base k x sp) : CalG P w K mg base k x sp := by
  obtain ⟨f, fd, ps, F, m, kp, b⟩ := c.ex
  exact ⟨f, fd, ps, FnG.of F, m, kp, b⟩
theorem calO {x : Str} {st : Stmt} {N ps : List Str} {k : Nat} {sp : Sp} (D : DefG K mg x st ps) (S : FnScope N ps (defScope st)) (len : ∀ vs H Q E, sp vs H Q E → vs.length = ps.length)
    (hbody : ∀ (cdv : Value) (f : Addr) (A : Around) (outer : List Env) (s : Shared) (H : Hp) (vs : List V) (Q : VK) (E : XK), Room k (A.deeper (envOfC x (defScope st) s.heap.objs.size f cdv)) → sp vs H Q E →
      ∃ t, PSs (cxOf CX0 P w K mg base N x (defScope st) f cdv A outer s H E).nox (defBody st) t ∧ t { nx := fun _ H' => Q .non H', rt := Q } (start N vs) H) : CalO P w K mg base (k + 1) x sp := by
  obtain ⟨f, fd, F, m, b⟩ := D.ex
  exact ⟨f, fd, ps, F.ok S len fun cdv A outer s H vs Q E hr h => hbody cdv f A outer s H vs Q E hr h, m, F.kp, b⟩
end
section
variable {X : Cx} {k j : Nat} {x : Str} {sp : Sp} {p pos : Pos} {e : Expr} {es : List Expr} {t : TA}
/-- f(e, ..) -/
theorem pe_cO (c : CalO X.prog X.w X.K X.mg X.base k x sp) (hr : Room j X.A) (hk : k ≤ j) (hg : Gl X x) (ha : PA X (e :: es) t) (hdb : (x == ("__debug__" : Str)) = false := by decide)
    (he : starEach (e :: es) X.env = (false, eval e X.env) :: starEach es X.env := by rfl) (hpl : (backTo pos (starEach es X.env)).any (·.1) = false := by rfl) :
    PE X (.Call (.Name x p) (e :: es) [] pos) (fun σ H Q => t σ H fun vs H1 => sp vs H1 Q E0) := by
  obtain ⟨f, fd, ps, F, m, kp, b⟩ := c.ex
  have q := pe_call (p := p) (pos := pos) F (hr.mono hk) hg m kp b .nil pass0 ha hdb he hpl
  refine ⟨fun pins s σ H Q I h => q.run pins s σ H Q I ?_⟩
  have e : (fun vs (H1 : Hp) => sp (vs ++ []) H1 Q E0) = fun vs H1 => sp vs H1 Q E0 := by funext vs H1; rw [List.append_nil]
  show t σ H fun vs H1 => sp (vs ++ []) H1 Q E0
  rw [e]
  exact h
end
end Kt
local macro_rules | `(tactic| walk_at "rd1") => `(tactic| first
  | with_reducible refine Kt.rd_seq ?_ | with_reducible refine Kt.rd_asg ?_ | with_reducible refine Kt.rd_name ?_ | with_reducible refine Kt.rd_c ?_
  | ((with_reducible refine' Kt.rd_var ?h ?q); (case h => exact rfl))
  | with_reducible refine Kt.rd_nil ?_ | with_reducible refine Kt.rd_cons ?_ | with_reducible refine Kt.rd_op ?_ | with_reducible refine Kt.rd_un ?_ | with_reducible refine Kt.rd_I0 ?_ | with_reducible refine Kt.rd_U ?_
  | with_reducible refine Kt.rd_cb ?_ | with_reducible refine Kt.rd_test ?_ | with_reducible refine Kt.rd_tB ?_ | with_reducible refine Kt.rd_bl ?_ | with_reducible refine Kt.rd_tup ?_ | with_reducible refine Kt.rd_lst ?_
  | with_reducible refine Kt.rd_and ?_ | with_reducible refine Kt.rd_or ?_ | with_reducible refine Kt.rd_not ?_ | with_reducible refine Kt.rd_next ?_ | with_reducible refine Kt.rd_par ?_ | with_reducible refine Kt.rd_par1 ?_
  | with_reducible refine Kt.rd_ifS ?_ | with_reducible refine Kt.rd_ret ?_ | with_reducible refine Kt.rd_drop ?_ | with_reducible refine Kt.rd_bm ?_ | with_reducible refine Kt.rd_bm0 ?_ | with_reducible refine Kt.rd_dget ?_ | with_reducible refine Kt.rd_dput ?_
  | with_reducible refine Kt.rd_sl ?_ | with_reducible refine Kt.rd_no ?_ | with_reducible refine Kt.rd_some ?_ | with_reducible refine Kt.rd_some1 ?_ | with_reducible refine Kt.rd_intO ?_ | with_reducible refine Kt.rd_yes ?_ | with_reducible refine Kt.rd_pcons ?_ | with_reducible refine Kt.rd_pnil ?_)
local macro_rules | `(tactic| walk_at "rd1") => `(tactic| first | with_reducible refine Kt.rd_for ?_ | with_reducible refine Kt.rd_gcons ?_ | with_reducible refine Kt.rd_gnil ?_ | with_reducible refine Kt.rd_lc ?_ | with_reducible refine Kt.rd_irng ?_ | with_reducible refine Kt.rd_ilst ?_ | with_reducible refine Kt.rd_itup ?_ | with_reducible refine Kt.rd_tRevL ?_ | with_reducible refine Kt.rd_tRevT ?_ | with_reducible refine Kt.rd_andV ?_ | with_reducible refine Kt.rd_orV ?_ | with_reducible refine Kt.rd_notV ?_ | with_reducible refine Kt.rd_isTy ?_ | with_reducible refine Kt.rd_notTy ?_ | with_reducible refine Kt.rd_isN ?_ | with_reducible refine Kt.rd_notN ?_ | with_reducible refine Kt.rd_enT ?_ | with_reducible refine Kt.rd_LZ ?_)
local macro_rules | `(tactic| walk_at "rd") => `(tactic| repeat (walk_at "rd1"))
/-! K22, the roads: least parting roads of two values, in the order of their lengths, then of their numbers. -/
namespace K22
inductive Va where
  | th (i : Nat) | nl | nm (c : Bool) | bl (b : Bool) | it (i : Int)
  deriving DecidableEq
inductive Th where
  | pr (a b : Va) | fn | kp
  deriving DecidableEq
inductive Kd where
  | tr | nu | no | na | pa | fu
  deriving DecidableEq
def kids (S : List Th) : Va → Option (Va × Va)
  | .th i => match S[i]? with | some (.pr a b) => some (a, b) | _ => none
  | _ => none
def kind (S : List Th) : Va → Kd
  | .th i => if (kids S (.th i)).isSome then .pa else .fu
  | .nl => .no | .nm _ => .na | .bl _ => .tr | .it _ => .nu
theorem kind_pa {S : List Th} {x : Va} : kind S x = .pa ↔ (kids S x).isSome = true := by
  cases x with
  | th i =>
    show (if (kids S (.th i)).isSome then Kd.pa else Kd.fu) = .pa ↔ _
    cases h : (kids S (.th i)).isSome <;> simp
  | nl => simp [kind, kids]
  | nm c => simp [kind, kids]
  | bl b => simp [kind, kids]
  | it i => simp [kind, kids]
def apart (S : List Th) (x y : Va) : Bool := decide (kind S x ≠ kind S y) || ((kids S x).isNone && decide (x ≠ y))
theorem apart_false {S : List Th} {x y : Va} : apart S x y = false ↔ kind S x = kind S y ∧ ((kids S x).isSome = true ∨ x = y) := by
  unfold apart
  rw [Bool.or_eq_false_iff, decide_eq_false_iff_not, Classical.not_not, Bool.and_eq_false_iff, decide_eq_false_iff_not, Classical.not_not]
  cases (kids S x) <;> simp
theorem apart_refl {S : List Th} {x : Va} : apart S x x = false := apart_false.mpr ⟨rfl, .inr rfl⟩
theorem apart_symm {S : List Th} {x y : Va} : apart S x y = apart S y x := by
  have key : ∀ x y : Va, apart S x y = false → apart S y x = false := fun x y h => by
    obtain ⟨h1, h2⟩ := apart_false.mp h
    refine apart_false.mpr ⟨h1.symm, ?_⟩
    rcases h2 with h2 | h2
    · exact .inl (kind_pa.mp (h1 ▸ kind_pa.mpr h2))
    · exact .inr h2.symm
  cases h : apart S x y with
  | false => exact (key x y h).symm
  | true =>
    cases h' : apart S y x with
    | true => rfl
    | false => rw [key y x h'] at h; cases h
theorem apart_trans {S : List Th} {x y z : Va} (h : apart S x y = false) (h' : apart S y z = false) : apart S x z = false := by
  obtain ⟨h1, h2⟩ := apart_false.mp h
  obtain ⟨h3, h4⟩ := apart_false.mp h'
  refine apart_false.mpr ⟨h1.trans h3, ?_⟩
  rcases h2 with h2 | rfl
  · exact .inl h2
  · exact h4
def step (S : List Th) (k : Int) (x : Va) : Option Va := if k = 1 then (kids S x).map (·.1) else if k = 2 then (kids S x).map (·.2) else none
def follow (S : List Th) : Va → List Int → Option Va
  | x, [] => some x
  | x, k :: r => (step S k x).bind fun u => follow S u r
theorem follow_app {S : List Th} : ∀ (r s : List Int) (x : Va), follow S x (r ++ s) = (follow S x r).bind fun u => follow S u s
  | [], s, x => rfl
  | k :: r, s, x => by
    show (step S k x).bind (fun u => follow S u (r ++ s)) = ((step S k x).bind fun u => follow S u r).bind fun u => follow S u s
    cases step S k x with
    | none => rfl
    | some u => exact follow_app r s u
theorem follow_snoc {S : List Th} {r : List Int} {k : Int} {x : Va} : follow S x (r ++ [k]) = (follow S x r).bind (step S k) := by
  rw [follow_app]
  congr 1
  funext u
  show (step S k u).bind (fun w => some w) = _
  cases step S k u <;> rfl
theorem step_one {S : List Th} {x a b : Va} (h : kids S x = some (a, b)) : step S 1 x = some a := by unfold step; rw [if_pos rfl, h]; rfl
theorem step_two {S : List Th} {x a b : Va} (h : kids S x = some (a, b)) : step S 2 x = some b := by unfold step; rw [if_neg (by decide), if_pos rfl, h]; rfl
theorem step_some {S : List Th} {k : Int} {x u : Va} (h : step S k x = some u) : (k = 1 ∨ k = 2) ∧ (kids S x).isSome = true := by
  unfold step at h
  split at h
  · refine ⟨.inl (by assumption), ?_⟩
    cases q : kids S x with
    | none => rw [q] at h; cases h
    | some p => rfl
  · split at h
    · refine ⟨.inr (by assumption), ?_⟩
      cases q : kids S x with
      | none => rw [q] at h; cases h
      | some p => rfl
    · cases h
/-- a step from one of two that are not apart is one from the other -/
theorem step_both {S : List Th} {k : Int} {x y u : Va} (h : step S k x = some u) (ha : apart S x y = false) : ∃ v, step S k y = some v := by
  obtain ⟨hk, hs⟩ := step_some h
  have h2 : (kids S y).isSome = true := kind_pa.mp ((apart_false.mp ha).1 ▸ kind_pa.mpr hs)
  obtain ⟨⟨a, b⟩, e⟩ := Option.isSome_iff_exists.mp h2
  rcases hk with rfl | rfl
  · exact ⟨a, step_one e⟩
  · exact ⟨b, step_two e⟩
def code (r : List Int) : Nat := r.foldl (fun c k => 2 * c + k.toNat) 0
theorem code_snoc {r : List Int} {k : Int} : code (r ++ [k]) = 2 * code r + k.toNat := by
  unfold code
  rw [List.foldl_append]
  rfl
def Dg (r : List Int) : Prop := ∀ k ∈ r, k = 1 ∨ k = 2
theorem follow_dg {S : List Th} : ∀ {r : List Int} {x u : Va}, follow S x r = some u → Dg r
  | [], _, _, _ => fun k h => by cases h
  | k :: r, x, u, h => by
    have h' : (step S k x).bind (fun u => follow S u r) = some u := h
    cases e : step S k x with
    | none => rw [e] at h'; cases h'
    | some w =>
      rw [e] at h'
      have ih := follow_dg (show follow S w r = some u from h')
      intro j hj
      rcases List.mem_cons.mp hj with rfl | hj
      · exact (step_some e).1
      · exact ih j hj
theorem snoc_cases (r : List Int) : r = [] ∨ ∃ p k, r = p ++ [k] := by
  rcases List.eq_nil_or_concat r with h | ⟨p, k, h⟩
  · exact .inl h
  · exact .inr ⟨p, k, by rw [h, List.concat_eq_append]⟩
theorem code_mono_app {r r' : List Int} (h : code r < code r') : ∀ s : List Int, code (r ++ s) < code (r' ++ s) := by
  have go : ∀ (n : Nat) (s : List Int), s.length = n → code (r ++ s) < code (r' ++ s) := by
    intro n
    induction n with
    | zero =>
      intro s hs
      rw [List.eq_nil_of_length_eq_zero hs, List.append_nil, List.append_nil]
      exact h
    | succ n ih =>
      intro s hs
      rcases snoc_cases s with rfl | ⟨p, k, rfl⟩
      · cases hs
      · have q := ih p (by rw [List.length_append] at hs; simpa using hs)
        rw [← List.append_assoc, ← List.append_assoc, code_snoc, code_snoc]
        omega
  exact fun s => go s.length s rfl
theorem code_le_app (r : List Int) : ∀ s : List Int, code r ≤ code (r ++ s) := by
  have go : ∀ (n : Nat) (s : List Int), s.length = n → code r ≤ code (r ++ s) := by
    intro n
    induction n with
    | zero =>
      intro s hs
      rw [List.eq_nil_of_length_eq_zero hs, List.append_nil]
      exact Nat.le_refl _
    | succ n ih =>
      intro s hs
      rcases snoc_cases s with rfl | ⟨p, k, rfl⟩
      · cases hs
      · have q := ih p (by rw [List.length_append] at hs; simpa using hs)
        rw [← List.append_assoc, code_snoc]
        omega
  exact fun s => go s.length s rfl
theorem code_inj : ∀ (n : Nat) (r q : List Int), r.length ≤ n → Dg r → Dg q → code r = code q → r = q := by
  intro n
  induction n with
  | zero =>
    intro r q hr _ hq e
    have r0 : r = [] := List.eq_nil_of_length_eq_zero (Nat.le_zero.mp hr)
    subst r0
    rcases snoc_cases q with rfl | ⟨p, k, rfl⟩
    · rfl
    · rw [code_snoc] at e
      have : code ([] : List Int) = 0 := rfl
      rcases hq k (by simp) with rfl | rfl <;> simp at e <;> omega
  | succ n ih =>
    intro r q hr dr hq e
    rcases snoc_cases r with rfl | ⟨p, k, rfl⟩
    · rcases snoc_cases q with rfl | ⟨p, k, rfl⟩
      · rfl
      · rw [code_snoc] at e
        have : code ([] : List Int) = 0 := rfl
        rcases hq k (by simp) with rfl | rfl <;> simp at e <;> omega
    · rcases snoc_cases q with rfl | ⟨p', k', rfl⟩
      · rw [code_snoc] at e
        have : code ([] : List Int) = 0 := rfl
        rcases dr k (by simp) with rfl | rfl <;> simp at e <;> omega
      · rw [code_snoc, code_snoc] at e
        have hk : k = k' ∧ code p = code p' := by
          rcases dr k (by simp) with rfl | rfl <;> rcases hq k' (by simp) with rfl | rfl <;> simp at e ⊢ <;> omega
        obtain ⟨rfl, e'⟩ := hk
        rw [ih p p' (by rw [List.length_append] at hr; simp at hr; omega) (fun j hj => dr j (by simp [hj])) (fun j hj => hq j (by simp [hj])) e']
/-- r parts x and y -/
def Parts (S : List Th) (x y : Va) (r : List Int) : Prop := ∃ u v, follow S x r = some u ∧ follow S y r = some v ∧ apart S u v = true
def Least (S : List Th) (x y : Va) : Option (List Int) → Prop
  | none => ∀ r, ¬ Parts S x y r
  | some r => Parts S x y r ∧ ∀ q, Parts S x y q → code r ≤ code q
theorem Parts.dg {S : List Th} {x y : Va} {r : List Int} (h : Parts S x y r) : Dg r := let ⟨_, _, h1, _⟩ := h; follow_dg h1
theorem Least.uniq {S : List Th} {x y : Va} : ∀ {a b : Option (List Int)}, Least S x y a → Least S x y b → a = b
  | none, none, _, _ => rfl
  | none, some r, h, h' => absurd h'.1 (h r)
  | some r, none, h, h' => absurd h.1 (h' r)
  | some r, some q, h, h' => by rw [code_inj r.length r q (Nat.le_refl _) h.1.dg h'.1.dg (Nat.le_antisymm (h.2 q h'.1) (h'.2 r h.1))]
theorem Least.congr {S S' : List Th} {x y x' y' : Va} (h : ∀ r, Parts S x y r ↔ Parts S' x' y' r) : ∀ {a : Option (List Int)}, Least S x y a → Least S' x' y' a
  | none, l => fun r p => l r ((h r).mpr p)
  | some r, l => ⟨(h r).mp l.1, fun q p => l.2 q ((h q).mpr p)⟩
theorem Parts.symm {S : List Th} {x y : Va} {r : List Int} (h : Parts S x y r) : Parts S y x r := let ⟨u, v, h1, h2, h3⟩ := h; ⟨v, u, h2, h1, apart_symm.trans h3⟩
theorem Least.symm {S : List Th} {x y : Va} {a : Option (List Int)} (h : Least S x y a) : Least S y x a := h.congr fun _ => ⟨Parts.symm, Parts.symm⟩
theorem Least.refl {S : List Th} {x : Va} : Least S x x none := fun r ⟨u, v, h1, h2, h3⟩ => by
  rw [h1] at h2
  cases h2
  rw [apart_refl] at h3
  cases h3
/-- a, b and so on, each next to the other by P -/
inductive Ch (P : Va → Va → Prop) : Va → Va → Prop
  | refl (x : Va) : Ch P x x
  | to {x y z : Va} : Ch P x y → P y z → Ch P x z
  | fro {x y z : Va} : Ch P x y → P z y → Ch P x z
theorem Ch.trans {P : Va → Va → Prop} {x y z : Va} (h : Ch P x y) (h' : Ch P y z) : Ch P x z := by
  induction h' with
  | refl => exact h
  | to _ p ih => exact .to ih p
  | fro _ p ih => exact .fro ih p
theorem Ch.symm {P : Va → Va → Prop} {x y : Va} (h : Ch P x y) : Ch P y x := by
  induction h with
  | refl => exact .refl _
  | to _ p ih => exact (Ch.fro (.refl _) p).trans ih
  | fro _ p ih => exact (Ch.to (.refl _) p).trans ih
theorem Ch.mono {P P' : Va → Va → Prop} {x y : Va} (h : Ch P x y) (m : ∀ a b, P a b → P' a b) : Ch P' x y := by
  induction h with
  | refl => exact .refl _
  | to _ p ih => exact .to ih (m _ _ p)
  | fro _ p ih => exact .fro ih (m _ _ p)
/-- a road of a lesser number leads to both -/
def Lk (S : List Th) (x y : Va) (c : Nat) (a b : Va) : Prop := ∃ r, code r < c ∧ follow S x r = some a ∧ follow S y r = some b
theorem Lk.mono {S : List Th} {x y : Va} {c c' : Nat} {a b : Va} (h : Lk S x y c a b) (l : c ≤ c') : Lk S x y c' a b := let ⟨r, h1, h2⟩ := h; ⟨r, Nat.lt_of_lt_of_le h1 l, h2⟩
/-- nothing ahead on s parts them -/
def Agree (S : List Th) (s : List Int) (a b : Va) : Prop := ∀ t u, s = t ++ u → ¬ Parts S a b t
theorem agree_follow {S : List Th} : ∀ {s : List Int} {a b u : Va}, Agree S s a b → follow S a s = some u → ∃ v, follow S b s = some v ∧ apart S u v = false
  | [], a, b, u, h, hu => by
    cases Option.some.inj hu
    refine ⟨b, rfl, ?_⟩
    cases e : apart S a b with
    | false => rfl
    | true => exact absurd ⟨a, b, rfl, rfl, e⟩ (h [] [] rfl)
  | k :: s, a, b, u, h, hu => by
    have h0 : apart S a b = false := by
      cases e : apart S a b with
      | false => rfl
      | true => exact absurd ⟨a, b, rfl, rfl, e⟩ (h [] (k :: s) rfl)
    have hu' : (step S k a).bind (fun u => follow S u s) = some u := hu
    cases e : step S k a with
    | none => rw [e] at hu'; cases hu'
    | some a' =>
      rw [e] at hu'
      obtain ⟨b', e'⟩ := step_both e h0
      obtain ⟨v, h1, h2⟩ := agree_follow (s := s) (a := a') (b := b') (u := u) (fun t w hs ⟨p, q, p1, p2, p3⟩ => h (k :: t) w (by rw [hs]; rfl) ⟨p, q, by show (step S k a).bind _ = _; rw [e]; exact p1, by show (step S k b).bind _ = _; rw [e']; exact p2, p3⟩) hu'
      exact ⟨v, by show (step S k b).bind _ = _; rw [e']; exact h1, h2⟩
theorem Agree.symm {S : List Th} {s : List Int} {a b : Va} (h : Agree S s a b) : Agree S s b a := fun t u e p => h t u e p.symm
theorem chain_follow {S : List Th} {s : List Int} {P : Va → Va → Prop} (hP : ∀ a b, P a b → Agree S s a b) {a b : Va} (h : Ch P a b) : ∀ {u : Va}, follow S a s = some u → ∃ v, follow S b s = some v ∧ apart S u v = false := by
  induction h with
  | refl => exact fun {u} hu => ⟨u, hu, apart_refl⟩
  | to _ p ih =>
    intro u hu
    obtain ⟨v, h1, h2⟩ := ih hu
    obtain ⟨w, h3, h4⟩ := agree_follow (hP _ _ p) h1
    exact ⟨w, h3, apart_trans h2 h4⟩
  | fro _ p ih =>
    intro u hu
    obtain ⟨v, h1, h2⟩ := ih hu
    obtain ⟨w, h3, h4⟩ := agree_follow (hP _ _ p).symm h1
    exact ⟨w, h3, apart_trans h2 h4⟩
theorem pruned {S : List Th} {x y u v : Va} {r s : List Int} (hp : Parts S x y (r ++ s)) (hu : follow S x r = some u) (hv : follow S y r = some v) (hc : Ch (Lk S x y (code r)) u v) : ∃ q, Parts S x y q ∧ code q < code (r ++ s) := by
  refine Classical.byContradiction fun no => ?_
  obtain ⟨p, q, h1, h2, h3⟩ := hp
  rw [follow_app, hu] at h1
  rw [follow_app, hv] at h2
  have hP : ∀ a b, Lk S x y (code r) a b → Agree S s a b := by
    rintro a b ⟨r', l, f1, f2⟩ t t' e ⟨c, d, g1, g2, g3⟩
    refine no ⟨r' ++ t, ⟨c, d, by rw [follow_app, f1]; exact g1, by rw [follow_app, f2]; exact g2, g3⟩, ?_⟩
    refine Nat.lt_of_lt_of_le (code_mono_app l t) ?_
    rw [e, ← List.append_assoc]
    exact code_le_app _ _
  obtain ⟨w, h4, h5⟩ := chain_follow hP hc (show follow S u s = some p from h1)
  have h2' : follow S v s = some q := h2
  rw [h2'] at h4
  cases h4
  rw [h3] at h5
  cases h5
abbrev Nd := Va × Va × List Int
/-- n of the nodes L have been looked at -/
structure Bf (S : List Th) (x y : Va) (L : List Nd) (n : Nat) : Prop where
  root : L[0]? = some (x, y, [])
  le : n ≤ L.length
  path : ∀ p : Nd, p ∈ L → follow S x p.2.2 = some p.1 ∧ follow S y p.2.2 = some p.2.1
  ord : ∀ (i j : Nat) (p q : Nd), i < j → L[i]? = some p → L[j]? = some q → code p.2.2 < code q.2.2
  bnd : ∀ (m : Nat) (q : Nd), n ≤ m → L[m]? = some q → ∀ p : Nd, p ∈ L → code p.2.2 < 2 * code q.2.2 + 1
  old : ∀ (i : Nat) (p : Nd), i < n → L[i]? = some p → apart S p.1 p.2.1 = false ∧ ∀ a b c d, kids S p.1 = some (a, b) → kids S p.2.1 = some (c, d) →
    ((a, c, p.2.2 ++ [1]) ∈ L ∧ (b, d, p.2.2 ++ [2]) ∈ L) ∨ Ch (Lk S x y (code p.2.2)) p.1 p.2.1
theorem Bf.init (S : List Th) (x y : Va) : Bf S x y [(x, y, [])] 0 where
  root := rfl
  le := Nat.zero_le _
  path := fun p hp => by rw [List.mem_singleton.mp hp]; exact ⟨rfl, rfl⟩
  ord := fun i j p q hij hi hj => by
    have := (List.getElem?_eq_some_iff.mp hj).1
    simp at this
    omega
  bnd := fun m q _ hq p hp => by
    rw [List.mem_singleton.mp hp]
    show 0 < _
    omega
  old := fun i p h => absurd h (Nat.not_lt_zero _)
theorem Bf.skip {S : List Th} {x y : Va} {L : List Nd} {n : Nat} (B : Bf S x y L n) {p : Nd} (hp : L[n]? = some p) (ha : apart S p.1 p.2.1 = false) (h : kids S p.1 = none ∨ Ch (Lk S x y (code p.2.2)) p.1 p.2.1) : Bf S x y L (n + 1) where
  root := B.root
  le := (List.getElem?_eq_some_iff.mp hp).1
  path := B.path
  ord := B.ord
  bnd := fun m q hm => B.bnd m q (by omega)
  old := fun i q hi hq => by
    by_cases e : i = n
    · subst e
      rw [hp] at hq
      cases hq
      refine ⟨ha, fun a b c d h1 _ => ?_⟩
      rcases h with h | h
      · rw [h] at h1; cases h1
      · exact .inr h
    · exact B.old i q (by omega) hq
theorem Bf.more {S : List Th} {x y : Va} {L : List Nd} {n : Nat} (B : Bf S x y L n) {p : Nd} (hp : L[n]? = some p) {a b c d : Va} (h1 : kids S p.1 = some (a, b)) (h2 : kids S p.2.1 = some (c, d)) : Bf S x y (L ++ [(a, c, p.2.2 ++ [1]), (b, d, p.2.2 ++ [2])]) (n + 1) := by
  have hn := (List.getElem?_eq_some_iff.mp hp).1
  have hm := List.mem_of_getElem? hp
  have hb := B.bnd n p (Nat.le_refl _) hp
  obtain ⟨p1, p2⟩ := B.path p hm
  have c1 : code (p.2.2 ++ [1]) = 2 * code p.2.2 + 1 := code_snoc
  have c2 : code (p.2.2 ++ [2]) = 2 * code p.2.2 + 2 := code_snoc
  have get : ∀ j q, (L ++ [(a, c, p.2.2 ++ [1]), (b, d, p.2.2 ++ [2])])[j]? = some q → (j < L.length ∧ L[j]? = some q) ∨ (j = L.length ∧ q = (a, c, p.2.2 ++ [1])) ∨ (j = L.length + 1 ∧ q = (b, d, p.2.2 ++ [2])) := fun j q hq => by
    by_cases hj : j < L.length
    · rw [List.getElem?_append_left hj] at hq
      exact .inl ⟨hj, hq⟩
    · rw [List.getElem?_append_right (by omega)] at hq
      by_cases e : j = L.length
      · subst e
        rw [Nat.sub_self] at hq
        exact .inr (.inl ⟨rfl, (Option.some.inj hq).symm⟩)
      · by_cases e' : j = L.length + 1
        · subst e'
          rw [show L.length + 1 - L.length = 1 by omega] at hq
          exact .inr (.inr ⟨rfl, (Option.some.inj hq).symm⟩)
        · rw [List.getElem?_eq_none (by simp; omega)] at hq
          cases hq
  refine ⟨?_, ?_, fun q hq => ?_, fun i j q t hij hi hj => ?_, fun m q hm' hq t ht => ?_, fun i q hi hq => ?_⟩
  · rw [List.getElem?_append_left (by omega)]
    exact B.root
  · rw [List.length_append]
    omega
  · rcases List.mem_append.mp hq with hq | hq
    · exact B.path q hq
    · rcases List.mem_cons.mp hq with rfl | hq
      · exact ⟨by rw [follow_snoc, p1]; exact step_one h1, by rw [follow_snoc, p2]; exact step_one h2⟩
      · rw [List.mem_singleton.mp hq]
        exact ⟨by rw [follow_snoc, p1]; exact step_two h1, by rw [follow_snoc, p2]; exact step_two h2⟩
  · rcases get i q hi with ⟨ei, gi⟩ | ⟨ei, rfl⟩ | ⟨ei, rfl⟩ <;> rcases get j t hj with ⟨ej, gj⟩ | ⟨ej, rfl⟩ | ⟨ej, rfl⟩
    · exact B.ord i j q t hij gi gj
    · have := hb q (List.mem_of_getElem? gi)
      show code q.2.2 < code (p.2.2 ++ [1])
      omega
    · have := hb q (List.mem_of_getElem? gi)
      show code q.2.2 < code (p.2.2 ++ [2])
      omega
    · omega
    · omega
    · show code (p.2.2 ++ [1]) < code (p.2.2 ++ [2])
      omega
    · omega
    · omega
    · omega
  · have hc : code p.2.2 + 1 ≤ code q.2.2 := by
      rcases get m q hq with ⟨ei, gi⟩ | ⟨ei, rfl⟩ | ⟨ei, rfl⟩
      · exact B.ord n m p q hm' hp gi
      · show _ ≤ code (p.2.2 ++ [1]); omega
      · show _ ≤ code (p.2.2 ++ [2]); omega
    rcases List.mem_append.mp ht with ht | ht
    · have := hb t ht
      omega
    · rcases List.mem_cons.mp ht with rfl | ht
      · show code (p.2.2 ++ [1]) < _; omega
      · rw [List.mem_singleton.mp ht]
        show code (p.2.2 ++ [2]) < _; omega
  · have hi' : i < L.length := by omega
    rw [List.getElem?_append_left hi'] at hq
    by_cases e : i = n
    · subst e
      rw [hp] at hq
      cases hq
      refine ⟨apart_false.mpr ⟨(kind_pa.mpr (by rw [h1]; rfl)).trans (kind_pa.mpr (by rw [h2]; rfl)).symm, .inl (by rw [h1]; rfl)⟩, fun a' b' c' d' g1 g2 => ?_⟩
      rw [h1] at g1
      rw [h2] at g2
      cases g1
      cases g2
      exact .inl ⟨by simp, by simp⟩
    · obtain ⟨o1, o2⟩ := B.old i q (by omega) hq
      refine ⟨o1, fun a' b' c' d' g1 g2 => ?_⟩
      rcases o2 a' b' c' d' g1 g2 with ⟨o3, o4⟩ | o3
      · exact .inl ⟨List.mem_append_left _ o3, List.mem_append_left _ o4⟩
      · exact .inr o3
/-- where the search stands, the least parting road is not behind -/
theorem Bf.ahead {S : List Th} {x y : Va} {L : List Nd} {n : Nat} (B : Bf S x y L n) {q : List Int} (hq : Parts S x y q) (hl : ∀ q', Parts S x y q' → code q ≤ code q') : ∃ p, L[n]? = some p ∧ code p.2.2 ≤ code q := by
  have at_ : ∀ i p, n ≤ i → L[i]? = some p → ∃ t, L[n]? = some t ∧ code t.2.2 ≤ code p.2.2 := fun i p hi hp => by
    have hlt := (List.getElem?_eq_some_iff.mp hp).1
    refine ⟨L[n], List.getElem?_eq_getElem (by omega), ?_⟩
    by_cases e : i = n
    · subst e
      rw [List.getElem?_eq_getElem hlt] at hp
      rw [← Option.some.inj hp]
      exact Nat.le_refl _
    · exact Nat.le_of_lt (B.ord n i _ p (by omega) (List.getElem?_eq_getElem (by omega)) hp)
  have go : ∀ (m : Nat) (p s : List Int), p.length = m → q = p ++ s → (∃ t ∈ L, t.2.2 = p) ∨ ∃ t, L[n]? = some t ∧ code t.2.2 ≤ code p := by
    intro m
    induction m with
    | zero =>
      intro p s hp _
      rw [List.eq_nil_of_length_eq_zero hp]
      exact .inl ⟨_, List.mem_of_getElem? B.root, rfl⟩
    | succ m ih =>
      intro p s hp e
      rcases snoc_cases p with rfl | ⟨p', k, rfl⟩
      · cases hp
      · have e' : q = p' ++ ([k] ++ s) := by rw [e, List.append_assoc]
        have hk : code p' ≤ code (p' ++ [k]) := code_le_app _ _
        rcases ih p' ([k] ++ s) (by rw [List.length_append] at hp; simpa using hp) e' with ⟨t, ht, rfl⟩ | ⟨t, ht, hc⟩
        · obtain ⟨i, hi⟩ := List.mem_iff_getElem?.mp ht
          by_cases hin : i < n
          · obtain ⟨o1, o2⟩ := B.old i t hin hi
            obtain ⟨f1, f2⟩ := B.path t ht
            obtain ⟨u, v, g1, g2, g3⟩ := id hq
            rw [e', follow_app, f1] at g1
            rw [e', follow_app, f2] at g2
            have g1' : (step S k t.1).bind (fun w => follow S w s) = some u := g1
            have g2' : (step S k t.2.1).bind (fun w => follow S w s) = some v := g2
            cases s1 : step S k t.1 with
            | none => rw [s1] at g1'; cases g1'
            | some w1 =>
              cases s2 : step S k t.2.1 with
              | none => rw [s2] at g2'; cases g2'
              | some w2 =>
                obtain ⟨⟨a, b⟩, k1⟩ := Option.isSome_iff_exists.mp (step_some s1).2
                obtain ⟨⟨c, d⟩, k2⟩ := Option.isSome_iff_exists.mp (step_some s2).2
                rcases o2 a b c d k1 k2 with ⟨o3, o4⟩ | o3
                · rcases (step_some s1).1 with rfl | rfl
                  · exact .inl ⟨_, o3, rfl⟩
                  · exact .inl ⟨_, o4, rfl⟩
                · obtain ⟨q', hq', lt⟩ := pruned (e' ▸ hq) f1 f2 o3
                  have := hl q' hq'
                  rw [e'] at this
                  omega
          · obtain ⟨t', h1, h2⟩ := at_ i t (by omega) hi
            exact .inr ⟨t', h1, Nat.le_trans h2 hk⟩
        · exact .inr ⟨t, ht, Nat.le_trans hc hk⟩
  rcases go q.length q [] rfl (List.append_nil _).symm with ⟨t, ht, rfl⟩ | h
  · obtain ⟨i, hi⟩ := List.mem_iff_getElem?.mp ht
    by_cases hin : i < n
    · obtain ⟨o1, _⟩ := B.old i t hin hi
      obtain ⟨f1, f2⟩ := B.path t ht
      obtain ⟨u, v, g1, g2, g3⟩ := hq
      rw [f1] at g1
      rw [f2] at g2
      cases g1
      cases g2
      rw [o1] at g3
      cases g3
    · exact at_ i t (by omega) hi
  · exact h
theorem least_of {S : List Th} {x y : Va} : ∀ (c : Nat) (q : List Int), code q ≤ c → Parts S x y q → ∃ q', Parts S x y q' ∧ code q' ≤ code q ∧ ∀ t, Parts S x y t → code q' ≤ code t := by
  intro c
  induction c with
  | zero => exact fun q hc hq => ⟨q, hq, Nat.le_refl _, fun t _ => by omega⟩
  | succ c ih =>
    intro q hc hq
    by_cases h : ∃ t, Parts S x y t ∧ code t < code q
    · obtain ⟨t, ht, l⟩ := h
      obtain ⟨q', h1, h2, h3⟩ := ih t (by omega) ht
      exact ⟨q', h1, by omega, h3⟩
    · refine ⟨q, hq, Nat.le_refl _, fun t ht => ?_⟩
      refine Nat.le_of_not_lt fun l => h ⟨t, ht, l⟩
theorem Bf.found {S : List Th} {x y : Va} {L : List Nd} {n : Nat} (B : Bf S x y L n) {p : Nd} (hp : L[n]? = some p) (ha : apart S p.1 p.2.1 = true) : Least S x y (some p.2.2) := by
  obtain ⟨f1, f2⟩ := B.path p (List.mem_of_getElem? hp)
  refine ⟨⟨_, _, f1, f2, ha⟩, fun q hq => ?_⟩
  obtain ⟨q', h1, h2, h3⟩ := least_of (code q) q (Nat.le_refl _) hq
  obtain ⟨t, ht, hc⟩ := B.ahead h1 h3
  rw [hp] at ht
  cases ht
  omega
theorem Bf.none {S : List Th} {x y : Va} {L : List Nd} {n : Nat} (B : Bf S x y L n) (hn : L.length ≤ n) : Least S x y none := fun q hq => by
  obtain ⟨q', h1, h2, h3⟩ := least_of (code q) q (Nat.le_refl _) hq
  obtain ⟨t, ht, hc⟩ := B.ahead h1 h3
  rw [List.getElem?_eq_none hn] at ht
  cases ht
end K22
namespace K22
open PySem PySem.Spec PyProof.Rows L2 Kt Evl
def topS (i : Nat) : Stmt := PySem.Challenge.pw_keptrest_k22_whole_least_roads.main.body.getD i (.Pass ⟨0, 0, 0, 0⟩)
structure Txt (K : PySem.W.Frag) (mg : Str → Option Value) : Prop where
  len : mg "len" = none
  int : mg "int" = none
  repr : mg "repr" = none
  tuple : mg "tuple" = none
  list : mg "list" = none
  range : mg "range" = none
  type : mg "type" = none
  zip : mg "zip" = none
  bool : mg "bool" = none
  enumerate : mg "enumerate" = none
  isinstance : mg "isinstance" = none
end K22
namespace K22
open PySem PySem.Spec PyProof.Rows L2 Kt Evl
section
variable {P : Program} {w : World} {K : PySem.W.Frag} {mg : Str → Option Value} {base : Heap}
abbrev s_law_draw : Stmt := topS 20
theorem sc_law_draw : FnScope ["m", "below", "found", "spot", "cells", "added", "cell", "blend"] ["m", "below"] (defScope s_law_draw) := ⟨rfl, rfl, rfl, by decide +kernel, rfl, by decide +kernel, by decide +kernel⟩
theorem c_law_draw (T : Txt K mg) (D : DefG K mg "_law_draw" s_law_draw ["m", "below"]) : CalG P w K mg base 1 "_law_draw" (spDraw K) := by
  refine calG D sc_law_draw (fun vs H Q E h => ?_) (fun cdv f A outer s H vs Q E hA hr h => ?_)
  · obtain ⟨m, c, b, n, rfl, _⟩ := h
    rfl
  · obtain ⟨m, c, b, n, rfl, hD, ⟨ns, h7, h8, h9⟩, hn, hb, hb2, q⟩ := h
    have hu := hu_of hr
    obtain ⟨kvs, l, sd, sp, h1, h2, h3, h4, h5, h6, h10, h11, h12, h13⟩ := id hD.ex
    have hz : kvs.length < sizeLine := Nat.lt_of_le_of_lt h2 (Nat.lt_of_lt_of_le (by omega) (by decide : 2000000 ≤ sizeLine))
    refine ⟨_, pss_cons (ps_if (pt_cmpR op_gt (pe_dget hu (pv 0) pe_str (fun _ _ => rfl)) pe_int (nomark _))
        (pss_cons (ps_set (i := 2) sc_law_draw.nd rfl (Or.inl rfl) (pe_op op_modN (pe_callTy call_intO (by rfl) T.int (by decide +kernel) (pa_cons (pe_dget hu (pv 0) pe_str (fun _ _ => rfl)) pa_nil)) (pv 1)))
        (pss_cons (ps_dput hu (pv 0) pe_str (pe_op op_fdivN (pe_dget hu (pv 0) pe_str (fun _ _ => rfl)) (pv 1)) rfl)
        (pss_one (ps_ret (pv 2)))))
        (pss_nil))
      (pss_cons (ps_set (i := 3) sc_law_draw.nd rfl (Or.inl rfl) (pe_dget hu (pv 0) pe_str (fun _ _ => rfl)))
      (pss_cons (ps_dput hu (pv 0) pe_str (pe_op op_add (pv 3) pe_int) rfl)
      (pss_cons (ps_par (i := 4) (j := 5) (by rfl) sc_law_draw.nd rfl rfl (by decide) rfl rfl (pa_cons (pe_dget hu (pv 0) pe_str (fun _ _ => rfl)) (pa_cons (pe_op op_add (pe_dget hu (pv 0) pe_str (fun _ _ => rfl)) (pe_op op_mul (pe_op op_mul pe_int (pv 3)) (pv 3))) pa_nil)) (by rfl))
      (pss_cons (ps_set (i := 6) sc_law_draw.nd rfl (Or.inl rfl) (pe_ix ix_list (pv 4) (pe_op op_modN (pe_callTy call_intO (by rfl) T.int (by decide +kernel) (pa_cons (pv 3) pa_nil)) (pe_callB call_lenO (by rfl) T.len (by decide +kernel) (pa_cons (pv 4) pa_nil))) (fun _ _ => rfl)))
      (pss_cons (ps_set (i := 7) sc_law_draw.nd rfl (Or.inl rfl) (pe_op op_modN (pe_callTy call_intO (by rfl) T.int (by decide +kernel) (pa_cons (pe_op op_add (pe_op op_mul (pv 6) (pe_op op_add (pe_op op_mul pe_int (pv 3)) pe_int)) (pv 5)) pa_nil)) pe_int))
      (pss_cons (ps_set (i := 7) sc_law_draw.nd rfl (Or.inl rfl) (pe_op op_modN (pe_callTy call_intO (by rfl) T.int (by decide +kernel) (pa_cons (pe_op op_add (pe_op op_add (pe_op op_mul (pv 7) (pv 7)) (pe_op op_mul pe_int (pv 3))) (pe_dget hu (pv 0) pe_str (fun _ _ => rfl))) pa_nil)) pe_int))
      (pss_one (ps_ret (pe_op op_modN (pe_op op_fdivN (pe_op op_modN (pe_callTy call_intO (by rfl) T.int (by decide +kernel) (pa_cons (pe_op op_add (pe_op op_mul (pv 7) pe_int) (pv 3)) pa_nil)) pe_int) pe_int) (pv 1)))))))))), ?_⟩
    walk_at "rd"
    refine rd_dg (k := kLeft) h1 h3 ?_
    walk_at "rd"
    refine ite2 (fun hl => ?_) (fun hl => ?_)
    · walk_at "rd"
      refine rd_dg (k := kLeft) h1 h3 ?_
      walk_at "rd"
      refine rd_I (by omega) ?_
      walk_at "rd"
      refine rd_dg (k := kLeft) h1 h3 ?_
      walk_at "rd"
      refine rd_I ⟨by omega, by omega⟩ ?_
      walk_at "rd"
      refine rd_dp (k := kLeft) h1 hz ?_
      walk_at "rd"
      refine q _ _ (Int.fmod_nonneg_of_pos _ hb) (Int.fmod_lt_of_pos _ hb) Keeps.put ⟨_, l.fdiv b, sd, sp, upd_same, Nat.le_trans (length_putK _ _ _) (by omega), ?_, ?_, ?_, ?_, h10, h11, h12, by omega⟩
      · rw [valV_put, if_pos rfl]
      · rw [valV_put, if_neg (fun z => n_ld z.symm)]; exact h4
      · rw [valV_put, if_neg (fun z => n_ls z.symm)]; exact h5
      · rw [valV_put, if_neg (fun z => n_lc z.symm)]; exact h6
    · walk_at "rd"
      refine rd_dg (k := kSpot) h1 h5 ?_
      walk_at "rd"
      refine rd_dp (k := kSpot) h1 hz ?_
      have g1 : (upd H m (.dK (putK kvs kSpot (.int (sp + 1))))) m = some (.dK (putK kvs kSpot (.int (sp + 1)))) := upd_same
      have k2 : Keeps m H (upd H m (.dK (putK kvs kSpot (.int (sp + 1))))) := Keeps.put
      have g3 : valV (putK kvs kSpot (.int (sp + 1))) kLeft = some (.int l) := by rw [valV_put, if_neg n_ls]; exact h3
      have g4 : valV (putK kvs kSpot (.int (sp + 1))) kSeed = some (.int sd) := by rw [valV_put, if_neg (fun z => n_sd z.symm)]; exact h4
      have g5 : valV (putK kvs kSpot (.int (sp + 1))) kSpot = some (.int (sp + 1)) := by rw [valV_put, if_pos rfl]
      have g6 : valV (putK kvs kSpot (.int (sp + 1))) kCells = some (.ref c) := by rw [valV_put, if_neg (fun z => n_sc z.symm)]; exact h6
      have g7 := k2.lst h1 h7
      have gz : (putK kvs kSpot (.int (sp + 1))).length ≤ 10 + (n + 1) := Nat.le_trans (length_putK _ _ _) (by omega)
      generalize upd H m (.dK (putK kvs kSpot (.int (sp + 1)))) = H2 at *
      generalize putK kvs kSpot (.int (sp + 1)) = kv2 at *
      walk_at "rd"
      refine rd_dg (k := kCells) g1 g6 ?_
      walk_at "rd"
      refine rd_dg (k := kSeed) g1 g4 ?_
      walk_at "rd"
      refine rd_I (.inl ⟨by omega, by omega⟩) ?_
      walk_at "rd"
      refine rd_I (.inr ⟨by omega, by omega⟩) ?_
      walk_at "rd"
      refine rd_lenO (.inl g7) ?_
      have hfl : (0 : Int) < ((ns.map V.int).length : Int) := by rw [List.length_map]; omega
      walk_at "rd"
      refine rd_I (by omega) ?_
      have f1 := Int.fmod_nonneg_of_pos sp hfl
      have f2 := Int.fmod_lt_of_pos sp hfl
      obtain ⟨j, hj⟩ : ∃ j : Nat, sp.fmod ((ns.map V.int).length : Int) = (j : Int) := ⟨(sp.fmod _).toNat, (Int.toNat_of_nonneg f1).symm⟩
      rw [hj] at f2 ⊢
      have hjn : j < ns.length := by rw [List.length_map] at f2; omega
      walk_at "rd"
      refine rd_ixL g7 (atI_nat (v := .int ns[j]) (by rw [List.getElem?_map, List.getElem?_eq_getElem hjn]; rfl)) ?_
      generalize ns[j] = cell
      walk_at "rd"
      refine rd_I (.inl ⟨by omega, by omega⟩) ?_
      walk_at "rd"
      refine rd_I (.inr ⟨by omega, by omega⟩) ?_
      walk_at "rd"
      refine rd_I (by omega) ?_
      generalize hB1 : (cell * (2 * sp + 3) + (sd + 40503 * sp * sp)).fmod 2147483647 = B1
      have b1 : 0 ≤ B1 := hB1 ▸ Int.fmod_nonneg_of_pos _ (by omega)
      have b2 : B1 < 2147483647 := hB1 ▸ Int.fmod_lt_of_pos _ (by omega)
      walk_at "rd"
      refine rd_I (.inl ⟨by omega, by omega⟩) ?_
      walk_at "rd"
      refine rd_I (.inl ⟨by omega, by omega⟩) ?_
      walk_at "rd"
      refine rd_dg (k := kSeed) g1 g4 ?_
      walk_at "rd"
      refine rd_I (by omega) ?_
      generalize hB2 : (B1 * B1 + 69621 * sp + sd).fmod 2147483629 = B2
      have b3 : 0 ≤ B2 := hB2 ▸ Int.fmod_nonneg_of_pos _ (by omega)
      have b4 : B2 < 2147483629 := hB2 ▸ Int.fmod_lt_of_pos _ (by omega)
      walk_at "rd"
      refine rd_I (.inl ⟨by omega, by omega⟩) ?_
      walk_at "rd"
      refine rd_I (by omega) ?_
      walk_at "rd"
      refine rd_I ⟨by omega, by omega⟩ ?_
      walk_at "rd"
      refine rd_I (by omega) ?_
      exact q _ _ (Int.fmod_nonneg_of_pos _ hb) (Int.fmod_lt_of_pos _ hb) k2 ⟨kv2, l, sd, sp + 1, g1, gz, g3, g4, g5, g6, h10, h11, by omega, by omega⟩

abbrev s_law_of : Stmt := topS 21
theorem sc_law_of : FnScope ["m", "some"] ["m", "some"] (defScope s_law_of) := ⟨rfl, rfl, rfl, by decide +kernel, rfl, by decide +kernel, by decide +kernel⟩
theorem c_law_of (T : Txt K mg) (D : DefG K mg "_law_of" s_law_of ["m", "some"]) (c_law_draw : CalG P w K mg base 1 "_law_draw" (spDraw K)) : CalG P w K mg base 2 "_law_of" (spOf K) := by
  refine calG D sc_law_of (fun vs H Q E h => ?_) (fun cdv f A outer s H vs Q E hA hr h => ?_)
  · obtain ⟨m, c, p, xs, n, rfl, _⟩ := h
    rfl
  · obtain ⟨m, c, p, xs, n, rfl, hL, hl, hl2, hD, hC, hn, q⟩ := h
    refine ⟨_, pss_one (ps_ret (pe_ix ix_list (pv 1) (pe_cG c_law_draw hA hr (by decide) (by rfl) (pa_cons (pv 0) (pa_cons (pe_callB call_lenO (by rfl) T.len (by decide +kernel) (pa_cons (pv 1) pa_nil)) pa_nil))) (fun _ _ => rfl))), ?_⟩
    walk_at "rd"
    refine rd_lenO (.inl hL) ?_
    walk_at "rd"
    refine ⟨m, c, _, n, rfl, hD, hC, hn, by omega, by omega, fun r H' r0 r1 k2 d2 => ?_⟩
    obtain ⟨j, rfl⟩ : ∃ j : Nat, r = (j : Int) := ⟨r.toNat, (Int.toNat_of_nonneg r0).symm⟩
    have hj : j < xs.length := by omega
    refine rd_ixL (hD.lst k2 hL) (atI_nat (List.getElem?_eq_getElem hj)) ?_
    exact q j _ H' (List.getElem?_eq_getElem hj) k2 d2

abbrev s_law_begun : Stmt := topS 19
theorem sc_law_begun : FnScope ["script", "k", "cells", "great", "cell", "begun"] ["script", "k"] (defScope s_law_begun) := ⟨rfl, rfl, rfl, by decide +kernel, rfl, by decide +kernel, by decide +kernel⟩
theorem c_law_begun (T : Txt K mg) (D : DefG K mg "_law_begun" s_law_begun ["script", "k"]) : CalG P w K mg base 1 "_law_begun" (spBegun K) := by
  refine calG D sc_law_begun (fun vs H Q E h => ?_) (fun cdv f A outer s H vs Q E hA hr h => ?_)
  · obtain ⟨a, ns, k, rfl, _⟩ := h
    rfl
  · obtain ⟨a, ns, k, rfl, hS, hl, hk0, hk1, q⟩ := h
    have hu := hu_of hr
    refine ⟨_, pss_cons (ps_set (i := 2) sc_law_begun.nd rfl (Or.inl rfl) (pe_op op_cat (pe_slice sl_list (pv 0) (po_some (pv 1)) po_none) (pe_slice sl_list (pv 0) po_none (po_some (pv 1)))))
      (pss_cons (ps_setLc (i := 3) (own := [("cell", 4)]) (g := gName 4) (by rfl) sc_law_begun.nd rfl rfl (sw_true rfl rfl rfl (by decide +kernel)) (pi_list (pv 0)) (blkOk_by (own := [("cell", 4)]) (N := ["script", "k", "cells", "great", "cell", "begun"]) (sc := defScope s_law_begun) (by decide +kernel)) (fun _ _ _ _ _ => pg_name (i := 4) sc_law_begun.nd rfl (Or.inl rfl)) (fun _ _ _ _ _ => pts_one (pt_cmpR op_ge (pv 4) (pe_op op_pow pe_int pe_int) (nomark _))) (fun _ _ _ _ _ => pv 4))
      (pss_cons (ps_set (i := 5) sc_law_begun.nd rfl (Or.inl rfl) (pe_op op_add pe_int (pe_op op_mul pe_int (pv 1))))
      (pss_cons (ps_for PassesOwn.never rfl (pi_list (pv 2)) (pg_name (i := 4) sc_law_begun.nd rfl (Or.inl rfl))
        (pss_one (ps_set (i := 5) sc_law_begun.nd rfl (Or.inl rfl) (pe_op op_modN (pe_callTy call_intO (by rfl) T.int (by decide +kernel) (pa_cons (pe_op op_add (pe_op op_mul (pv 5) pe_int) (pv 4)) pa_nil)) pe_int))))
      (pss_one (ps_ret (pe_disp (pps_cons pe_str (pe_ifExp (pt_cmpR op_lt (pv 1) (pe_callB call_lenO (by rfl) T.len (by decide +kernel) (pa_cons (pv 3) pa_nil)) (nomark _)) (pe_ix ix_list (pv 3) (pv 1) (fun _ _ => rfl)) pe_int) (pps_cons pe_str (pv 5) (pps_cons pe_str (pe_op op_cat (pv 2) (pe_lst (pa_cons (pe_op op_add (pe_op op_mul pe_int (pv 1)) pe_int) pa_nil))) (pps_cons pe_str pe_int (pps_cons pe_str pe_int pps_nil))))) (by rfl) (by rfl) (fun z => by cases z) (by decide))))))), ?_⟩
    walk_at "rd"
    refine rd_slL hS fun p1 H1 n1 e1 h1 => ?_
    walk_at "rd"
    refine rd_slL (ex_l e1 hS) fun p2 H2 n2 e12 h2 => ?_
    obtain ⟨m1, q1, l1⟩ := cut_ints ns (some k) none
    obtain ⟨m2, q2, l2⟩ := cut_ints ns none (some k)
    rw [q1] at h1
    rw [q2] at h2
    have e2 := e1.trans e12
    refine rd_cat (e12 _ _ h1) h2 ?_ fun cl H3 n3 e23 g3 => ?_
    · rw [List.length_map, List.length_map]
      exact Nat.le_trans (by omega : _ ≤ 126) (by decide)
    have e3 := e2.trans e23
    have n3' : H cl = none := fresh_back e2 n3
    rw [← List.map_append] at g3
    have hcl : (m1 ++ m2).length ≤ 126 := by rw [List.length_append]; omega
    generalize m1 ++ m2 = cs at *
    walk_at "rd"
    refine rd_lstW (ex_l e3 hS) fun gr n4 => ?_
    refine lc_list (xs := ns.map V.int) (fun i H' => Ex H3 H' ∧ ∃ gs : List Int, H' gr = some (.lst (gs.map V.int)) ∧ gs.length ≤ i) ⟨Ex.new n4, [], upd_same, Nat.le_refl _⟩ (fun i H' _ p => ex_l (e3.trans p.1) hS) (fun i x H' hi p => ?_) (fun H' p => ?_)
    · obtain ⟨z, rfl, hz⟩ := get_ints hi
      obtain ⟨e4, gs, h4, l4⟩ := p
      have hil : i < ns.length := (List.getElem?_eq_some_iff.mp hz).1
      walk_at "rd"
      refine ⟨rfl, ?_⟩
      walk_at "rd"
      refine rd_I ⟨by decide, by decide, by decide⟩ ?_
      walk_at "rd"
      refine ite2 (fun hb => ?_) (fun hb => ?_)
      · walk_at "rd"
        refine ⟨_, h4, ?_, e4.mut n4, gs ++ [z], ?_, ?_⟩
        · rw [List.length_map]
          exact Nat.lt_of_le_of_lt (by omega : _ ≤ 63) (by decide)
        · rw [upd_same, List.map_append]; rfl
        · rw [List.length_append]; exact Nat.succ_le_succ l4
      · exact ⟨e4, gs, h4, Nat.le_succ_of_le l4⟩
    · obtain ⟨e4, gs, h4, l4⟩ := p
      rw [List.length_map] at l4
      have e5 := e3.trans e4
      have h5 := e4 _ _ g3
      have n4' : H gr = none := fresh_back e3 n4
      walk_at "rd"
      refine rd_I (.inl ⟨by decide, by decide⟩) ?_
      walk_at "rd"
      refine rd_lstW (sq_of h5) (for_list (xs := cs.map V.int) (fun i σ H'' => ∃ (b : Int) (x : Option V), σ = [some (.ref a), some (.int k), some (.ref cl), some (.ref gr), x, some (.int b)] ∧ H'' = H' ∧ 0 ≤ b ∧ b < 2147483647)
        ⟨59 + 10 * k, none, rfl, rfl, by omega, by omega⟩ (fun i σ H'' _ p => ?_) (fun i x σ H'' hi p => ?_) (fun σ H'' p => ?_))
      · obtain ⟨b, x, rfl, rfl, _⟩ := p
        exact sq_of h5
      · obtain ⟨b, x', rfl, rfl, b0, b1⟩ := p
        obtain ⟨z, rfl, hz⟩ := get_ints hi
        walk_at "rd"
        refine rd_I (.inl ⟨by omega, by omega⟩) ?_
        walk_at "rd"
        refine rd_I (by omega) ?_
        walk_at "rd"
        exact ⟨_, some (.int z), rfl, rfl, Int.fmod_nonneg_of_pos _ (by omega), Int.fmod_lt_of_pos _ (by omega)⟩
      · obtain ⟨b, x', rfl, rfl, b0, b1⟩ := p
        walk_at "rd"
        intro m nm
        have e6 := e5.trans (Ex.new (o := .dK []) nm)
        have f1 : Ex H'' (upd H'' m (.dK [])) := Ex.new nm
        have m1' : (upd H'' m (.dK [])) m = some (.dK []) := upd_same
        have nm' : H m = none := fresh_back e5 nm
        generalize upd H'' m (.dK []) = H6 at *
        walk_at "rd"
        refine rd_ifE2 (f := V.int) (fun lf => ?_) (fun all => ?_)
        · walk_at "rd"
          refine rd_I (.inl ⟨by decide, by decide⟩) ?_
          walk_at "rd"
          refine rd_newL fun p6 H7 n6 e67 h7 => ?_
          refine rd_cat (e67 _ _ (f1 _ _ h5)) h7 ?_ fun cl2 H8 n7 e78 g8 => ?_
          · rw [List.length_map]
            exact Nat.le_trans (Nat.add_le_add_right hcl 1) (by decide)
          have g1 := e78 _ _ (e67 _ _ m1')
          have e8 := (e6.trans e67).trans e78
          rw [show cs.map V.int ++ [V.int (43 * k + 17)] = (cs ++ [43 * k + 17]).map V.int by rw [List.map_append]; rfl] at g8
          walk_at "rd"
          obtain ⟨z0, z1, z2, z3, z4⟩ := merge5 (.int lf) (.int b) (.ref cl2) (.int 0) (.int 0)
          refine ⟨g1, [(kLeft, .int lf), (kSeed, .int b), (kCells, .ref cl2), (kSpot, .int 0), (kNext, .int 0)], rfl, by show 5 ≤ 15; decide, ?_⟩
          refine q m cl2 _ nm' (e8.mut nm') ⟨_, lf, b, 0, upd_same, Nat.le_trans z0 (by decide), z1, z2, z3, z4, b0, b1, by decide, by decide⟩ ⟨cs ++ [43 * k + 17], sq_of ((upd_ne (fun z => ?_)).trans g8), ?_, ?_⟩
          · rw [z, g1] at g8
            cases g8
          · rw [List.length_append]; exact Nat.succ_pos _
          · rw [List.length_append]; exact Nat.le_trans (Nat.add_le_add_right hcl 1) (by decide)
        · refine rd_ifE ?_
          walk_at "rd"
          refine rd_lenO (.inl (sq_of (f1 _ _ h4))) ?_
          rw [List.length_map]
          walk_at "rd"
          refine ite2 (fun hb => ?_) (fun hb => ?_)
          · obtain ⟨j, rfl⟩ : ∃ j : Nat, k = (j : Int) := ⟨k.toNat, (Int.toNat_of_nonneg hk0).symm⟩
            have hj : j < gs.length := by have := of_decide_eq_true hb; omega
            walk_at "rd"
            refine rd_ixL (sq_of (f1 _ _ h4)) (atI_nat (v := .int gs[j]) (by rw [List.getElem?_map, List.getElem?_eq_getElem hj]; rfl)) ?_
            exact all _
          · exact all 0
end
end K22
namespace K22
open PySem PySem.Spec PyProof.Rows L2 Kt Evl
def nmS (c : Bool) : Str := if c then "x" else "y"
def Va.isTh : Va → Bool | .th _ => true | _ => false
/-- v stands for x -/
def Vr (H : Hp) (v : V) : Va → Prop
  | .th i => ∃ a, v = .ref a ∧ H a = some (.tup [.str "thing", .int (i : Int)])
  | .nl => ∃ a, v = .ref a ∧ H a = some (.tup [])
  | .nm c => ∃ a, v = .ref a ∧ H a = some (.tup [.str "name", .str (nmS c)])
  | .bl b => v = .bl b
  | .it i => v = .int i
def Vd : Va → PyData
  | .th i => .tuple [.str "thing", .int (i : Int)]
  | .nl => .tuple []
  | .nm c => .tuple [.str "name", .str (nmS c)]
  | .bl b => .bool b
  | .it i => .int i
def TM (H H' : Hp) : Prop := ∀ p xs, H p = some (.tup xs) → H' p = some (.tup xs)
theorem TM.ex {H H' : Hp} (e : Ex H H') : TM H H' := fun _ _ h => e _ _ h
theorem TM.tx {H H' : Hp} (e : Tx H H') : TM H H' := e.t
theorem TM.trans {H H1 H2 : Hp} (a : TM H H1) (b : TM H1 H2) : TM H H2 := fun _ _ h => b _ _ (a _ _ h)
theorem Vr.mono {H H' : Hp} (e : TM H H') {v : V} : ∀ {x : Va}, Vr H v x → Vr H' v x
  | .th _, ⟨a, h1, h2⟩ => ⟨a, h1, e _ _ h2⟩
  | .nl, ⟨a, h1, h2⟩ => ⟨a, h1, e _ _ h2⟩
  | .nm _, ⟨a, h1, h2⟩ => ⟨a, h1, e _ _ h2⟩
  | .bl _, h => h
  | .it _, h => h
theorem Vr.dp {K : PySem.W.Frag} {H : Hp} {v : V} : ∀ {x : Va}, Vr H v x → Dp K H v (Vd x)
  | .th _, ⟨a, h1, h2⟩ => h1 ▸ .tup (st_of h2) (.cons (.str _) (.cons (.int _) .nil))
  | .nl, ⟨a, h1, h2⟩ => h1 ▸ .tup (st_of h2) .nil
  | .nm _, ⟨a, h1, h2⟩ => h1 ▸ .tup (st_of h2) (.cons (.str _) (.cons (.str _) .nil))
  | .bl b, h => (show v = .bl b from h) ▸ .bl b
  | .it i, h => (show v = .int i from h) ▸ .int i
/-- v stands for the thing t -/
def Tr (H : Hp) (v : V) : Th → Prop
  | .pr x y => ∃ a u w, v = .ref a ∧ H a = some (.tup [.str "pair", u, w]) ∧ Vr H u x ∧ Vr H w y
  | .fn => ∃ a b c, v = .ref a ∧ H a = some (.tup [.str "fn", .ref b, .ref c]) ∧ H b = some (.tup [.int 0]) ∧ H c = some (.tup [])
  | .kp => ∃ a b c, v = .ref a ∧ H a = some (.tup [.str "kept", .ref b, .ref c]) ∧ H b = some (.tup []) ∧ H c = some (.tup [])
theorem Tr.mono {H H' : Hp} (e : TM H H') {v : V} : ∀ {t : Th}, Tr H v t → Tr H' v t
  | .pr _ _, ⟨a, u, w, h1, h2, h3, h4⟩ => ⟨a, u, w, h1, e _ _ h2, h3.mono e, h4.mono e⟩
  | .fn, ⟨a, b, c, h1, h2, h3, h4⟩ => ⟨a, b, c, h1, e _ _ h2, e _ _ h3, e _ _ h4⟩
  | .kp, ⟨a, b, c, h1, h2, h3, h4⟩ => ⟨a, b, c, h1, e _ _ h2, e _ _ h3, e _ _ h4⟩
/-- the items xs are the things S -/
def Tl (H : Hp) (xs : List V) (S : List Th) : Prop := xs.length = S.length ∧ ∀ (i : Nat) (t : Th), S[i]? = some t → ∃ u, xs[i]? = some u ∧ Tr H u t
theorem Tl.mono {H H' : Hp} (e : TM H H') {xs : List V} {S : List Th} (h : Tl H xs S) : Tl H' xs S := ⟨h.1, fun i t ht => let ⟨u, h1, h2⟩ := h.2 i t ht; ⟨u, h1, h2.mono e⟩⟩
def Sr (H : Hp) (v : V) (S : List Th) : Prop := ∃ a xs, v = .ref a ∧ H a = some (.tup xs) ∧ Tl H xs S
theorem Sr.mono {H H' : Hp} (e : TM H H') {v : V} {S : List Th} (h : Sr H v S) : Sr H' v S := let ⟨a, xs, h1, h2, h3⟩ := h; ⟨a, xs, h1, e _ _ h2, h3.mono e⟩
def OkV (n : Nat) : Va → Prop
  | .th i => i < n
  | .it z => z.natAbs < 10 ^ 38
  | _ => True
def OkS (S : List Th) : Prop := ∀ (i : Nat) (a b : Va), S[i]? = some (.pr a b) → OkV S.length a ∧ OkV S.length b
theorem kids_th {S : List Th} {x a b : Va} (h : kids S x = some (a, b)) : ∃ i, x = .th i ∧ S[i]? = some (.pr a b) := by
  cases x with
  | th i =>
    refine ⟨i, rfl, ?_⟩
    have h : (match S[i]? with | some (.pr a b) => some (a, b) | _ => none) = some (a, b) := h
    cases e : S[i]? with
    | none => rw [e] at h; cases h
    | some t =>
      rw [e] at h
      cases t with
      | pr c d => cases h; rfl
      | fn => cases h
      | kp => cases h
  | nl => cases h
  | nm c => cases h
  | bl b => cases h
  | it i => cases h
theorem kids_ok {S : List Th} (hS : OkS S) {x a b : Va} (h : kids S x = some (a, b)) : OkV S.length a ∧ OkV S.length b := let ⟨i, _, e⟩ := kids_th h; hS i a b e
def kS : Kd → Str
  | .tr => "truth" | .nu => "number" | .no => "nothing" | .na => "name" | .pa => "pair" | .fu => "function"
theorem kS_inj {a b : Kd} (h : kS a = kS b) : a = b := by
  revert h
  cases a <;> cases b <;> first | (intro _; rfl) | (intro h; exact absurd h (by decide +kernel))
section
variable {P : Program} {w : World} {K : PySem.W.Frag} {mg : Str → Option Value} {base : Heap}
/-- is_thing(value) -/
def spThing : Sp := fun vs H Q _ => ∃ (v : V) (x : Va), vs = [v] ∧ Vr H v x ∧ Q (.bl x.isTh) H
abbrev s_is_thing : Stmt := topS 7
theorem sc_is_thing : FnScope ["value"] ["value"] (defScope s_is_thing) := ⟨rfl, rfl, rfl, by decide +kernel, rfl, by decide +kernel, by decide +kernel⟩
theorem c_is_thing (T : Txt K mg) (D : DefG K mg "is_thing" s_is_thing ["value"]) : CalO P w K mg base 1 "is_thing" spThing := by
  refine calO D sc_is_thing (fun vs H Q E h => ?_) (fun cdv f A outer s H vs Q E hr h => ?_)
  · obtain ⟨v, x, rfl, _⟩ := h
    rfl
  · obtain ⟨v, x, rfl, hx, q⟩ := h
    refine ⟨_, pss_one (ps_ret (pe_and (pe_cmpR op_isTy' (pe_callTy call_type1 (by rfl) T.type (by decide +kernel) (pa_cons (pv 0) pa_nil)) (pe_bltn (v := .ty "tuple") (by rfl) T.tuple (by decide +kernel) rfl) (nomark _)) (pe_and (pe_cmpR op_eq (pe_callB call_lenO (by rfl) T.len (by decide +kernel) (pa_cons (pv 0) pa_nil)) pe_int (nomark _)) (pe_one (pe_cmpR op_eq (pe_ix ix_tup (pv 0) pe_int (fun _ _ => rfl)) pe_str (nomark _)))))), ?_⟩
    walk_at "rd"
    cases x with
    | bl b =>
      cases (show v = .bl b from hx)
      refine rd_typ (.bl b) ?_
      walk_at "rd"
      refine if_no (by decide) ?_
      exact q
    | it i =>
      cases (show v = .int i from hx)
      refine rd_typ (.int i) ?_
      walk_at "rd"
      refine if_no (by decide) ?_
      exact q
    | nl =>
      obtain ⟨a, rfl, h⟩ := hx
      refine rd_typ (.tup (st_of h)) ?_
      walk_at "rd"
      refine if_yes rfl ?_
      walk_at "rd"
      refine rd_lenO (.inr (st_of h)) ?_
      walk_at "rd"
      refine rd_eq rfl ?_
      walk_at "rd"
      refine if_no (by decide) ?_
      exact q
    | nm c =>
      obtain ⟨a, rfl, h⟩ := hx
      refine rd_typ (.tup (st_of h)) ?_
      walk_at "rd"
      refine if_yes rfl ?_
      walk_at "rd"
      refine rd_lenO (.inr (st_of h)) ?_
      walk_at "rd"
      refine rd_eq rfl ?_
      walk_at "rd"
      refine if_yes rfl ?_
      walk_at "rd"
      refine rd_ixT (st_of h) rfl ?_
      walk_at "rd"
      refine rd_eq rfl ?_
      rw [decide_eq_false (by decide +kernel)]
      exact q
    | th i =>
      obtain ⟨a, rfl, h⟩ := hx
      refine rd_typ (.tup (st_of h)) ?_
      walk_at "rd"
      refine if_yes rfl ?_
      walk_at "rd"
      refine rd_lenO (.inr (st_of h)) ?_
      walk_at "rd"
      refine rd_eq rfl ?_
      walk_at "rd"
      refine if_yes rfl ?_
      walk_at "rd"
      refine rd_ixT (st_of h) rfl ?_
      walk_at "rd"
      refine rd_eq rfl ?_
      rw [decide_eq_true rfl]
      exact q
/-- is_pair(store, value) -/
def spPair : Sp := fun vs H Q _ => ∃ (s v : V) (S : List Th) (x : Va), vs = [s, v] ∧ Sr H s S ∧ Vr H v x ∧ OkV S.length x ∧ Q (.bl (kids S x).isSome) H
abbrev s_is_pair : Stmt := topS 8
theorem sc_is_pair : FnScope ["store", "value"] ["store", "value"] (defScope s_is_pair) := ⟨rfl, rfl, rfl, by decide +kernel, rfl, by decide +kernel, by decide +kernel⟩
theorem c_is_pair (T : Txt K mg) (D : DefG K mg "is_pair" s_is_pair ["store", "value"]) (c_is_thing : CalO P w K mg base 1 "is_thing" spThing) : CalO P w K mg base 2 "is_pair" spPair := by
  refine calO D sc_is_pair (fun vs H Q E h => ?_) (fun cdv f A outer s H vs Q E hr h => ?_)
  · obtain ⟨s, v, S, x, rfl, _⟩ := h
    rfl
  · obtain ⟨s, v, S, x, rfl, hs, hx, ok, q⟩ := h
    refine ⟨_, pss_one (ps_ret (pe_and (pe_cO c_is_thing hr (by decide) (by rfl) (pa_cons (pv 1) pa_nil)) (pe_one (pe_cmpR op_eq (pe_ix ix_tup (pe_ix ix_tup (pv 0) (pe_ix ix_tup (pv 1) pe_int (fun _ _ => rfl)) (fun _ _ => rfl)) pe_int (fun _ _ => rfl)) pe_str (nomark _))))), ?_⟩
    walk_at "rd"
    refine ⟨v, x, rfl, hx, ?_⟩
    walk_at "rd"
    cases x with
    | bl b => exact q
    | it i => exact q
    | nl => exact q
    | nm c => exact q
    | th i =>
      refine iteT ?_
      obtain ⟨a, rfl, h⟩ := hx
      obtain ⟨b, xs, rfl, hb, hl, ht⟩ := hs
      have hi : i < S.length := ok
      obtain ⟨u, hu, tu⟩ := ht i S[i] (List.getElem?_eq_getElem hi)
      have ek : (kids S (.th i)).isSome = (match S[i] with | .pr _ _ => true | _ => false) := by
        show (match S[i]? with | some (.pr a b) => some (a, b) | _ => none).isSome = _
        rw [List.getElem?_eq_getElem hi]
        cases S[i] <;> rfl
      rw [ek] at q
      walk_at "rd"
      refine rd_ixT (st_of h) rfl ?_
      refine rd_ixT (st_of hb) (atI_nat hu) ?_
      walk_at "rd"
      generalize S[i] = t at tu q
      cases t with
      | pr x y =>
        obtain ⟨p, u1, w1, rfl, hp, _⟩ := tu
        refine rd_ixT (st_of hp) rfl ?_
        walk_at "rd"
        refine rd_eq rfl ?_
        rw [decide_eq_true rfl]
        exact q
      | fn =>
        obtain ⟨p, u1, w1, rfl, hp, _⟩ := tu
        refine rd_ixT (st_of hp) rfl ?_
        walk_at "rd"
        refine rd_eq rfl ?_
        rw [decide_eq_false (by decide +kernel)]
        exact q
      | kp =>
        obtain ⟨p, u1, w1, rfl, hp, _⟩ := tu
        refine rd_ixT (st_of hp) rfl ?_
        walk_at "rd"
        refine rd_eq rfl ?_
        rw [decide_eq_false (by decide +kernel)]
        exact q
end
end K22
namespace K22
open PySem PySem.Spec PyProof.Rows L2 Kt Evl
def tyN : Va → String | .bl _ => "bool" | .it _ => "int" | _ => "tuple"
section
variable {K : PySem.W.Frag} {H : Hp} {v : V}
theorem Vr.ty : ∀ {x : Va}, Vr H v x → TyB K H v (tyN x)
  | .th _, ⟨a, h1, h2⟩ => h1 ▸ .tup (st_of h2)
  | .nl, ⟨a, h1, h2⟩ => h1 ▸ .tup (st_of h2)
  | .nm _, ⟨a, h1, h2⟩ => h1 ▸ .tup (st_of h2)
  | .bl b, h => (show v = .bl b from h) ▸ .bl b
  | .it i, h => (show v = .int i from h) ▸ .int i
theorem Vr.tyx : ∀ {x : Va}, Vr H v x → TyX K H v (.type (tyN x))
  | .th _, ⟨a, h1, h2⟩ => h1 ▸ .base (.tup h2)
  | .nl, ⟨a, h1, h2⟩ => h1 ▸ .base (.tup h2)
  | .nm _, ⟨a, h1, h2⟩ => h1 ▸ .base (.tup h2)
  | .bl b, h => (show v = .bl b from h) ▸ .base (.bl b)
  | .it i, h => (show v = .int i from h) ▸ .base (.int i)
end
theorem ok_thing : PyData.strOk ("thing" : Str) = true := by decide +kernel
theorem ok_name : PyData.strOk ("name" : Str) = true := by decide +kernel
theorem ok_nm (c : Bool) : PyData.strOk (nmS c) = true := by cases c <;> decide +kernel
theorem shaped_Vd (x : Va) : SeqAt.shaped (Vd x) = true := by
  cases x <;> simp [Vd, SeqAt.shaped, PyData.canLay0, PyData.canLayAll0, PyData.depth, PyData.depthAll, ok_thing, ok_name, ok_nm]
theorem shaped_nil : SeqAt.shaped (.tuple []) = true := by decide +kernel
section
variable {P : Program} {w : World} {K : PySem.W.Frag} {mg : Str → Option Value} {base : Heap}
/-- is_integer(value) -/
def spInt : Sp := fun vs H Q _ => ∃ (v : V) (x : Va), vs = [v] ∧ Vr H v x ∧ Q (.bl (decide (tyN x = "int"))) H
abbrev s_is_integer : Stmt := topS 5
theorem sc_is_integer : FnScope ["value"] ["value"] (defScope s_is_integer) := ⟨rfl, rfl, rfl, by decide +kernel, rfl, by decide +kernel, by decide +kernel⟩
theorem c_is_integer (T : Txt K mg) (D : DefG K mg "is_integer" s_is_integer ["value"]) : CalO P w K mg base 1 "is_integer" spInt := by
  refine calO D sc_is_integer (fun vs H Q E h => ?_) (fun cdv f A outer s H vs Q E hr h => ?_)
  · obtain ⟨v, x, rfl, _⟩ := h
    rfl
  · obtain ⟨v, x, rfl, hx, q⟩ := h
    refine ⟨_, pss_one (ps_ret (pe_cmpR op_isTy' (pe_callTy call_type1 (by rfl) T.type (by decide +kernel) (pa_cons (pv 0) pa_nil)) (pe_bltn (v := .ty "int") (by rfl) T.int (by decide +kernel) rfl) (nomark _))), ?_⟩
    walk_at "rd"
    refine rd_typ hx.ty ?_
    walk_at "rd"
    exact q
/-- kind_of(store, value), also _law_kind -/
def spKind : Sp := fun vs H Q _ => ∃ (s v : V) (S : List Th) (x : Va), vs = [s, v] ∧ Sr H s S ∧ Vr H v x ∧ OkV S.length x ∧ ∀ H', Ex H H' → Q (.str (kS (kind S x))) H'
abbrev s_kind_of : Stmt := topS 9
theorem sc_kind_of : FnScope ["store", "value"] ["store", "value"] (defScope s_kind_of) := ⟨rfl, rfl, rfl, by decide +kernel, rfl, by decide +kernel, by decide +kernel⟩
set_option maxHeartbeats 2000000 in
theorem c_kind_of (T : Txt K mg) (D : DefG K mg "kind_of" s_kind_of ["store", "value"]) (c_is_integer : CalO P w K mg base 1 "is_integer" spInt) (c_is_pair : CalO P w K mg base 2 "is_pair" spPair) : CalO P w K mg base 3 "kind_of" spKind := by
  refine calO D sc_kind_of (fun vs H Q E h => ?_) (fun cdv f A outer s0 H vs Q E hr h => ?_)
  · obtain ⟨s, v, S, x, rfl, _⟩ := h
    rfl
  · obtain ⟨s, v, S, x, rfl, hs, hx, ok, q⟩ := h
    refine ⟨_, pss_cons (ps_if (pt_cmpR op_isTy' (pe_callTy call_type1 (by rfl) T.type (by decide +kernel) (pa_cons (pv 1) pa_nil)) (pe_bltn (v := .ty "bool") (by rfl) T.bool (by decide +kernel) rfl) (nomark _))
        (pss_one (ps_ret (pe_str)))
        (pss_nil))
      (pss_cons (ps_if (pt_val (pe_cO c_is_integer hr (by decide) (by rfl) (pa_cons (pv 1) pa_nil)))
        (pss_one (ps_ret (pe_str)))
        (pss_nil))
      (pss_cons (ps_if (pt_cmpR (op_eqD hr.units) (pv 1) (pe_tup pa_nil) (nomark _))
        (pss_one (ps_ret (pe_str)))
        (pss_nil))
      (pss_cons (ps_if (pt_cmpR op_eq (pe_ix ix_tup (pv 1) pe_int (fun _ _ => rfl)) pe_str (nomark _))
        (pss_one (ps_ret (pe_str)))
        (pss_nil))
      (pss_one (ps_ret (pe_ifExp (pt_val (pe_cO c_is_pair hr (by decide) (by rfl) (pa_cons (pv 0) (pa_cons (pv 1) pa_nil)))) pe_str pe_str)))))), ?_⟩
    walk_at "rd"
    refine rd_typ hx.ty ?_
    walk_at "rd"
    by_cases hb : tyN x = "bool"
    · refine if_yes hb ?_
      walk_at "rd"
      cases x with
      | bl b => exact q _ (Ex.refl _)
      | it i => exact absurd hb (by simp [tyN])
      | th i => exact absurd hb (by simp [tyN])
      | nm c => exact absurd hb (by simp [tyN])
      | nl => exact absurd hb (by simp [tyN])
    refine if_no hb ?_
    walk_at "rd"
    refine ⟨v, x, rfl, hx, ?_⟩
    walk_at "rd"
    by_cases hi : tyN x = "int"
    · refine if_yes hi ?_
      walk_at "rd"
      cases x with
      | it i => exact q _ (Ex.refl _)
      | bl b => exact absurd hi (by simp [tyN])
      | th i => exact absurd hi (by simp [tyN])
      | nm c => exact absurd hi (by simp [tyN])
      | nl => exact absurd hi (by simp [tyN])
    refine if_no hi ?_
    walk_at "rd"
    refine rd_newT fun p H1 np e1 hp => ?_
    refine rd_eqD (hx.mono (TM.ex e1)).dp (.tup (st_of hp) .nil) (shaped_Vd x) shaped_nil ?_
    walk_at "rd"
    cases x with
    | it i => exact absurd rfl hi
    | bl b => exact absurd rfl hb
    | nl =>
      rw [show PyData.eqv (Vd .nl) (.tuple []) = true from rfl]
      refine iteT ?_
      walk_at "rd"
      exact q _ e1
    | nm c =>
      rw [show PyData.eqv (Vd (.nm c)) (.tuple []) = false from rfl]
      refine iteF ?_
      obtain ⟨a, rfl, h⟩ := hx
      walk_at "rd"
      refine rd_ixT (st_of (e1 _ _ h)) rfl ?_
      walk_at "rd"
      refine rd_eq rfl ?_
      walk_at "rd"
      refine if_yes rfl ?_
      walk_at "rd"
      exact q _ e1
    | th i =>
      rw [show PyData.eqv (Vd (.th i)) (.tuple []) = false from rfl]
      refine iteF ?_
      have hx1 := hx.mono (TM.ex e1)
      obtain ⟨a, rfl, h⟩ := id hx
      walk_at "rd"
      refine rd_ixT (st_of (e1 _ _ h)) rfl ?_
      walk_at "rd"
      refine rd_eq rfl ?_
      walk_at "rd"
      refine if_no (by decide +kernel) ?_
      walk_at "rd"
      refine rd_ifE ?_
      walk_at "rd"
      refine ⟨s, _, S, .th i, rfl, hs.mono (TM.ex e1), hx1, ok, ?_⟩
      walk_at "rd"
      have e : kS (kind S (.th i)) = if (kids S (.th i)).isSome = true then kS .pa else kS .fu := by
        show kS (if (kids S (.th i)).isSome then Kd.pa else Kd.fu) = _
        cases (kids S (.th i)).isSome <;> rfl
      rw [e] at q
      cases hk : (kids S (.th i)).isSome with
      | true =>
        rw [hk] at q
        refine iteT ?_
        walk_at "rd"
        exact q _ e1
      | false =>
        rw [hk] at q
        refine iteF ?_
        walk_at "rd"
        exact q _ e1
abbrev s_law_kind : Stmt := topS 25
theorem sc_law_kind : FnScope ["store", "value"] ["store", "value"] (defScope s_law_kind) := ⟨rfl, rfl, rfl, by decide +kernel, rfl, by decide +kernel, by decide +kernel⟩
set_option maxHeartbeats 2000000 in
theorem c_law_kind (T : Txt K mg) (D : DefG K mg "_law_kind" s_law_kind ["store", "value"]) : CalO P w K mg base 1 "_law_kind" spKind := by
  refine calO D sc_law_kind (fun vs H Q E h => ?_) (fun cdv f A outer s0 H vs Q E hr h => ?_)
  · obtain ⟨s, v, S, x, rfl, _⟩ := h
    rfl
  · obtain ⟨s, v, S, x, rfl, hs, hx, ok, q⟩ := h
    refine ⟨_, pss_cons (ps_if (pt_val (pe_callB call_isi (by rfl) T.isinstance (by decide +kernel) (pa_cons (pv 1) (pa_cons (pe_bltn (v := .ty "bool") (by rfl) T.bool (by decide +kernel) rfl) pa_nil))))
        (pss_one (ps_ret (pe_str)))
        (pss_nil))
      (pss_cons (ps_if (pt_val (pe_callB call_isi (by rfl) T.isinstance (by decide +kernel) (pa_cons (pv 1) (pa_cons (pe_bltn (v := .ty "int") (by rfl) T.int (by decide +kernel) rfl) pa_nil))))
        (pss_one (ps_ret (pe_str)))
        (pss_nil))
      (pss_cons (ps_if (pt_cmpR (op_eqD hr.units) (pv 1) (pe_tup pa_nil) (nomark _))
        (pss_one (ps_ret (pe_str)))
        (pss_nil))
      (pss_cons (ps_if (pt_cmpR op_eq (pe_ix ix_tup (pv 1) pe_int (fun _ _ => rfl)) pe_str (nomark _))
        (pss_one (ps_ret (pe_str)))
        (pss_nil))
      (pss_one (ps_ret (pe_ifExp (pt_cmpR op_eq (pe_ix ix_tup (pe_ix ix_tup (pv 0) (pe_ix ix_tup (pv 1) pe_int (fun _ _ => rfl)) (fun _ _ => rfl)) pe_int (fun _ _ => rfl)) pe_str (nomark _)) pe_str pe_str)))))), ?_⟩
    walk_at "rd"
    cases x with
    | bl b =>
      cases (show v = .bl b from hx)
      refine rd_isi (.ty _) (.base (.bl b)) (b := true) (kit_ty (by decide +kernel)) ?_
      walk_at "rd"
      refine iteT ?_
      walk_at "rd"
      exact q _ (Ex.refl _)
    | it i =>
      cases (show v = .int i from hx)
      refine rd_isi (.ty _) (.base (.int i)) (b := false) (kit_ty (by decide +kernel)) ?_
      walk_at "rd"
      refine iteF ?_
      walk_at "rd"
      refine rd_isi (.ty _) (.base (.int i)) (b := true) (kit_ty (by decide +kernel)) ?_
      walk_at "rd"
      refine iteT ?_
      walk_at "rd"
      exact q _ (Ex.refl _)
    | nl =>
      have hx0 := hx
      obtain ⟨a, rfl, h⟩ := id hx
      refine rd_isi (.ty _) (.base (.tup h)) (b := false) (kit_ty (by decide +kernel)) ?_
      walk_at "rd"
      refine iteF ?_
      walk_at "rd"
      refine rd_isi (.ty _) (.base (.tup h)) (b := false) (kit_ty (by decide +kernel)) ?_
      walk_at "rd"
      refine iteF ?_
      walk_at "rd"
      refine rd_newT fun p H1 np e1 hp => ?_
      refine rd_eqD (hx0.mono (TM.ex e1)).dp (.tup (st_of hp) .nil) (shaped_Vd .nl) shaped_nil ?_
      walk_at "rd"
      refine iteT ?_
      walk_at "rd"
      exact q _ e1
    | nm c =>
      have hx0 := hx
      obtain ⟨a, rfl, h⟩ := id hx
      refine rd_isi (.ty _) (.base (.tup h)) (b := false) (kit_ty (by decide +kernel)) ?_
      walk_at "rd"
      refine iteF ?_
      walk_at "rd"
      refine rd_isi (.ty _) (.base (.tup h)) (b := false) (kit_ty (by decide +kernel)) ?_
      walk_at "rd"
      refine iteF ?_
      walk_at "rd"
      refine rd_newT fun p H1 np e1 hp => ?_
      refine rd_eqD (hx0.mono (TM.ex e1)).dp (.tup (st_of hp) .nil) (shaped_Vd (.nm c)) shaped_nil ?_
      walk_at "rd"
      refine iteF ?_
      walk_at "rd"
      refine rd_ixT (st_of (e1 _ _ h)) rfl ?_
      walk_at "rd"
      refine rd_eq rfl ?_
      walk_at "rd"
      refine if_yes rfl ?_
      walk_at "rd"
      exact q _ e1
    | th i =>
      have hx0 := hx
      obtain ⟨a, rfl, h⟩ := id hx
      refine rd_isi (.ty _) (.base (.tup h)) (b := false) (kit_ty (by decide +kernel)) ?_
      walk_at "rd"
      refine iteF ?_
      walk_at "rd"
      refine rd_isi (.ty _) (.base (.tup h)) (b := false) (kit_ty (by decide +kernel)) ?_
      walk_at "rd"
      refine iteF ?_
      walk_at "rd"
      refine rd_newT fun p H1 np e1 hp => ?_
      refine rd_eqD (hx0.mono (TM.ex e1)).dp (.tup (st_of hp) .nil) (shaped_Vd (.th i)) shaped_nil ?_
      walk_at "rd"
      refine iteF ?_
      walk_at "rd"
      refine rd_ixT (st_of (e1 _ _ h)) rfl ?_
      walk_at "rd"
      refine rd_eq rfl ?_
      walk_at "rd"
      refine if_no (by decide +kernel) ?_
      walk_at "rd"
      refine rd_ifE ?_
      walk_at "rd"
      obtain ⟨b, xs, rfl, hb, hl, ht⟩ := hs.mono (TM.ex e1)
      have hi : i < S.length := ok
      obtain ⟨u, hu, tu⟩ := ht i S[i] (List.getElem?_eq_getElem hi)
      have ek : kS (kind S (.th i)) = (match S[i] with | .pr _ _ => kS .pa | _ => kS .fu) := by
        show kS (if (match S[i]? with | some (.pr a b) => some (a, b) | _ => none).isSome then Kd.pa else Kd.fu) = _
        rw [List.getElem?_eq_getElem hi]
        cases S[i] <;> rfl
      rw [ek] at q
      refine rd_ixT (st_of (e1 _ _ h)) rfl ?_
      refine rd_ixT (st_of hb) (atI_nat hu) ?_
      walk_at "rd"
      generalize S[i] = t at tu q
      cases t with
      | pr x y =>
        obtain ⟨p, u1, w1, rfl, hp, _⟩ := tu
        refine rd_ixT (st_of hp) rfl ?_
        walk_at "rd"
        refine rd_eq rfl ?_
        walk_at "rd"
        refine if_yes rfl ?_
        walk_at "rd"
        exact q _ e1
      | fn =>
        obtain ⟨p, u1, w1, rfl, hp, _⟩ := tu
        refine rd_ixT (st_of hp) rfl ?_
        walk_at "rd"
        refine rd_eq rfl ?_
        walk_at "rd"
        refine if_no (by decide +kernel) ?_
        walk_at "rd"
        exact q _ e1
      | kp =>
        obtain ⟨p, u1, w1, rfl, hp, _⟩ := tu
        refine rd_ixT (st_of hp) rfl ?_
        walk_at "rd"
        refine rd_eq rfl ?_
        walk_at "rd"
        refine if_no (by decide +kernel) ?_
        walk_at "rd"
        exact q _ e1
end
end K22
namespace K22
open PySem PySem.Spec PyProof.Rows L2 Kt Evl
inductive Sc : V → String → PyData → Prop
  | int (i : Int) : Sc (.int i) "int" (.int i)
  | str (s : Str) (h : PyData.strOk s = true) : Sc (.str s) "str" (.str s)
section
variable {K : PySem.W.Frag} {H : Hp} {v w : V} {T : String} {d e : PyData}
theorem Sc.ty (h : Sc v T d) : TyB K H v T := by cases h with | int i => exact .int i | str s _ => exact .str s
theorem Sc.dp (h : Sc v T d) : Dp K H v d := by cases h with | int i => exact .int i | str s _ => exact .str s
theorem Sc.shaped (h : Sc v T d) : SeqAt.shaped d = true := by
  cases h with
  | int i => simp [SeqAt.shaped, PyData.canLay0, PyData.depth]
  | str s h => simp [SeqAt.shaped, PyData.canLay0, PyData.depth, h]
theorem Sc.nt (h : Sc v T d) : ¬ T = "tuple" := by cases h <;> decide
theorem Sc.eqv {T' : String} (h : Sc v T d) (h' : Sc w T' e) (t : T = T') : PyData.eqv d e = decide (v = w) := by
  cases h with
  | int i =>
    cases h' with
    | str s _ => exact absurd t (by decide)
    | int j =>
      show (i == j) = _
      by_cases q : i = j
      · subst q; simp
      · rw [decide_eq_false (fun z => q (V.int.inj z))]; simp [q]
  | str s _ =>
    cases h' with
    | int j => exact absurd t (by decide)
    | str s' _ =>
      show (s == s') = _
      by_cases q : s = s'
      · subst q; simp
      · rw [decide_eq_false (fun z => q (V.str.inj z))]; simp [q]
theorem Sc.tyEq {T' : String} (h : Sc v T d) (h' : Sc w T' e) (n : ¬ T = T') : ¬ v = w := by
  rintro rfl
  cases h <;> cases h' <;> exact n rfl
end
def tl : Va → List V
  | .th i => [.str "thing", .int (i : Int)]
  | .nm c => [.str "name", .str (nmS c)]
  | _ => []
theorem Vr.tup {H : Hp} {v : V} : ∀ {x : Va}, Vr H v x → tyN x = "tuple" → ∃ a, v = .ref a ∧ H a = some (.tup (tl x))
  | .th _, h, _ => h
  | .nl, h, _ => h
  | .nm _, h, _ => h
  | .bl b, _, h => absurd h (by simp [tyN])
  | .it i, _, h => absurd h (by simp [tyN])
theorem tl_sc {x : Va} {u : V} (h : u ∈ tl x) : ∃ T d, Sc u T d := by
  cases x with
  | th i =>
    rcases List.mem_cons.mp h with rfl | h
    · exact ⟨_, _, .str _ ok_thing⟩
    · rw [List.mem_singleton.mp h]; exact ⟨_, _, .int _⟩
  | nm c =>
    rcases List.mem_cons.mp h with rfl | h
    · exact ⟨_, _, .str _ ok_name⟩
    · rw [List.mem_singleton.mp h]; exact ⟨_, _, .str _ (ok_nm c)⟩
  | nl => cases h
  | bl b => cases h
  | it i => cases h
theorem nmS_inj {c d : Bool} (h : nmS c = nmS d) : c = d := by
  cases c <;> cases d <;> first | rfl | exact absurd h (by decide +kernel)
theorem thing_name : ¬ V.str "thing" = V.str "name" := fun h => absurd (V.str.inj h) (by decide +kernel)
theorem tl_all {x y : Va} (hx : tyN x = "tuple") (hy : tyN y = "tuple") (hl : (tl x).length = (tl y).length) : decide (x = y) = ((tl x).zip (tl y)).all fun z => decide (z.1 = z.2) := by
  cases x with
  | bl b => exact absurd hx (by simp [tyN])
  | it i => exact absurd hx (by simp [tyN])
  | nl =>
    cases y with
    | nl => rfl
    | bl b => exact absurd hy (by simp [tyN])
    | it i => exact absurd hy (by simp [tyN])
    | th i => cases hl
    | nm c => cases hl
  | th i =>
    cases y with
    | nl => cases hl
    | bl b => exact absurd hy (by simp [tyN])
    | it i => exact absurd hy (by simp [tyN])
    | th j =>
      by_cases q : i = j
      · subst q; simp [tl]
      · have q' : ¬ ((i : Int)) = (j : Int) := fun z => q (Int.ofNat.inj z)
        simp [tl, q]
        exact q'
    | nm c => simp [tl, thing_name]
  | nm c =>
    cases y with
    | nl => cases hl
    | bl b => exact absurd hy (by simp [tyN])
    | it i => exact absurd hy (by simp [tyN])
    | th j =>
      have : ¬ V.str "name" = V.str "thing" := fun z => thing_name z.symm
      simp [tl, this]
    | nm d =>
      by_cases q : c = d
      · subst q; simp [tl]
      · have q' : ¬ nmS c = nmS d := fun z => q (nmS_inj z)
        simp [tl, q, q']
section
variable {P : Program} {w : World} {K : PySem.W.Frag} {mg : Str → Option Value} {base : Heap}
/-- same_data(one, other), are_one -/
def spSame : Sp := fun vs H Q _ => ∃ (v u : V) (x y : Va), vs = [v, u] ∧ Vr H v x ∧ Vr H u y ∧ ∀ H', Ex H H' → Q (.bl (decide (x = y))) H'
abbrev s_same_data : Stmt := topS 4
theorem sc_same_data : FnScope ["one", "other", "waiting", "left", "right"] ["one", "other"] (defScope s_same_data) := ⟨rfl, rfl, rfl, by decide +kernel, rfl, by decide +kernel, by decide +kernel⟩
set_option maxHeartbeats 4000000 in
theorem c_same_data (T : Txt K mg) (D : DefG K mg "same_data" s_same_data ["one", "other"]) : CalG P w K mg base 1 "same_data" spSame := by
  refine calG D sc_same_data (fun vs H Q E h => ?_) (fun cdv f A outer s0 H vs Q E hA hr h => ?_)
  · obtain ⟨v, u, x, y, rfl, _⟩ := h
    rfl
  · obtain ⟨v, u, x, y, rfl, hx, hy, q⟩ := h
    refine ⟨_, pss_cons (ps_set (i := 2) sc_same_data.nd rfl (Or.inl rfl) (pe_lst (pa_cons (pe_tup (pa_cons (pv 0) (pa_cons (pv 1) pa_nil))) pa_nil)))
      (pss_cons (ps_while PassesOwn.never (pt_truth (pv 2) (by intro _; rfl))
        (pss_cons (ps_asg (pe_bm0 PySem.F.plainAttrs_list PySem.F.slot_list_pop PySem.F.type_list_pop mt_pop (pv 2)) (pg_tup rfl (pgs_cons (pg_name (i := 3) sc_same_data.nd rfl (Or.inl rfl)) (pgs_cons (pg_name (i := 4) sc_same_data.nd rfl (Or.inl rfl)) pgs_nil))))
        (pss_cons (ps_if (pt_not (pt_cmpR op_isTy' (pe_callTy call_type1 (by rfl) T.type (by decide +kernel) (pa_cons (pv 3) pa_nil)) (pe_callTy call_type1 (by rfl) T.type (by decide +kernel) (pa_cons (pv 4) pa_nil)) (nomark _)))
          (pss_one (ps_ret (pe_bl)))
          (pss_nil))
        (pss_one (ps_if (pt_cmpR op_isTy' (pe_callTy call_type1 (by rfl) T.type (by decide +kernel) (pa_cons (pv 3) pa_nil)) (pe_bltn (v := .ty "tuple") (by rfl) T.tuple (by decide +kernel) rfl) (nomark _))
          (pss_cons (ps_if (pt_cmpR op_ne (pe_callB call_lenO (by rfl) T.len (by decide +kernel) (pa_cons (pv 3) pa_nil)) (pe_callB call_lenO (by rfl) T.len (by decide +kernel) (pa_cons (pv 4) pa_nil)) (nomark _))
            (pss_one (ps_ret (pe_bl)))
            (pss_nil))
          (pss_one (ps_expr (pe_bm PySem.F.plainAttrs_list PySem.F.slot_list_extend PySem.F.type_list_extend mt_extend (pv 2) (pa_cons (pe_listZip rfl (pa_cons (pv 3) (pa_cons (pv 4) pa_nil)) (by rfl) T.list (by rfl) T.zip) pa_nil)))))
          (pss_one (ps_if (pt_cmpR (op_neD hr.units) (pv 3) (pv 4) (nomark _))
            (pss_one (ps_ret (pe_bl)))
            (pss_nil))))))))
      (pss_one (ps_ret (pe_bl)))), ?_⟩
    walk_at "rd"
    refine rd_newT fun t0 H0 n0 e0 h0 => ?_
    walk_at "rd"
    refine rd_newL fun wl H1 nw e01 h1 => ?_
    have nw0 : H wl = none := fresh_back e0 nw
    walk_at "rd"
    refine ⟨fun m σ H' => ∃ (y3 y4 : Option V) (ts : List Addr), σ = [some v, some u, some (.ref wl), y3, y4] ∧ Ex H H' ∧ H' wl = some (.lst (ts.map V.ref)) ∧
      ((m = 1000 ∧ ∃ t, ts = [t] ∧ H' t = some (.tup [v, u])) ∨ (m = ts.length ∧ ts.length ≤ 2 ∧ ∃ zs : List (V × V), zs.length = ts.length ∧ (∀ (j : Nat) (t : Addr) (z : V × V), ts[j]? = some t → zs[j]? = some z → t ≠ wl ∧ H' t = some (.tup [z.1, z.2]) ∧ (∃ T1 d1, Sc z.1 T1 d1) ∧ ∃ T2 d2, Sc z.2 T2 d2) ∧ decide (x = y) = zs.all fun z => decide (z.1 = z.2))),
      ⟨1000, none, none, [t0], rfl, e0.trans e01, h1, .inl ⟨rfl, t0, rfl, e01 _ _ h0⟩⟩, fun m σ H2 hw => ?_⟩
    obtain ⟨y3, y4, ts, rfl, e2, h2, hw⟩ := hw
    walk_at "rd"
    refine rd_truL (sq_of h2) ?_
    walk_at "rd"
    rcases hw with ⟨rfl, t, rfl, ht⟩ | ⟨rfl, l2, zs, zl, za, zd⟩
    · refine iteT ?_
      refine ⟨fun σ' H' => ∃ (y3 y4 : Option V) (ts : List Addr), σ' = [some v, some u, some (.ref wl), y3, y4] ∧ Ex H H' ∧ H' wl = some (.lst (ts.map V.ref)) ∧ ts.length ≤ 2 ∧ ∃ zs : List (V × V), zs.length = ts.length ∧ (∀ (j : Nat) (t : Addr) (z : V × V), ts[j]? = some t → zs[j]? = some z → t ≠ wl ∧ H' t = some (.tup [z.1, z.2]) ∧ (∃ T1 d1, Sc z.1 T1 d1) ∧ ∃ T2 d2, Sc z.2 T2 d2) ∧ decide (x = y) = zs.all fun z => decide (z.1 = z.2), fun σ' H' h => ?_, ?_⟩
      · obtain ⟨y3, y4, ts, z1, z2, z3, z4, zs, z5⟩ := h
        exact ⟨ts.length, by omega, y3, y4, ts, z1, z2, z3, .inr ⟨rfl, z4, zs, z5⟩⟩
      · walk_at "rd"
        refine rd_tyL (sq_of h2) ?_
        refine rd_pop (xs := []) h2 ?_
        have e3 : Ex H (upd H2 wl (.lst [])) := e2.mut nw0
        have h3 : (upd H2 wl (.lst [])) wl = some (.lst []) := upd_same
        have ht3 : (upd H2 wl (.lst [])) t = some (.tup [v, u]) := (upd_ne (ne_of ht h2 (fun z => by cases z))).trans ht
        generalize upd H2 wl (.lst []) = H3 at e3 h3 ht3 ⊢
        refine rd_gtup (st_of ht3) rfl ?_
        walk_at "rd"
        have hx3 := hx.mono (TM.ex e3)
        have hy3 := hy.mono (TM.ex e3)
        refine rd_typ hx3.ty ?_
        walk_at "rd"
        refine rd_typ hy3.ty ?_
        walk_at "rd"
        by_cases tt : tyN x = tyN y
        rotate_left
        · refine if_nno tt ?_
          walk_at "rd"
          have q := q _ e3
          rw [decide_eq_false (fun z => tt (by rw [z]))] at q
          exact q
        refine if_nyes tt ?_
        walk_at "rd"
        refine rd_typ hx3.ty ?_
        walk_at "rd"
        by_cases hxt : tyN x = "tuple"
        · refine if_yes hxt ?_
          have hyt := tt.symm.trans hxt
          obtain ⟨a, rfl, ha⟩ := hx3.tup hxt
          obtain ⟨b, rfl, hb⟩ := hy3.tup hyt
          walk_at "rd"
          refine rd_lenO (.inr (st_of ha)) ?_
          walk_at "rd"
          refine rd_lenO (.inr (st_of hb)) ?_
          refine rd_ne rfl ?_
          walk_at "rd"
          by_cases hl : (tl x).length = (tl y).length
          rotate_left
          · refine if_nno (fun z => hl (Int.ofNat.inj (V.int.inj z))) ?_
            walk_at "rd"
            have q := q _ e3
            rw [decide_eq_false (fun z => hl (by rw [z]))] at q
            exact q
          refine if_nyes (by rw [hl]) ?_
          walk_at "rd"
          refine rd_tyL (sq_of h3) ?_
          walk_at "rd"
          refine rd_lzW (st_of ha) (st_of hb) hl fun H4 p ts e34 np hp lts hts => ?_
          have l2 : (tl x).length ≤ 2 := by cases x <;> simp [tl]
          refine ⟨wl, p, [], ts.map V.ref, rfl, rfl, e34 _ _ h3, hp, by rw [List.length_nil, Nat.zero_add, List.length_map, lts]; exact Nat.le_trans l2 (by decide), ?_⟩
          have e5 : Ex H (upd H4 wl (.lst ([] ++ ts.map V.ref))) := (e3.trans e34).mut nw0
          refine ⟨_, _, ts, rfl, e5, upd_same, by omega, (tl x).zip (tl y), by simp; omega, fun j t z h1 h2 => ?_, tl_all hxt hyt hl⟩
          rw [List.getElem?_zip_eq_some] at h2
          obtain ⟨k1, k2, k3⟩ := hts j t z.1 z.2 h1 h2.1 h2.2
          have nwt : t ≠ wl := fun z => by rw [z, h3] at k2; cases k2
          exact ⟨nwt, (upd_ne nwt).trans k3, tl_sc (List.mem_of_getElem? h2.1), tl_sc (List.mem_of_getElem? h2.2)⟩
        · refine if_no hxt ?_
          walk_at "rd"
          refine rd_neD hx3.dp hy3.dp (shaped_Vd x) (shaped_Vd y) ?_
          walk_at "rd"
          have ee : PyData.eqv (Vd x) (Vd y) = decide (x = y) := by
            cases x with
            | th i => exact absurd rfl hxt
            | nl => exact absurd rfl hxt
            | nm c => exact absurd rfl hxt
            | bl b =>
              cases y with
              | bl b' => cases b <;> cases b' <;> decide
              | th i => exact absurd tt (by simp [tyN])
              | nl => exact absurd tt (by simp [tyN])
              | nm c => exact absurd tt (by simp [tyN])
              | it i => exact absurd tt (by simp [tyN])
            | it i =>
              cases y with
              | it j =>
                show (i == j) = _
                by_cases q : i = j
                · subst q; simp
                · simp [q]
              | th i => exact absurd tt (by simp [tyN])
              | nl => exact absurd tt (by simp [tyN])
              | nm c => exact absurd tt (by simp [tyN])
              | bl i => exact absurd tt (by simp [tyN])
          rw [ee]
          by_cases hxy : x = y
          · refine if_nyes hxy ?_
            walk_at "rd"
            exact ⟨_, _, [], rfl, e3, h3, by decide, [], rfl, (fun j t z h1 => by cases h1), by rw [decide_eq_true hxy]; rfl⟩
          · refine if_nno hxy ?_
            walk_at "rd"
            have q := q _ e3
            rw [decide_eq_false hxy] at q
            exact q
    · rcases List.eq_nil_or_concat ts with rfl | ⟨ts', t, rfl⟩
      · refine iteF ?_
        walk_at "rd"
        have zn : zs = [] := List.eq_nil_of_length_eq_zero (by simpa using zl)
        subst zn
        have q := q _ e2
        rw [zd] at q
        exact q
      · rw [List.concat_eq_append] at *
        rcases List.eq_nil_or_concat zs with rfl | ⟨zs', z, rfl⟩
        · simp at zl
        rw [List.concat_eq_append] at *
        have zl' : zs'.length = ts'.length := by simpa using zl
        have hne : (!((ts' ++ [t]).map V.ref).isEmpty) = true := by simp
        rw [hne]
        refine iteT ?_
        obtain ⟨nt, ht, ⟨T1, d1, s1⟩, T2, d2, s2⟩ := za ts'.length t z (by simp) (by rw [← zl']; simp)
        refine ⟨fun σ' H' => ∃ y3 y4, σ' = [some v, some u, some (.ref wl), y3, y4] ∧ Ex H H' ∧ H' wl = some (.lst (ts'.map V.ref)) ∧ (∀ (j : Nat) (t : Addr) (z : V × V), ts'[j]? = some t → zs'[j]? = some z → t ≠ wl ∧ H' t = some (.tup [z.1, z.2]) ∧ (∃ T1 d1, Sc z.1 T1 d1) ∧ ∃ T2 d2, Sc z.2 T2 d2) ∧ decide (x = y) = zs'.all fun z => decide (z.1 = z.2), fun σ' H' h => ?_, ?_⟩
        · obtain ⟨y3, y4, z1, z2, z3, z4, z5⟩ := h
          exact ⟨ts'.length, by simp, y3, y4, ts', z1, z2, z3, .inr ⟨rfl, by rw [List.length_append] at l2; omega, zs', zl', z4, z5⟩⟩
        · walk_at "rd"
          refine rd_tyL (sq_of h2) ?_
          rw [List.map_append] at h2
          refine rd_pop (xs := ts'.map V.ref) h2 ?_
          have e3 : Ex H (upd H2 wl (.lst (ts'.map V.ref))) := e2.mut nw0
          have h3 : (upd H2 wl (.lst (ts'.map V.ref))) wl = some (.lst (ts'.map V.ref)) := upd_same
          have ht3 : (upd H2 wl (.lst (ts'.map V.ref))) t = some (.tup [z.1, z.2]) := (upd_ne nt).trans ht
          have za3 : ∀ (j : Nat) (t : Addr) (z : V × V), ts'[j]? = some t → zs'[j]? = some z → t ≠ wl ∧ (upd H2 wl (.lst (ts'.map V.ref))) t = some (.tup [z.1, z.2]) ∧ (∃ T1 d1, Sc z.1 T1 d1) ∧ ∃ T2 d2, Sc z.2 T2 d2 := fun j t z g1 g2 => by
            obtain ⟨k1, k2, k3⟩ := za j t z (by rw [List.getElem?_append_left (List.getElem?_eq_some_iff.mp g1).1]; exact g1) (by rw [List.getElem?_append_left (List.getElem?_eq_some_iff.mp g2).1]; exact g2)
            exact ⟨k1, (upd_ne k1).trans k2, k3⟩
          generalize upd H2 wl (.lst (ts'.map V.ref)) = H3 at e3 h3 ht3 za3 ⊢
          refine rd_gtup (st_of ht3) rfl ?_
          walk_at "rd"
          have bad : ¬ z.1 = z.2 → Q (.bl false) H3 := fun hz => by
            have q := q _ e3
            rw [zd, List.all_append] at q
            have : ([z].all fun z => decide (z.1 = z.2)) = false := by simp [hz]
            rw [this, Bool.and_false] at q
            exact q
          refine rd_typ s1.ty ?_
          walk_at "rd"
          refine rd_typ s2.ty ?_
          walk_at "rd"
          by_cases tt : T1 = T2
          rotate_left
          · refine if_nno tt ?_
            walk_at "rd"
            exact bad (s1.tyEq s2 tt)
          refine if_nyes tt ?_
          walk_at "rd"
          refine rd_typ s1.ty ?_
          walk_at "rd"
          refine if_no s1.nt ?_
          walk_at "rd"
          refine rd_neD s1.dp s2.dp s1.shaped s2.shaped ?_
          rw [s1.eqv s2 tt]
          walk_at "rd"
          by_cases hz : z.1 = z.2
          · refine if_nyes hz ?_
            walk_at "rd"
            refine ⟨_, _, rfl, e3, h3, za3, ?_⟩
            rw [zd, List.all_append]
            have : ([z].all fun z => decide (z.1 = z.2)) = true := by simp [hz]
            rw [this, Bool.and_true]
          · refine if_nno hz ?_
            walk_at "rd"
            exact bad hz
abbrev s_are_one : Stmt := topS 10
theorem sc_are_one : FnScope ["value", "other"] ["value", "other"] (defScope s_are_one) := ⟨rfl, rfl, rfl, by decide +kernel, rfl, by decide +kernel, by decide +kernel⟩
theorem c_are_one (T : Txt K mg) (D : DefG K mg "are_one" s_are_one ["value", "other"]) (c_same_data : CalG P w K mg base 1 "same_data" spSame) : CalG P w K mg base 2 "are_one" spSame := by
  refine calG D sc_are_one (fun vs H Q E h => ?_) (fun cdv f A outer s0 H vs Q E hA hr h => ?_)
  · obtain ⟨v, u, x, y, rfl, _⟩ := h
    rfl
  · obtain ⟨v, u, x, y, rfl, hx, hy, q⟩ := h
    refine ⟨_, pss_one (ps_ret (pe_cG c_same_data hA hr (by decide) (by rfl) (pa_cons (pv 0) (pa_cons (pv 1) pa_nil)))), ?_⟩
    walk_at "rd"
    exact ⟨v, u, x, y, rfl, hx, hy, q⟩
/-- are_apart(store, value, other) -/
def spApart : Sp := fun vs H Q _ => ∃ (s v u : V) (S : List Th) (x y : Va), vs = [s, v, u] ∧ Sr H s S ∧ Vr H v x ∧ Vr H u y ∧ OkV S.length x ∧ OkV S.length y ∧ ∀ H', Ex H H' → Q (.bl (apart S x y)) H'
abbrev s_are_apart : Stmt := topS 13
theorem sc_are_apart : FnScope ["store", "value", "other"] ["store", "value", "other"] (defScope s_are_apart) := ⟨rfl, rfl, rfl, by decide +kernel, rfl, by decide +kernel, by decide +kernel⟩
theorem c_are_apart (T : Txt K mg) (D : DefG K mg "are_apart" s_are_apart ["store", "value", "other"]) (c_kind_of : CalO P w K mg base 3 "kind_of" spKind) (c_is_pair : CalO P w K mg base 2 "is_pair" spPair) (c_are_one : CalG P w K mg base 2 "are_one" spSame) : CalG P w K mg base 4 "are_apart" spApart := by
  refine calG D sc_are_apart (fun vs H Q E h => ?_) (fun cdv f A outer s0 H vs Q E hA hr h => ?_)
  · obtain ⟨s, v, u, S, x, y, rfl, _⟩ := h
    rfl
  · obtain ⟨s, v, u, S, x, y, rfl, hs, hx, hy, ox, oy, q⟩ := h
    refine ⟨_, pss_cons (ps_if (pt_cmpR op_ne (pe_cO c_kind_of hr (by decide) (by rfl) (pa_cons (pv 0) (pa_cons (pv 1) pa_nil))) (pe_cO c_kind_of hr (by decide) (by rfl) (pa_cons (pv 0) (pa_cons (pv 2) pa_nil))) (nomark _))
        (pss_one (ps_ret (pe_bl)))
        (pss_nil))
      (pss_one (ps_ret (pe_and (pe_not (pe_cO c_is_pair hr (by decide) (by rfl) (pa_cons (pv 0) (pa_cons (pv 1) pa_nil)))) (pe_one (pe_not (pe_cG c_are_one hA hr (by decide) (by rfl) (pa_cons (pv 1) (pa_cons (pv 2) pa_nil)))))))), ?_⟩
    walk_at "rd"
    refine ⟨s, v, S, x, rfl, hs, hx, ox, fun H1 e1 => ?_⟩
    walk_at "rd"
    refine ⟨s, u, S, y, rfl, hs.mono (TM.ex e1), hy.mono (TM.ex e1), oy, fun H2 e12 => ?_⟩
    have e2 := e1.trans e12
    refine rd_ne rfl ?_
    walk_at "rd"
    by_cases hk : kind S x = kind S y
    · refine if_nyes (by rw [hk]) ?_
      walk_at "rd"
      refine ⟨s, v, S, x, rfl, hs.mono (TM.ex e2), hx.mono (TM.ex e2), ox, ?_⟩
      walk_at "rd"
      have ea : apart S x y = if (!(kids S x).isSome) = true then !decide (x = y) else false := by
        unfold apart
        rw [decide_eq_false (fun n => n hk), Bool.false_or]
        cases (kids S x) <;> simp
      rw [ea] at q
      refine ite2 (fun hp => ?_) (fun hp => ?_)
      · walk_at "rd"
        refine ⟨v, u, x, y, rfl, hx.mono (TM.ex e2), hy.mono (TM.ex e2), fun H3 e23 => ?_⟩
        walk_at "rd"
        have q := q H3 (e2.trans e23)
        rw [if_pos hp] at q
        exact q
      · have q := q H2 e2
        rw [if_neg hp] at q
        exact q
    · refine if_nno (fun z => hk (kS_inj (V.str.inj z))) ?_
      walk_at "rd"
      have q := q H2 e2
      have ea : apart S x y = true := by
        unfold apart
        rw [decide_eq_true hk, Bool.true_or]
      rw [ea] at q
      exact q
end
end K22
namespace K22
open PySem PySem.Spec PyProof.Rows L2 Kt Evl
/-! ### the classes -/
inductive Rt (kvs : List (Key × V)) : Nat → Int → Int → Prop
  | z {r : Int} : valV kvs (Sum.inl r) = none → Rt kvs 0 r r
  | s {n : Nat} {a b r : Int} : valV kvs (Sum.inl a) = some (.int b) → Rt kvs n b r → Rt kvs (n + 1) a r
section
variable {kvs : List (Key × V)} {n m : Nat} {a b r q : Int}
theorem Rt.root (h : Rt kvs n a r) : valV kvs (Sum.inl r) = none := by
  induction h with
  | z h => exact h
  | s _ _ ih => exact ih
theorem Rt.det (h : Rt kvs n a r) : ∀ {m : Nat} {q : Int}, Rt kvs m a q → r = q := by
  induction h with
  | z h =>
    intro m q h'
    cases h' with
    | z _ => rfl
    | s h2 _ => rw [h] at h2; cases h2
  | s h _ ih =>
    intro m q h'
    cases h' with
    | z h2 => rw [h] at h2; cases h2
    | s h2 h3 =>
      rw [h] at h2
      cases h2
      exact ih h3
theorem inl_ne {a b : Int} (h : a ≠ b) : ¬ (Sum.inl a : Key) = Sum.inl b := fun e => h (Sum.inl.inj e)
/-- the way is made shorter -/
theorem Rt.comp (h : Rt kvs n a r) {x : Int} {k : Nat} {t : Int} (hx : Rt kvs (k + 1) x t) : ∃ n', n' ≤ n ∧ Rt (putK kvs (Sum.inl x) (.int t)) n' a r := by
  have rt : valV (putK kvs (Sum.inl x) (.int t)) (Sum.inl t) = none := by
    have r0 := hx.root
    rw [valV_put, if_neg (inl_ne (fun e => ?_))]
    · exact r0
    · subst e
      cases hx with
      | s h _ => rw [r0] at h; cases h
  induction h with
  | @z r h =>
    refine ⟨0, Nat.le_refl _, .z ?_⟩
    rw [valV_put, if_neg (inl_ne (fun e => ?_))]
    · exact h
    · subst e
      cases hx with
      | s h' _ => rw [h] at h'; cases h'
  | @s n a b r h h' ih =>
    by_cases e : a = x
    · subst e
      have ert := (Rt.s h h').det hx
      subst ert
      exact ⟨1, by omega, .s (by rw [valV_put, if_pos rfl]) (.z rt)⟩
    · obtain ⟨n', l, q⟩ := ih
      exact ⟨n' + 1, by omega, .s (by rw [valV_put, if_neg (inl_ne e)]; exact h) q⟩
theorem Rt.join (h : Rt kvs n a r) {x t : Int} (hx : valV kvs (Sum.inl x) = none) (ht : valV kvs (Sum.inl t) = none) (ne : x ≠ t) : ∃ n', Rt (putK kvs (Sum.inl x) (.int t)) n' a (if r = x then t else r) := by
  have rt : valV (putK kvs (Sum.inl x) (.int t)) (Sum.inl t) = none := by rw [valV_put, if_neg (inl_ne ne.symm)]; exact ht
  induction h with
  | @z r h =>
    by_cases e : r = x
    · subst e
      rw [if_pos rfl]
      exact ⟨1, .s (by rw [valV_put, if_pos rfl]) (.z rt)⟩
    · rw [if_neg e]
      exact ⟨0, .z (by rw [valV_put, if_neg (inl_ne e)]; exact h)⟩
  | @s n a b r h h' ih =>
    obtain ⟨n', q⟩ := ih
    have ne' : a ≠ x := by
      rintro rfl
      rw [hx] at h
      cases h
    exact ⟨n' + 1, .s (by rw [valV_put, if_neg (inl_ne ne')]; exact h) q⟩
end
theorem nodup_sub {α : Type} [DecidableEq α] : ∀ (l D : List α), l.Nodup → (∀ x ∈ l, x ∈ D) → l.length ≤ D.length
  | [], _, _, _ => Nat.zero_le _
  | a :: l, D, h, hs => by
    obtain ⟨h1, h2⟩ := List.nodup_cons.mp h
    have ha := hs a List.mem_cons_self
    have ih := nodup_sub l (D.erase a) h2 fun x hx => (List.mem_erase_of_ne (fun e => h1 (by rw [← e]; exact hx))).mpr (hs x (List.mem_cons_of_mem _ hx))
    rw [List.length_erase_of_mem ha] at ih
    have := List.length_pos_of_mem ha
    rw [List.length_cons]
    omega
theorem keys_put {κ : Type} [DecidableEq κ] {kvs : List (κ × V)} {k : κ} {v w : V} (h : valV kvs k = some w) : (putK kvs k v).map (·.1) = kvs.map (·.1) := by
  unfold putK
  rw [if_pos (by rw [valV_any, h]; rfl), List.map_map]
  apply List.map_congr_left
  intro p _
  show (if p.1 = k then (p.1, v) else p).1 = p.1
  split <;> rfl
theorem val_none {κ : Type} [DecidableEq κ] {k : κ} : ∀ {kvs : List (κ × V)}, valV kvs k = none → k ∉ kvs.map (·.1)
  | [], _, h => by cases h
  | p :: kvs, e, h => by
    by_cases q : p.1 = k
    · rw [valV_pos q] at e; cases e
    · rw [valV_neg q] at e
      rcases List.mem_cons.mp h with h | h
      · exact q h.symm
      · exact val_none e h
theorem val_some {κ : Type} [DecidableEq κ] {k : κ} {w : V} : ∀ {kvs : List (κ × V)}, valV kvs k = some w → k ∈ kvs.map (·.1)
  | [], e => by cases e
  | p :: kvs, e => by
    by_cases q : p.1 = k
    · exact List.mem_cons.mpr (.inl q.symm)
    · rw [valV_neg q] at e
      exact List.mem_cons_of_mem _ (val_some e)
/-- the classes among n addresses -/
structure Ufs (kvs : List (Key × V)) (n : Nat) : Prop where
  tot : ∀ z : Int, ∃ m r, Rt kvs m z r
  rg : ∀ (z : Int) (v : V), valV kvs (Sum.inl z) = some v → ∃ b : Int, v = .int b ∧ 0 ≤ b ∧ b < n
  nd : (kvs.map (·.1)).Nodup
  ks : ∀ k ∈ kvs.map (·.1), ∃ i : Nat, k = Sum.inl (i : Int) ∧ i < n
theorem Ufs.nil {n : Nat} : Ufs [] n := ⟨fun z => ⟨0, z, .z rfl⟩, (fun _ _ h => by cases h), List.nodup_nil, (fun _ h => by cases h)⟩
theorem Ufs.len {kvs : List (Key × V)} {n : Nat} (u : Ufs kvs n) : kvs.length ≤ n := by
  have h := nodup_sub (kvs.map (·.1)) ((List.range n).map fun (i : Nat) => (Sum.inl (i : Int) : Key)) u.nd fun x hx => by
    obtain ⟨i, rfl, hi⟩ := u.ks x hx
    exact List.mem_map.mpr ⟨i, List.mem_range.mpr hi, rfl⟩
  simpa using h
theorem Ufs.in_ {kvs : List (Key × V)} {n m : Nat} {a r : Int} (u : Ufs kvs n) (h : Rt kvs m a r) (ha : 0 ≤ a ∧ a < n) : 0 ≤ r ∧ r < n := by
  induction h with
  | z _ => exact ha
  | s h _ ih =>
    obtain ⟨b, e, h1, h2⟩ := u.rg _ _ h
    cases e
    exact ih ⟨h1, h2⟩
theorem Ufs.comp {kvs : List (Key × V)} {n k : Nat} {x t : Int} (u : Ufs kvs n) (hx : Rt kvs (k + 1) x t) (ht : 0 ≤ t ∧ t < n) : Ufs (putK kvs (Sum.inl x) (.int t)) n ∧ (putK kvs (Sum.inl x) (.int t)).length = kvs.length := by
  have hv : ∃ w, valV kvs (Sum.inl x) = some w := by
    cases hx with
    | s h _ => exact ⟨_, h⟩
  obtain ⟨w, hw⟩ := hv
  have hk := keys_put (v := .int t) hw
  refine ⟨⟨fun z => ?_, fun z v hz => ?_, by rw [hk]; exact u.nd, by rw [hk]; exact u.ks⟩, ?_⟩
  · obtain ⟨m, r, h⟩ := u.tot z
    obtain ⟨m', _, h'⟩ := h.comp hx
    exact ⟨m', r, h'⟩
  · rw [valV_put] at hz
    split at hz
    · cases hz
      exact ⟨t, rfl, ht⟩
    · exact u.rg z v hz
  · have := congrArg List.length hk
    simpa using this
theorem Ufs.join {kvs : List (Key × V)} {n : Nat} {x t : Int} (u : Ufs kvs n) (hx : valV kvs (Sum.inl x) = none) (ht : valV kvs (Sum.inl t) = none) (ne : x ≠ t) (hx' : 0 ≤ x ∧ x < n) (ht' : 0 ≤ t ∧ t < n) : Ufs (putK kvs (Sum.inl x) (.int t)) n ∧ (putK kvs (Sum.inl x) (.int t)).length = kvs.length + 1 := by
  refine ⟨⟨fun z => ?_, fun z v hz => ?_, ?_, fun k hk => ?_⟩, ?_⟩
  · obtain ⟨m, r, h⟩ := u.tot z
    obtain ⟨m', h'⟩ := h.join hx ht ne
    exact ⟨m', _, h'⟩
  · rw [valV_put] at hz
    split at hz
    · cases hz
      exact ⟨t, rfl, ht'⟩
    · exact u.rg z v hz
  · rw [putK_new _ hx, List.map_append]
    refine List.nodup_append.mpr ⟨u.nd, by simp, fun a ha b hb e => ?_⟩
    have : b = Sum.inl x := by simpa using hb
    subst this
    subst e
    exact val_none hx ha
  · rw [putK_new _ hx, List.map_append] at hk
    rcases List.mem_append.mp hk with hk | hk
    · exact u.ks k hk
    · have : k = Sum.inl x := by simpa using hk
      subst this
      refine ⟨x.toNat, ?_, by omega⟩
      congr 1
      omega
  · rw [putK_new _ hx]; simp
/-- the class Classes, as the top has written it -/
structure CT (K : PySem.W.Frag) (C : Addr) : Prop where
  cl : Cls K C
  nH : NoAttr K C "heads"
def FldW (K : PySem.W.Frag) (f : Str) (x : V) (H1 : Hp) (Q : VK) : Prop := ∃ a C dx fs v, x = .ref a ∧ H1 a = some (.ins C dx fs) ∧ Cls K C ∧ NoAttr K C f ∧ fs.lookup f = some v ∧ Q v H1
def DInW (x y : V) (H2 : Hp) (Q : VK) : Prop := ∃ a o, x = .ref a ∧ DGet H2 a y o ∧ Q (.bl o.isSome) H2
section
variable {K : PySem.W.Frag} {σ : L2.St} {H : Hp} {Q : VK} {te td ty : TE} {C p dx d : Addr} {f : Str} {kvs : List (Key × V)}
theorem rd_fld (q : te σ H fun x H1 => FldW K f x H1 Q) : tFld K te f σ H Q := q
theorem rd_heads (T : CT K C) (h : H p = some (.ins C dx [("heads", .ref d)])) (q : Q (.ref d) H) : FldW K "heads" (.ref p) H Q := ⟨p, C, dx, _, _, rfl, h, T.cl, T.nH, by simp [List.lookup], q⟩
theorem rd_din (q : ty σ H fun y H1 => td σ H1 fun x H2 => DInW x y H2 Q) : tDIn ty td σ H Q := q
theorem rd_dinW {z : Int} (h : H d = some (.dK kvs)) (q : Q (.bl (valV kvs (Sum.inl z)).isSome) H) : DInW (.ref d) (.int z) H Q := ⟨d, _, rfl, DGet.k (k := Sum.inl z) h, q⟩
theorem rd_dgZ {z : Int} {v : V} (h : H d = some (.dK kvs)) (l : valV kvs (Sum.inl z) = some v) {P : V → Prop} (q : P v) : ∃ a v', V.ref d = .ref a ∧ DGet H a (.int z) (some v') ∧ P v' := ⟨d, v, rfl, l ▸ DGet.k (k := Sum.inl z) h, q⟩
theorem rd_dpZ {z : Int} {v : V} {QH : Hp → Prop} (h : H d = some (.dK kvs)) (hl : kvs.length < sizeLine) (q : QH (upd H d (.dK (putK kvs (Sum.inl z) v)))) : ∃ a H4, V.ref d = .ref a ∧ DPut H a (.int z) v H4 ∧ QH H4 := ⟨d, _, rfl, DPut.k (k := Sum.inl z) h hl, q⟩
end
section
variable {P : Program} {w : World} {K : PySem.W.Frag} {mg : Str → Option Value} {base : Heap} {C fI fH fJ : Addr} {fdI fdH fdJ : FuncData}
abbrev s_Classes : Stmt := topS 12
abbrev s_init : Stmt := inClass s_Classes 0
abbrev s_head : Stmt := inClass s_Classes 1
abbrev s_join : Stmt := inClass s_Classes 2
theorem sc_init : FnScope ["self"] ["self"] (defScope s_init) := ⟨rfl, rfl, rfl, by decide +kernel, rfl, by decide +kernel, by decide +kernel⟩
theorem sc_head : FnScope ["self", "address", "found", "after"] ["self", "address"] (defScope s_head) := ⟨rfl, rfl, rfl, by decide +kernel, rfl, by decide +kernel, by decide +kernel⟩
theorem sc_join : FnScope ["self", "one", "other", "head", "top"] ["self", "one", "other"] (defScope s_join) := ⟨rfl, rfl, rfl, by decide +kernel, rfl, by decide +kernel, by decide +kernel⟩
def spInit (C : Addr) : Sp := fun vs H Q _ => ∃ (p dx : Addr), vs = [.ref p] ∧ H p = some (.ins C dx []) ∧
  ∀ (d : Addr), H d = none → Q .non (upd (upd H d (.dK [])) p (.ins C dx [("heads", .ref d)]))
theorem m_init (T : CT K C) (F : Fun K "__init__" "Classes.__init__" s_init fI fdI) : FnOk P w K mg base CX0 1 fI fdI ["self"] (spInit C) := by
  refine F.ok sc_init (fun vs H Q E h => ?_) (fun cdv A outer s H vs Q E hr h => ?_)
  · obtain ⟨p, dx, rfl, _⟩ := h
    rfl
  · obtain ⟨p, dx, rfl, hp, q⟩ := h
    refine ⟨_, pss_one (ps_fld (pv 0) pe_dnewK rfl), ?_⟩
    intro d hd
    refine ⟨_, rfl, p, C, dx, [], rfl, (upd_ne (fun e => by subst e; rw [hp] at hd; cases hd)).trans hp, T.cl, T.nH, by decide, ?_⟩
    exact q d hd
def spHead (C : Addr) : Sp := fun vs H Q _ => ∃ (p dx d : Addr) (kvs : List (Key × V)) (n : Nat) (a : Int), vs = [.ref p, .int a] ∧ H p = some (.ins C dx [("heads", .ref d)]) ∧ H d = some (.dK kvs) ∧ Ufs kvs n ∧ n ≤ 1000 ∧ 0 ≤ a ∧ a < n ∧
  ∀ (H' : Hp) (kvs' : List (Key × V)) (r : Int), Keeps d H H' → H' d = some (.dK kvs') → Ufs kvs' n → kvs'.length = kvs.length → (∃ m, Rt kvs m a r) → (∀ z m r, Rt kvs m z r → ∃ m', Rt kvs' m' z r) → 0 ≤ r → r < n → Q (.int r) H'
set_option maxHeartbeats 2000000 in
theorem m_head (T : CT K C) (F : Fun K "head" "Classes.head" s_head fH fdH) : FnOk P w K mg base CX0 1 fH fdH ["self", "address"] (spHead C) := by
  refine F.ok sc_head (fun vs H Q E h => ?_) (fun cdv A outer s H vs Q E hr h => ?_)
  · obtain ⟨p, dx, d, kvs, n, a, rfl, _⟩ := h
    rfl
  · obtain ⟨p, dx, d, kvs, n, a, rfl, hp, hd, u, hn, ha0, han, q⟩ := h
    have hu := hu_of hr
    refine ⟨_, pss_cons (ps_set (i := 2) sc_head.nd rfl (Or.inl rfl) (pv 1))
      (pss_cons (ps_while PassesOwn.never (pt_cmp (pc_din hu (pv 2) (pe_fld (pv 0) rfl)))
        (pss_one (ps_set (i := 2) sc_head.nd rfl (Or.inl rfl) (pe_dget hu (pe_fld (pv 0) rfl) (pv 2) (fun _ _ => rfl)))))
      (pss_cons (ps_while PassesOwn.never (pt_cmpR op_ne (pv 1) (pv 2) (nomark _))
        (pss_cons (ps_set (i := 3) sc_head.nd rfl (Or.inl rfl) (pe_dget hu (pe_fld (pv 0) rfl) (pv 1) (fun _ _ => rfl)))
        (pss_cons (ps_dput hu (pe_fld (pv 0) rfl) (pv 1) (pv 2) rfl)
        (pss_one (ps_set (i := 1) sc_head.nd rfl (Or.inl rfl) (pv 3))))))
      (pss_one (ps_ret (pv 2))))), ?_⟩
    obtain ⟨m0, r, h0⟩ := u.tot a
    obtain ⟨r0, r1⟩ := u.in_ h0 ⟨ha0, han⟩
    have zl : ∀ {l : List (Key × V)}, Ufs l n → l.length < sizeLine := fun u => Nat.lt_of_le_of_lt (Nat.le_trans u.len hn) (by decide)
    walk_at "rd"
    refine ⟨fun m σ H' => ∃ x : Int, σ = [some (.ref p), some (.int a), some (.int x), none] ∧ H' = H ∧ Rt kvs m x r, ⟨m0, a, rfl, rfl, h0⟩, fun m σ H1 hw => ?_⟩
    obtain ⟨x, rfl, rfl, hx⟩ := hw
    refine rd_test ?_
    refine rd_din ?_
    walk_at "rd"
    refine rd_fld ?_
    walk_at "rd"
    refine rd_heads T hp ?_
    refine rd_dinW hd ?_
    walk_at "rd"
    cases hx with
    | @s m x b r hv hx' =>
      rw [hv]
      refine iteT ?_
      refine ⟨fun σ' H' => σ' = [some (.ref p), some (.int a), some (.int b), none] ∧ H' = H1, fun σ' H' h => ⟨m, Nat.lt_succ_self _, b, h.1, h.2, hx'⟩, ?_⟩
      walk_at "rd"
      refine rd_fld ?_
      walk_at "rd"
      refine rd_heads T hp ?_
      walk_at "rd"
      refine rd_dgZ hd hv ?_
      walk_at "rd"
      exact ⟨rfl, rfl⟩
    | z hv =>
      rw [hv]
      refine iteF ?_
      walk_at "rd"
      refine ⟨fun m σ H' => ∃ (x : Int) (y : Option V) (kv : List (Key × V)), σ = [some (.ref p), some (.int x), some (.int r), y] ∧ Keeps d H1 H' ∧ H' d = some (.dK kv) ∧ Ufs kv n ∧ kv.length = kvs.length ∧ (∀ z m r, Rt kvs m z r → ∃ m', Rt kv m' z r) ∧ Rt kv m x r,
        ⟨m0, a, none, kvs, rfl, Keeps.refl _ _, hd, u, rfl, fun z m r h => ⟨m, h⟩, h0⟩, fun m σ H2 hw => ?_⟩
      obtain ⟨x, y, kv, rfl, k2, d2, u2, l2, p2, hx⟩ := hw
      have hp2 : H2 p = some (.ins C dx [("heads", .ref d)]) := k2 _ _ (ne_of hp hd (fun z => by cases z)) hp
      walk_at "rd"
      refine rd_ne rfl ?_
      walk_at "rd"
      cases hx with
      | z hv2 =>
        refine if_nyes rfl ?_
        walk_at "rd"
        exact q H2 kv r k2 d2 u2 l2 ⟨m0, h0⟩ p2 r0 r1
      | @s m x b _ hv2 hx' =>
        have hx2 : Rt kv (m + 1) x r := .s hv2 hx'
        refine if_nno (fun e => ?_) ?_
        · have e' : x = r := V.int.inj e
          rw [e', hx2.root] at hv2
          cases hv2
        obtain ⟨m', lm, hb⟩ := hx'.comp hx2
        obtain ⟨u3, l3⟩ := u2.comp hx2 ⟨r0, r1⟩
        refine ⟨fun σ' H' => ∃ (y : Option V), σ' = [some (.ref p), some (.int b), some (.int r), y] ∧ Keeps d H1 H' ∧ H' d = some (.dK (putK kv (Sum.inl x) (.int r))), fun σ' H' h => ?_, ?_⟩
        · obtain ⟨y, e1, e2, e3⟩ := h
          refine ⟨m', by omega, b, y, _, e1, e2, e3, u3, l3.trans l2, fun z mz rz hz => ?_, hb⟩
          obtain ⟨m1, g1⟩ := p2 z mz rz hz
          obtain ⟨m2, _, g2⟩ := g1.comp hx2
          exact ⟨m2, g2⟩
        · walk_at "rd"
          refine rd_fld ?_
          walk_at "rd"
          refine rd_heads T hp2 ?_
          walk_at "rd"
          refine rd_dgZ d2 hv2 ?_
          walk_at "rd"
          refine rd_fld ?_
          walk_at "rd"
          refine rd_heads T hp2 ?_
          walk_at "rd"
          refine rd_dpZ d2 (zl u2) ?_
          walk_at "rd"
          exact ⟨_, rfl, k2.trans Keeps.put, upd_same⟩
def spJoin (C : Addr) : Sp := fun vs H Q _ => ∃ (p dx d : Addr) (kvs : List (Key × V)) (n : Nat) (a b : Int), vs = [.ref p, .int a, .int b] ∧ H p = some (.ins C dx [("heads", .ref d)]) ∧ H d = some (.dK kvs) ∧ Ufs kvs n ∧ n ≤ 1000 ∧ 0 ≤ a ∧ a < n ∧ 0 ≤ b ∧ b < n ∧
  ∀ (H' : Hp) (kvs' : List (Key × V)) (r t : Int), Keeps d H H' → H' d = some (.dK kvs') → Ufs kvs' n → (∃ m, Rt kvs m a r) → (∃ m, Rt kvs m b t) → (r = t → kvs'.length = kvs.length ∧ ∀ z m q, Rt kvs m z q → ∃ m', Rt kvs' m' z q) →
    (r ≠ t → kvs'.length = kvs.length + 1 ∧ ∀ z m q, Rt kvs m z q → ∃ m', Rt kvs' m' z (if q = r then t else q)) → Q (.bl (!decide (r = t))) H'
theorem m_join (T : CT K C) (M : Meth K C "head" fH) (G : FnOk P w K mg base CX0 1 fH fdH ["self", "address"] (spHead C)) (bH : Binds K fdH ["self", "address"] []) (F : Fun K "join" "Classes.join" s_join fJ fdJ) : FnOk P w K mg base CX0 2 fJ fdJ ["self", "one", "other"] (spJoin C) := by
  refine F.ok sc_join (fun vs H Q E h => ?_) (fun cdv A outer s H vs Q E hr h => ?_)
  · obtain ⟨p, dx, d, kvs, n, a, b, rfl, _⟩ := h
    rfl
  · obtain ⟨p, dx, d, kvs, n, a, b, rfl, hp, hd, u, hn, ha0, han, hb0, hbn, q⟩ := h
    have hu := hu_of hr
    refine ⟨_, pss_cons (ps_set (i := 3) sc_join.nd rfl (Or.inl rfl) (pe_meth (pv 0) T.cl M G hr bH .nil pass0 (pa_cons (pv 1) pa_nil)))
      (pss_cons (ps_set (i := 4) sc_join.nd rfl (Or.inl rfl) (pe_meth (pv 0) T.cl M G hr bH .nil pass0 (pa_cons (pv 2) pa_nil)))
      (pss_cons (ps_if (pt_cmpR op_eq (pv 3) (pv 4) (nomark _)) (pss_one (ps_ret pe_bl)) pss_nil)
      (pss_cons (ps_dput hu (pe_fld (pv 0) rfl) (pv 3) (pv 4) rfl)
      (pss_one (ps_ret pe_bl))))), ?_⟩
    have lk : List.lookup ("head" : Str) [(("heads" : Str), V.ref d)] = none := by
      have z : (("head" : Str) == ("heads" : Str)) = false := by decide +kernel
      simp [List.lookup, z]
    have zl : ∀ {l : List (Key × V)}, Ufs l n → l.length < sizeLine := fun u => Nat.lt_of_le_of_lt (Nat.le_trans u.len hn) (by decide)
    walk_at "rd"
    refine ⟨_, rfl, p, dx, _, rfl, hp, lk, ?_⟩
    walk_at "rd"
    refine ⟨p, dx, d, kvs, n, a, rfl, hp, hd, u, hn, ha0, han, fun H1 kv1 r k1 d1 u1 l1 ⟨m1, g1⟩ p1 r0 r1 => ?_⟩
    have ne : p ≠ d := ne_of hp hd (fun z => by cases z)
    have hp1 := k1 _ _ ne hp
    walk_at "rd"
    refine ⟨_, rfl, p, dx, _, rfl, hp1, lk, ?_⟩
    walk_at "rd"
    refine ⟨p, dx, d, kv1, n, b, rfl, hp1, d1, u1, hn, hb0, hbn, fun H2 kv2 t k2 d2 u2 l2 ⟨m2, g2⟩ p2 t0 t1 => ?_⟩
    have hp2 := k2 _ _ ne hp1
    have gb : ∃ m, Rt kvs m b t := by
      obtain ⟨m, r', h'⟩ := u.tot b
      obtain ⟨m', h''⟩ := p1 _ _ _ h'
      rw [g2.det h'']
      exact ⟨m, h'⟩
    have p12 : ∀ z m q, Rt kvs m z q → ∃ m', Rt kv2 m' z q := fun z m q h => let ⟨m', h'⟩ := p1 z m q h; p2 z m' q h'
    walk_at "rd"
    refine rd_eq rfl ?_
    walk_at "rd"
    by_cases e : r = t
    · refine if_yes (by rw [e]) ?_
      walk_at "rd"
      have q := q H2 kv2 r t (k1.trans k2) d2 u2 ⟨m1, g1⟩ gb (fun _ => ⟨l2.trans l1, p12⟩) (fun n => absurd e n)
      rw [decide_eq_true e] at q
      exact q
    · refine if_no (fun z => e (V.int.inj z)) ?_
      walk_at "rd"
      refine rd_fld ?_
      walk_at "rd"
      refine rd_heads T hp2 ?_
      walk_at "rd"
      refine rd_dpZ d2 (zl u2) ?_
      walk_at "rd"
      obtain ⟨mr, hr'⟩ := p12 a m1 r g1
      obtain ⟨mb, hb'⟩ := gb
      obtain ⟨mt, ht'⟩ := p12 b mb t hb'
      obtain ⟨u3, l3⟩ := u2.join hr'.root ht'.root e ⟨r0, r1⟩ ⟨t0, t1⟩
      have q := q _ _ r t ((k1.trans k2).trans Keeps.put) upd_same u3 ⟨m1, g1⟩ ⟨mb, hb'⟩ (fun n => absurd n e) (fun _ => ⟨by omega, fun z m q h => ?_⟩)
      · rw [decide_eq_false e] at q
        exact q
      · obtain ⟨m', h'⟩ := p12 z m q h
        exact h'.join hr'.root ht'.root e
end
end K22
namespace K22
open PySem PySem.Spec PyProof.Rows L2 Kt Evl
/-- the way back from the i-th node -/
inductive Rb (H : Hp) (ys : List V) : Nat → List Int → Prop
  | z {i : Nat} {t : Addr} {v w k : V} : ys[i]? = some (.ref t) → H t = some (.tup [v, w, .non, k]) → Rb H ys i []
  | s {i j : Nat} {t : Addr} {v w : V} {k : Int} {r : List Int} : ys[i]? = some (.ref t) → H t = some (.tup [v, w, .int (j : Int), .int k]) → Rb H ys j r → Rb H ys i (r ++ [k])
theorem Rb.mono {H H' : Hp} (e : TM H H') {ys zs : List V} {i : Nat} {r : List Int} (h : Rb H ys i r) : Rb H' (ys ++ zs) i r := by
  have up : ∀ {i : Nat} {t : V}, ys[i]? = some t → (ys ++ zs)[i]? = some t := fun h => by rw [List.getElem?_append_left (List.getElem?_eq_some_iff.mp h).1]; exact h
  induction h with
  | z h1 h2 => exact .z (up h1) (e _ _ h2)
  | s h1 h2 _ ih => exact .s (up h1) (e _ _ h2) ih
theorem Rb.mono' {H H' : Hp} (e : TM H H') {ys : List V} {i : Nat} {r : List Int} (h : Rb H ys i r) : Rb H' ys i r := by
  have q := h.mono e (zs := [])
  rw [List.append_nil] at q
  exact q
section
variable {P : Program} {w : World} {K : PySem.W.Frag} {mg : Str → Option Value} {base : Heap}
/-- road_back(reached, at) -/
def spBack : Sp := fun vs H Q _ => ∃ (rl : Addr) (ys : List V) (i : Nat) (r : List Int), vs = [.ref rl, .int (i : Int)] ∧ H rl = some (.lst ys) ∧ Rb H ys i r ∧ r.length ≤ 10000 ∧ ∀ p H', Ex H H' → H' p = some (.tup (r.map V.int)) → Q (.ref p) H'
abbrev s_road_back : Stmt := topS 14
theorem sc_road_back : FnScope ["reached", "at", "road"] ["reached", "at"] (defScope s_road_back) := ⟨rfl, rfl, rfl, by decide +kernel, rfl, by decide +kernel, by decide +kernel⟩
set_option maxHeartbeats 2000000 in
theorem c_road_back (T : Txt K mg) (D : DefG K mg "road_back" s_road_back ["reached", "at"]) : CalG P w K mg base 1 "road_back" spBack := by
  refine calG D sc_road_back (fun vs H Q E h => ?_) (fun cdv f A outer s0 H vs Q E hA hr h => ?_)
  · obtain ⟨rl, ys, i, r, rfl, _⟩ := h
    rfl
  · obtain ⟨rl, ys, i, r, rfl, hl, hb, hz, q⟩ := h
    refine ⟨_, pss_cons (ps_set (i := 2) sc_road_back.nd rfl (Or.inl rfl) (pe_lst pa_nil))
      (pss_cons (ps_while PassesOwn.never (pt_cmpR op_notN1 (pe_ix ix_tup (pe_ix ix_list (pv 0) (pv 1) (fun _ _ => rfl)) pe_int (fun _ _ => rfl)) pe_non (nomark _))
        (pss_cons (ps_expr (pe_bm PySem.F.plainAttrs_list PySem.F.slot_list_append PySem.F.type_list_append mt_append (pv 2) (pa_cons (pe_ix ix_tup (pe_ix ix_list (pv 0) (pv 1) (fun _ _ => rfl)) pe_int (fun _ _ => rfl)) pa_nil)))
        (pss_one (ps_set (i := 1) sc_road_back.nd rfl (Or.inl rfl) (pe_ix ix_tup (pe_ix ix_list (pv 0) (pv 1) (fun _ _ => rfl)) pe_int (fun _ _ => rfl))))))
      (pss_one (ps_ret (pe_callTy call_tupO (by rfl) T.tuple (by decide +kernel) (pa_cons (pe_revL (pv 2)) pa_nil))))), ?_⟩
    walk_at "rd"
    refine rd_newL fun p H0 hp e0 h0 => ?_
    walk_at "rd"
    refine ⟨fun m σ H' => ∃ (j : Nat) (rest acc : List Int), σ = [some (.ref rl), some (.int (j : Int)), some (.ref p)] ∧ Ex H H' ∧ H' p = some (.lst (acc.map V.int)) ∧ Rb H ys j rest ∧ rest ++ acc.reverse = r ∧ m = rest.length,
      ⟨r.length, i, r, [], rfl, e0, h0, hb, by simp, rfl⟩, fun m σ H1 hw => ?_⟩
    obtain ⟨j, rest, acc, rfl, e1, h1, c1, hr', rfl⟩ := hw
    walk_at "rd"
    cases c1 with
    | @z _ t v u k g1 g2 =>
      refine rd_ixL (sq_of (e1 _ _ hl)) (atI_nat g1) ?_
      walk_at "rd"
      refine rd_ixT (st_of (e1 _ _ g2)) (atI_nat (j := 2) rfl) ?_
      walk_at "rd"
      refine if_nyes rfl ?_
      walk_at "rd"
      refine rd_revLW (sq_of h1) fun l H2 nl e12 h2 => ?_
      walk_at "rd"
      refine rd_tupO (sq_of h2) fun l2 H3 nl2 e23 h3 => ?_
      refine q _ _ ((e1.trans e12).trans e23) ?_
      rw [h3, ← hr', List.nil_append, List.map_reverse]
    | @s _ j2 t v u k rest g1 g2 g3 =>
      have hlen : acc.length < 10000 := by
        have := congrArg List.length hr'
        simp at this
        omega
      refine rd_ixL (sq_of (e1 _ _ hl)) (atI_nat g1) ?_
      walk_at "rd"
      refine rd_ixT (st_of (e1 _ _ g2)) (atI_nat (j := 2) rfl) ?_
      walk_at "rd"
      refine if_nno (fun z => by cases z) ?_
      refine ⟨fun σ' H' => ∃ (acc' : List Int), σ' = [some (.ref rl), some (.int (j2 : Int)), some (.ref p)] ∧ Ex H H' ∧ H' p = some (.lst (acc'.map V.int)) ∧ rest ++ acc'.reverse = r, fun σ' H' h => ?_, ?_⟩
      · obtain ⟨acc', z1, z2, z3, z4⟩ := h
        exact ⟨rest.length, by simp, j2, rest, acc', z1, z2, z3, g3, z4, rfl⟩
      · walk_at "rd"
        refine rd_tyL (sq_of h1) ?_
        walk_at "rd"
        refine rd_ixL (sq_of (e1 _ _ hl)) (atI_nat g1) ?_
        walk_at "rd"
        refine rd_ixT (st_of (e1 _ _ g2)) (atI_nat (j := 3) rfl) ?_
        walk_at "rd"
        refine rd_app h1 (by rw [List.length_map]; exact Nat.lt_of_lt_of_le hlen (by decide)) ?_
        have e3 : Ex H (upd H1 p (.lst (acc.map V.int ++ [.int k]))) := e1.mut hp
        walk_at "rd"
        refine rd_ixL (sq_of (e3 _ _ hl)) (atI_nat g1) ?_
        walk_at "rd"
        refine rd_ixT (st_of (e3 _ _ g2)) (atI_nat (j := 2) rfl) ?_
        walk_at "rd"
        exact ⟨acc ++ [k], rfl, e3, by rw [upd_same, List.map_append]; rfl, by rw [← hr']; simp⟩
end
end K22
namespace K22
open PySem PySem.Spec PyProof.Rows L2 Kt Evl
def Rr (H : Hp) (v : V) : Option (List Int) → Prop
  | none => v = .non
  | some r => ∃ a, v = .ref a ∧ H a = some (.tup (r.map V.int))
theorem Rr.mono {H H' : Hp} (e : TM H H') {v : V} : ∀ {o : Option (List Int)}, Rr H v o → Rr H' v o
  | none, h => h
  | some r, ⟨a, h1, h2⟩ => ⟨a, h1, e _ _ h2⟩
theorem ex_keeps {H Hc H' : Hp} {d : Addr} (e : Ex H Hc) (k : Keeps d Hc H') (h : H d = none) : Ex H H' := fun b o hb => k b o (ne_of_none hb h) (e b o hb)
theorem tm_keepsD {Hc H' : Hp} {d : Addr} {kvs : List (Key × V)} (k : Keeps d Hc H') (h : Hc d = some (.dK kvs)) : TM Hc H' := fun p xs hp => k p _ (ne_of hp h (fun z => by cases z)) hp
theorem tm_keepsL {Hc H' : Hp} {d : Addr} {ys : List V} (k : Keeps d Hc H') (h : Hc d = some (.lst ys)) : TM Hc H' := fun p xs hp => k p _ (ne_of hp h (fun z => by cases z)) hp
structure Pg (H0 : Hp) (s : V) (S : List Th) (x y : Va) (C p dx d rl : Addr) (Hc : Hp) (kvs : List (Key × V)) (ys : List V) (L : List Nd) (n : Nat) : Prop where
  ex : Ex H0 Hc
  st : Sr Hc s S
  fd : H0 d = none
  fr : H0 rl = none
  hp : Hc p = some (.ins C dx [("heads", .ref d)])
  hd : Hc d = some (.dK kvs)
  uf : Ufs kvs S.length
  hl : Hc rl = some (.lst ys)
  len : ys.length = L.length
  nod : ∀ (i : Nat) (q : Nd), L[i]? = some q → ∃ (t : Addr) (v w pv : V) (k : Int), ys[i]? = some (.ref t) ∧ Hc t = some (.tup [v, w, pv, .int k]) ∧ Vr Hc v q.1 ∧ Vr Hc w q.2.1 ∧ OkV S.length q.1 ∧ OkV S.length q.2.1 ∧ Rb Hc ys i q.2.2
  bf : Bf S x y L n
  sz : L.length ≤ 1 + 2 * kvs.length
  rs : ∀ q ∈ L, q.2.2.length ≤ L.length
  lk : ∃ c, (∀ (i : Nat) (q : Nd), n ≤ i → L[i]? = some q → c ≤ code q.2.2) ∧ ∀ (z : Nat) (m : Nat) (r : Int), Rt kvs m (z : Int) r → ∃ r' : Nat, r = (r' : Int) ∧ Ch (Lk S x y c) (.th z) (.th r')
section
variable {H0 Hc H' : Hp} {s : V} {S : List Th} {x y : Va} {C p dx d rl : Addr} {kvs : List (Key × V)} {ys : List V} {L : List Nd} {n : Nat}
theorem Pg.mono (g : Pg H0 s S x y C p dx d rl Hc kvs ys L n) (e : Ex Hc H') : Pg H0 s S x y C p dx d rl H' kvs ys L n :=
  ⟨g.ex.trans e, g.st.mono (TM.ex e), g.fd, g.fr, e _ _ g.hp, e _ _ g.hd, g.uf, e _ _ g.hl, g.len, fun i q h => let ⟨t, v, w, pv, k, h1, h2, h3, h4, h5, h6, h7⟩ := g.nod i q h; ⟨t, v, w, pv, k, h1, e _ _ h2, h3.mono (TM.ex e), h4.mono (TM.ex e), h5, h6, h7.mono' (TM.ex e)⟩, g.bf, g.sz, g.rs, g.lk⟩
theorem Pg.skip (g : Pg H0 s S x y C p dx d rl Hc kvs ys L n) {q : Nd} (hq : L[n]? = some q) (ha : apart S q.1 q.2.1 = false) (h : kids S q.1 = none) : Pg H0 s S x y C p dx d rl Hc kvs ys L (n + 1) :=
  { g with bf := g.bf.skip hq ha (.inl h), lk := let ⟨c, h1, h2⟩ := g.lk; ⟨c, fun i q hi => h1 i q (by omega), h2⟩ }
/-- the two are known to be of one class -/
theorem Pg.one (g : Pg H0 s S x y C p dx d rl Hc kvs ys L n) {q : Nd} (hq : L[n]? = some q) (ha : apart S q.1 q.2.1 = false) {i j m1 m2 : Nat} (e1 : q.1 = .th i) (e2 : q.2.1 = .th j) {r : Int} (h1 : Rt kvs m1 (i : Int) r) (h2 : Rt kvs m2 (j : Int) r)
    {kv' : List (Key × V)} (k : Keeps d Hc H') (hd : H' d = some (.dK kv')) (u : Ufs kv' S.length) (hl : kv'.length = kvs.length) (ht : ∀ z m q, Rt kvs m z q → ∃ m', Rt kv' m' z q) : Pg H0 s S x y C p dx d rl H' kv' ys L (n + 1) := by
  have tm := tm_keepsD k g.hd
  obtain ⟨c, c1, c2⟩ := g.lk
  have cn : c ≤ code q.2.2 := c1 n q (Nat.le_refl _) hq
  refine ⟨ex_keeps g.ex k g.fd, g.st.mono tm, g.fd, g.fr, k _ _ (ne_of g.hp g.hd (fun z => by cases z)) g.hp, hd, u, k _ _ (ne_of g.hl g.hd (fun z => by cases z)) g.hl, g.len, fun i q h => ?_, ?_, by rw [hl]; exact g.sz, g.rs, c, fun i q hi => c1 i q (by omega), fun z m r h => ?_⟩
  · obtain ⟨t, v, w, pv, k, h1, h2, h3, h4, h5, h6, h7⟩ := g.nod i q h
    exact ⟨t, v, w, pv, k, h1, tm _ _ h2, h3.mono tm, h4.mono tm, h5, h6, h7.mono' tm⟩
  · refine g.bf.skip hq ha (.inr ?_)
    obtain ⟨r1, rfl, k1⟩ := c2 i m1 _ h1
    obtain ⟨r2, e, k2⟩ := c2 j m2 _ h2
    have e' : r1 = r2 := by omega
    subst e'
    rw [e1, e2]
    exact (k1.trans k2.symm).mono fun a b l => l.mono cn
  · obtain ⟨m0, r0, g0⟩ := g.uf.tot z
    obtain ⟨m', g'⟩ := ht _ _ _ g0
    rw [h.det g']
    exact c2 z m0 r0 g0
end
theorem apart_kids {S : List Th} {u v a b : Va} (ha : apart S u v = false) (hk : kids S u = some (a, b)) : ∃ c e, kids S v = some (c, e) := by
  have h2 : (kids S v).isSome = true := kind_pa.mp ((apart_false.mp ha).1 ▸ kind_pa.mpr (by rw [hk]; rfl))
  obtain ⟨⟨c, e⟩, h⟩ := Option.isSome_iff_exists.mp h2
  exact ⟨c, e, h⟩
/-- while the two nodes are put behind the others -/
structure Pn (H5 : Hp) (rl : Addr) (n : Nat) (ys : List V) (a b c e : Va) (H' : Hp) (ns : List Addr) : Prop where
  kp : Keeps rl H5 H'
  hl : H' rl = some (.lst (ys ++ ns.map V.ref))
  nd : ∀ (j : Nat) (t : Addr), ns[j]? = some t → ∃ v w, H' t = some (.tup [v, w, .int (n : Int), .int ((j : Int) + 1)]) ∧ Vr H' v (if j = 0 then a else b) ∧ Vr H' w (if j = 0 then c else e)
theorem Pn.mono {H5 H' H6 : Hp} {rl : Addr} {n : Nat} {ys : List V} {a b c e : Va} {ns : List Addr} (t : Pn H5 rl n ys a b c e H' ns) (x : Ex H' H6) : Pn H5 rl n ys a b c e H6 ns :=
  ⟨t.kp.trans (Keeps.ex x), x _ _ t.hl, fun j t' h => let ⟨v, w, h1, h2, h3⟩ := t.nd j t' h; ⟨v, w, x _ _ h1, h2.mono (TM.ex x), h3.mono (TM.ex x)⟩⟩
theorem Pn.push {H5 H' : Hp} {rl t : Addr} {n j : Nat} {ys : List V} {a b c e : Va} {ns : List Addr} {v w : V} (g : Pn H5 rl n ys a b c e H' ns) (hj : ns.length = j) (ht : H' t = some (.tup [v, w, .int (n : Int), .int ((j : Int) + 1)])) (hv : Vr H' v (if j = 0 then a else b)) (hw : Vr H' w (if j = 0 then c else e)) :
    Pn H5 rl n ys a b c e (upd H' rl (.lst (ys ++ ns.map V.ref ++ [.ref t]))) (ns ++ [t]) := by
  have tm : TM H' (upd H' rl (.lst (ys ++ ns.map V.ref ++ [.ref t]))) := TM.tx (Tx.lst g.hl)
  refine ⟨g.kp.putm, by rw [upd_same, List.map_append, List.append_assoc]; rfl, fun i t' h => ?_⟩
  by_cases hi : i < ns.length
  · rw [List.getElem?_append_left hi] at h
    obtain ⟨v, w, h1, h2, h3⟩ := g.nd i t' h
    exact ⟨v, w, tm _ _ h1, h2.mono tm, h3.mono tm⟩
  · have hi' : i = j := by
      have := (List.getElem?_eq_some_iff.mp h).1
      simp at this
      omega
    subst hi'
    rw [← hj, List.getElem?_append_right (Nat.le_refl _), Nat.sub_self] at h
    cases Option.some.inj h
    exact ⟨v, w, tm _ _ ht, hv.mono tm, hw.mono tm⟩
section
variable {H0 Hc H4 H5 H' : Hp} {s : V} {S : List Th} {x y : Va} {C p dx d rl : Addr} {kvs kv' : List (Key × V)} {ys : List V} {L : List Nd} {n : Nat}
/-- two classes are made one, the two nodes stand behind the others -/
theorem Pg.two (g : Pg H0 s S x y C p dx d rl Hc kvs ys L n) {q : Nd} (hq : L[n]? = some q) (hS : OkS S) {i j m1 m2 : Nat} (e1 : q.1 = .th i) (e2 : q.2.1 = .th j) {a b c e : Va} (k1 : kids S q.1 = some (a, b)) (k2 : kids S q.2.1 = some (c, e)) {r t : Int} (h1 : Rt kvs m1 (i : Int) r) (h2 : Rt kvs m2 (j : Int) t)
    (k : Keeps d Hc H4) (hd : H4 d = some (.dK kv')) (u : Ufs kv' S.length) (hl : kv'.length = kvs.length + 1) (ht : ∀ z m q, Rt kvs m z q → ∃ m', Rt kv' m' z (if q = r then t else q)) (x5 : Ex H4 H5) {ns : List Addr} (g5 : Pn H5 rl n ys a b c e H' ns) (hn : ns.length = 2) :
    Pg H0 s S x y C p dx d rl H' kv' (ys ++ ns.map V.ref) (L ++ [(a, c, q.2.2 ++ [1]), (b, e, q.2.2 ++ [2])]) (n + 1) := by
  have tmD := tm_keepsD k g.hd
  have hl4 : H4 rl = some (.lst ys) := k _ _ (ne_of g.hl g.hd (fun z => by cases z)) g.hl
  have tmL := tm_keepsL g5.kp (x5 _ _ hl4)
  have tm : TM Hc H' := (tmD.trans (TM.ex x5)).trans tmL
  have hp4 := k _ _ (ne_of g.hp g.hd (fun z => by cases z)) g.hp
  obtain ⟨cc, c1, c2⟩ := g.lk
  have cn : cc ≤ code q.2.2 := c1 n q (Nat.le_refl _) hq
  have bf' := g.bf.more hq k1 k2
  obtain ⟨p1, p2⟩ := g.bf.path q (List.mem_of_getElem? hq)
  obtain ⟨oa, ob⟩ := kids_ok hS k1
  obtain ⟨oc, oe⟩ := kids_ok hS k2
  obtain ⟨tn, vn, wn, pvn, kn, y1, y2, _, _, _, _, y7⟩ := g.nod n q hq
  refine ⟨ex_keeps ((ex_keeps g.ex k g.fd).trans x5) g5.kp g.fr, g.st.mono tm, g.fd, g.fr, g5.kp _ _ (ne_of hp4 hl4 (fun z => by cases z)) (x5 _ _ hp4), g5.kp _ _ (ne_of hd hl4 (fun z => by cases z)) (x5 _ _ hd), u, g5.hl, by rw [List.length_append, List.length_append, List.length_map, hn, g.len]; rfl, fun i q' h => ?_, bf', by rw [List.length_append, hl]; have := g.sz; simp; omega, fun q' hq' => ?_, code q.2.2 + 1, fun i q' hi h => ?_, fun z m r' h => ?_⟩
  · by_cases hi : i < L.length
    · rw [List.getElem?_append_left hi] at h
      obtain ⟨t, v, w, pv, k, h1, h2, h3, h4, h5, h6, h7⟩ := g.nod i q' h
      exact ⟨t, v, w, pv, k, by rw [List.getElem?_append_left (by rw [g.len]; exact hi)]; exact h1, tm _ _ h2, h3.mono tm, h4.mono tm, h5, h6, h7.mono tm⟩
    · have hy : ∀ jj (tt : Addr), ns[jj]? = some tt → (ys ++ ns.map V.ref)[L.length + jj]? = some (.ref tt) := fun jj tt z => by
        rw [List.getElem?_append_right (by rw [g.len]; omega), g.len, Nat.add_sub_cancel_left, List.getElem?_map, z]
        rfl
      rw [List.getElem?_append_right (by omega)] at h
      obtain ⟨jj, hjj⟩ : ∃ jj, i = L.length + jj := ⟨i - L.length, by omega⟩
      subst hjj
      rw [Nat.add_sub_cancel_left] at h
      have hj2 : jj < 2 := by have := (List.getElem?_eq_some_iff.mp h).1; simpa using this
      have et : ns[jj]? = some (ns[jj]'(by omega)) := List.getElem?_eq_getElem _
      obtain ⟨v, w, z1, z2, z3⟩ := g5.nd jj _ et
      have rb : Rb H' (ys ++ ns.map V.ref) n q.2.2 := y7.mono tm
      rcases (show jj = 0 ∨ jj = 1 by omega) with rfl | rfl
      · cases Option.some.inj h
        exact ⟨_, v, w, _, _, hy 0 _ et, z1, z2, z3, oa, oc, .s (hy 0 _ et) z1 rb⟩
      · cases Option.some.inj h
        exact ⟨_, v, w, _, _, hy 1 _ et, z1, z2, z3, ob, oe, .s (hy 1 _ et) z1 rb⟩
  · rw [List.length_append]
    rcases List.mem_append.mp hq' with hq' | hq'
    · have := g.rs q' hq'
      omega
    · have := g.rs q (List.mem_of_getElem? hq)
      rcases List.mem_cons.mp hq' with rfl | hq'
      · simp; omega
      · rw [List.mem_singleton.mp hq']
        simp; omega
  · have hb := bf'.ord n i q q' (by omega) (by rw [List.getElem?_append_left (List.getElem?_eq_some_iff.mp hq).1]; exact hq) h
    omega
  · have up : ∀ {a b : Va}, Ch (Lk S x y cc) a b → Ch (Lk S x y (code q.2.2 + 1)) a b := fun h => h.mono fun a b l => l.mono (by omega)
    obtain ⟨r1, er, w1⟩ := c2 i m1 _ h1
    obtain ⟨t1, et, w2⟩ := c2 j m2 _ h2
    have link : Ch (Lk S x y (code q.2.2 + 1)) (.th i) (.th j) := .to (.refl _) ⟨q.2.2, Nat.lt_succ_self _, by rw [← e1]; exact p1, by rw [← e2]; exact p2⟩
    obtain ⟨m0, r0, g0⟩ := g.uf.tot z
    obtain ⟨m', g'⟩ := ht _ _ _ g0
    obtain ⟨z1, ez, w0⟩ := c2 z m0 r0 g0
    rw [h.det g']
    by_cases er0 : r0 = r
    · rw [if_pos er0]
      refine ⟨t1, et, ?_⟩
      have : z1 = r1 := by omega
      subst this
      exact (((up w0).trans (up w1).symm).trans link).trans (up w2)
    · rw [if_neg er0]
      exact ⟨z1, ez, up w0⟩
end
/-- what the top has written of Classes -/
structure ClsT (P : Program) (w : World) (K : PySem.W.Frag) (mg : Str → Option Value) (base : Heap) (C fI fJ : Addr) (fdI fdJ : FuncData) : Prop where
  ct : CT K C
  mks : Mk K C fI
  gm : mg "Classes" = some (.ref C)
  gI : FnOk P w K mg base CX0 1 fI fdI ["self"] (spInit C)
  bI : Binds K fdI ["self"] []
  mJ : Meth K C "join" fJ
  gJ : FnOk P w K mg base CX0 2 fJ fdJ ["self", "one", "other"] (spJoin C)
  bJ : Binds K fdJ ["self", "one", "other"] []
section
variable {P : Program} {w : World} {K : PySem.W.Frag} {mg : Str → Option Value} {base : Heap} {C fI fJ : Addr} {fdI fdJ : FuncData}
/-- parting_road(store, value, other) -/
def spPart : Sp := fun vs H Q _ => ∃ (s v u : V) (S : List Th) (x y : Va), vs = [s, v, u] ∧ Sr H s S ∧ Vr H v x ∧ Vr H u y ∧ OkS S ∧ S.length ≤ 1000 ∧ OkV S.length x ∧ OkV S.length y ∧ ∀ (o : Option (List Int)) (r : V) (H' : Hp), Ex H H' → Least S x y o → Rr H' r o → Q r H'
abbrev s_parting_road : Stmt := topS 15
theorem sc_parting_road : FnScope ["store", "value", "other", "classes", "reached", "at", "one", "two", "k"] ["store", "value", "other"] (defScope s_parting_road) := ⟨rfl, rfl, rfl, by decide +kernel, rfl, by decide +kernel, by decide +kernel⟩
set_option maxHeartbeats 8000000 in
theorem c_parting_road (T : Txt K mg) (D : DefG K mg "parting_road" s_parting_road ["store", "value", "other"]) (Z : ClsT P w K mg base C fI fJ fdI fdJ) (c_are_apart : CalG P w K mg base 4 "are_apart" spApart) (c_is_pair : CalO P w K mg base 2 "is_pair" spPair) (c_road_back : CalG P w K mg base 1 "road_back" spBack) : CalG P w K mg base 5 "parting_road" spPart := by
  refine calG D sc_parting_road (fun vs H Q E h => ?_) (fun cdv f A outer s0 H vs Q E hA hr h => ?_)
  · obtain ⟨s, v, u, S, x, y, rfl, _⟩ := h
    rfl
  · obtain ⟨s, v, u, S, x, y, rfl, hs, hx, hy, hS, hz, ox, oy, q⟩ := h
    refine ⟨_, pss_cons (ps_set (i := 3) sc_parting_road.nd rfl (Or.inl rfl) (pe_make0 Z.mks Z.gI (hr.mono (by decide)) (by rfl) Z.gm Z.bI .nil pass0))
      (pss_cons (ps_set (i := 4) sc_parting_road.nd rfl (Or.inl rfl) (pe_lst (pa_cons (pe_tup (pa_cons (pv 1) (pa_cons (pv 2) (pa_cons pe_non (pa_cons pe_int pa_nil))))) pa_nil)))
      (pss_cons (ps_set (i := 5) sc_parting_road.nd rfl (Or.inl rfl) pe_int)
      (pss_cons (ps_while PassesOwn.never (pt_cmpR op_lt (pv 5) (pe_callB call_lenO (by rfl) T.len (by decide +kernel) (pa_cons (pv 4) pa_nil)) (nomark _))
        (pss_cons (ps_set (i := 6) sc_parting_road.nd rfl (Or.inl rfl) (pe_ix ix_tup (pe_ix ix_list (pv 4) (pv 5) (fun _ _ => rfl)) pe_int (fun _ _ => rfl)))
        (pss_cons (ps_set (i := 7) sc_parting_road.nd rfl (Or.inl rfl) (pe_ix ix_tup (pe_ix ix_list (pv 4) (pv 5) (fun _ _ => rfl)) pe_int (fun _ _ => rfl)))
        (pss_cons (ps_if (pt_val (pe_cG c_are_apart hA hr (by decide) (by rfl) (pa_cons (pv 0) (pa_cons (pv 6) (pa_cons (pv 7) pa_nil)))))
          (pss_one (ps_ret (pe_cG c_road_back hA hr (by decide) (by rfl) (pa_cons (pv 4) (pa_cons (pv 5) pa_nil)))))
          (pss_nil))
        (pss_cons (ps_if (PW.pt (pw_and (pt_val (pe_cO c_is_pair hr (by decide) (by rfl) (pa_cons (pv 0) (pa_cons (pv 6) pa_nil)))) (pw_and1 (pt_val (pe_meth (pv 3) Z.ct.cl Z.mJ Z.gJ (hr.mono (by decide)) Z.bJ .nil pass0 (pa_cons (pe_ix ix_tup (pv 6) pe_int (fun _ _ => rfl)) (pa_cons (pe_ix ix_tup (pv 7) pe_int (fun _ _ => rfl)) pa_nil)))))))
          (pss_one (ps_for PassesOwn.never rfl (pi_tup (pe_tup (pa_cons pe_int (pa_cons pe_int pa_nil)))) (pg_name (i := 8) sc_parting_road.nd rfl (Or.inl rfl))
            (pss_one (ps_expr (pe_bm PySem.F.plainAttrs_list PySem.F.slot_list_append PySem.F.type_list_append mt_append (pv 4) (pa_cons (pe_tup (pa_cons (pe_ix ix_tup (pe_ix ix_tup (pv 0) (pe_ix ix_tup (pv 6) pe_int (fun _ _ => rfl)) (fun _ _ => rfl)) (pv 8) (fun _ _ => rfl)) (pa_cons (pe_ix ix_tup (pe_ix ix_tup (pv 0) (pe_ix ix_tup (pv 7) pe_int (fun _ _ => rfl)) (fun _ _ => rfl)) (pv 8) (fun _ _ => rfl)) (pa_cons (pv 5) (pa_cons (pv 8) pa_nil))))) pa_nil))))))
          (pss_nil))
        (pss_one (ps_aug (i := 5) sc_parting_road.nd rfl (Or.inl rfl) pe_int ip_add)))))))
      (pss_one (ps_ret (pe_non)))))), ?_⟩
    walk_at "rd"
    intro p dx np ndx nex
    refine ⟨p, dx, rfl, upd_same, fun d nd => ?_⟩
    refine ⟨rfl, ?_⟩
    have edp : d ≠ p := fun e => by subst e; rw [upd_same] at nd; cases nd
    have nd0 : H d = none := by
      have h1 : (upd H dx (.own p)) d = none := (upd_ne edp).symm.trans nd
      by_cases e : d = dx
      · subst e; rw [upd_same] at h1; cases h1
      · exact (upd_ne e).symm.trans h1
    have e1 : Ex H (upd (upd (upd (upd H dx (.own p)) p (.ins C dx [])) d (.dK [])) p (.ins C dx [("heads", .ref d)])) := ((((Ex.refl H).mut ndx).mut np).mut nd0).mut np
    have hp1 : (upd (upd (upd (upd H dx (.own p)) p (.ins C dx [])) d (.dK [])) p (.ins C dx [("heads", .ref d)])) p = some (.ins C dx [("heads", .ref d)]) := upd_same
    have hd1 : (upd (upd (upd (upd H dx (.own p)) p (.ins C dx [])) d (.dK [])) p (.ins C dx [("heads", .ref d)])) d = some (.dK []) := (upd_ne edp).trans upd_same
    generalize upd (upd (upd (upd H dx (.own p)) p (.ins C dx [])) d (.dK [])) p (.ins C dx [("heads", .ref d)]) = H1 at e1 hp1 hd1 ⊢
    walk_at "rd"
    refine rd_newT fun t0 H2 nt e12 ht => ?_
    walk_at "rd"
    refine rd_newL fun rl H3 nr e23 hl => ?_
    walk_at "rd"
    have e2 := e1.trans e12
    have e3 := e2.trans e23
    have g0 : Pg H s S x y C p dx d rl H3 [] [.ref t0] [(x, y, [])] 0 :=
      ⟨e3, hs.mono (TM.ex e3), nd0, fresh_back e2 nr, e23 _ _ (e12 _ _ hp1), e23 _ _ (e12 _ _ hd1), Ufs.nil, hl, rfl, fun i q h => by
        have hi : i = 0 := by have := (List.getElem?_eq_some_iff.mp h).1; simp at this; omega
        subst hi
        cases Option.some.inj h
        exact ⟨t0, v, u, .non, 0, rfl, e23 _ _ ht, hx.mono (TM.ex e3), hy.mono (TM.ex e3), ox, oy, .z rfl (e23 _ _ ht)⟩, Bf.init S x y, by simp, fun q hq => by rw [List.mem_singleton.mp hq]; exact Nat.zero_le _,
        0, fun _ _ _ _ => Nat.zero_le _, fun z m r h => by
          cases h with
          | z _ => exact ⟨z, rfl, .refl _⟩
          | s h _ => cases h⟩
    refine ⟨fun m σ H' => ∃ (y6 y7 y8 : Option V) (kvs : List (Key × V)) (ys : List V) (L : List Nd) (n : Nat), σ = [some s, some v, some u, some (.ref p), some (.ref rl), some (.int (n : Int)), y6, y7, y8] ∧ Pg H s S x y C p dx d rl H' kvs ys L n ∧ m + n + 2 * kvs.length = 2 * S.length + L.length,
      ⟨2 * S.length + 1, none, none, none, [], _, _, 0, rfl, g0, by simp⟩, fun m σ H4 hw => ?_⟩
    obtain ⟨y6, y7, y8, kvs, ys, L, n, rfl, g, hm⟩ := hw
    walk_at "rd"
    refine rd_lenO (.inl (sq_of g.hl)) ?_
    walk_at "rd"
    by_cases hn : n < L.length
    rotate_left
    · refine if_no (by rw [g.len]; omega) ?_
      walk_at "rd"
      exact q none _ H4 g.ex (g.bf.none (by omega)) rfl
    refine if_yes (by rw [g.len]; omega) ?_
    obtain ⟨qn, hq⟩ : ∃ qn, L[n]? = some qn := ⟨L[n], List.getElem?_eq_getElem hn⟩
    refine ⟨fun σ' H' => ∃ (y6 y7 y8 : Option V) (kv' : List (Key × V)) (ys' : List V) (L' : List Nd), σ' = [some s, some v, some u, some (.ref p), some (.ref rl), some (.int ((n + 1 : Nat) : Int)), y6, y7, y8] ∧ Pg H s S x y C p dx d rl H' kv' ys' L' (n + 1) ∧ L'.length + 2 * kvs.length = L.length + 2 * kv'.length, fun σ' H' h => ?_, ?_⟩
    · obtain ⟨y6, y7, y8, kv', ys', L', z1, z2, z3⟩ := h
      have := z2.uf.len
      refine ⟨2 * S.length + L'.length - (n + 1) - 2 * kv'.length, ?_, y6, y7, y8, kv', ys', L', n + 1, z1, z2, ?_⟩
      · have := z2.bf.le
        omega
      · have := z2.bf.le
        omega
    walk_at "rd"
    obtain ⟨t, v1, w1, pv, k1, a1, a2, a3, a4, o1, o2, a7⟩ := g.nod n qn hq
    refine rd_ixL (sq_of g.hl) (atI_nat a1) ?_
    walk_at "rd"
    refine rd_ixT (st_of a2) (atI_nat (j := 0) rfl) ?_
    walk_at "rd"
    refine rd_ixL (sq_of g.hl) (atI_nat a1) ?_
    walk_at "rd"
    refine rd_ixT (st_of a2) (atI_nat (j := 1) rfl) ?_
    walk_at "rd"
    refine ⟨s, v1, w1, S, qn.1, qn.2.1, rfl, g.st, a3, a4, o1, o2, fun H5 e45 => ?_⟩
    have g5 := g.mono e45
    have b3 := a3.mono (TM.ex e45)
    have b4 := a4.mono (TM.ex e45)
    walk_at "rd"
    cases hap : apart S qn.1 qn.2.1 with
    | true =>
      refine iteT ?_
      walk_at "rd"
      refine ⟨rl, ys, n, qn.2.2, rfl, g5.hl, a7.mono' (TM.ex e45), ?_, fun pr H6 e56 h6 => ?_⟩
      · have h1 := g.rs qn (List.mem_of_getElem? hq)
        have h2 := g.sz
        have h3 := g.uf.len
        omega
      · exact q (some qn.2.2) _ H6 (g5.ex.trans e56) (g.bf.found hq hap) ⟨pr, rfl, h6⟩
    | false =>
      refine iteF ?_
      walk_at "rd"
      refine ⟨s, v1, S, qn.1, rfl, g5.st, b3, o1, ?_⟩
      walk_at "rd"
      cases hk : kids S qn.1 with
      | none =>
        refine iteF ?_
        walk_at "rd"
        refine ⟨_, rfl, ?_⟩
        walk_at "rd"
        exact ⟨_, 1, rfl, rfl, _, _, _, kvs, ys, L, rfl, g5.skip hq hap hk, rfl⟩
      | some ab =>
        obtain ⟨a, b⟩ := ab
        obtain ⟨c, e, hk2⟩ := apart_kids hap hk
        obtain ⟨i, ei, si⟩ := kids_th hk
        obtain ⟨j, ej, sj⟩ := kids_th hk2
        have b3' := b3
        have b4' := b4
        rw [ei] at b3' o1
        rw [ej] at b4' o2
        obtain ⟨ti, rfl, hti⟩ := b3'
        obtain ⟨tj, rfl, htj⟩ := b4'
        have hi : i < S.length := o1
        have hj : j < S.length := o2
        refine iteT ?_
        walk_at "rd"
        refine ⟨_, rfl, p, dx, _, rfl, g5.hp, by
          have z : (("join" : Str) == ("heads" : Str)) = false := by decide +kernel
          simp [List.lookup, z], ?_⟩
        walk_at "rd"
        refine rd_ixT (st_of hti) (atI_nat (j := 1) rfl) ?_
        walk_at "rd"
        refine rd_ixT (st_of htj) (atI_nat (j := 1) rfl) ?_
        walk_at "rd"
        refine ⟨p, dx, d, kvs, S.length, (i : Int), (j : Int), rfl, g5.hp, g5.hd, g5.uf, hz, by omega, by omega, by omega, by omega, fun H6 kv' r t' k6 d6 u6 ⟨m1, f1⟩ ⟨m2, f2⟩ heq hne => ?_⟩
        walk_at "rd"
        by_cases ert : r = t'
        · refine if_nyes ert ?_
          walk_at "rd"
          refine ⟨_, rfl, ?_⟩
          walk_at "rd"
          obtain ⟨l6, p6⟩ := heq ert
          subst ert
          exact ⟨_, 1, rfl, rfl, _, _, _, kv', ys, L, rfl, g5.one hq hap ei ej f1 f2 k6 d6 u6 l6 p6, by rw [l6]⟩
        · refine if_nno ert ?_
          obtain ⟨l6, p6⟩ := hne ert
          walk_at "rd"
          refine rd_newT fun tt H7 ntt e67 htt => ?_
          refine rd_tupW (st_of htt) ?_
          have hl7 : H7 rl = some (.lst ys) := e67 _ _ (k6 _ _ (ne_of g5.hl g5.hd (fun z => by cases z)) g5.hl)
          have tm7 : TM H5 H7 := (tm_keepsD k6 g5.hd).trans (TM.ex e67)
          refine rd_forTg [.int 1, .int 2] (fun iter σ H' => ∃ (y8 : Option V) (ns : List Addr), σ = [some s, some v, some u, some (.ref p), some (.ref rl), some (.int (n : Int)), some (.ref ti), some (.ref tj), y8] ∧ ns.length = iter ∧ Pn H7 rl n ys a b c e H' ns)
            ⟨_, [], rfl, rfl, Keeps.refl _ _, by rw [List.map_nil, List.append_nil]; exact hl7, fun j t h => by cases h⟩ (fun iter σ H' hi p => ?_) (fun iter xk σ H' hxk p => ?_) (fun σ H' p => ?_)
          · obtain ⟨y8, ns, _, _, pn⟩ := p
            exact st_of ((tm_keepsL pn.kp hl7) _ _ htt)
          · obtain ⟨y8, ns, rfl, hns, pn⟩ := p
            have tm8 : TM H5 H' := tm7.trans (tm_keepsL pn.kp hl7)
            obtain ⟨sa, xs, rfl, hsa, hsl⟩ := g5.st.mono tm8
            obtain ⟨ui, hui, pi1, ui1, wi1, rfl, hpi, vi1, vi2⟩ := hsl.2 i _ si
            obtain ⟨uj, huj, pj1, uj1, wj1, rfl, hpj, vj1, vj2⟩ := hsl.2 j _ sj
            have bound : (ys ++ ns.map V.ref).length < sizeLine := by
              have h1 := g.len
              have h2 := g.sz
              have h3 := g.uf.len
              have hit : iter < 2 := by have := (List.getElem?_eq_some_iff.mp hxk).1; simpa using this
              rw [List.length_append, List.length_map]
              exact Nat.lt_of_lt_of_le (by omega : ys.length + ns.length < 3000) (by decide)
            walk_at "rd"
            refine rd_tyL (sq_of pn.hl) ?_
            walk_at "rd"
            refine rd_ixT (st_of (tm8 _ _ hti)) (atI_nat (j := 1) rfl) ?_
            refine rd_ixT (st_of hsa) (atI_nat hui) ?_
            walk_at "rd"
            rcases (show iter = 0 ∨ iter = 1 by have := (List.getElem?_eq_some_iff.mp hxk).1; simp at this; omega) with rfl | rfl
            · cases Option.some.inj hxk
              refine rd_ixT (st_of hpi) (atI_nat (j := 1) rfl) ?_
              walk_at "rd"
              refine rd_ixT (st_of (tm8 _ _ htj)) (atI_nat (j := 1) rfl) ?_
              refine rd_ixT (st_of hsa) (atI_nat huj) ?_
              walk_at "rd"
              refine rd_ixT (st_of hpj) (atI_nat (j := 1) rfl) ?_
              walk_at "rd"
              refine rd_newT fun nt H9 nnt e89 hnt => ?_
              walk_at "rd"
              refine rd_app (e89 _ _ pn.hl) bound ?_
              exact ⟨_, _, rfl, by simp [hns], (pn.mono e89).push hns hnt (vi1.mono (TM.ex e89)) (vj1.mono (TM.ex e89))⟩
            · cases Option.some.inj hxk
              refine rd_ixT (st_of hpi) (atI_nat (j := 2) rfl) ?_
              walk_at "rd"
              refine rd_ixT (st_of (tm8 _ _ htj)) (atI_nat (j := 1) rfl) ?_
              refine rd_ixT (st_of hsa) (atI_nat huj) ?_
              walk_at "rd"
              refine rd_ixT (st_of hpj) (atI_nat (j := 2) rfl) ?_
              walk_at "rd"
              refine rd_newT fun nt H9 nnt e89 hnt => ?_
              walk_at "rd"
              refine rd_app (e89 _ _ pn.hl) bound ?_
              exact ⟨_, _, rfl, by simp [hns], (pn.mono e89).push hns hnt (vi2.mono (TM.ex e89)) (vj2.mono (TM.ex e89))⟩
          · obtain ⟨y8, ns, rfl, hns, pn⟩ := p
            walk_at "rd"
            refine ⟨_, rfl, ?_⟩
            walk_at "rd"
            exact ⟨_, 1, rfl, rfl, _, _, _, kv', _, _, rfl, g5.two hq hS ei ej hk hk2 f1 f2 k6 d6 u6 l6 p6 e67 pn hns, by rw [List.length_append, l6]; simp; omega⟩
def spAlike : Sp := fun vs H Q _ => ∃ (s v u : V) (S : List Th) (x y : Va), vs = [s, v, u] ∧ Sr H s S ∧ Vr H v x ∧ Vr H u y ∧ OkS S ∧ S.length ≤ 1000 ∧ OkV S.length x ∧ OkV S.length y ∧ ∀ (o : Option (List Int)) (H' : Hp), Ex H H' → Least S x y o → Q (.bl o.isNone) H'
abbrev s_alike : Stmt := topS 16
theorem sc_alike : FnScope ["store", "value", "other"] ["store", "value", "other"] (defScope s_alike) := ⟨rfl, rfl, rfl, by decide +kernel, rfl, by decide +kernel, by decide +kernel⟩
theorem c_alike (T : Txt K mg) (D : DefG K mg "alike" s_alike ["store", "value", "other"]) (c_parting_road : CalG P w K mg base 5 "parting_road" spPart) : CalG P w K mg base 6 "alike" spAlike := by
  refine calG D sc_alike (fun vs H Q E h => ?_) (fun cdv f A outer s0 H vs Q E hA hr h => ?_)
  · obtain ⟨s, v, u, S, x, y, rfl, _⟩ := h
    rfl
  · obtain ⟨s, v, u, S, x, y, rfl, hs, hx, hy, hS, hz, ox, oy, q⟩ := h
    refine ⟨_, pss_one (ps_ret (pe_cmpR op_isN1 (pe_cG c_parting_road hA hr (by decide) (by rfl) (pa_cons (pv 0) (pa_cons (pv 1) (pa_cons (pv 2) pa_nil)))) pe_non (nomark _))), ?_⟩
    walk_at "rd"
    refine ⟨s, v, u, S, x, y, rfl, hs, hx, hy, hS, hz, ox, oy, fun o r H' e l hr => ?_⟩
    walk_at "rd"
    have q := q o H' e l
    cases o with
    | none =>
      cases (show r = .non from hr)
      exact q
    | some r' =>
      obtain ⟨a, rfl, _⟩ := hr
      exact q
end
end K22
namespace K22
open PySem PySem.Spec PyProof.Rows L2 Kt Evl
def atR (S : List Th) : Va → List Int → Nat → Except Nat Va
  | x, [], _ => .ok x
  | x, j :: r, k => match step S j x with
    | none => .error k
    | some u => atR S u r (k + 1)
theorem atR_none {S : List Th} {x : Va} {j : Int} {r : List Int} {k : Nat} (h : kids S x = none) : atR S x (j :: r) k = .error k := by
  have : step S j x = none := by
    unfold step
    rw [h]
    split <;> (try split) <;> rfl
  show (match step S j x with | none => Except.error k | some u => atR S u r (k + 1)) = _
  rw [this]
theorem atR_step {S : List Th} {x u : Va} {j : Int} {r : List Int} {k : Nat} (h : step S j x = some u) : atR S x (j :: r) k = atR S u r (k + 1) := by
  show (match step S j x with | none => Except.error k | some u => atR S u r (k + 1)) = _
  rw [h]
theorem step_ok {S : List Th} (hS : OkS S) {x u : Va} {j : Int} (h : step S j x = some u) : OkV S.length u := by
  obtain ⟨hj, hs⟩ := step_some h
  obtain ⟨⟨a, b⟩, hk⟩ := Option.isSome_iff_exists.mp hs
  obtain ⟨o1, o2⟩ := kids_ok hS hk
  rcases hj with rfl | rfl
  · rw [step_one hk] at h; cases h; exact o1
  · rw [step_two hk] at h; cases h; exact o2
theorem drop_cons {α : Type} {l : List α} {i : Nat} {x : α} (h : l[i]? = some x) : l.drop i = x :: l.drop (i + 1) := by
  obtain ⟨hi, e⟩ := List.getElem?_eq_some_iff.mp h
  rw [List.drop_eq_getElem_cons hi, e]
/-- a step in the store, as the program makes it -/
theorem step_at {H : Hp} {xs : List V} {S : List Th} {i : Nat} {a b u : Va} {j : Int} (hl : Tl H xs S) (si : S[i]? = some (.pr a b)) (hj : step S j (.th i) = some u) : ∃ p v w z, xs[i]? = some (.ref p) ∧ H p = some (.tup [.str "pair", v, w]) ∧ atI [V.str "pair", v, w] j = some z ∧ Vr H z u := by
  obtain ⟨t, ht, p, v, w, rfl, hp, h1, h2⟩ := hl.2 i _ si
  have hk : kids S (.th i) = some (a, b) := by
    show (match S[i]? with | some (.pr a b) => some (a, b) | _ => none) = _
    rw [si]
  rcases (step_some hj).1 with rfl | rfl
  · rw [step_one hk] at hj
    cases hj
    exact ⟨p, v, w, v, ht, hp, atI_nat (j := 1) rfl, h1⟩
  · rw [step_two hk] at hj
    cases hj
    exact ⟨p, v, w, w, ht, hp, atI_nat (j := 2) rfl, h2⟩
section
variable {P : Program} {w : World} {K : PySem.W.Frag} {mg : Str → Option Value} {base : Heap} {C fI : Addr} {fdI : FuncData}
abbrev s_NoRoad : Stmt := inClass (topS 2) 0
theorem sc_NoRoad : FnScope ["self", "number"] ["self", "number"] (defScope s_NoRoad) := ⟨rfl, rfl, rfl, by decide +kernel, rfl, by decide +kernel, by decide +kernel⟩
def spNR (C : Addr) : Sp := fun vs H Q _ => ∃ (a : Addr) (v : V), vs = [.ref a, v] ∧ H a = some (exo a C none) ∧ ∀ dx, H dx = none → dx ≠ a → Q .non (upd (upd H dx (exd dx [("number", v)])) a (exo a C (some dx)))
theorem m_noroad (T : OexC K C) (nn : PySem.W.findIn K (.ref C) "number" = some none) (F : Fun K "__init__" "NoRoad.__init__" s_NoRoad fI fdI) : FnOk P w K mg base CX0 1 fI fdI ["self", "number"] (spNR C) := by
  refine F.ok sc_NoRoad (fun vs H Q E h => ?_) (fun cdv A outer s H vs Q E hr h => ?_)
  · obtain ⟨a, v, rfl, _⟩ := h
    rfl
  · obtain ⟨a, v, rfl, ha, q⟩ := h
    refine ⟨_, pss_one (ps_ost (pv 0) (pv 1)), ?_⟩
    exact ⟨_, rfl, _, rfl, a, C, rfl, T, nn, .inl ⟨ha, q⟩⟩
/-- what the top has written of NoRoad -/
structure NoT (P : Program) (w : World) (K : PySem.W.Frag) (mg : Str → Option Value) (base : Heap) (C fI : Addr) (fdI : FuncData) : Prop where
  oe : OexC K C
  iC : PySem.W.findIn K (.ref C) "__init__" = some (some (.ref fI))
  tI : PySem.W.typeIn K (.ref fI) = some (.type "function")
  gm : mg "NoRoad" = some (.ref C)
  nn : PySem.W.findIn K (.ref C) "number" = some none
  xf : XfC K C
  te : PySem.W.exmOne K (.ref C) (.ref C) = some true
  gI : FnOk P w K mg base CX0 1 fI fdI ["self", "number"] (spNR C)
  bI : Binds K fdI ["self", "number"] []
def spValueAt (C : Addr) : Sp := fun vs H Q E => ∃ (s v : V) (rp : Addr) (S : List Th) (x : Va) (rs : List Int), vs = [s, v, .ref rp] ∧ Sr H s S ∧ Vr H v x ∧ OkS S ∧ OkV S.length x ∧ H rp = some (.tup (rs.map V.int)) ∧ Dg rs ∧
  (∀ (u : V) (y : Va) (H' : Hp), Ex H H' → atR S x rs 0 = .ok y → Vr H' u y → Q u H') ∧ ∀ (k : Nat) (d : Addr) (H' : Hp), Ex H H' → atR S x rs 0 = .error k → H' d = some (.xd [("number", .int (k : Int))]) → E (.ref C) (some d) H'
abbrev s_value_at : Stmt := topS 17
theorem sc_value_at : FnScope ["store", "value", "road", "k", "number"] ["store", "value", "road"] (defScope s_value_at) := ⟨rfl, rfl, rfl, by decide +kernel, rfl, by decide +kernel, by decide +kernel⟩
/-- value_at, which may raise -/
structure CalX (P : Program) (w : World) (K : PySem.W.Frag) (mg : Str → Option Value) (base : Heap) (k : Nat) (x : Str) (ps : List Str) (sp : Sp) : Prop where
  ex : ∃ (f : Addr) (fd : FuncData), FnOk P w K mg base (L2.CX P w) k f fd ps sp ∧ mg x = some (.ref f) ∧ PySem.W.keepIn K (.ref f) = true ∧ Binds K fd ps []
set_option maxHeartbeats 2000000 in
theorem c_value_at (T : Txt K mg) (D : DefG K mg "value_at" s_value_at ["store", "value", "road"]) (Z : NoT P w K mg base C fI fdI) (c_is_pair : CalO P w K mg base 2 "is_pair" spPair) : CalX P w K mg base 3 "value_at" ["store", "value", "road"] (spValueAt C) := by
  obtain ⟨f, fd, F, m, b⟩ := D.ex
  refine ⟨f, fd, F.okX sc_value_at (fun vs H Q E h => ?_) (fun cdv A outer s0 H vs Q E hr h => ?_), m, F.kp, b⟩
  · obtain ⟨s, v, rp, S, x, rs, rfl, _⟩ := h
    rfl
  · obtain ⟨s, v, rp, S, x, rs, rfl, hs, hx, hS, ok, hr0, dg, q, qe⟩ := h
    refine ⟨_, pss_cons (ps_for (passes_of rfl) rfl (pi_enT (by rfl) T.enumerate (pa_cons (pv 2) pa_nil)) (pg_tup rfl (pgs_cons (pg_name (i := 3) sc_value_at.nd rfl (Or.inl rfl)) (pgs_cons (pg_name (i := 4) sc_value_at.nd rfl (Or.inl rfl)) pgs_nil)))
        (pss_cons (ps_if (PW.pt (pw_or (pt_cmpR op_notIn_seq (pv 4) (pe_tup (pa_cons pe_int (pa_cons pe_int pa_nil))) rfl) (pw_or1 (pt_not (pt_val (pe_cO c_is_pair hr (by decide) (by rfl) (pa_cons (pv 0) (pa_cons (pv 1) pa_nil))))))))
          (pss_one (ps_raise rfl (takes_of rfl rfl rfl rfl) (pmk_oex Z.oe Z.iC Z.tI Z.gI (hr.mono (by decide)) Z.bI .nil pass0 (by rfl) Z.gm (pa_cons (pv 3) pa_nil))))
          (pss_nil))
        (pss_one (ps_set (i := 1) sc_value_at.nd rfl (Or.inl rfl) (pe_ix ix_tup (pe_ix ix_tup (pv 0) (pe_ix ix_tup (pv 1) pe_int (fun _ _ => rfl)) (fun _ _ => rfl)) (pv 4) (fun _ _ => rfl))))))
      (pss_one (ps_ret (pv 1))), ?_⟩
    walk_at "rd"
    refine rd_enW (st_of hr0) ?_
    refine rd_forEn (rs.map V.int) (fun i σ H' => ∃ (v' : V) (y : Va) (y3 y4 : Option V), σ = [some s, some v', some (.ref rp), y3, y4] ∧ Ex H H' ∧ Vr H' v' y ∧ OkV S.length y ∧ atR S x rs 0 = atR S y (rs.drop i) i)
      ⟨v, x, none, none, rfl, Ex.refl _, hx, ok, rfl⟩ (fun i σ H' _ p => st_of (p.elim fun _ p => p.elim fun _ p => p.elim fun _ p => p.elim fun _ p => p.2.1 _ _ hr0)) (fun i xk T0 σ H' H2 hxk p nT e2 hT => ?_) (fun σ H' p => ?_)
    · obtain ⟨v', y, y3, y4, rfl, e1, hv, oy, ha⟩ := p
      obtain ⟨j, rfl, hj⟩ := get_ints hxk
      have ee := e1.trans e2
      have hv2 := hv.mono (TM.ex e2)
      rw [drop_cons hj] at ha
      refine rd_gtup (st_of hT) rfl ?_
      walk_at "rd"
      refine rd_newT fun t2 H3 n3 e3 h3 => ?_
      refine rd_in (.inr (st_of h3)) rfl rfl ?_
      have hin : inV (V.int j) [V.int 1, V.int 2] = true := by
        rw [show [V.int 1, V.int 2] = [(1 : Int), 2].map V.int from rfl, in_ints]
        rcases dg j (List.mem_of_getElem? hj) with rfl | rfl <;> decide
      rw [hin]
      walk_at "rd"
      refine iteF ?_
      walk_at "rd"
      refine ⟨s, v', S, y, rfl, hs.mono (TM.ex (ee.trans e3)), hv2.mono (TM.ex e3), oy, ?_⟩
      walk_at "rd"
      cases hk : kids S y with
      | none =>
        refine iteT ?_
        walk_at "rd"
        refine ⟨.int (i : Int), rfl, Nat.le_of_ble_eq_true rfl, fun a na => ⟨a, .int (i : Int), rfl, upd_same, fun dx ndx nxa => ?_⟩⟩
        have ndx' : H3 dx = none := (upd_ne nxa).symm.trans ndx
        refine ⟨rfl, dx, [("number", .int (i : Int))], upd_same, (upd_ne nxa).trans upd_same, ndx', ?_⟩
        rw [atR_none hk] at ha
        refine qe i dx _ (fun b o hb => ?_) ha upd_same
        have hb3 := e3 _ _ (ee _ _ hb)
        have nb : b ≠ a := ne_of_none hb3 na
        have nbd : b ≠ dx := ne_of_none hb3 ndx'
        rw [upd_ne nbd, del_ne nb, upd_ne nb, upd_ne nbd, upd_ne nb]
        exact hb3
      | some ab =>
        obtain ⟨a, b⟩ := ab
        refine iteF ?_
        obtain ⟨i', rfl, si⟩ := kids_th hk
        obtain ⟨u, hu⟩ : ∃ u, step S j (.th i') = some u := by
          rcases dg j (List.mem_of_getElem? hj) with rfl | rfl
          · exact ⟨a, step_one hk⟩
          · exact ⟨b, step_two hk⟩
        have hv3 := hv2.mono (TM.ex e3)
        obtain ⟨ta, rfl, hta⟩ := hv3
        obtain ⟨sa, xs, rfl, hsa, hsl⟩ := hs.mono (TM.ex (ee.trans e3))
        obtain ⟨pp, pv1, pw1, z, hxi, hpp, hz, vz⟩ := step_at hsl si hu
        walk_at "rd"
        refine rd_ixT (st_of hta) (atI_nat (j := 1) rfl) ?_
        refine rd_ixT (st_of hsa) (atI_nat hxi) ?_
        walk_at "rd"
        refine rd_ixT (st_of hpp) hz ?_
        walk_at "rd"
        exact ⟨z, u, _, _, rfl, ee.trans e3, vz, step_ok hS hu, by rw [ha, atR_step hu]⟩
    · obtain ⟨v', y, y3, y4, rfl, e1, hv, oy, ha⟩ := p
      rw [List.length_map, List.drop_length] at ha
      walk_at "rd"
      exact q v' y H' e1 ha hv
/-- what _law_at and _law_told_at give -/
def Ar (H : Hp) (r : V) : Except Nat Va → Prop
  | .ok y => ∃ l u, r = .ref l ∧ H l = some (.lst [u]) ∧ Vr H u y
  | .error k => r = .int (k : Int)
def spAt : Sp := fun vs H Q _ => ∃ (s v : V) (rp : Addr) (S : List Th) (x : Va) (rs : List Int), vs = [s, v, .ref rp] ∧ Sr H s S ∧ Vr H v x ∧ OkS S ∧ OkV S.length x ∧ H rp = some (.tup (rs.map V.int)) ∧ Dg rs ∧
  ∀ (r : V) (H' : Hp), Ex H H' → Ar H' r (atR S x rs 0) → Q r H'
abbrev s_law_told_at : Stmt := topS 28
theorem sc_law_told_at : FnScope ["store", "value", "road", "found", "error"] ["store", "value", "road"] (defScope s_law_told_at) := ⟨rfl, rfl, rfl, by decide +kernel, rfl, by decide +kernel, by decide +kernel⟩
theorem c_law_told_at (T : Txt K mg) (D : DefG K mg "_law_told_at" s_law_told_at ["store", "value", "road"]) (Z : NoT P w K mg base C fI fdI) (c_value_at : CalX P w K mg base 3 "value_at" ["store", "value", "road"] (spValueAt C)) : CalO P w K mg base 4 "_law_told_at" spAt := by
  obtain ⟨fv, fdv, G, mv, kv, bv⟩ := c_value_at.ex
  refine calO D sc_law_told_at (fun vs H Q E h => ?_) (fun cdv f A outer s0 H vs Q E hr h => ?_)
  · obtain ⟨s, v, rp, S, x, rs, rfl, _⟩ := h
    rfl
  · obtain ⟨s, v, rp, S, x, rs, rfl, hs, hx, hS, ok, hr0, dg, q⟩ := h
    refine ⟨_, pss_cons (ps_try_as (i := 4) (tb := fun W => tAsg (tLst (tCons (tCallS (spValueAt C) (WE W) (tCons (tVar 0) (tCons (tVar 1) (tCons (tVar 2) tNil)))) tNil)) (gName 3)) (ts := fun a cls d => tAsg (tXf a cls d C "number" (tVar 4)) (gName 3)) (Wout := fun _ _ _ _ => False) rfl rfl sc_law_told_at.nd rfl rfl ⟨rfl, by decide, Or.inl Z.gm⟩ takes0
          (fun W pn xe tk _ => pss_one (ps_set (i := 3) sc_law_told_at.nd rfl (Or.inl rfl) (pe_lst (pa_cons (pe_callS G hr rfl mv kv bv (fun σ => passAt tk σ) (by exact (pa_cons (pv 0) (pa_cons (pv 1) (pa_cons (pv 2) pa_nil))))) pa_nil))))
          (fun a oe cls d pn hz hf => pss_one (ps_set (i := 3) sc_law_told_at.nd rfl (Or.inl rfl) (by exact (pe_xf Z.xf Z.nn hz hf (pv 4))))))
      (pss_one (ps_ret (pv 3))), ?_⟩
    walk_at "rd"
    refine ⟨_, rfl, _, rfl, _, rfl, s, v, rp, S, x, rs, rfl, hs, hx, hS, ok, hr0, dg, fun u y H1 e1 ha hu => ?_, fun k d H1 e1 ha hd => ?_⟩
    · walk_at "rd"
      refine rd_newL fun l H2 nl e12 hl => ?_
      walk_at "rd"
      refine q _ H2 (e1.trans e12) ?_
      rw [ha]
      exact ⟨l, u, rfl, hl, hu.mono (TM.ex e12)⟩
    · refine ⟨true, Z.te, fun _ a0 na => ?_, fun q => Bool.noConfusion q⟩
      walk_at "rd"
      refine ⟨_, rfl, rfl, rfl, d, _, _, rfl, hd, by simp [List.lookup]; rfl, ?_⟩
      walk_at "rd"
      refine q _ H1 e1 ?_
      rw [ha]
      rfl
abbrev s_law_at : Stmt := topS 27
theorem sc_law_at : FnScope ["store", "value", "road", "k", "step"] ["store", "value", "road"] (defScope s_law_at) := ⟨rfl, rfl, rfl, by decide +kernel, rfl, by decide +kernel, by decide +kernel⟩
set_option maxHeartbeats 2000000 in
theorem c_law_at (T : Txt K mg) (D : DefG K mg "_law_at" s_law_at ["store", "value", "road"]) (c_law_kind : CalO P w K mg base 1 "_law_kind" spKind) : CalO P w K mg base 2 "_law_at" spAt := by
  refine calO D sc_law_at (fun vs H Q E h => ?_) (fun cdv f A outer s0 H vs Q E hr h => ?_)
  · obtain ⟨s, v, rp, S, x, rs, rfl, _⟩ := h
    rfl
  · obtain ⟨s, v, rp, S, x, rs, rfl, hs, hx, hS, ok, hr0, dg, q⟩ := h
    refine ⟨_, pss_cons (ps_for PassesOwn.never rfl (pi_enT (by rfl) T.enumerate (pa_cons (pv 2) pa_nil)) (pg_tup rfl (pgs_cons (pg_name (i := 3) sc_law_at.nd rfl (Or.inl rfl)) (pgs_cons (pg_name (i := 4) sc_law_at.nd rfl (Or.inl rfl)) pgs_nil)))
        (pss_cons (ps_if (pt_cmpR op_ne (pe_cO c_law_kind hr (by decide) (by rfl) (pa_cons (pv 0) (pa_cons (pv 1) pa_nil))) pe_str (nomark _))
          (pss_one (ps_ret (pv 3)))
          (pss_nil))
        (pss_one (ps_set (i := 1) sc_law_at.nd rfl (Or.inl rfl) (pe_ix ix_tup (pe_ix ix_tup (pv 0) (pe_ix ix_tup (pv 1) pe_int (fun _ _ => rfl)) (fun _ _ => rfl)) (pv 4) (fun _ _ => rfl))))))
      (pss_one (ps_ret (pe_lst (pa_cons (pv 1) pa_nil)))), ?_⟩
    walk_at "rd"
    refine rd_enW (st_of hr0) ?_
    refine rd_forEn (rs.map V.int) (fun i σ H' => ∃ (v' : V) (y : Va) (y3 y4 : Option V), σ = [some s, some v', some (.ref rp), y3, y4] ∧ Ex H H' ∧ Vr H' v' y ∧ OkV S.length y ∧ atR S x rs 0 = atR S y (rs.drop i) i)
      ⟨v, x, none, none, rfl, Ex.refl _, hx, ok, rfl⟩ (fun i σ H' _ p => st_of (p.elim fun _ p => p.elim fun _ p => p.elim fun _ p => p.elim fun _ p => p.2.1 _ _ hr0)) (fun i xk T0 σ H' H2 hxk p nT e2 hT => ?_) (fun σ H' p => ?_)
    · obtain ⟨v', y, y3, y4, rfl, e1, hv, oy, ha⟩ := p
      obtain ⟨j, rfl, hj⟩ := get_ints hxk
      have ee := e1.trans e2
      have hv2 := hv.mono (TM.ex e2)
      rw [drop_cons hj] at ha
      refine rd_gtup (st_of hT) rfl ?_
      walk_at "rd"
      refine ⟨s, v', S, y, rfl, hs.mono (TM.ex ee), hv2, oy, fun H3 e3 => ?_⟩
      walk_at "rd"
      refine rd_ne rfl ?_
      walk_at "rd"
      cases hk : kids S y with
      | none =>
        refine if_nno (fun z => ?_) ?_
        · have hp := kind_pa.mp (kS_inj (b := .pa) (V.str.inj z))
          rw [hk] at hp
          cases hp
        walk_at "rd"
        rw [atR_none hk] at ha
        refine q _ H3 (ee.trans e3) ?_
        rw [ha]
        rfl
      | some ab =>
        obtain ⟨a, b⟩ := ab
        refine if_nyes (by rw [kind_pa.mpr (by rw [hk]; rfl)]; rfl) ?_
        obtain ⟨i', rfl, si⟩ := kids_th hk
        obtain ⟨u, hu⟩ : ∃ u, step S j (.th i') = some u := by
          rcases dg j (List.mem_of_getElem? hj) with rfl | rfl
          · exact ⟨a, step_one hk⟩
          · exact ⟨b, step_two hk⟩
        have hv3 := hv2.mono (TM.ex e3)
        obtain ⟨ta, rfl, hta⟩ := hv3
        obtain ⟨sa, xs, rfl, hsa, hsl⟩ := hs.mono (TM.ex (ee.trans e3))
        obtain ⟨pp, pv1, pw1, z, hxi, hpp, hz, vz⟩ := step_at hsl si hu
        walk_at "rd"
        refine rd_ixT (st_of hta) (atI_nat (j := 1) rfl) ?_
        refine rd_ixT (st_of hsa) (atI_nat hxi) ?_
        walk_at "rd"
        refine rd_ixT (st_of hpp) hz ?_
        walk_at "rd"
        exact ⟨z, u, _, _, rfl, ee.trans e3, vz, step_ok hS hu, by rw [ha, atR_step hu]⟩
    · obtain ⟨v', y, y3, y4, rfl, e1, hv, oy, ha⟩ := p
      rw [List.length_map, List.drop_length] at ha
      walk_at "rd"
      refine rd_newL fun l H2 nl e12 hl => ?_
      refine q _ H2 (e1.trans e12) ?_
      rw [ha]
      exact ⟨l, v', rfl, hl, hv.mono (TM.ex e12)⟩
end
end K22
namespace K22
open PySem PySem.Spec PyProof.Rows L2 Kt Evl
theorem _root_.Kt.Drw.tm {H H' : Hp} {m c : Addr} {n : Nat} (d : Drw H m c n) (k : Keeps m H H') : TM H H' := (d.tx k).t
section
variable {P : Program} {w : World} {K : PySem.W.Frag} {mg : Str → Option Value} {base : Heap}
/-- _law_value(m, size) -/
def spValue (K : PySem.W.Frag) : Sp := fun vs H Q _ => ∃ (m c : Addr) (size n : Nat), vs = [.ref m, .int (size : Int)] ∧ Drw H m c n ∧ Cel K H c ∧ n ≤ 900000 ∧ 0 < size ∧ size ≤ 1000 ∧
  ∀ (v : V) (x : Va) (H' : Hp), Keeps m H H' → Drw H' m c (n + 2) → Vr H' v x → OkV size x → Q v H'
abbrev s_law_value : Stmt := topS 22
theorem sc_law_value : FnScope ["m", "size", "way"] ["m", "size"] (defScope s_law_value) := ⟨rfl, rfl, rfl, by decide +kernel, rfl, by decide +kernel, by decide +kernel⟩
set_option maxHeartbeats 4000000 in
theorem c_law_value (T : Txt K mg) (D : DefG K mg "_law_value" s_law_value ["m", "size"]) (c_law_draw : CalG P w K mg base 1 "_law_draw" (spDraw K)) (c_law_of : CalG P w K mg base 2 "_law_of" (spOf K)) : CalG P w K mg base 3 "_law_value" (spValue K) := by
  refine calG D sc_law_value (fun vs H Q E h => ?_) (fun cdv f A outer s0 H vs Q E hA hr h => ?_)
  · obtain ⟨m, c, size, n, rfl, _⟩ := h
    rfl
  · obtain ⟨m, c, size, n, rfl, hd, hc, hn, h0, h1, q⟩ := h
    refine ⟨_, pss_cons (ps_set (i := 2) sc_law_value.nd rfl (Or.inl rfl) (pe_cG c_law_draw hA hr (by decide) (by rfl) (pa_cons (pv 0) (pa_cons pe_int pa_nil))))
      (pss_cons (ps_if (pt_cmpR op_lt (pv 2) pe_int (nomark _))
        (pss_one (ps_ret (pe_tup (pa_cons pe_str (pa_cons (pe_cG c_law_draw hA hr (by decide) (by rfl) (pa_cons (pv 0) (pa_cons (pv 1) pa_nil))) pa_nil)))))
        (pss_nil))
      (pss_one (ps_ret (pe_cG c_law_of hA hr (by decide) (by rfl) (pa_cons (pv 0) (pa_cons (pe_lst (pa_cons (pe_tup pa_nil) (pa_cons pe_bl (pa_cons pe_bl (pa_cons pe_int (pa_cons pe_int (pa_cons pe_int (pa_cons (pe_tup (pa_cons pe_str (pa_cons pe_str pa_nil))) (pa_cons (pe_tup (pa_cons pe_str (pa_cons pe_str pa_nil))) (pa_cons (pe_op op_pow pe_int pe_int) pa_nil)))))))))) pa_nil)))))), ?_⟩
    walk_at "rd"
    refine ⟨m, c, 8, n, rfl, hd, hc, by omega, by decide, by decide, fun r H1 r0 r1 k1 d1 => ?_⟩
    have c1 := hd.cel k1 hc
    walk_at "rd"
    by_cases hr5 : r < 5
    · refine if_yes hr5 ?_
      walk_at "rd"
      refine ⟨m, c, size, _, rfl, d1, c1, by omega, by omega, by omega, fun r2 H2 z0 z1 k2 d2 => ?_⟩
      walk_at "rd"
      refine rd_newT fun p H3 np e3 hp => ?_
      obtain ⟨i, rfl⟩ : ∃ i : Nat, r2 = (i : Int) := ⟨r2.toNat, (Int.toNat_of_nonneg z0).symm⟩
      exact q _ (.th i) H3 ((k1.trans k2).trans (Keeps.ex e3)) ((d2.keep e3).mono (by omega)) ⟨p, rfl, hp⟩ (by show i < size; omega)
    · refine if_no hr5 ?_
      walk_at "rd"
      refine rd_newT fun p1 H2 n1 e2 h2 => ?_
      walk_at "rd"
      refine rd_newT fun p2 H3 n2 e3 h3 => ?_
      walk_at "rd"
      refine rd_newT fun p3 H4 n3 e4 h4 => ?_
      walk_at "rd"
      refine rd_I ⟨by decide, by decide, by decide⟩ ?_
      walk_at "rd"
      refine rd_newL fun pl H5 n5 e5 h5 => ?_
      walk_at "rd"
      have ee := ((e2.trans e3).trans e4).trans e5
      have d5 := d1.keep ee
      refine ⟨m, c, pl, _, _, rfl, sq_of h5, Nat.le_of_ble_eq_true rfl, Nat.le_of_ble_eq_true rfl, d5, c1.keep ee, by omega, fun i x H6 hi k6 d6 => ?_⟩
      have tm := d5.tm k6
      have kk := (k1.trans (Keeps.ex ee)).trans k6
      have dd : Drw H6 m c (n + 2) := d6.mono (by omega)
      have f1 : H6 p1 = some (.tup []) := tm _ _ (e5 _ _ (e4 _ _ (e3 _ _ h2)))
      have f2 : H6 p2 = some (.tup [.str "name", .str "x"]) := tm _ _ (e5 _ _ (e4 _ _ h3))
      have f3 : H6 p3 = some (.tup [.str "name", .str "y"]) := tm _ _ (e5 _ _ h4)
      have key : ∀ (y : Va), Vr H6 x y → OkV size y → Q x H6 := fun y hy ho => q x y H6 kk dd hy ho
      rcases i with _|_|_|_|_|_|_|_|_|i
      · cases Option.some.inj hi; exact key .nl ⟨p1, rfl, f1⟩ trivial
      · cases Option.some.inj hi; exact key (.bl true) rfl trivial
      · cases Option.some.inj hi; exact key (.bl false) rfl trivial
      · cases Option.some.inj hi; exact key (.it 1) rfl (by show (1 : Int).natAbs < 10 ^ 38; decide)
      · cases Option.some.inj hi; exact key (.it 0) rfl (by show (0 : Int).natAbs < 10 ^ 38; decide)
      · cases Option.some.inj hi; exact key (.it 2) rfl (by show (2 : Int).natAbs < 10 ^ 38; decide)
      · cases Option.some.inj hi; exact key (.nm true) ⟨p2, rfl, f2⟩ trivial
      · cases Option.some.inj hi; exact key (.nm false) ⟨p3, rfl, f3⟩ trivial
      · cases Option.some.inj hi; exact key (.it (10 ^ 29)) rfl (by show (10 ^ 29 : Int).natAbs < 10 ^ 38; decide +kernel)
      · cases hi
def okT (n : Nat) : Th → Prop
  | .pr a b => OkV n a ∧ OkV n b
  | _ => True
/-- while things are put into the list at fl -/
structure Ms (H0 : Hp) (m c fl : Addr) (Hc : Hp) (xs : List V) (S : List Th) (size n : Nat) : Prop where
  kp : Keeps m H0 Hc
  ff : H0 fl = none
  hl : Hc fl = some (.lst xs)
  tl : Tl Hc xs S
  ok : ∀ t ∈ S, okT size t
  d : Drw Hc m c n
section
variable {H0 Hc H' : Hp} {m c fl : Addr} {xs : List V} {S : List Th} {size n n' : Nat} {v : V} {t : Th}
theorem Ms.ex (g : Ms H0 m c fl Hc xs S size n) (e : Ex Hc H') : Ms H0 m c fl H' xs S size n := ⟨g.kp.trans (Keeps.ex e), g.ff, e _ _ g.hl, g.tl.mono (TM.ex e), g.ok, g.d.keep e⟩
theorem Ms.draw (g : Ms H0 m c fl Hc xs S size n) (e : Keeps m Hc H') (d : Drw H' m c n') : Ms H0 m c fl H' xs S size n' := ⟨g.kp.trans e, g.ff, e _ _ (g.d.lne g.hl) g.hl, g.tl.mono (g.d.tm e), g.ok, d⟩
theorem Ms.push (g : Ms H0 m c fl Hc xs S size n) (hv : Tr Hc v t) (ho : okT size t) : Ms H0 m c fl (upd Hc fl (.lst (xs ++ [v]))) (xs ++ [v]) (S ++ [t]) size n := by
  have tm : TM Hc (upd Hc fl (.lst (xs ++ [v]))) := TM.tx (Tx.lst g.hl)
  refine ⟨g.kp.mut g.ff, g.ff, upd_same, ⟨by rw [List.length_append, List.length_append, g.tl.1]; rfl, fun i u hu => ?_⟩, fun u hu => ?_, g.d.oth (g.d.lne g.hl).symm⟩
  · by_cases hi : i < S.length
    · rw [List.getElem?_append_left hi] at hu
      obtain ⟨z, z1, z2⟩ := g.tl.2 i u hu
      exact ⟨z, by rw [List.getElem?_append_left (by rw [g.tl.1]; exact hi)]; exact z1, z2.mono tm⟩
    · have hi' : i = S.length := by
        have := (List.getElem?_eq_some_iff.mp hu).1
        simp at this
        omega
      subst hi'
      rw [List.getElem?_append_right (Nat.le_refl _), Nat.sub_self] at hu
      cases Option.some.inj hu
      exact ⟨v, by rw [← g.tl.1, List.getElem?_append_right (Nat.le_refl _), Nat.sub_self]; rfl, hv.mono tm⟩
  · rcases List.mem_append.mp hu with hu | hu
    · exact g.ok u hu
    · rw [List.mem_singleton.mp hu]; exact ho
theorem Ms.more (g : Ms H0 m c fl Hc xs S size n) (h : n ≤ n') : Ms H0 m c fl Hc xs S size n' := ⟨g.kp, g.ff, g.hl, g.tl, g.ok, g.d.mono h⟩
end
theorem okS_of {S : List Th} {n : Nat} (h : ∀ t ∈ S, okT n t) (hn : S.length = n) : OkS S := fun i a b e => by
  have := h _ (List.mem_of_getElem? e)
  rw [hn]
  exact this
/-- _law_store(m, size) -/
def spStore (K : PySem.W.Frag) : Sp := fun vs H Q _ => ∃ (m c : Addr) (size n : Nat), vs = [.ref m, .int (size : Int)] ∧ Drw H m c n ∧ Cel K H c ∧ n ≤ 800000 ∧ 0 < size ∧ size ≤ 1000 ∧
  ∀ (v : V) (S : List Th) (H' : Hp), Keeps m H H' → Drw H' m c (n + 10 * size) → Sr H' v S → S.length = size → OkS S → Q v H'
abbrev s_law_store : Stmt := topS 23
theorem sc_law_store : FnScope ["m", "size", "found", "k", "way", "twin"] ["m", "size"] (defScope s_law_store) := ⟨rfl, rfl, rfl, by decide +kernel, rfl, by decide +kernel, by decide +kernel⟩
set_option maxHeartbeats 8000000 in
theorem c_law_store (T : Txt K mg) (D : DefG K mg "_law_store" s_law_store ["m", "size"]) (c_law_draw : CalG P w K mg base 1 "_law_draw" (spDraw K)) (c_law_value : CalG P w K mg base 3 "_law_value" (spValue K)) (c_law_of : CalG P w K mg base 2 "_law_of" (spOf K)) : CalG P w K mg base 4 "_law_store" (spStore K) := by
  refine calG D sc_law_store (fun vs H Q E h => ?_) (fun cdv f A outer s0 H vs Q E hA hr h => ?_)
  · obtain ⟨m, c, size, n, rfl, _⟩ := h
    rfl
  · obtain ⟨m, c, size, n, rfl, hd, hc, hn, h0, h1, q⟩ := h
    refine ⟨_, pss_cons (ps_set (i := 2) sc_law_store.nd rfl (Or.inl rfl) (pe_lst pa_nil))
      (pss_cons (ps_for PassesOwn.never rfl (pi_range1 (by rfl) T.range (pa_cons (pv 1) pa_nil)) (pg_name (i := 3) sc_law_store.nd rfl (Or.inl rfl))
        (pss_cons (ps_set (i := 4) sc_law_store.nd rfl (Or.inl rfl) (pe_cG c_law_draw hA hr (by decide) (by rfl) (pa_cons (pv 0) (pa_cons pe_int pa_nil))))
        (pss_one (ps_if (PW.pt (pw_and (pt_cmpR op_lt (pv 4) pe_int (nomark _)) (pw_and1 (pt_cmpR op_gt (pv 3) pe_int (nomark _)))))
          (pss_cons (ps_set (i := 5) sc_law_store.nd rfl (Or.inl rfl) (pe_ix ix_list (pv 2) (pe_cG c_law_draw hA hr (by decide) (by rfl) (pa_cons (pv 0) (pa_cons (pv 3) pa_nil))) (fun _ _ => rfl)))
          (pss_cons (ps_if (PW.pt (pw_and (pt_cmpR op_eq (pe_ix ix_tup (pv 5) pe_int (fun _ _ => rfl)) pe_str (nomark _)) (pw_and1 (pt_cmpR op_eq (pe_cG c_law_draw hA hr (by decide) (by rfl) (pa_cons (pv 0) (pa_cons pe_int pa_nil))) pe_int (nomark _)))))
            (pss_one (ps_set (i := 5) sc_law_store.nd rfl (Or.inl rfl) (pe_tup (pa_cons pe_str (pa_cons (pe_ix ix_tup (pv 5) pe_int (fun _ _ => rfl)) (pa_cons (pe_cG c_law_value hA hr (by decide) (by rfl) (pa_cons (pv 0) (pa_cons (pv 1) pa_nil))) pa_nil))))))
            (pss_nil))
          (pss_one (ps_expr (pe_bm PySem.F.plainAttrs_list PySem.F.slot_list_append PySem.F.type_list_append mt_append (pv 2) (pa_cons (pv 5) pa_nil))))))
          (pss_one (ps_if (pt_cmpR op_eq (pv 4) pe_int (nomark _))
            (pss_one (ps_expr (pe_bm PySem.F.plainAttrs_list PySem.F.slot_list_append PySem.F.type_list_append mt_append (pv 2) (pa_cons (pe_cG c_law_of hA hr (by decide) (by rfl) (pa_cons (pv 0) (pa_cons (pe_lst (pa_cons (pe_tup (pa_cons pe_str (pa_cons (pe_tup (pa_cons pe_int pa_nil)) (pa_cons (pe_tup pa_nil) pa_nil)))) (pa_cons (pe_tup (pa_cons pe_str (pa_cons (pe_tup pa_nil) (pa_cons (pe_tup pa_nil) pa_nil)))) pa_nil))) pa_nil))) pa_nil))))
            (pss_one (ps_expr (pe_bm PySem.F.plainAttrs_list PySem.F.slot_list_append PySem.F.type_list_append mt_append (pv 2) (pa_cons (pe_tup (pa_cons pe_str (pa_cons (pe_cG c_law_of hA hr (by decide) (by rfl) (pa_cons (pv 0) (pa_cons (pe_lst (pa_cons pe_int (pa_cons pe_int (pa_cons (pe_tup pa_nil) (pa_cons (pe_cG c_law_value hA hr (by decide) (by rfl) (pa_cons (pv 0) (pa_cons (pv 1) pa_nil))) pa_nil))))) pa_nil))) (pa_cons (pe_cG c_law_value hA hr (by decide) (by rfl) (pa_cons (pv 0) (pa_cons (pv 1) pa_nil))) pa_nil)))) pa_nil))))))))))
      (pss_one (ps_ret (pe_callTy call_tupO (by rfl) T.tuple (by decide +kernel) (pa_cons (pv 2) pa_nil))))), ?_⟩
    walk_at "rd"
    refine rd_newL fun fl H1 nf e1 h1' => ?_
    walk_at "rd"
    refine rd_rngW (by omega) (by omega) ?_
    rw [Int.toNat_natCast]
    refine rd_forN (n := size) (fun k σ H' => ∃ (y3 y4 y5 : Option V) (xs : List V) (S : List Th), σ = [some (.ref m), some (.int (size : Int)), some (.ref fl), y3, y4, y5] ∧ S.length = k ∧ Ms H m c fl H' xs S size (n + 10 * k))
      ⟨none, none, none, [], [], rfl, rfl, Keeps.ex e1, nf, h1', ⟨rfl, fun i t h => by cases h⟩, (fun t h => by cases h), (hd.keep e1).mono (by omega)⟩ (fun k σ H2 hk p => ?_) (fun σ H2 p => ?_)
    · obtain ⟨y3, y4, y5, xs, S, rfl, hS, g⟩ := p
      have cel : ∀ {H' : Hp} {xs : List V} {S : List Th} {n'}, Ms H m c fl H' xs S size n' → Cel K H' c := fun g => hd.cel g.kp hc
      have bound : xs.length < sizeLine := Nat.lt_of_lt_of_le (by rw [g.tl.1]; omega : xs.length < 1000) (by decide)
      walk_at "rd"
      refine ⟨m, c, 9, _, rfl, g.d, cel g, by omega, by decide, by decide, fun r H3 r0 r1 k3 d3 => ?_⟩
      have g3 := g.draw k3 d3
      walk_at "rd"
      by_cases hb : r < 4 ∧ (0 : Int) < k
      · refine if_yes hb.1 ?_
        walk_at "rd"
        refine if_yes hb.2 ?_
        walk_at "rd"
        refine ⟨m, c, k, _, rfl, g3.d, cel g3, by omega, hb.2, by omega, fun r4 H4 z0 z1 k4 d4 => ?_⟩
        have g4 := g3.draw k4 d4
        obtain ⟨j, rfl⟩ : ∃ j : Nat, r4 = (j : Int) := ⟨r4.toNat, (Int.toNat_of_nonneg z0).symm⟩
        have hj : j < S.length := by omega
        obtain ⟨tv, htv, ht⟩ := g4.tl.2 j S[j] (List.getElem?_eq_getElem hj)
        have okj := g4.ok S[j] (List.getElem_mem hj)
        refine rd_ixL (sq_of g4.hl) (atI_nat htv) ?_
        generalize S[j] = t at ht okj
        walk_at "rd"
        have fin : ∀ {H' : Hp} {y5 : V} {t' : Th} {n'}, Ms H m c fl H' xs S size n' → Tr H' y5 t' → okT size t' → n' ≤ n + 10 * (k + 1) → ∃ (z3 z4 z5 : Option V) (xs' : List V) (S' : List Th), [some (V.ref m), some (V.int (size : Int)), some (V.ref fl), some (V.int (k : Int)), some (V.int r), some y5] = [some (.ref m), some (.int (size : Int)), some (.ref fl), z3, z4, z5] ∧ S'.length = k + 1 ∧ Ms H m c fl (upd H' fl (.lst (xs ++ [y5]))) xs' S' size (n + 10 * (k + 1)) :=
          fun g h1 h2 h3 => ⟨_, _, _, _, _, rfl, by rw [List.length_append, hS]; rfl, (g.push h1 h2).more h3⟩
        cases t with
        | fn =>
          have ht0 := ht
          obtain ⟨a, b, c', rfl, ha, _⟩ := ht
          refine rd_ixT (st_of ha) rfl ?_
          walk_at "rd"
          refine rd_eq rfl ?_
          walk_at "rd"
          refine if_no (by decide +kernel) ?_
          refine iteF ?_
          walk_at "rd"
          refine rd_tyL (sq_of g4.hl) ?_
          walk_at "rd"
          refine rd_app g4.hl bound ?_
          exact fin g4 ht0 okj (by omega)
        | kp =>
          have ht0 := ht
          obtain ⟨a, b, c', rfl, ha, _⟩ := ht
          refine rd_ixT (st_of ha) rfl ?_
          walk_at "rd"
          refine rd_eq rfl ?_
          walk_at "rd"
          refine if_no (by decide +kernel) ?_
          refine iteF ?_
          walk_at "rd"
          refine rd_tyL (sq_of g4.hl) ?_
          walk_at "rd"
          refine rd_app g4.hl bound ?_
          exact fin g4 ht0 okj (by omega)
        | pr x y =>
          have ht0 := ht
          obtain ⟨a, u1, w1, rfl, ha, v1, v2⟩ := ht
          refine rd_ixT (st_of ha) rfl ?_
          walk_at "rd"
          refine rd_eq rfl ?_
          walk_at "rd"
          refine if_yes rfl ?_
          walk_at "rd"
          refine ⟨m, c, 2, _, rfl, g4.d, cel g4, by omega, by decide, by decide, fun r5 H5 z2 z3 k5 d5 => ?_⟩
          have g5 := g4.draw k5 d5
          have tm5 := g4.d.tm k5
          walk_at "rd"
          refine rd_eq rfl ?_
          walk_at "rd"
          by_cases h5 : r5 = 0
          · refine if_yes (by rw [h5]) ?_
            walk_at "rd"
            refine rd_ixT (st_of (tm5 _ _ ha)) (atI_nat (j := 1) rfl) ?_
            walk_at "rd"
            refine ⟨m, c, size, _, rfl, g5.d, cel g5, by omega, h0, h1, fun v6 x6 H6 k6 d6 hv6 ox6 => ?_⟩
            have g6 := g5.draw k6 d6
            walk_at "rd"
            refine rd_newT fun p7 H7 n7 e7 h7 => ?_
            have g7 := g6.ex e7
            walk_at "rd"
            refine rd_tyL (sq_of g7.hl) ?_
            walk_at "rd"
            refine rd_app g7.hl bound ?_
            exact fin (t' := .pr x x6) g7 ⟨p7, u1, v6, rfl, h7, v1.mono ((tm5.trans (g5.d.tm k6)).trans (TM.ex e7)), hv6.mono (TM.ex e7)⟩ ⟨okj.1, ox6⟩ (by omega)
          · refine if_no (fun z => h5 (V.int.inj z)) ?_
            walk_at "rd"
            refine rd_tyL (sq_of g5.hl) ?_
            walk_at "rd"
            refine rd_app g5.hl bound ?_
            exact fin g5 (ht0.mono tm5) okj (by omega)
      · have fin : ∀ {H' : Hp} {y5 : Option V} {v : V} {t' : Th} {n'}, Ms H m c fl H' xs S size n' → Tr H' v t' → okT size t' → n' ≤ n + 10 * (k + 1) → ∃ (z3 z4 z5 : Option V) (xs' : List V) (S' : List Th), [some (V.ref m), some (V.int (size : Int)), some (V.ref fl), some (V.int (k : Int)), some (V.int r), y5] = [some (.ref m), some (.int (size : Int)), some (.ref fl), z3, z4, z5] ∧ S'.length = k + 1 ∧ Ms H m c fl (upd H' fl (.lst (xs ++ [v]))) xs' S' size (n + 10 * (k + 1)) :=
          fun g h1 h2 h3 => ⟨_, _, _, _, _, rfl, by rw [List.length_append, hS]; rfl, (g.push h1 h2).more h3⟩
        by_cases h4 : r < 4
        · refine if_yes h4 ?_
          walk_at "rd"
          refine if_no (fun z => hb ⟨h4, z⟩) ?_
          walk_at "rd"
          refine rd_eq rfl ?_
          walk_at "rd"
          by_cases h8 : r = 8
          · refine if_yes (by rw [h8]) ?_
            walk_at "rd"
            refine rd_tyL (sq_of g3.hl) ?_
            walk_at "rd"
            refine rd_newT fun p4 H4 n4 e4 h4 => ?_
            walk_at "rd"
            refine rd_newT fun p5 H5 n5 e5 h5 => ?_
            walk_at "rd"
            refine rd_newT fun p6 H6 n6 e6 h6 => ?_
            walk_at "rd"
            refine rd_newT fun p7 H7 n7 e7 h7 => ?_
            walk_at "rd"
            refine rd_newT fun p8 H8 n8 e8 h8' => ?_
            walk_at "rd"
            refine rd_newT fun p9 H9 n9 e9 h9 => ?_
            walk_at "rd"
            refine rd_newL fun pl H10 n10 e10 h10 => ?_
            walk_at "rd"
            have ee := (((((e4.trans e5).trans e6).trans e7).trans e8).trans e9).trans e10
            have g10 := g3.ex ee
            refine ⟨m, c, pl, _, _, rfl, sq_of h10, Nat.le_of_ble_eq_true rfl, Nat.le_of_ble_eq_true rfl, g10.d, cel g10, by omega, fun i x H11 hi k11 d11 => ?_⟩
            have g11 := g10.draw k11 d11
            have tm := g10.d.tm k11
            have f4 := tm _ _ (e10 _ _ (e9 _ _ (e8 _ _ (e7 _ _ (e6 _ _ (e5 _ _ h4))))))
            have f5 := tm _ _ (e10 _ _ (e9 _ _ (e8 _ _ (e7 _ _ (e6 _ _ h5)))))
            have f6 := tm _ _ (e10 _ _ (e9 _ _ (e8 _ _ (e7 _ _ h6))))
            have f7 := tm _ _ (e10 _ _ (e9 _ _ (e8 _ _ h7)))
            have f8 := tm _ _ (e10 _ _ (e9 _ _ h8'))
            have f9 := tm _ _ (e10 _ _ h9)
            walk_at "rd"
            refine rd_app g11.hl bound ?_
            rcases i with _|_|i
            · cases Option.some.inj hi
              exact fin (t' := .fn) g11 ⟨p6, p4, p5, rfl, f6, f4, f5⟩ trivial (by omega)
            · cases Option.some.inj hi
              exact fin (t' := .kp) g11 ⟨p9, p7, p8, rfl, f9, f7, f8⟩ trivial (by omega)
            · cases hi
          · refine if_no (fun z => h8 (V.int.inj z)) ?_
            walk_at "rd"
            refine rd_tyL (sq_of g3.hl) ?_
            walk_at "rd"
            refine rd_newT fun p4 H4 n4 e4 h4 => ?_
            have g4 := g3.ex e4
            walk_at "rd"
            refine ⟨m, c, size, _, rfl, g4.d, cel g4, by omega, h0, h1, fun v5 x5 H5 k5 d5 hv5 ox5 => ?_⟩
            have g5 := g4.draw k5 d5
            have f4 := g4.d.tm k5 _ _ h4
            walk_at "rd"
            refine rd_newL fun pl H6 n6 e6 h6 => ?_
            have g6 := g5.ex e6
            walk_at "rd"
            refine ⟨m, c, pl, _, _, rfl, sq_of h6, Nat.le_of_ble_eq_true rfl, Nat.le_of_ble_eq_true rfl, g6.d, cel g6, by omega, fun i x H7 hi k7 d7 => ?_⟩
            have g7 := g6.draw k7 d7
            have tm7 := (TM.ex e6).trans (g6.d.tm k7)
            have hx : ∃ y, Vr H7 x y ∧ OkV size y := by
              rcases i with _|_|_|_|i
              · cases Option.some.inj hi; exact ⟨.it 1, rfl, by show (1 : Int).natAbs < 10 ^ 38; decide⟩
              · cases Option.some.inj hi; exact ⟨.it 1, rfl, by show (1 : Int).natAbs < 10 ^ 38; decide⟩
              · cases Option.some.inj hi; exact ⟨.nl, ⟨p4, rfl, tm7 _ _ f4⟩, trivial⟩
              · cases Option.some.inj hi; exact ⟨x5, hv5.mono tm7, ox5⟩
              · cases hi
            obtain ⟨y, hy, oy⟩ := hx
            walk_at "rd"
            refine ⟨m, c, size, _, rfl, g7.d, cel g7, by omega, h0, h1, fun v8 x8 H8 k8 d8 hv8 ox8 => ?_⟩
            have g8 := g7.draw k8 d8
            have tm8 := g7.d.tm k8
            walk_at "rd"
            refine rd_newT fun p9 H9 n9 e9 h9 => ?_
            have g9 := g8.ex e9
            walk_at "rd"
            refine rd_app g9.hl bound ?_
            exact fin (t' := .pr y x8) g9 ⟨p9, x, v8, rfl, h9, hy.mono (tm8.trans (TM.ex e9)), hv8.mono (TM.ex e9)⟩ ⟨oy, ox8⟩ (by omega)
        refine if_no h4 ?_
        rw [if_neg Bool.false_ne_true]
        walk_at "rd"
        refine rd_eq rfl ?_
        walk_at "rd"
        by_cases h8 : r = 8
        · refine if_yes (by rw [h8]) ?_
          walk_at "rd"
          refine rd_tyL (sq_of g3.hl) ?_
          walk_at "rd"
          refine rd_newT fun p4 H4 n4 e4 h4 => ?_
          walk_at "rd"
          refine rd_newT fun p5 H5 n5 e5 h5 => ?_
          walk_at "rd"
          refine rd_newT fun p6 H6 n6 e6 h6 => ?_
          walk_at "rd"
          refine rd_newT fun p7 H7 n7 e7 h7 => ?_
          walk_at "rd"
          refine rd_newT fun p8 H8 n8 e8 h8' => ?_
          walk_at "rd"
          refine rd_newT fun p9 H9 n9 e9 h9 => ?_
          walk_at "rd"
          refine rd_newL fun pl H10 n10 e10 h10 => ?_
          walk_at "rd"
          have ee := (((((e4.trans e5).trans e6).trans e7).trans e8).trans e9).trans e10
          have g10 := g3.ex ee
          refine ⟨m, c, pl, _, _, rfl, sq_of h10, Nat.le_of_ble_eq_true rfl, Nat.le_of_ble_eq_true rfl, g10.d, cel g10, by omega, fun i x H11 hi k11 d11 => ?_⟩
          have g11 := g10.draw k11 d11
          have tm := g10.d.tm k11
          have f4 := tm _ _ (e10 _ _ (e9 _ _ (e8 _ _ (e7 _ _ (e6 _ _ (e5 _ _ h4))))))
          have f5 := tm _ _ (e10 _ _ (e9 _ _ (e8 _ _ (e7 _ _ (e6 _ _ h5)))))
          have f6 := tm _ _ (e10 _ _ (e9 _ _ (e8 _ _ (e7 _ _ h6))))
          have f7 := tm _ _ (e10 _ _ (e9 _ _ (e8 _ _ h7)))
          have f8 := tm _ _ (e10 _ _ (e9 _ _ h8'))
          have f9 := tm _ _ (e10 _ _ h9)
          walk_at "rd"
          refine rd_app g11.hl bound ?_
          rcases i with _|_|i
          · cases Option.some.inj hi
            exact fin (t' := .fn) g11 ⟨p6, p4, p5, rfl, f6, f4, f5⟩ trivial (by omega)
          · cases Option.some.inj hi
            exact fin (t' := .kp) g11 ⟨p9, p7, p8, rfl, f9, f7, f8⟩ trivial (by omega)
          · cases hi
        · refine if_no (fun z => h8 (V.int.inj z)) ?_
          walk_at "rd"
          refine rd_tyL (sq_of g3.hl) ?_
          walk_at "rd"
          refine rd_newT fun p4 H4 n4 e4 h4 => ?_
          have g4 := g3.ex e4
          walk_at "rd"
          refine ⟨m, c, size, _, rfl, g4.d, cel g4, by omega, h0, h1, fun v5 x5 H5 k5 d5 hv5 ox5 => ?_⟩
          have g5 := g4.draw k5 d5
          have f4 := g4.d.tm k5 _ _ h4
          walk_at "rd"
          refine rd_newL fun pl H6 n6 e6 h6 => ?_
          have g6 := g5.ex e6
          walk_at "rd"
          refine ⟨m, c, pl, _, _, rfl, sq_of h6, Nat.le_of_ble_eq_true rfl, Nat.le_of_ble_eq_true rfl, g6.d, cel g6, by omega, fun i x H7 hi k7 d7 => ?_⟩
          have g7 := g6.draw k7 d7
          have tm7 := (TM.ex e6).trans (g6.d.tm k7)
          have hx : ∃ y, Vr H7 x y ∧ OkV size y := by
            rcases i with _|_|_|_|i
            · cases Option.some.inj hi; exact ⟨.it 1, rfl, by show (1 : Int).natAbs < 10 ^ 38; decide⟩
            · cases Option.some.inj hi; exact ⟨.it 1, rfl, by show (1 : Int).natAbs < 10 ^ 38; decide⟩
            · cases Option.some.inj hi; exact ⟨.nl, ⟨p4, rfl, tm7 _ _ f4⟩, trivial⟩
            · cases Option.some.inj hi; exact ⟨x5, hv5.mono tm7, ox5⟩
            · cases hi
          obtain ⟨y, hy, oy⟩ := hx
          walk_at "rd"
          refine ⟨m, c, size, _, rfl, g7.d, cel g7, by omega, h0, h1, fun v8 x8 H8 k8 d8 hv8 ox8 => ?_⟩
          have g8 := g7.draw k8 d8
          have tm8 := g7.d.tm k8
          walk_at "rd"
          refine rd_newT fun p9 H9 n9 e9 h9 => ?_
          have g9 := g8.ex e9
          walk_at "rd"
          refine rd_app g9.hl bound ?_
          exact fin (t' := .pr y x8) g9 ⟨p9, x, v8, rfl, h9, hy.mono (tm8.trans (TM.ex e9)), hv8.mono (TM.ex e9)⟩ ⟨oy, ox8⟩ (by omega)
    · obtain ⟨y3, y4, y5, xs, S, rfl, hS, g⟩ := p
      walk_at "rd"
      refine rd_tupO (sq_of g.hl) fun p H3 np e3 h3 => ?_
      exact q _ S H3 (g.kp.trans (Keeps.ex e3)) (g.d.keep e3) ⟨p, xs, rfl, h3, g.tl.mono (TM.ex e3)⟩ hS (okS_of g.ok hS)
end
end K22
namespace K22
open PySem PySem.Spec PyProof.Rows L2 Kt Evl
theorem ixN_nat {n j : Nat} (h : j < n) : ixN n (j : Int) = some j := by
  unfold ixN
  rw [if_pos (by omega), if_pos (by omega), Int.toNat_natCast]
section
variable {σ : L2.St} {H : Hp} {v : V} {to ti : TE} {t : TSet} {QS : L2.St → Hp → Prop}
theorem rd_gsub (q : to σ H fun o H1 => ti σ H1 fun i H2 => t o i v H2 fun H3 => QS σ H3) : gSub to ti t v σ H QS := q
theorem rd_setL {p : Addr} {xs : List V} {j : Nat} {Q : Hp → Prop} (h : H p = some (.lst xs)) (hj : j < xs.length) (q : Q (upd H p (.lst (xs.set j v)))) : rSetL (.ref p) (.int (j : Int)) v H Q := ⟨p, xs, _, j, rfl, rfl, h, ixN_nat hj, q⟩
end
section
variable {H0 Hc : Hp} {m c fl : Addr} {xs : List V} {S : List Th} {size n : Nat} {v : V} {t : Th} {j : Nat}
theorem Ms.set (g : Ms H0 m c fl Hc xs S size n) (hj : j < S.length) (hv : Tr Hc v t) (ho : okT size t) : Ms H0 m c fl (upd Hc fl (.lst (xs.set j v))) (xs.set j v) (S.set j t) size n := by
  have tm : TM Hc (upd Hc fl (.lst (xs.set j v))) := TM.tx (Tx.lst g.hl)
  refine ⟨g.kp.mut g.ff, g.ff, upd_same, ⟨by rw [List.length_set, List.length_set, g.tl.1], fun i u hu => ?_⟩, fun u hu => ?_, g.d.oth (g.d.lne g.hl).symm⟩
  · by_cases e : j = i
    · subst e
      rw [List.getElem?_set_self hj] at hu
      cases Option.some.inj hu
      exact ⟨v, List.getElem?_set_self (by rw [g.tl.1]; exact hj), hv.mono tm⟩
    · rw [List.getElem?_set_ne e] at hu
      obtain ⟨z, z1, z2⟩ := g.tl.2 i u hu
      exact ⟨z, by rw [List.getElem?_set_ne e]; exact z1, z2.mono tm⟩
  · rcases List.mem_or_eq_of_mem_set hu with hu | rfl
    · exact g.ok u hu
    · exact ho
end
section
variable {P : Program} {w : World} {K : PySem.W.Frag} {mg : Str → Option Value} {base : Heap}
/-- _law_rings(m) -/
def spRings (K : PySem.W.Frag) : Sp := fun vs H Q _ => ∃ (m c : Addr) (n : Nat), vs = [.ref m] ∧ Drw H m c n ∧ Cel K H c ∧ n ≤ 800000 ∧
  ∀ (p : Addr) (s v u : V) (S : List Th) (i j : Nat) (H' : Hp), Keeps m H H' → Drw H' m c (n + 10) → H' p = some (.tup [s, v, u]) → Sr H' s S → S.length ≤ 7 → OkS S → Vr H' v (.th i) → Vr H' u (.th j) → i < S.length → j < S.length → Q (.ref p) H'
abbrev s_law_rings : Stmt := topS 24
theorem sc_law_rings : FnScope ["m", "one", "two", "found", "side", "first", "many", "k", "rest", "spot"] ["m"] (defScope s_law_rings) := ⟨rfl, rfl, rfl, by decide +kernel, rfl, by decide +kernel, by decide +kernel⟩
set_option maxHeartbeats 8000000 in
theorem c_law_rings (T : Txt K mg) (D : DefG K mg "_law_rings" s_law_rings ["m"]) (c_law_draw : CalG P w K mg base 1 "_law_draw" (spDraw K)) (c_law_of : CalG P w K mg base 2 "_law_of" (spOf K)) : CalG P w K mg base 3 "_law_rings" (spRings K) := by
  refine calG D sc_law_rings (fun vs H Q E h => ?_) (fun cdv f A outer s0 H vs Q E hA hr h => ?_)
  · obtain ⟨m, c, n, rfl, _⟩ := h
    rfl
  · obtain ⟨m, c, n, rfl, hd, hc, hn, q⟩ := h
    refine ⟨_, pss_cons (ps_par (i := 1) (j := 2) (by rfl) sc_law_rings.nd rfl rfl (by decide) rfl rfl (pa_cons (pe_op op_add pe_int (pe_cG c_law_draw hA hr (by decide) (by rfl) (pa_cons (pv 0) (pa_cons pe_int pa_nil)))) (pa_cons (pe_op op_add pe_int (pe_cG c_law_draw hA hr (by decide) (by rfl) (pa_cons (pv 0) (pa_cons pe_int pa_nil)))) pa_nil)) (by rfl))
      (pss_cons (ps_par (i := 3) (j := 4) (by rfl) sc_law_rings.nd rfl rfl (by decide) rfl rfl (pa_cons (pe_lst pa_nil) (pa_cons (pe_cG c_law_draw hA hr (by decide) (by rfl) (pa_cons (pv 0) (pa_cons pe_int pa_nil))) pa_nil)) (by rfl))
      (pss_cons (ps_for PassesOwn.never rfl (pi_tup (pe_tup (pa_cons (pe_tup (pa_cons pe_int (pa_cons (pv 1) pa_nil))) (pa_cons (pe_tup (pa_cons (pv 1) (pa_cons (pv 2) pa_nil))) pa_nil)))) (pg_tup rfl (pgs_cons (pg_name (i := 5) sc_law_rings.nd rfl (Or.inl rfl)) (pgs_cons (pg_name (i := 6) sc_law_rings.nd rfl (Or.inl rfl)) pgs_nil)))
        (pss_one (ps_for PassesOwn.never rfl (pi_range1 (by rfl) T.range (pa_cons (pv 6) pa_nil)) (pg_name (i := 7) sc_law_rings.nd rfl (Or.inl rfl))
          (pss_cons (ps_set (i := 8) sc_law_rings.nd rfl (Or.inl rfl) (pe_tup (pa_cons pe_str (pa_cons (pe_op op_add (pv 5) (pe_op op_modN (pe_callTy call_intO (by rfl) T.int (by decide +kernel) (pa_cons (pe_op op_add (pv 7) pe_int) pa_nil)) (pv 6))) pa_nil))))
          (pss_one (ps_expr (pe_bm PySem.F.plainAttrs_list PySem.F.slot_list_append PySem.F.type_list_append mt_append (pv 3) (pa_cons (pe_ifExp (pt_cmpR op_eq (pv 4) pe_int (nomark _)) (pe_tup (pa_cons pe_str (pa_cons pe_int (pa_cons (pv 8) pa_nil)))) (pe_tup (pa_cons pe_str (pa_cons (pv 8) (pa_cons pe_int pa_nil))))) pa_nil))))))))
      (pss_cons (ps_if (pt_cmpR op_eq (pe_cG c_law_draw hA hr (by decide) (by rfl) (pa_cons (pv 0) (pa_cons pe_int pa_nil))) pe_int (nomark _))
        (pss_cons (ps_set (i := 9) sc_law_rings.nd rfl (Or.inl rfl) (pe_cG c_law_draw hA hr (by decide) (by rfl) (pa_cons (pv 0) (pa_cons (pe_op op_add (pv 1) (pv 2)) pa_nil))))
        (pss_one (ps_asg (pe_op op_catT' (pe_tup (pa_cons pe_str pa_nil)) (pe_cG c_law_of hA hr (by decide) (by rfl) (pa_cons (pv 0) (pa_cons (pe_lst (pa_cons (pe_tup (pa_cons pe_int (pa_cons (pe_ix ix_tup (pe_ix ix_list (pv 3) (pv 9) (fun _ _ => rfl)) pe_int (fun _ _ => rfl)) pa_nil))) (pa_cons (pe_tup (pa_cons (pe_ix ix_tup (pe_ix ix_list (pv 3) (pv 9) (fun _ _ => rfl)) pe_int (fun _ _ => rfl)) (pa_cons pe_bl pa_nil))) (pa_cons (pe_tup (pa_cons (pe_ix ix_tup (pe_ix ix_list (pv 3) (pv 9) (fun _ _ => rfl)) pe_int (fun _ _ => rfl)) (pa_cons pe_int pa_nil))) pa_nil)))) pa_nil)))) (pg_sub (pv 3) (pv 9) set_list))))
        (pss_nil))
      (pss_one (ps_ret (pe_tup (pa_cons (pe_callTy call_tupO (by rfl) T.tuple (by decide +kernel) (pa_cons (pv 3) pa_nil)) (pa_cons (pe_tup (pa_cons pe_str (pa_cons pe_int pa_nil))) (pa_cons (pe_tup (pa_cons pe_str (pa_cons (pv 1) pa_nil))) pa_nil))))))))), ?_⟩
    walk_at "rd"
    refine ⟨m, c, 3, n, rfl, hd, hc, by omega, by decide, by decide, fun r1 H1 a0 a1 k1 d1 => ?_⟩
    walk_at "rd"
    refine ⟨m, c, 4, _, rfl, d1, hd.cel k1 hc, by omega, by decide, by decide, fun r2 H2 b0 b1 k2 d2 => ?_⟩
    have k12 := k1.trans k2
    walk_at "rd"
    refine rd_newL fun fl H3 nf e3 h3 => ?_
    have nf0 : H fl = none := by
      cases z : H fl with
      | none => rfl
      | some o =>
        by_cases e : fl = m
        · obtain ⟨kvs, hm⟩ := d2.at
          rw [e, hm] at nf
          cases nf
        · rw [k12 fl o e z] at nf
          cases nf
    walk_at "rd"
    have d3 := d2.keep e3
    have k13 := k12.trans (Keeps.ex e3)
    refine ⟨m, c, 2, _, rfl, d3, hd.cel k13 hc, by omega, by decide, by decide, fun side H4 s0' s1' k4 d4 => ?_⟩
    obtain ⟨a, ea⟩ : ∃ a : Nat, 1 + r1 = (a : Int) := ⟨(1 + r1).toNat, by omega⟩
    obtain ⟨b, eb⟩ : ∃ b : Nat, 1 + r2 = (b : Int) := ⟨(1 + r2).toNat, by omega⟩
    have ha : 1 ≤ a ∧ a ≤ 3 := by omega
    have hb : 1 ≤ b ∧ b ≤ 4 := by omega
    have g4 : Ms H m c fl H4 [] [] (a + b) (n + 4) := ⟨k13.trans k4, nf0, k4 _ _ (d3.lne h3) h3, ⟨rfl, fun i t h => by cases h⟩, (fun t h => by cases h), d4.mono (by omega)⟩
    rw [ea, eb]
    walk_at "rd"
    refine rd_newT fun q1 H5 n5 e5 h5 => ?_
    walk_at "rd"
    refine rd_newT fun q2 H6 n6 e6 h6 => ?_
    walk_at "rd"
    refine rd_newT fun q3 H7 n7 e7 h7 => ?_
    have g7 := ((g4.ex e5).ex e6).ex e7
    have h57 := e7 _ _ (e6 _ _ h5)
    have h67 := e7 _ _ h6
    refine rd_tupW (st_of h7) ?_
    refine rd_forTg [.ref q1, .ref q2] (fun i σ H' => ∃ (y5 y6 y7 y8 : Option V) (xs : List V) (S : List Th), σ = [some (.ref m), some (.int (a : Int)), some (.int (b : Int)), some (.ref fl), some (.int side), y5, y6, y7, y8, none] ∧ S.length = (if i = 0 then 0 else if i = 1 then a else a + b) ∧ Ms H m c fl H' xs S (a + b) (n + 4) ∧ TM H7 H' ∧ ∀ t ∈ S, ∃ x y, t = .pr x y)
      ⟨none, none, none, none, [], [], rfl, rfl, g7, fun _ _ h => h, fun t h => by cases h⟩ (fun i σ H' _ p => ?_) (fun i xk σ H' hxk p => ?_) (fun σ H' p => ?_)
    · obtain ⟨y5, y6, y7, y8, xs, S, _, _, _, tm, _⟩ := p
      exact st_of (tm _ _ h7)
    · obtain ⟨y5, y6, y7, y8, xs, S, rfl, hS, g, tm, al⟩ := p
      -- one ring: the things first .. first + many - 1
      have ring : ∀ (first many : Nat) (q : Addr), H' q = some (.tup [.int (first : Int), .int (many : Int)]) → S.length = first → first + many ≤ a + b → 0 < many →
          gTup K 2 (gCons (gName 5) (gCons (gName 6) gNil)) (.ref q) [some (.ref m), some (.int (a : Int)), some (.int (b : Int)), some (.ref fl), some (.int side), y5, y6, y7, y8, none] H' fun σ2 H2 => σ2 = [some (.ref m), some (.int (a : Int)), some (.int (b : Int)), some (.ref fl), some (.int side), some (.int (first : Int)), some (.int (many : Int)), y7, y8, none] ∧ H2 = H' := fun first many q hq _ _ _ => by
        refine rd_gtup (st_of hq) rfl ?_
        refine rd_gcons ?_
        refine rd_name ?_
        refine rd_gcons ?_
        refine rd_name ?_
        exact rd_gnil ⟨rfl, rfl⟩
      obtain ⟨q, first, many, rfl, hq, hf, hle, hm0, hnext⟩ : ∃ (q : Addr) (first many : Nat), xk = .ref q ∧ H' q = some (.tup [.int (first : Int), .int (many : Int)]) ∧ S.length = first ∧ first + many ≤ a + b ∧ 0 < many ∧ first + many = (if i + 1 = 0 then 0 else if i + 1 = 1 then a else a + b) := by
        rcases i with _|_|i
        · cases Option.some.inj hxk
          exact ⟨q1, 0, a, rfl, tm _ _ h57, hS, by omega, by omega, by simp⟩
        · cases Option.some.inj hxk
          exact ⟨q2, a, b, rfl, tm _ _ h67, hS, by omega, by omega, by simp⟩
        · cases hxk
      refine rd_gtup (st_of hq) rfl ?_
      walk_at "rd"
      refine rd_rngW (by omega) (by omega) ?_
      rw [Int.toNat_natCast]
      refine rd_forN (n := many) (fun k σ H'' => ∃ (y7 y8 : Option V) (xs : List V) (S : List Th), σ = [some (.ref m), some (.int (a : Int)), some (.int (b : Int)), some (.ref fl), some (.int side), some (.int (first : Int)), some (.int (many : Int)), y7, y8, none] ∧ S.length = first + k ∧ Ms H m c fl H'' xs S (a + b) (n + 4) ∧ TM H7 H'' ∧ ∀ t ∈ S, ∃ x y, t = .pr x y)
        ⟨y7, y8, xs, S, rfl, hf, g, tm, al⟩ (fun k σ H8 hk p => ?_) (fun σ H8 p => ?_)
      · obtain ⟨y7, y8, xs, S, rfl, hS, g, tm, al⟩ := p
        have bound : xs.length < sizeLine := Nat.lt_of_lt_of_le (by rw [g.tl.1]; omega : xs.length < 1000) (by decide)
        walk_at "rd"
        refine rd_I (by omega) ?_
        walk_at "rd"
        have f1 := Int.fmod_nonneg_of_pos ((k : Int) + 1) (by omega : (0 : Int) < (many : Int))
        have f2 := Int.fmod_lt_of_pos ((k : Int) + 1) (by omega : (0 : Int) < (many : Int))
        obtain ⟨z, ez⟩ : ∃ z : Nat, (first : Int) + ((k : Int) + 1).fmod (many : Int) = (z : Int) := ⟨((first : Int) + ((k : Int) + 1).fmod (many : Int)).toNat, by omega⟩
        have hz : z < a + b := by omega
        rw [ez]
        refine rd_newT fun p9 H9 n9 e9 h9 => ?_
        have g9 := g.ex e9
        walk_at "rd"
        refine rd_tyL (sq_of g9.hl) ?_
        walk_at "rd"
        have fin : ∀ {H' : Hp} {p : Addr} {u w : V} {x y : Va}, Ex H9 H' → H' p = some (.tup [.str "pair", u, w]) → Vr H' u x → Vr H' w y → OkV (a + b) x → OkV (a + b) y → ∃ (z7 z8 : Option V) (xs' : List V) (S' : List Th), [some (V.ref m), some (V.int (a : Int)), some (V.int (b : Int)), some (V.ref fl), some (V.int side), some (V.int (first : Int)), some (V.int (many : Int)), some (V.int (k : Int)), some (V.ref p9), none] = [some (.ref m), some (.int (a : Int)), some (.int (b : Int)), some (.ref fl), some (.int side), some (.int (first : Int)), some (.int (many : Int)), z7, z8, none] ∧ S'.length = first + (k + 1) ∧ Ms H m c fl (upd H' fl (.lst (xs ++ [.ref p]))) xs' S' (a + b) (n + 4) ∧ TM H7 (upd H' fl (.lst (xs ++ [.ref p]))) ∧ ∀ t ∈ S', ∃ x y, t = .pr x y :=
          fun {H' p u w x y} e hp hu hw ox oy => ⟨_, _, _, S ++ [.pr x y], rfl, by rw [List.length_append, hS]; rfl, (g9.ex e).push (t := .pr x y) ⟨p, u, w, rfl, hp, hu, hw⟩ ⟨ox, oy⟩, ((tm.trans (TM.ex e9)).trans (TM.ex e)).trans (TM.tx (Tx.lst (g9.ex e).hl)), fun t ht => by
            rcases List.mem_append.mp ht with ht | ht
            · exact al t ht
            · exact ⟨x, y, List.mem_singleton.mp ht⟩⟩
        have one : OkV (a + b) (.it 1) := by show (1 : Int).natAbs < 10 ^ 38; decide
        refine rd_ifE ?_
        walk_at "rd"
        refine rd_eq rfl ?_
        walk_at "rd"
        refine ite2 (fun _ => ?_) (fun _ => ?_)
        · walk_at "rd"
          refine rd_newT fun p10 H10 n10 e10 h10 => ?_
          walk_at "rd"
          refine rd_app (e10 _ _ g9.hl) bound ?_
          exact fin e10 h10 (x := .it 1) (y := .th z) rfl ⟨p9, rfl, e10 _ _ h9⟩ one hz
        · walk_at "rd"
          refine rd_newT fun p10 H10 n10 e10 h10 => ?_
          walk_at "rd"
          refine rd_app (e10 _ _ g9.hl) bound ?_
          exact fin e10 h10 (x := .th z) (y := .it 1) ⟨p9, rfl, e10 _ _ h9⟩ rfl hz one
      · obtain ⟨y7, y8, xs, S, rfl, hS, g, tm, al⟩ := p
        exact ⟨_, _, y7, y8, xs, S, rfl, by rw [hS, hnext], g, tm, al⟩
    · obtain ⟨y5, y6, y7, y8, xs, S, rfl, hS, g, tm, al⟩ := p
      have hS' : S.length = a + b := hS
      have cel : ∀ {H' : Hp} {xs : List V} {S : List Th} {n'}, Ms H m c fl H' xs S (a + b) n' → Cel K H' c := fun g => hd.cel g.kp hc
      -- what is given back
      have fin : ∀ {H' : Hp} {y5 y6 y7 y8 y9 : Option V} {xs : List V} {S : List Th} {n' : Nat}, Ms H m c fl H' xs S (a + b) n' → n' ≤ n + 10 → S.length = a + b → tRet (tTup (tCons (tCB (rTupO K) (tCons (tVar 3) tNil)) (tCons (tTup (tCons (tC (.str "thing")) (tCons (tC (.int 0)) tNil))) (tCons (tTup (tCons (tC (.str "thing")) (tCons (tVar 1) tNil))) tNil)))) { nx := fun _ H' => Q .non H', rt := Q } [some (.ref m), some (.int (a : Int)), some (.int (b : Int)), some (.ref fl), some (.int side), y5, y6, y7, y8, y9] H' := fun {H' y5 y6 y7 y8 y9 xs S n'} g hn' hl => by
        walk_at "rd"
        refine rd_tupO (sq_of g.hl) fun pt H9 n9 e9 h9 => ?_
        walk_at "rd"
        refine rd_newT fun p10 H10 n10 e10 h10 => ?_
        walk_at "rd"
        refine rd_newT fun p11 H11 n11 e11 h11 => ?_
        walk_at "rd"
        refine rd_newT fun p12 H12 n12 e12 h12 => ?_
        have ee := ((e9.trans e10).trans e11).trans e12
        exact q p12 _ _ _ S 0 a H12 (g.kp.trans (Keeps.ex ee)) ((g.d.keep ee).mono (by omega)) h12 ⟨pt, xs, rfl, e12 _ _ (e11 _ _ (e10 _ _ h9)), g.tl.mono (TM.ex ee)⟩ (by omega) (okS_of g.ok hl) ⟨p10, rfl, e12 _ _ (e11 _ _ h10)⟩ ⟨p11, rfl, e12 _ _ h11⟩ (by omega) (by omega)
      walk_at "rd"
      refine ⟨m, c, 2, _, rfl, g.d, cel g, by omega, by decide, by decide, fun r8 H8 z0 z1 k8 d8 => ?_⟩
      have g8 := g.draw k8 d8
      walk_at "rd"
      refine rd_eq rfl ?_
      walk_at "rd"
      refine ite2 (fun _ => ?_) (fun _ => ?_)
      · walk_at "rd"
        refine ⟨m, c, (a : Int) + b, _, rfl, g8.d, cel g8, by omega, by omega, by omega, fun r9 H9 z2 z3 k9 d9 => ?_⟩
        have g9 := g8.draw k9 d9
        obtain ⟨j, rfl⟩ : ∃ j : Nat, r9 = (j : Int) := ⟨r9.toNat, (Int.toNat_of_nonneg z2).symm⟩
        have hj : j < S.length := by omega
        obtain ⟨tv, htv, ht⟩ := g9.tl.2 j S[j] (List.getElem?_eq_getElem hj)
        have okj := g9.ok S[j] (List.getElem_mem hj)
        obtain ⟨x, y, exy⟩ := al S[j] (List.getElem_mem hj)
        rw [exy] at ht okj
        obtain ⟨pa, u1, w1, rfl, hpa, v1, v2⟩ := ht
        walk_at "rd"
        refine rd_newT fun p10 H10 n10 e10 h10 => ?_
        walk_at "rd"
        have g10 := g9.ex e10
        refine rd_ixL (sq_of g10.hl) (atI_nat htv) ?_
        walk_at "rd"
        refine rd_ixT (st_of (e10 _ _ hpa)) (atI_nat (j := 2) rfl) ?_
        walk_at "rd"
        refine rd_newT fun p11 H11 n11 e11 h11 => ?_
        walk_at "rd"
        have g11 := g10.ex e11
        refine rd_ixL (sq_of g11.hl) (atI_nat htv) ?_
        walk_at "rd"
        refine rd_ixT (st_of (e11 _ _ (e10 _ _ hpa))) (atI_nat (j := 1) rfl) ?_
        walk_at "rd"
        refine rd_newT fun p12 H12 n12 e12 h12 => ?_
        walk_at "rd"
        have g12 := g11.ex e12
        refine rd_ixL (sq_of g12.hl) (atI_nat htv) ?_
        walk_at "rd"
        refine rd_ixT (st_of (e12 _ _ (e11 _ _ (e10 _ _ hpa)))) (atI_nat (j := 1) rfl) ?_
        walk_at "rd"
        refine rd_newT fun p13 H13 n13 e13 h13 => ?_
        walk_at "rd"
        refine rd_newL fun pl H14 n14 e14 h14 => ?_
        have g14 := (g12.ex e13).ex e14
        walk_at "rd"
        refine ⟨m, c, pl, _, _, rfl, sq_of h14, Nat.le_of_ble_eq_true rfl, Nat.le_of_ble_eq_true rfl, g14.d, cel g14, by omega, fun i xr H15 hi k15 d15 => ?_⟩
        have g15 := g14.draw k15 d15
        have tm15 := g14.d.tm k15
        have te : TM H9 H15 := (TM.ex ((((e10.trans e11).trans e12).trans e13).trans e14)).trans tm15
        have f11 := tm15 _ _ (e14 _ _ (e13 _ _ (e12 _ _ h11)))
        have f12 := tm15 _ _ (e14 _ _ (e13 _ _ h12))
        have f13 := tm15 _ _ (e14 _ _ h13)
        have f10 := tm15 _ _ (e14 _ _ (e13 _ _ (e12 _ _ (e11 _ _ h10))))
        obtain ⟨px, u2, w2, x2, y2, rfl, hpx, hu2, hw2, ox, oy⟩ : ∃ (px : Addr) (u2 w2 : V) (x2 y2 : Va), xr = .ref px ∧ H15 px = some (.tup [u2, w2]) ∧ Vr H15 u2 x2 ∧ Vr H15 w2 y2 ∧ OkV (a + b) x2 ∧ OkV (a + b) y2 := by
          rcases i with _|_|_|i
          · cases Option.some.inj hi; exact ⟨p11, _, _, .it 2, y, rfl, f11, rfl, v2.mono te, by show (2 : Int).natAbs < 10 ^ 38; decide, okj.2⟩
          · cases Option.some.inj hi; exact ⟨p12, _, _, x, .bl true, rfl, f12, v1.mono te, rfl, okj.1, trivial⟩
          · cases Option.some.inj hi; exact ⟨p13, _, _, x, .it 1, rfl, f13, v1.mono te, rfl, okj.1, by show (1 : Int).natAbs < 10 ^ 38; decide⟩
          · cases hi
        refine rd_catT (st_of f10) hpx (by simp) (Nat.le_of_ble_eq_true rfl) fun pn H16 e16 h16 => ?_
        have g16 := g15.ex e16
        refine rd_gsub ?_
        walk_at "rd"
        refine rd_setL g16.hl (by rw [g16.tl.1]; exact hj) ?_
        refine fin (g16.set (t := .pr x2 y2) hj ⟨pn, u2, w2, rfl, h16, hu2.mono (TM.ex e16), hw2.mono (TM.ex e16)⟩ ⟨ox, oy⟩) (by omega) (by rw [List.length_set]; exact hS')
      · refine rd_next ?_
        exact fin g8 (by omega) hS'
end
end K22
namespace K22
open PySem PySem.Spec PyProof.Rows L2 Kt Evl
theorem ok_kS (k : Kd) : PyData.strOk (kS k) = true := by cases k <;> decide +kernel
theorem eqv_Vd {S : List Th} {x y : Va} (h : kind S x = kind S y) : PyData.eqv (Vd x) (Vd y) = decide (x = y) := by
  have hk : ∀ i, kind S (.th i) = .pa ∨ kind S (.th i) = .fu := fun i => by
    show (if (kids S (.th i)).isSome then Kd.pa else Kd.fu) = .pa ∨ (if (kids S (.th i)).isSome then Kd.pa else Kd.fu) = .fu
    cases (kids S (.th i)).isSome <;> simp
  have no : ∀ {i : Nat} {k : Kd}, k ≠ .pa → k ≠ .fu → ¬ kind S (.th i) = k := fun {i k} h1 h2 e => by
    rcases hk i with z | z
    · exact h1 (e.symm.trans z)
    · exact h2 (e.symm.trans z)
  cases x with
  | th i =>
    cases y with
    | th j =>
      show ((("thing" : Str) == ("thing" : Str)) && (((i : Int) == (j : Int)) && true)) = _
      by_cases q : i = j
      · subst q; simp
      · have q' : ¬ ((i : Int)) = (j : Int) := fun z => q (Int.ofNat.inj z)
        have q2 : ((i : Int) == (j : Int)) = false := beq_eq_false_iff_ne.mpr q'
        rw [q2]
        simp [q]
    | nl => exact absurd h (no (by simp [kind]) (by simp [kind]))
    | nm c => exact absurd h (no (by simp [kind]) (by simp [kind]))
    | bl b => exact absurd h (no (by simp [kind]) (by simp [kind]))
    | it z => exact absurd h (no (by simp [kind]) (by simp [kind]))
  | nl =>
    cases y with
    | th j => exact absurd h.symm (no (by simp [kind]) (by simp [kind]))
    | nl => rfl
    | nm c => cases h
    | bl b => cases h
    | it z => cases h
  | nm c =>
    cases y with
    | th j => exact absurd h.symm (no (by simp [kind]) (by simp [kind]))
    | nl => cases h
    | nm d => cases c <;> cases d <;> decide +kernel
    | bl b => cases h
    | it z => cases h
  | bl b =>
    cases y with
    | th j => exact absurd h.symm (no (by simp [kind]) (by simp [kind]))
    | nl => cases h
    | nm c => cases h
    | bl b' => cases b <;> cases b' <;> decide
    | it z => cases h
  | it i =>
    cases y with
    | th j => exact absurd h.symm (no (by simp [kind]) (by simp [kind]))
    | nl => cases h
    | nm c => cases h
    | bl b => cases h
    | it j =>
      show (i == j) = _
      by_cases q : i = j
      · subst q; simp
      · simp [q]
abbrev pk (i j : Nat) : List Key := [Sum.inl (i : Int), Sum.inl (j : Int)]
/-- while the law looks for the least road: n of the nodes L have been looked at -/
structure Ls (H0 : Hp) (s : V) (S : List Th) (x y : Va) (ll sd : Addr) (Hc : Hp) (kvs : List (List Key × V)) (ys : List V) (L : List Nd) (n : Nat) : Prop where
  ex : Ex H0 Hc
  st : Sr Hc s S
  fl : H0 ll = none
  fs : H0 sd = none
  hl : Hc ll = some (.lst ys)
  hs : Hc sd = some (.dT kvs)
  len : ys.length = L.length
  nod : ∀ (i : Nat) (q : Nd), L[i]? = some q → ∃ (t : Addr) (v w : V) (rp : Addr), ys[i]? = some (.ref t) ∧ Hc t = some (.tup [v, w, .ref rp]) ∧ Hc rp = some (.tup (q.2.2.map V.int)) ∧ Vr Hc v q.1 ∧ Vr Hc w q.2.1 ∧ OkV S.length q.1 ∧ OkV S.length q.2.1
  bf : Bf S x y L n
  sz : L.length ≤ 1 + 2 * kvs.length
  nd : (kvs.map (·.1)).Nodup
  ks : ∀ k ∈ kvs.map (·.1), ∃ i j : Nat, k = pk i j ∧ i < S.length ∧ j < S.length ∧ ∃ r, follow S x r = some (.th i) ∧ follow S y r = some (.th j) ∧ ∀ (m : Nat) (p : Nd), n ≤ m → L[m]? = some p → code r < code p.2.2
  rl : ∀ q ∈ L, q.2.2.length ≤ L.length
section
variable {H0 Hc H' : Hp} {s : V} {S : List Th} {x y : Va} {ll sd : Addr} {kvs : List (List Key × V)} {ys : List V} {L : List Nd} {n : Nat}
theorem Ls.mono (g : Ls H0 s S x y ll sd Hc kvs ys L n) (e : Ex Hc H') : Ls H0 s S x y ll sd H' kvs ys L n :=
  ⟨g.ex.trans e, g.st.mono (TM.ex e), g.fl, g.fs, e _ _ g.hl, e _ _ g.hs, g.len, fun i q h => let ⟨t, v, w, rp, h1, h2, h3, h4, h5, h6, h7⟩ := g.nod i q h; ⟨t, v, w, rp, h1, e _ _ h2, e _ _ h3, h4.mono (TM.ex e), h5.mono (TM.ex e), h6, h7⟩, g.bf, g.sz, g.nd, g.ks, g.rl⟩
theorem Ls.skip (g : Ls H0 s S x y ll sd Hc kvs ys L n) {q : Nd} (hq : L[n]? = some q) (ha : apart S q.1 q.2.1 = false) (h : kids S q.1 = none ∨ Ch (Lk S x y (code q.2.2)) q.1 q.2.1) : Ls H0 s S x y ll sd Hc kvs ys L (n + 1) :=
  { g with bf := g.bf.skip hq ha h, ks := fun k hk => let ⟨i, j, h1, h2, h3, r, h4, h5, h6⟩ := g.ks k hk; ⟨i, j, h1, h2, h3, r, h4, h5, fun m p hm => h6 m p (by omega)⟩ }
theorem Ls.few (g : Ls H0 s S x y ll sd Hc kvs ys L n) (h7 : S.length ≤ 7) : kvs.length ≤ 49 := by
  have h := nodup_sub (kvs.map (·.1)) ((List.range 7).flatMap fun i => (List.range 7).map fun j => pk i j) g.nd fun k hk => by
    obtain ⟨i, j, rfl, hi, hj, _⟩ := g.ks k hk
    exact List.mem_flatMap.mpr ⟨i, List.mem_range.mpr (by omega), List.mem_map.mpr ⟨j, List.mem_range.mpr (by omega), rfl⟩⟩
  have e : ((List.range 7).flatMap fun i => (List.range 7).map fun j => pk i j).length = 49 := rfl
  rw [e] at h
  simpa using h
theorem Ls.two (g : Ls H0 s S x y ll sd Hc kvs ys L n) (hS : OkS S) {q : Nd} (hq : L[n]? = some q) {i j : Nat} (e1 : q.1 = .th i) (e2 : q.2.1 = .th j) (hi : i < S.length) (hj : j < S.length) {a b c e : Va} (k1 : kids S q.1 = some (a, b)) (k2 : kids S q.2.1 = some (c, e)) (hn : valV kvs (pk i j) = none)
    {v : V} {t1 t2 r1 r2 : Addr} {v1 w1 v2 w2 : V} (tm : TM Hc H') (ex : Ex H0 H') (hl : H' ll = some (.lst (ys ++ [.ref t1] ++ [.ref t2]))) (hs : H' sd = some (.dT (putK kvs (pk i j) v)))
    (f1 : H' t1 = some (.tup [v1, w1, .ref r1])) (f2 : H' t2 = some (.tup [v2, w2, .ref r2])) (f3 : H' r1 = some (.tup ((q.2.2 ++ [1]).map V.int))) (f4 : H' r2 = some (.tup ((q.2.2 ++ [2]).map V.int))) (g1 : Vr H' v1 a) (g2 : Vr H' w1 c) (g3 : Vr H' v2 b) (g4 : Vr H' w2 e) :
    Ls H0 s S x y ll sd H' (putK kvs (pk i j) v) (ys ++ [.ref t1] ++ [.ref t2]) (L ++ [(a, c, q.2.2 ++ [1]), (b, e, q.2.2 ++ [2])]) (n + 1) := by
  obtain ⟨oa, ob⟩ := kids_ok hS k1
  obtain ⟨oc, oe⟩ := kids_ok hS k2
  obtain ⟨p1, p2⟩ := g.bf.path q (List.mem_of_getElem? hq)
  have bf' := g.bf.more hq k1 k2
  have hqL : (L ++ [(a, c, q.2.2 ++ [1]), (b, e, q.2.2 ++ [2])])[n]? = some q := by rw [List.getElem?_append_left (List.getElem?_eq_some_iff.mp hq).1]; exact hq
  refine ⟨ex, g.st.mono tm, g.fl, g.fs, hl, hs, by simp [g.len], fun i' q' h => ?_, bf', by rw [putK_new _ hn]; have := g.sz; simp; omega, ?_, fun k hk => ?_, fun q' hq' => ?_⟩
  · by_cases hi' : i' < L.length
    · rw [List.getElem?_append_left hi'] at h
      obtain ⟨t, v, w, rp, h1, h2, h3, h4, h5, h6, h7⟩ := g.nod i' q' h
      exact ⟨t, v, w, rp, by rw [List.append_assoc, List.getElem?_append_left (by rw [g.len]; exact hi')]; exact h1, tm _ _ h2, tm _ _ h3, h4.mono tm, h5.mono tm, h6, h7⟩
    · rw [List.getElem?_append_right (by omega)] at h
      have hj2 : i' - L.length < 2 := by have := (List.getElem?_eq_some_iff.mp h).1; simpa using this
      have y1 : (ys ++ [V.ref t1] ++ [V.ref t2])[L.length + 0]? = some (.ref t1) := by rw [← g.len, List.append_assoc, List.getElem?_append_right (by omega)]; simp
      have y2 : (ys ++ [V.ref t1] ++ [V.ref t2])[L.length + 1]? = some (.ref t2) := by rw [← g.len, List.append_assoc, List.getElem?_append_right (by omega)]; simp
      rcases (show i' - L.length = 0 ∨ i' - L.length = 1 by omega) with z | z
      · rw [z] at h
        cases Option.some.inj h
        have : i' = L.length + 0 := by omega
        subst this
        exact ⟨t1, v1, w1, r1, y1, f1, f3, g1, g2, oa, oc⟩
      · rw [z] at h
        cases Option.some.inj h
        have : i' = L.length + 1 := by omega
        subst this
        exact ⟨t2, v2, w2, r2, y2, f2, f4, g3, g4, ob, oe⟩
  · rw [putK_new _ hn, List.map_append]
    refine List.nodup_append.mpr ⟨g.nd, by simp, fun u hu u' hu' eu => ?_⟩
    have : u' = pk i j := by simpa using hu'
    subst this
    subst eu
    exact val_none hn hu
  · rw [putK_new _ hn, List.map_append] at hk
    rcases List.mem_append.mp hk with hk | hk
    · obtain ⟨i1, j1, h1, h2, h3, r, h4, h5, h6⟩ := g.ks k hk
      refine ⟨i1, j1, h1, h2, h3, r, h4, h5, fun m p hm hp => ?_⟩
      have l1 := h6 n q (Nat.le_refl _) hq
      have l2 := bf'.ord n m q p (by omega) hqL hp
      omega
    · have : k = pk i j := by simpa using hk
      subst this
      exact ⟨i, j, rfl, hi, hj, q.2.2, by rw [← e1]; exact p1, by rw [← e2]; exact p2, fun m p hm hp => bf'.ord n m q p (by omega) hqL hp⟩
  · rw [List.length_append]
    rcases List.mem_append.mp hq' with hq' | hq'
    · have := g.rl q' hq'
      omega
    · have := g.rl q (List.mem_of_getElem? hq)
      rcases List.mem_cons.mp hq' with rfl | hq'
      · simp; omega
      · rw [List.mem_singleton.mp hq']
        simp; omega
end
def DNotW (x y : V) (H2 : Hp) (Q : VK) : Prop := ∃ a o, x = .ref a ∧ DGet H2 a y o ∧ Q (.bl (!o.isSome)) H2
section
variable {σ : L2.St} {H : Hp} {Q : VK} {td ty : TE} {d b : Addr} {kvs : List (List Key × V)}
theorem rd_dnot (q : ty σ H fun y H1 => td σ H1 fun x H2 => DNotW x y H2 Q) : tDNotIn ty td σ H Q := q
theorem rd_dnotW {k : List Key} (h : H d = some (.dT kvs)) (hb : H b = some (.tup (k.map kV))) (q : Q (.bl (!(valV kvs k).isSome)) H) : DNotW (.ref d) (.ref b) H Q := ⟨d, _, rfl, DGet.t h hb, q⟩
theorem rd_dpT {k : List Key} {v : V} {QH : Hp → Prop} (h : H d = some (.dT kvs)) (hb : H b = some (.tup (k.map kV))) (hl : kvs.length < sizeLine) (q : QH (upd H d (.dT (putK kvs k v)))) : ∃ a H4, V.ref d = .ref a ∧ DPut H a (.ref b) v H4 ∧ QH H4 := ⟨d, _, rfl, DPut.t h hb hl, q⟩
end
section
variable {P : Program} {w : World} {K : PySem.W.Frag} {mg : Str → Option Value} {base : Heap}
/-- _law_least(store, first, second) -/
def spLeast : Sp := fun vs H Q _ => ∃ (s v u : V) (S : List Th) (x y : Va), vs = [s, v, u] ∧ Sr H s S ∧ Vr H v x ∧ Vr H u y ∧ OkS S ∧ S.length ≤ 7 ∧ OkV S.length x ∧ OkV S.length y ∧ ∀ (o : Option (List Int)) (r : V) (H' : Hp), Ex H H' → Least S x y o → Rr H' r o → (∀ l, o = some l → l.length ≤ 200) → Q r H'
abbrev s_law_least : Stmt := topS 26
theorem sc_law_least : FnScope ["store", "first", "second", "line", "seen", "spot", "one", "two", "road", "kinds"] ["store", "first", "second"] (defScope s_law_least) := ⟨rfl, rfl, rfl, by decide +kernel, rfl, by decide +kernel, by decide +kernel⟩
set_option maxHeartbeats 8000000 in
theorem c_law_least (T : Txt K mg) (D : DefG K mg "_law_least" s_law_least ["store", "first", "second"]) (c_law_kind : CalO P w K mg base 1 "_law_kind" spKind) : CalG P w K mg base 2 "_law_least" spLeast := by
  refine calG D sc_law_least (fun vs H Q E h => ?_) (fun cdv f A outer s0 H vs Q E hA hr h => ?_)
  · obtain ⟨s, v, u, S, x, y, rfl, _⟩ := h
    rfl
  · obtain ⟨s, v, u, S, x, y, rfl, hs, hx, hy, hS, h7, ox, oy, q⟩ := h
    have hu := hu_of hr
    refine ⟨_, pss_cons (ps_par (i := 3) (j := 4) (by rfl) sc_law_least.nd rfl rfl (by decide) rfl rfl (pa_cons (pe_lst (pa_cons (pe_tup (pa_cons (pv 1) (pa_cons (pv 2) (pa_cons (pe_tup pa_nil) pa_nil)))) pa_nil)) (pa_cons pe_dnewT pa_nil)) (by rfl))
      (pss_cons (ps_for PassesOwn.never rfl (pi_range1 (by rfl) T.range (pa_cons pe_int pa_nil)) (pg_name (i := 5) sc_law_least.nd rfl (Or.inl rfl))
        (pss_cons (ps_if (pt_cmpR op_ge (pv 5) (pe_callB call_lenO (by rfl) T.len (by decide +kernel) (pa_cons (pv 3) pa_nil)) (nomark _))
          (pss_one (ps_ret (pe_non)))
          (pss_nil))
        (pss_cons (ps_asg (pe_ix ix_list (pv 3) (pv 5) (fun _ _ => rfl)) (pg_tup rfl (pgs_cons (pg_name (i := 6) sc_law_least.nd rfl (Or.inl rfl)) (pgs_cons (pg_name (i := 7) sc_law_least.nd rfl (Or.inl rfl)) (pgs_cons (pg_name (i := 8) sc_law_least.nd rfl (Or.inl rfl)) pgs_nil)))))
        (pss_cons (ps_set (i := 9) sc_law_least.nd rfl (Or.inl rfl) (pe_lst (pa_cons (pe_cO c_law_kind hr (by decide) (by rfl) (pa_cons (pv 0) (pa_cons (pv 6) pa_nil))) (pa_cons (pe_cO c_law_kind hr (by decide) (by rfl) (pa_cons (pv 0) (pa_cons (pv 7) pa_nil))) pa_nil))))
        (pss_one (ps_if (pt_cmpR (op_neD hr.units) (pv 9) (pe_lst (pa_cons pe_str (pa_cons pe_str pa_nil))) (nomark _))
          (pss_one (ps_if (PW.pt (pw_or (pt_cmpR op_ne (pe_ix ix_list (pv 9) pe_int (fun _ _ => rfl)) (pe_ix ix_list (pv 9) pe_int (fun _ _ => rfl)) (nomark _)) (pw_or1 (pt_cmpR (op_neD hr.units) (pv 6) (pv 7) (nomark _)))))
            (pss_one (ps_ret (pv 8)))
            (pss_nil)))
          (pss_one (ps_if (pt_cmp (pc_dnotin hu (pe_tup (pa_cons (pe_ix ix_tup (pv 6) pe_int (fun _ _ => rfl)) (pa_cons (pe_ix ix_tup (pv 7) pe_int (fun _ _ => rfl)) pa_nil))) (pv 4)))
            (pss_cons (ps_dput hu (pv 4) (pe_tup (pa_cons (pe_ix ix_tup (pv 6) pe_int (fun _ _ => rfl)) (pa_cons (pe_ix ix_tup (pv 7) pe_int (fun _ _ => rfl)) pa_nil))) pe_bl rfl)
            (pss_cons (ps_expr (pe_bm PySem.F.plainAttrs_list PySem.F.slot_list_append PySem.F.type_list_append mt_append (pv 3) (pa_cons (pe_tup (pa_cons (pe_ix ix_tup (pe_ix ix_tup (pv 0) (pe_ix ix_tup (pv 6) pe_int (fun _ _ => rfl)) (fun _ _ => rfl)) pe_int (fun _ _ => rfl)) (pa_cons (pe_ix ix_tup (pe_ix ix_tup (pv 0) (pe_ix ix_tup (pv 7) pe_int (fun _ _ => rfl)) (fun _ _ => rfl)) pe_int (fun _ _ => rfl)) (pa_cons (pe_op op_catT' (pv 8) (pe_tup (pa_cons pe_int pa_nil))) pa_nil)))) pa_nil)))
            (pss_one (ps_expr (pe_bm PySem.F.plainAttrs_list PySem.F.slot_list_append PySem.F.type_list_append mt_append (pv 3) (pa_cons (pe_tup (pa_cons (pe_ix ix_tup (pe_ix ix_tup (pv 0) (pe_ix ix_tup (pv 6) pe_int (fun _ _ => rfl)) (fun _ _ => rfl)) pe_int (fun _ _ => rfl)) (pa_cons (pe_ix ix_tup (pe_ix ix_tup (pv 0) (pe_ix ix_tup (pv 7) pe_int (fun _ _ => rfl)) (fun _ _ => rfl)) pe_int (fun _ _ => rfl)) (pa_cons (pe_op op_catT' (pv 8) (pe_tup (pa_cons pe_int pa_nil))) pa_nil)))) pa_nil))))))
            (pss_nil)))))))))
      (pss_one (ps_ret (pe_str)))), ?_⟩
    walk_at "rd"
    refine rd_newT fun r0 H1 n1 e1 h1 => ?_
    walk_at "rd"
    refine rd_newT fun t0 H2 n2 e2 h2 => ?_
    walk_at "rd"
    refine rd_newL fun ll H3 n3 e3 h3 => ?_
    walk_at "rd"
    intro sd n4
    have e12 := e1.trans e2
    have e13 := e12.trans e3
    have e4 : Ex H3 (upd H3 sd (.dT [])) := Ex.new n4
    have h4 : (upd H3 sd (.dT [])) sd = some (.dT []) := upd_same
    generalize upd H3 sd (.dT []) = H4 at e4 h4 ⊢
    have e14 := e13.trans e4
    have g0 : Ls H s S x y ll sd H4 [] [.ref t0] [(x, y, [])] 0 :=
      ⟨e14, hs.mono (TM.ex e14), fresh_back e12 n3, fresh_back e13 n4, e4 _ _ h3, h4, rfl, fun i q h => by
        have hi : i = 0 := by have := (List.getElem?_eq_some_iff.mp h).1; simp at this; omega
        subst hi
        cases Option.some.inj h
        exact ⟨t0, v, u, r0, rfl, e4 _ _ (e3 _ _ h2), e4 _ _ (e3 _ _ (e2 _ _ h1)), hx.mono (TM.ex e14), hy.mono (TM.ex e14), ox, oy⟩, Bf.init S x y, by simp, List.nodup_nil, (fun k hk => by cases hk), fun q hq => by rw [List.mem_singleton.mp hq]; exact Nat.zero_le _⟩
    walk_at "rd"
    refine rd_rngW (by decide) (by decide) ?_
    refine rd_forN (n := 200) (fun n σ H' => ∃ (y5 y6 y7 y8 y9 : Option V) (kvs : List (List Key × V)) (ys : List V) (L : List Nd), σ = [some s, some v, some u, some (.ref ll), some (.ref sd), y5, y6, y7, y8, y9] ∧ Ls H s S x y ll sd H' kvs ys L n)
      ⟨none, none, none, none, none, [], _, _, rfl, g0⟩ (fun n σ H5 hn p => ?_) (fun σ H5 p => ?_)
    · obtain ⟨y5, y6, y7, y8, y9, kvs, ys, L, rfl, g⟩ := p
      have few := g.few h7
      have fewL := g.sz
      walk_at "rd"
      refine rd_lenO (.inl (sq_of g.hl)) ?_
      walk_at "rd"
      by_cases hnl : n < L.length
      rotate_left
      · refine if_yes (by rw [g.len]; omega) ?_
        walk_at "rd"
        exact q none _ H5 g.ex (g.bf.none (by omega)) rfl (fun l h => by cases h)
      refine if_no (by rw [g.len]; omega) ?_
      obtain ⟨qn, hq⟩ : ∃ qn, L[n]? = some qn := ⟨L[n], List.getElem?_eq_getElem hnl⟩
      obtain ⟨t, v1, w1, rp, a1, a2, a3, a4, a5, o1, o2⟩ := g.nod n qn hq
      walk_at "rd"
      refine rd_ixL (sq_of g.hl) (atI_nat a1) ?_
      refine rd_gtup (st_of a2) rfl ?_
      walk_at "rd"
      refine ⟨s, v1, S, qn.1, rfl, g.st, a4, o1, fun H6 e6 => ?_⟩
      walk_at "rd"
      refine ⟨s, w1, S, qn.2.1, rfl, (g.mono e6).st, a5.mono (TM.ex e6), o2, fun H7 e7 => ?_⟩
      walk_at "rd"
      refine rd_newL fun kl H8 n8 e8 h8 => ?_
      walk_at "rd"
      refine rd_newL fun kl2 H9 n9 e9 h9 => ?_
      have e59 := ((e6.trans e7).trans e8).trans e9
      have g9 := g.mono e59
      have h89 := e9 _ _ h8
      have sh : ∀ a b : Kd, SeqAt.shaped (.list [.str (kS a), .str (kS b)]) = true := fun a b => by
        simp [SeqAt.shaped, PyData.canLay0, PyData.canLayAll0, PyData.depth, PyData.depthAll, ok_kS]
      refine rd_neD (.lst (sq_of h89) (.cons (.str _) (.cons (.str _) .nil))) (.lst (sq_of h9) (.cons (.str _) (.cons (.str _) .nil))) (sh _ _) (sh .pa .pa) ?_
      walk_at "rd"
      have ek : PyData.eqv (.list [.str (kS (kind S qn.1)), .str (kS (kind S qn.2.1))]) (.list [.str (kS .pa), .str (kS .pa)]) = decide (kind S qn.1 = .pa ∧ kind S qn.2.1 = .pa) := by
        show ((kS (kind S qn.1) == kS .pa) && ((kS (kind S qn.2.1) == kS .pa) && true)) = _
        have k1 : ∀ k : Kd, (kS k == kS .pa) = decide (k = .pa) := fun k => by cases k <;> decide +kernel
        rw [k1, k1]
        by_cases z1 : kind S qn.1 = .pa <;> by_cases z2 : kind S qn.2.1 = .pa <;> simp [z1, z2]
      have ek' : PyData.eqv (.list [.str (kS (kind S qn.1)), .str (kS (kind S qn.2.1))]) (.list [.str ("pair" : Str), .str ("pair" : Str)]) = decide (kind S qn.1 = .pa ∧ kind S qn.2.1 = .pa) := ek
      rw [ek']
      by_cases hpp : kind S qn.1 = .pa ∧ kind S qn.2.1 = .pa
      rotate_left
      · refine if_nno hpp ?_
        walk_at "rd"
        refine rd_ixL (sq_of h89) (atI_nat (j := 0) rfl) ?_
        walk_at "rd"
        refine rd_ixL (sq_of h89) (atI_nat (j := 1) rfl) ?_
        refine rd_ne rfl ?_
        walk_at "rd"
        have ret : apart S qn.1 qn.2.1 = true → Q (.ref rp) H9 := fun ha => q (some qn.2.2) _ H9 g9.ex (g.bf.found hq ha) ⟨rp, rfl, e59 _ _ a3⟩ (fun l hl => by
          cases hl
          have := g.rl qn (List.mem_of_getElem? hq)
          omega)
        by_cases hk : kind S qn.1 = kind S qn.2.1
        · refine if_nyes (by rw [hk]) ?_
          walk_at "rd"
          refine rd_neD (a4.mono (TM.ex e59)).dp (a5.mono (TM.ex e59)).dp (shaped_Vd _) (shaped_Vd _) ?_
          rw [eqv_Vd hk]
          walk_at "rd"
          have hkn : kids S qn.1 = none := by
            cases z : kids S qn.1 with
            | none => rfl
            | some ab =>
              have := kind_pa.mpr (show (kids S qn.1).isSome = true by rw [z]; rfl)
              exact absurd ⟨this, hk ▸ this⟩ hpp
          by_cases hxy : qn.1 = qn.2.1
          · refine if_nyes hxy ?_
            walk_at "rd"
            exact ⟨_, _, _, _, _, kvs, ys, L, rfl, g9.skip hq (apart_false.mpr ⟨hk, .inr hxy⟩) (.inl hkn)⟩
          · refine if_nno hxy ?_
            walk_at "rd"
            refine ret ?_
            cases z : apart S qn.1 qn.2.1 with
            | true => rfl
            | false =>
              rcases (apart_false.mp z).2 with z' | z'
              · rw [hkn] at z'; cases z'
              · exact absurd z' hxy
        · refine if_nno (fun z => hk (kS_inj (V.str.inj z))) ?_
          refine iteT ?_
          walk_at "rd"
          refine ret ?_
          cases z : apart S qn.1 qn.2.1 with
          | true => rfl
          | false => exact absurd (apart_false.mp z).1 hk
      refine if_nyes hpp ?_
      obtain ⟨⟨a, b⟩, k1⟩ := Option.isSome_iff_exists.mp (kind_pa.mp hpp.1)
      obtain ⟨⟨c, e⟩, k2⟩ := Option.isSome_iff_exists.mp (kind_pa.mp hpp.2)
      obtain ⟨i, ei, si⟩ := kids_th k1
      obtain ⟨j, ej, sj⟩ := kids_th k2
      have b4 := a4.mono (TM.ex e59)
      have b5 := a5.mono (TM.ex e59)
      rw [ei] at b4 o1
      rw [ej] at b5 o2
      obtain ⟨ti, rfl, hti⟩ := b4
      obtain ⟨tj, rfl, htj⟩ := b5
      have hi : i < S.length := o1
      have hj : j < S.length := o2
      have hap : apart S qn.1 qn.2.1 = false := apart_false.mpr ⟨hpp.1.trans hpp.2.symm, .inl (by rw [k1]; rfl)⟩
      refine rd_test ?_
      refine rd_dnot ?_
      walk_at "rd"
      refine rd_ixT (st_of hti) (atI_nat (j := 1) rfl) ?_
      walk_at "rd"
      refine rd_ixT (st_of htj) (atI_nat (j := 1) rfl) ?_
      walk_at "rd"
      refine rd_newT fun kp H10 n10 e10 h10 => ?_
      walk_at "rd"
      have g10 := g9.mono e10
      refine rd_dnotW (k := pk i j) g10.hs h10 ?_
      walk_at "rd"
      cases hv : valV kvs (pk i j) with
      | some z =>
        refine iteF ?_
        walk_at "rd"
        obtain ⟨i', j', ep, _, _, r, f1, f2, f3⟩ := g.ks _ (val_some hv)
        have ei' : i = i' := Int.ofNat.inj (Sum.inl.inj (List.cons.inj ep).1)
        have ej' : j = j' := Int.ofNat.inj (Sum.inl.inj (List.cons.inj (List.cons.inj ep).2).1)
        subst ei' ej'
        exact ⟨_, _, _, _, _, kvs, ys, L, rfl, g10.skip hq hap (.inr (by rw [ei, ej]; exact .to (.refl _) ⟨r, f3 n qn (Nat.le_refl _) hq, f1, f2⟩))⟩
      | none =>
        refine iteT ?_
        walk_at "rd"
        have zlim : kvs.length < sizeLine := Nat.lt_of_lt_of_le (by omega : kvs.length < 50) (by decide)
        refine rd_ixT (st_of (e10 _ _ hti)) (atI_nat (j := 1) rfl) ?_
        walk_at "rd"
        refine rd_ixT (st_of (e10 _ _ htj)) (atI_nat (j := 1) rfl) ?_
        walk_at "rd"
        refine rd_newT fun kp2 H11 n11 e11 h11 => ?_
        have g11 := g10.mono e11
        refine rd_dpT (k := pk i j) g11.hs h11 zlim ?_
        have tmd : TM H11 (upd H11 sd (.dT (putK kvs (pk i j) (.bl true)))) := fun p xs hp => (upd_ne (ne_of hp g11.hs (fun z => by cases z))).trans hp
        have h12s : (upd H11 sd (.dT (putK kvs (pk i j) (.bl true)))) sd = some (.dT (putK kvs (pk i j) (.bl true))) := upd_same
        have h12l : (upd H11 sd (.dT (putK kvs (pk i j) (.bl true)))) ll = some (.lst ys) := (upd_ne (ne_of g11.hl g11.hs (fun z => by cases z))).trans g11.hl
        have ex12 : Ex H (upd H11 sd (.dT (putK kvs (pk i j) (.bl true)))) := g11.ex.mut g11.fs
        generalize upd H11 sd (.dT (putK kvs (pk i j) (.bl true))) = H12 at tmd h12s h12l ex12 ⊢
        have tm512 : TM H5 H12 := (TM.ex ((e59.trans e10).trans e11)).trans tmd
        have tm912 : TM H9 H12 := (TM.ex (e10.trans e11)).trans tmd
        obtain ⟨sa, xs, rfl, hsa, hsl⟩ := g.st.mono tm512
        obtain ⟨ui, hui, pi1, ui1, wi1, rfl, hpi, vi1, vi2⟩ := hsl.2 i _ si
        obtain ⟨uj, huj, pj1, uj1, wj1, rfl, hpj, vj1, vj2⟩ := hsl.2 j _ sj
        have rbound : (qn.2.2.map V.int).length + 1 ≤ sizeLine := by
          have := g.rl qn (List.mem_of_getElem? hq)
          rw [List.length_map]
          exact Nat.le_trans (by omega : qn.2.2.length + 1 ≤ 200) (by decide)
        have ybound : ys.length + 1 < sizeLine := by
          rw [g.len]
          exact Nat.lt_of_lt_of_le (by omega : L.length + 1 < 200) (by decide)
        walk_at "rd"
        refine rd_tyL (sq_of h12l) ?_
        walk_at "rd"
        refine rd_ixT (st_of (tm912 _ _ hti)) (atI_nat (j := 1) rfl) ?_
        refine rd_ixT (st_of hsa) (atI_nat hui) ?_
        walk_at "rd"
        refine rd_ixT (st_of hpi) (atI_nat (j := 1) rfl) ?_
        walk_at "rd"
        refine rd_ixT (st_of (tm912 _ _ htj)) (atI_nat (j := 1) rfl) ?_
        refine rd_ixT (st_of hsa) (atI_nat huj) ?_
        walk_at "rd"
        refine rd_ixT (st_of hpj) (atI_nat (j := 1) rfl) ?_
        walk_at "rd"
        refine rd_newT fun o1 H13 n13 e13 h13 => ?_
        refine rd_catT (st_of (e13 _ _ (tm512 _ _ a3))) h13 (by simp) rbound fun r1 H14 e14 h14 => ?_
        walk_at "rd"
        refine rd_newT fun t1 H15 n15 e15 h15 => ?_
        have e1215 := (e13.trans e14).trans e15
        walk_at "rd"
        refine rd_app (e1215 _ _ h12l) (by omega) ?_
        have tm16 : TM H15 (upd H15 ll (.lst (ys ++ [.ref t1]))) := TM.tx (Tx.lst (e1215 _ _ h12l))
        have h16l : (upd H15 ll (.lst (ys ++ [.ref t1]))) ll = some (.lst (ys ++ [.ref t1])) := upd_same
        have h16s : (upd H15 ll (.lst (ys ++ [.ref t1]))) sd = some (.dT (putK kvs (pk i j) (.bl true))) := (upd_ne (ne_of (e1215 _ _ h12s) (e1215 _ _ h12l) (fun z => by cases z))).trans (e1215 _ _ h12s)
        have ex16 : Ex H (upd H15 ll (.lst (ys ++ [.ref t1]))) := (ex12.trans e1215).mut g11.fl
        generalize upd H15 ll (.lst (ys ++ [.ref t1])) = H16 at tm16 h16l h16s ex16 ⊢
        have tm1216 : TM H12 H16 := (TM.ex e1215).trans tm16
        walk_at "rd"
        refine rd_tyL (sq_of h16l) ?_
        walk_at "rd"
        refine rd_ixT (st_of (tm1216 _ _ (tm912 _ _ hti))) (atI_nat (j := 1) rfl) ?_
        refine rd_ixT (st_of (tm1216 _ _ hsa)) (atI_nat hui) ?_
        walk_at "rd"
        refine rd_ixT (st_of (tm1216 _ _ hpi)) (atI_nat (j := 2) rfl) ?_
        walk_at "rd"
        refine rd_ixT (st_of (tm1216 _ _ (tm912 _ _ htj))) (atI_nat (j := 1) rfl) ?_
        refine rd_ixT (st_of (tm1216 _ _ hsa)) (atI_nat huj) ?_
        walk_at "rd"
        refine rd_ixT (st_of (tm1216 _ _ hpj)) (atI_nat (j := 2) rfl) ?_
        walk_at "rd"
        refine rd_newT fun o2 H17 n17 e17 h17 => ?_
        refine rd_catT (st_of (e17 _ _ (tm1216 _ _ (tm512 _ _ a3)))) h17 (by simp) rbound fun r2 H18 e18 h18 => ?_
        walk_at "rd"
        refine rd_newT fun t2 H19 n19 e19 h19 => ?_
        have e1619 := (e17.trans e18).trans e19
        walk_at "rd"
        refine rd_app (e1619 _ _ h16l) (by rw [List.length_append]; exact ybound) ?_
        have tm20 : TM H19 (upd H19 ll (.lst (ys ++ [.ref t1] ++ [.ref t2]))) := TM.tx (Tx.lst (e1619 _ _ h16l))
        have tm1620 := (TM.ex e1619).trans tm20
        have tm1220 := tm1216.trans tm1620
        have tm1520 := tm16.trans tm1620
        refine ⟨_, _, _, _, _, _, _, _, rfl, g.two hS hq ei ej hi hj k1 k2 hv (tm512.trans tm1220) ((ex16.trans e1619).mut g.fl) upd_same ((upd_ne (ne_of (e1619 _ _ h16s) (e1619 _ _ h16l) (fun z => by cases z))).trans (e1619 _ _ h16s)) (tm1520 _ _ h15) (tm20 _ _ h19) (tm1520 _ _ (e15 _ _ ?_)) (tm20 _ _ (e19 _ _ ?_)) (vi1.mono tm1220) (vj1.mono tm1220) (vi2.mono tm1220) (vj2.mono tm1220)⟩
        · rw [h14, List.map_append]; rfl
        · rw [h18, List.map_append]; rfl
    · obtain ⟨y5, y6, y7, y8, y9, kvs, ys, L, rfl, g⟩ := p
      have few := g.few h7
      have fewL := g.sz
      have := g.bf.le
      omega
end
end K22
namespace K22
open PySem PySem.Spec PyProof.Rows L2 Kt Evl
/-! ### values at other addresses -/
def ld (P : List Nat) : Va → Va
  | .th i => .th (P.getD i 0)
  | x => x
def ldT (P : List Nat) : Th → Th
  | .pr a b => .pr (ld P a) (ld P b)
  | t => t
structure Mv (S S' : List Th) (P : List Nat) : Prop where
  ok : OkS S
  len : P.length = S.length
  nd : P.Nodup
  at_ : ∀ (i : Nat) (t : Th) (p : Nat), S[i]? = some t → P[i]? = some p → S'[p]? = some (ldT P t)
section
variable {S S' : List Th} {P : List Nat}
theorem Mv.get (M : Mv S S' P) {i : Nat} (h : i < S.length) : P[i]? = some (P.getD i 0) := by
  rw [List.getD_eq_getElem?_getD, List.getElem?_eq_getElem (by rw [M.len]; exact h)]
  rfl
theorem Mv.kidsE (M : Mv S S' P) {x : Va} (h : OkV S.length x) : kids S' (ld P x) = (kids S x).map fun q => (ld P q.1, ld P q.2) := by
  cases x with
  | th i =>
    have hi : i < S.length := h
    have e := M.at_ i S[i] _ (List.getElem?_eq_getElem hi) (M.get hi)
    show (match S'[P.getD i 0]? with | some (.pr a b) => some (a, b) | _ => none) = Option.map _ (match S[i]? with | some (.pr a b) => some (a, b) | _ => none)
    rw [e, List.getElem?_eq_getElem hi]
    cases S[i] <;> rfl
  | nl => rfl
  | nm c => rfl
  | bl b => rfl
  | it i => rfl
theorem Mv.inj (M : Mv S S' P) {x y : Va} (hx : OkV S.length x) (hy : OkV S.length y) (e : ld P x = ld P y) : x = y := by
  cases x with
  | th i =>
    cases y with
    | th j =>
      have hi : i < S.length := hx
      have hj : j < S.length := hy
      have e' : P.getD i 0 = P.getD j 0 := Va.th.inj e
      have g1 := M.get hi
      have g2 := M.get hj
      rw [e', ← g2] at g1
      rw [(List.getElem?_inj (by rw [M.len]; exact hi) M.nd).mp g1]
    | nl => cases e
    | nm c => cases e
    | bl b => cases e
    | it i => cases e
  | nl => cases y <;> first | rfl | cases e
  | nm c => cases y <;> first | exact e | cases e
  | bl c => cases y <;> first | exact e | cases e
  | it c => cases y <;> first | exact e | cases e
theorem Mv.kindE (M : Mv S S' P) {x : Va} (h : OkV S.length x) : kind S' (ld P x) = kind S x := by
  cases x with
  | th i =>
    show (if (kids S' (ld P (.th i))).isSome then Kd.pa else Kd.fu) = if (kids S (.th i)).isSome then Kd.pa else Kd.fu
    rw [M.kidsE h]
    cases (kids S (.th i)) <;> rfl
  | nl => rfl
  | nm c => rfl
  | bl b => rfl
  | it i => rfl
theorem Mv.apartE (M : Mv S S' P) {x y : Va} (hx : OkV S.length x) (hy : OkV S.length y) : apart S' (ld P x) (ld P y) = apart S x y := by
  unfold K22.apart
  rw [M.kindE hx, M.kindE hy, M.kidsE hx]
  have e : decide (ld P x ≠ ld P y) = decide (x ≠ y) := by
    by_cases q : x = y
    · subst q; simp
    · exact (decide_eq_true (show ld P x ≠ ld P y from fun z => q (M.inj hx hy z))).trans (decide_eq_true (show x ≠ y from q)).symm
  rw [e]
  cases (kids S x) <;> rfl
theorem Mv.stepE (M : Mv S S' P) {k : Int} {x : Va} (h : OkV S.length x) : step S' k (ld P x) = (step S k x).map (ld P) := by
  unfold K22.step
  rw [M.kidsE h]
  split
  · cases (kids S x) <;> rfl
  · split
    · cases (kids S x) <;> rfl
    · rfl
theorem Mv.followE (M : Mv S S' P) : ∀ {r : List Int} {x : Va}, OkV S.length x → follow S' (ld P x) r = (follow S x r).map (ld P)
  | [], x, _ => rfl
  | k :: r, x, h => by
    show (K22.step S' k (ld P x)).bind (fun u => K22.follow S' u r) = ((K22.step S k x).bind fun u => K22.follow S u r).map (ld P)
    rw [M.stepE h]
    cases e : K22.step S k x with
    | none => rfl
    | some u => exact M.followE (step_ok M.ok e)
theorem follow_ok (hS : OkS S) : ∀ {r : List Int} {x u : Va}, OkV S.length x → follow S x r = some u → OkV S.length u
  | [], x, u, h, e => by cases e; exact h
  | k :: r, x, u, h, e => by
    have e' : (step S k x).bind (fun u => follow S u r) = some u := e
    cases z : step S k x with
    | none => rw [z] at e'; cases e'
    | some w =>
      rw [z] at e'
      exact follow_ok hS (step_ok hS z) e'
theorem Mv.parts (M : Mv S S' P) {x y : Va} (hx : OkV S.length x) (hy : OkV S.length y) (r : List Int) : Parts S x y r ↔ Parts S' (ld P x) (ld P y) r := by
  constructor
  · rintro ⟨u, v, h1, h2, h3⟩
    exact ⟨ld P u, ld P v, by rw [M.followE hx, h1]; rfl, by rw [M.followE hy, h2]; rfl, by rw [M.apartE (follow_ok M.ok hx h1) (follow_ok M.ok hy h2)]; exact h3⟩
  · rintro ⟨u, v, h1, h2, h3⟩
    rw [M.followE hx] at h1
    rw [M.followE hy] at h2
    cases e1 : K22.follow S x r with
    | none => rw [e1] at h1; cases h1
    | some u' =>
      cases e2 : K22.follow S y r with
      | none => rw [e2] at h2; cases h2
      | some v' =>
        rw [e1] at h1
        rw [e2] at h2
        cases h1
        cases h2
        rw [M.apartE (follow_ok M.ok hx e1) (follow_ok M.ok hy e2)] at h3
        exact ⟨u', v', e1, e2, h3⟩
end
/-! ### comprehensions that take each item alone -/
section
variable {K : PySem.W.Frag} {σ : L2.St} {H : Hp} {Q : VK} {te : TE} {vs : List Nat}
theorem rd_lcMap (R : Nat → V → Hp → Prop) (hm : ∀ i y H1 H2, TM H1 H2 → R i y H1 → R i y H2) (xs : List V) (hz : xs.length < sizeLine) {a : Addr} {j : Nat} (hw : ∀ x, wipe ((wipe σ vs).set j (some x)) vs = wipe σ vs)
    (hs : ∀ (i : Nat) (x : V) (H' : Hp) (Q' : VK), xs[i]? = some x → Ex H H' → (∀ y H4, Ex H' H4 → R i y H4 → Q' y H4) → te ((wipe σ vs).set j (some x)) H' Q')
    (q : ∀ (Dl : Addr) (acc : List V) (H' : Hp), Ex H H' → H' Dl = some (.lst acc) → acc.length = xs.length → (∀ i y, acc[i]? = some y → R i y H') → Q (.ref Dl) H') :
    (SqT K H a xs → LcW (Itt K a) (gName j) tYes te vs σ H Q) ∧ (SqL K H a xs → LcW (Itl K a) (gName j) tYes te vs σ H Q) := by
  have body : ∀ (Dl : Addr), H Dl = none → ∀ (i : Nat) (x : V) (H' : Hp), xs[i]? = some x → (Ex H H' ∧ ∃ acc, H' Dl = some (.lst acc) ∧ acc.length = i ∧ ∀ i y, acc[i]? = some y → R i y H') →
      gName j x (wipe σ vs) H' fun σ2 H2 => wipe σ2 vs = wipe σ vs ∧ tYes σ2 H2 fun b H3 => if b = true then te σ2 H3 fun y H4 => ∃ acc, H4 Dl = some (.lst acc) ∧ acc.length < sizeLine ∧ (Ex H (upd H4 Dl (.lst (acc ++ [y]))) ∧ ∃ acc', (upd H4 Dl (.lst (acc ++ [y]))) Dl = some (.lst acc') ∧ acc'.length = i + 1 ∧ ∀ i' y', acc'[i']? = some y' → R i' y' (upd H4 Dl (.lst (acc ++ [y])))) else (Ex H H3 ∧ ∃ acc, H3 Dl = some (.lst acc) ∧ acc.length = i + 1 ∧ ∀ i y, acc[i]? = some y → R i y H3) := fun Dl hD i x H' hx p => by
    obtain ⟨e, acc, h1, h2, h3⟩ := p
    refine ⟨hw x, ?_⟩
    refine rd_yes ?_
    rw [if_pos rfl]
    refine hs i x H' _ hx e fun y H4 e4 r => ?_
    have tm : TM H4 (upd H4 Dl (.lst (acc ++ [y]))) := TM.tx (Tx.lst (e4 _ _ h1))
    refine ⟨acc, e4 _ _ h1, Nat.lt_of_le_of_lt (by rw [h2]; exact Nat.le_of_lt (List.getElem?_eq_some_iff.mp hx).1) hz, (e.trans e4).mut hD, _, upd_same, by rw [List.length_append, h2]; rfl, fun i' y' hy' => ?_⟩
    by_cases hi : i' < acc.length
    · rw [List.getElem?_append_left hi] at hy'
      exact hm _ _ _ _ ((TM.ex e4).trans tm) (h3 i' y' hy')
    · have hi' : i' = acc.length := by
        have := (List.getElem?_eq_some_iff.mp hy').1
        simp at this
        omega
      subst hi'
      rw [List.getElem?_append_right (Nat.le_refl _), Nat.sub_self] at hy'
      cases Option.some.inj hy'
      rw [h2]
      exact hm _ _ _ _ tm r
  exact ⟨fun h Dl hD => lc_tup (xs := xs) (fun i H' => Ex H H' ∧ ∃ acc, H' Dl = some (.lst acc) ∧ acc.length = i ∧ ∀ i y, acc[i]? = some y → R i y H') ⟨Ex.new hD, [], upd_same, rfl, fun i y h => by cases h⟩ (fun i H' _ p => ex_t p.1 h) (body Dl hD) (fun H' ⟨e, acc, h1, h2, h3⟩ => q Dl acc H' e h1 h2 h3),
    fun h Dl hD => lc_list (xs := xs) (fun i H' => Ex H H' ∧ ∃ acc, H' Dl = some (.lst acc) ∧ acc.length = i ∧ ∀ i y, acc[i]? = some y → R i y H') ⟨Ex.new hD, [], upd_same, rfl, fun i y h => by cases h⟩ (fun i H' _ p => ex_l p.1 h) (body Dl hD) (fun H' ⟨e, acc, h1, h2, h3⟩ => q Dl acc H' e h1 h2 h3)⟩
theorem rd_popAt {l : Addr} {xs : List V} {j : Nat} {y : V} (h : H l = some (.lst xs)) (hy : xs[j]? = some y) (hz : j < 1000000) (q : Q y (upd H l (.lst (xs.eraseIdx j)))) : rPopAt (.ref l) [.int (j : Int)] H Q :=
  ⟨l, xs, j, j, y, rfl, rfl, h, by omega, by omega, (ixN_seq (ixN_nat (List.getElem?_eq_some_iff.mp hy).1)).1, hy, q⟩
end
section
variable {P : Program} {w : World} {K : PySem.W.Frag} {mg : Str → Option Value} {base : Heap}
abbrev iv (P : List Nat) : List V := P.map fun (n : Nat) => V.int (n : Int)
/-- _law_led(value, places) -/
def spLed : Sp := fun vs H Q _ => ∃ (v : V) (pl : Addr) (P : List Nat), vs = [v, .ref pl] ∧ H pl = some (.lst (iv P)) ∧
  ((∃ x, Vr H v x ∧ OkV P.length x ∧ ∀ r H', Ex H H' → Vr H' r (ld P x) → Q r H') ∨ ∃ z, v = .str z ∧ Q v H)
abbrev s_law_led : Stmt := topS 30
theorem sc_law_led : FnScope ["value", "places"] ["value", "places"] (defScope s_law_led) := ⟨rfl, rfl, rfl, by decide +kernel, rfl, by decide +kernel, by decide +kernel⟩
set_option maxHeartbeats 2000000 in
theorem c_law_led (T : Txt K mg) (D : DefG K mg "_law_led" s_law_led ["value", "places"]) : CalG P w K mg base 1 "_law_led" spLed := by
  refine calG D sc_law_led (fun vs H Q E h => ?_) (fun cdv f A outer s0 H vs Q E hA hr h => ?_)
  · obtain ⟨v, pl, P, rfl, _⟩ := h
    rfl
  · obtain ⟨v, pl, P, rfl, hp, h⟩ := h
    refine ⟨_, pss_one (ps_ret (pe_ifExp (PW.pt (pw_and (pt_val (pe_callB call_isi (by rfl) T.isinstance (by decide +kernel) (pa_cons (pv 0) (pa_cons (pe_bltn (v := .ty "tuple") (by rfl) T.tuple (by decide +kernel) rfl) pa_nil)))) (pw_and (pt_cmpR (op_neD hr.units) (pv 0) (pe_tup pa_nil) (nomark _)) (pw_and1 (pt_cmpR op_eq (pe_ix ix_tup (pv 0) pe_int (fun _ _ => rfl)) pe_str (nomark _)))))) (pe_tup (pa_cons pe_str (pa_cons (pe_ix ix_list (pv 1) (pe_ix ix_tup (pv 0) pe_int (fun _ _ => rfl)) (fun _ _ => rfl)) pa_nil))) (pv 0))), ?_⟩
    walk_at "rd"
    refine rd_ifE ?_
    walk_at "rd"
    rcases h with ⟨x, hx, ok, q⟩ | ⟨z, rfl, q⟩
    · cases x with
      | bl b =>
        cases (show v = .bl b from hx)
        refine rd_isi (.ty _) (.base (.bl b)) (b := false) (kit_ty (by decide +kernel)) ?_
        walk_at "rd"
        refine iteF ?_
        refine iteF ?_
        walk_at "rd"
        exact q _ H (Ex.refl _) rfl
      | it i =>
        cases (show v = .int i from hx)
        refine rd_isi (.ty _) (.base (.int i)) (b := false) (kit_ty (by decide +kernel)) ?_
        walk_at "rd"
        refine iteF ?_
        refine iteF ?_
        walk_at "rd"
        exact q _ H (Ex.refl _) rfl
      | nl =>
        have hx0 := hx
        obtain ⟨a, rfl, h⟩ := id hx
        refine rd_isi (.ty _) (.base (.tup h)) (b := true) (kit_ty (by decide +kernel)) ?_
        walk_at "rd"
        refine iteT ?_
        walk_at "rd"
        refine rd_newT fun p H1 np e1 h1 => ?_
        refine rd_neD (hx0.mono (TM.ex e1)).dp (.tup (st_of h1) .nil) (shaped_Vd .nl) shaped_nil ?_
        walk_at "rd"
        refine iteF ?_
        refine iteF ?_
        walk_at "rd"
        exact q _ H1 e1 ⟨a, rfl, e1 _ _ h⟩
      | nm c =>
        have hx0 := hx
        obtain ⟨a, rfl, h⟩ := id hx
        refine rd_isi (.ty _) (.base (.tup h)) (b := true) (kit_ty (by decide +kernel)) ?_
        walk_at "rd"
        refine iteT ?_
        walk_at "rd"
        refine rd_newT fun p H1 np e1 h1 => ?_
        refine rd_neD (hx0.mono (TM.ex e1)).dp (.tup (st_of h1) .nil) (shaped_Vd (.nm c)) shaped_nil ?_
        walk_at "rd"
        refine iteT ?_
        walk_at "rd"
        refine rd_ixT (st_of (e1 _ _ h)) rfl ?_
        walk_at "rd"
        refine rd_eq rfl ?_
        walk_at "rd"
        refine if_no (by decide +kernel) ?_
        walk_at "rd"
        exact q _ H1 e1 ⟨a, rfl, e1 _ _ h⟩
      | th i =>
        have hx0 := hx
        obtain ⟨a, rfl, h⟩ := id hx
        refine rd_isi (.ty _) (.base (.tup h)) (b := true) (kit_ty (by decide +kernel)) ?_
        walk_at "rd"
        refine iteT ?_
        walk_at "rd"
        refine rd_newT fun p H1 np e1 h1 => ?_
        refine rd_neD (hx0.mono (TM.ex e1)).dp (.tup (st_of h1) .nil) (shaped_Vd (.th i)) shaped_nil ?_
        walk_at "rd"
        refine iteT ?_
        walk_at "rd"
        refine rd_ixT (st_of (e1 _ _ h)) rfl ?_
        walk_at "rd"
        refine rd_eq rfl ?_
        walk_at "rd"
        refine if_yes rfl ?_
        walk_at "rd"
        have hi : i < P.length := ok
        refine rd_ixT (st_of (e1 _ _ h)) rfl ?_
        refine rd_ixL (sq_of (e1 _ _ hp)) (atI_nat (v := .int (P[i] : Int)) (by rw [List.getElem?_map, List.getElem?_eq_getElem hi]; rfl)) ?_
        walk_at "rd"
        refine rd_newT fun p2 H2 n2 e2 h2 => ?_
        refine q _ H2 (e1.trans e2) ⟨p2, rfl, ?_⟩
        rw [h2, List.getD_eq_getElem?_getD, List.getElem?_eq_getElem hi]
        rfl
    · refine rd_isi (.ty _) (.base (.str z)) (b := false) (kit_ty (by decide +kernel)) ?_
      walk_at "rd"
      refine iteF ?_
      refine iteF ?_
      walk_at "rd"
      exact q
end
end K22
namespace K22
open PySem PySem.Spec PyProof.Rows L2 Kt Evl
def LstRgW (a b : Int) (H1 : Hp) (Q : VK) : Prop := RgOk a b ∧ ∀ q, H1 q = none → Q (.ref q) (upd H1 q (.lst (rgV a b)))
section
variable {σ : L2.St} {H : Hp} {Q : VK} {te : TE} {tr : L2.St → Hp → (Int → Int → Hp → Prop) → Prop}
theorem rd_lstRg (q : tr σ H fun a b H1 => LstRgW a b H1 Q) : tLstRg tr σ H Q := q
theorem rd_rg1 {QR : Int → Int → Hp → Prop} (q : te σ H fun x H1 => ∃ n, x = .int n ∧ QR 0 n H1) : tRg1 te σ H QR := q
theorem rd_rep {l : Addr} {xs : List V} {n : Nat} (h : H l = some (.lst xs)) (hn : n ≤ 1000000) (hz : xs.length * n ≤ sizeLine) (q : ∀ p H', H p = none → Ex H H' → H' p = some (.lst (List.replicate n xs).flatten) → Q (.ref p) H') : rRep (.ref l) (.int (n : Int)) H Q :=
  ⟨l, n, xs, rfl, rfl, h, by omega, by omega, by rw [Int.toNat_natCast]; exact hz, fun p hp => by rw [Int.toNat_natCast]; exact q p _ hp (Ex.new hp) upd_same⟩
end
theorem flat_rep {α : Type} (x : α) : ∀ n : Nat, (List.replicate n [x]).flatten = List.replicate n x
  | 0 => rfl
  | n + 1 => by
    rw [List.replicate_succ, List.flatten_cons, flat_rep x n, List.replicate_succ]
    rfl
theorem rg_iv (n : Nat) : rgV 0 (n : Int) = iv (List.range n) := by
  unfold rgV iv
  rw [Int.sub_zero, Int.toNat_natCast]
  apply List.map_congr_left
  intro i _
  rw [Int.zero_add]
theorem erase_perm {α : Type} : ∀ (L : List α) (j : Nat) (h : j < L.length), (L[j] :: L.eraseIdx j).Perm L
  | [], _, h => absurd h (Nat.not_lt_zero _)
  | a :: L, 0, _ => List.Perm.refl _
  | a :: L, j + 1, h => (List.Perm.swap a (L[j]'(Nat.lt_of_succ_lt_succ h)) (L.eraseIdx j)).trans (List.Perm.cons a (erase_perm L j (Nat.lt_of_succ_lt_succ h)))
theorem erase_map {α β : Type} (f : α → β) : ∀ (L : List α) (j : Nat), (L.map f).eraseIdx j = (L.eraseIdx j).map f
  | [], _ => rfl
  | a :: L, 0 => rfl
  | a :: L, j + 1 => congrArg (f a :: ·) (erase_map f L j)
/-- while the places are drawn: of Lf are left, P are taken -/
structure Pl (H0 : Hp) (m c lf pl : Addr) (Hc : Hp) (Lf P : List Nat) (N n : Nat) : Prop where
  kp : Keeps m H0 Hc
  fl : H0 lf = none
  fp : H0 pl = none
  ne : lf ≠ pl
  hl : Hc lf = some (.lst (iv Lf))
  hp : Hc pl = some (.lst (iv P))
  nd : (P ++ Lf).Nodup
  lt : ∀ z ∈ P ++ Lf, z < N
  len : P.length + Lf.length = N
  d : Drw Hc m c n
section
variable {H0 Hc H' : Hp} {m c lf pl : Addr} {Lf P : List Nat} {N n n' : Nat}
theorem Pl.draw (g : Pl H0 m c lf pl Hc Lf P N n) (e : Keeps m Hc H') (d : Drw H' m c n') : Pl H0 m c lf pl H' Lf P N n' := ⟨g.kp.trans e, g.fl, g.fp, g.ne, e _ _ (g.d.lne g.hl) g.hl, e _ _ (g.d.lne g.hp) g.hp, g.nd, g.lt, g.len, d⟩
theorem Pl.take (g : Pl H0 m c lf pl Hc Lf P N n) {j y : Nat} (hj : Lf[j]? = some y) : Pl H0 m c lf pl (upd (upd Hc lf (.lst ((iv Lf).eraseIdx j))) pl (.lst (iv P ++ [.int (y : Int)]))) (Lf.eraseIdx j) (P ++ [y]) N n := by
  obtain ⟨hlt, rfl⟩ := List.getElem?_eq_some_iff.mp hj
  have pm : (P ++ [Lf[j]] ++ Lf.eraseIdx j).Perm (P ++ Lf) := by
    rw [List.append_assoc]
    exact List.Perm.append_left P (erase_perm Lf j hlt)
  refine ⟨(g.kp.mut g.fl).mut g.fp, g.fl, g.fp, g.ne, ?_, ?_, pm.nodup_iff.mpr g.nd, fun z hz => g.lt z (pm.mem_iff.mp hz), ?_, ?_⟩
  · rw [upd_ne g.ne, upd_same]
    unfold iv
    rw [erase_map]
  · rw [upd_same]
    unfold iv
    rw [List.map_append]
    rfl
  · have := g.len
    rw [List.length_append, List.length_eraseIdx_of_lt hlt]
    simp
    omega
  · refine Drw.oth (Drw.oth g.d (g.d.lne g.hl).symm) (g.d.lne g.hp).symm
end
section
variable {P : Program} {w : World} {K : PySem.W.Frag} {mg : Str → Option Value} {base : Heap}
/-- _law_moved(m, store, values) -/
def spMoved (K : PySem.W.Frag) : Sp := fun vs H Q _ => ∃ (m c : Addr) (n : Nat) (s v u : V) (vl : Addr) (S : List Th) (x y : Va), vs = [.ref m, s, .ref vl] ∧ Drw H m c n ∧ Cel K H c ∧ n ≤ 700000 ∧ Sr H s S ∧ OkS S ∧ S.length ≤ 7 ∧ (∀ t ∈ S, okT S.length t) ∧ H vl = some (.lst [v, u]) ∧ Vr H v x ∧ Vr H u y ∧ OkV S.length x ∧ OkV S.length y ∧
  ∀ (p l : Addr) (s' v' u' : V) (S' : List Th) (P : List Nat) (H' : Hp), Keeps m H H' → Drw H' m c (n + 10) → H' p = some (.tup [s', .ref l]) → H' l = some (.lst [v', u']) → Sr H' s' S' → Mv S S' P → S'.length ≤ 9 → OkS S' → Vr H' v' (ld P x) → Vr H' u' (ld P y) → OkV S'.length (ld P x) → OkV S'.length (ld P y) → Q (.ref p) H'
abbrev s_law_moved : Stmt := topS 29
theorem sc_law_moved : FnScope ["m", "store", "values", "left", "places", "k", "found", "thing", "part", "value"] ["m", "store", "values"] (defScope s_law_moved) := ⟨rfl, rfl, rfl, by decide +kernel, rfl, by decide +kernel, by decide +kernel⟩
set_option maxHeartbeats 8000000 in
theorem c_law_moved (T : Txt K mg) (D : DefG K mg "_law_moved" s_law_moved ["m", "store", "values"]) (c_law_draw : CalG P w K mg base 1 "_law_draw" (spDraw K)) (c_law_led : CalG P w K mg base 1 "_law_led" spLed) : CalG P w K mg base 2 "_law_moved" (spMoved K) := by
  refine calG D sc_law_moved (fun vs H Q E h => ?_) (fun cdv f A outer s0 H vs Q E hA hr h => ?_)
  · obtain ⟨m, c, n, s, v, u, vl, S, x, y, rfl, _⟩ := h
    rfl
  · obtain ⟨m, c, n, s, v, u, vl, S, x, y, rfl, hd, hc, hn, hs, hS, h7, hok, hvl, hx, hy, ox, oy, q⟩ := h
    obtain ⟨sa, xs, rfl, hsa, hsl⟩ := hs
    have hxl : xs.length = S.length := hsl.1
    refine ⟨_, pss_cons (ps_asg (pe_tup (pa_cons (pe_listRg rfl (by rfl) T.list (prg_1 (by rfl) T.range (pe_op op_add (pe_callB call_lenO (by rfl) T.len (by decide +kernel) (pa_cons (pv 1) pa_nil)) pe_int))) (pa_cons (pe_lst pa_nil) pa_nil))) (pg_tup rfl (pgs_cons (pg_name (i := 3) sc_law_moved.nd rfl (Or.inl rfl)) (pgs_cons (pg_name (i := 4) sc_law_moved.nd rfl (Or.inr rfl)) pgs_nil))))
      (pss_cons (ps_for PassesOwn.never rfl (pi_range1 (by rfl) T.range (pa_cons (pe_callB call_lenO (by rfl) T.len (by decide +kernel) (pa_cons (pv 1) pa_nil)) pa_nil)) (pg_name (i := 5) sc_law_moved.nd rfl (Or.inl rfl))
        (pss_one (ps_expr (pe_bm PySem.F.plainAttrs_list PySem.F.slot_list_append PySem.F.type_list_append mt_append (pv 4) (pa_cons (pe_bm PySem.F.plainAttrs_list PySem.F.slot_list_pop PySem.F.type_list_pop mt_popAt (pv 3) (pa_cons (pe_cG c_law_draw hA hr (by decide) (by rfl) (pa_cons (pv 0) (pa_cons (pe_callB call_lenO (by rfl) T.len (by decide +kernel) (pa_cons (pv 3) pa_nil)) pa_nil))) pa_nil)) pa_nil)))))
      (pss_cons (ps_set (i := 6) sc_law_moved.nd rfl (Or.inl rfl) (pe_op op_rep (pe_lst (pa_cons (pe_tup (pa_cons pe_str (pa_cons pe_int (pa_cons (pe_tup pa_nil) pa_nil)))) pa_nil)) (pe_op op_add (pe_callB call_lenO (by rfl) T.len (by decide +kernel) (pa_cons (pv 1) pa_nil)) pe_int)))
      (pss_cons (ps_for PassesOwn.never rfl (pi_enT (by rfl) T.enumerate (pa_cons (pv 1) pa_nil)) (pg_tup rfl (pgs_cons (pg_name (i := 5) sc_law_moved.nd rfl (Or.inl rfl)) (pgs_cons (pg_name (i := 7) sc_law_moved.nd rfl (Or.inl rfl)) pgs_nil)))
        (pss_one (ps_asg (pe_ifExp (pt_cmpR op_eq (pe_ix ix_tup (pv 7) pe_int (fun _ _ => rfl)) pe_str (nomark _)) (pe_callTy call_tupO (by rfl) T.tuple (by decide +kernel) (pa_cons (pe_lc (own := [("part", 8)]) (g := gName 8) (tt := tYes) (by rfl) sc_law_moved.nd (pi_tup (pv 7)) (blkOk_by (own := [("part", 8)]) (N := ["m", "store", "values", "left", "places", "k", "found", "thing", "part", "value"]) (sc := defScope s_law_moved) (by decide +kernel)) (fun _ _ _ _ _ => pg_name (i := 8) sc_law_moved.nd rfl (Or.inl rfl)) (fun _ _ _ _ _ => pts_nil) (fun _ _ _ _ _ => pe_cG c_law_led hA hr (by decide) (by rfl) (pa_cons (pv 8) (pa_cons (pv 4) pa_nil)))) pa_nil)) (pv 7)) (pg_sub (pv 6) (pe_ix ix_list (pv 4) (pv 5) (fun _ _ => rfl)) set_list))))
      (pss_one (ps_ret (pe_tup (pa_cons (pe_callTy call_tupO (by rfl) T.tuple (by decide +kernel) (pa_cons (pv 6) pa_nil)) (pa_cons (pe_lc (own := [("value", 9)]) (g := gName 9) (tt := tYes) (by rfl) sc_law_moved.nd (pi_list (pv 2)) (blkOk_by (own := [("value", 9)]) (N := ["m", "store", "values", "left", "places", "k", "found", "thing", "part", "value"]) (sc := defScope s_law_moved) (by decide +kernel)) (fun _ _ _ _ _ => pg_name (i := 9) sc_law_moved.nd rfl (Or.inl rfl)) (fun _ _ _ _ _ => pts_nil) (fun _ _ _ _ _ => pe_cG c_law_led hA hr (by decide) (by rfl) (pa_cons (pv 9) (pa_cons (pv 4) pa_nil)))) pa_nil)))))))), ?_⟩
    walk_at "rd"
    refine rd_lstRg ?_
    refine rd_rg1 ?_
    walk_at "rd"
    refine rd_lenO (.inr (st_of hsa)) ?_
    walk_at "rd"
    rw [hxl]
    refine ⟨⟨by decide, by decide, by omega, by omega, by omega⟩, fun lf nl => ?_⟩
    have e1 : Ex H (upd H lf (.lst (rgV 0 ((S.length : Int) + 2)))) := Ex.new nl
    have h1 : (upd H lf (.lst (rgV 0 ((S.length : Int) + 2)))) lf = some (.lst (iv (List.range (S.length + 2)))) := by
      rw [upd_same, ← rg_iv]
      rfl
    generalize upd H lf (.lst (rgV 0 ((S.length : Int) + 2))) = H1 at e1 h1 ⊢
    walk_at "rd"
    refine rd_newL fun pl H2' np e2' h2' => ?_
    walk_at "rd"
    refine rd_newT fun pp H2 npp e2'' hpp => ?_
    have e2 := e2'.trans e2''
    have h2 := e2'' _ _ h2'
    refine rd_gtup (st_of hpp) rfl ?_
    walk_at "rd"
    refine rd_lenO (.inr (st_of (e2 _ _ (e1 _ _ hsa)))) ?_
    rw [hxl]
    walk_at "rd"
    refine rd_rngW (by omega) (by omega) ?_
    rw [Int.toNat_natCast]
    have lp : lf ≠ pl := fun e => by rw [← e, h1] at np; cases np
    have g2 : Pl H m c lf pl H2 (List.range (S.length + 2)) [] (S.length + 2) n :=
      ⟨Keeps.ex (e1.trans e2), nl, fresh_back e1 np, lp, e2 _ _ h1, h2, by rw [List.nil_append]; exact List.nodup_range, (fun z hz => List.mem_range.mp hz), by simp, hd.keep (e1.trans e2)⟩
    refine rd_forN (n := S.length) (fun k σ H' => ∃ (y5 : Option V) (Lf P : List Nat), σ = [some (.ref m), some (.ref sa), some (.ref vl), some (.ref lf), some (.ref pl), y5, none, none, none, none] ∧ P.length = k ∧ Pl H m c lf pl H' Lf P (S.length + 2) (n + k) ∧ TM H H')
      ⟨none, _, [], rfl, rfl, g2, TM.ex (e1.trans e2)⟩ (fun k σ H3 hk p => ?_) (fun σ H3 p => ?_)
    · obtain ⟨y5, Lf, P', rfl, hP, g, tm⟩ := p
      walk_at "rd"
      refine rd_tyL (sq_of g.hp) ?_
      walk_at "rd"
      refine rd_tyL (sq_of g.hl) ?_
      walk_at "rd"
      refine rd_lenO (.inl (sq_of g.hl)) ?_
      have hll : ((iv Lf).length : Int) = (Lf.length : Int) := by unfold iv; rw [List.length_map]
      rw [hll]
      walk_at "rd"
      have hlen := g.len
      refine ⟨m, c, Lf.length, _, rfl, g.d, hd.cel g.kp hc, by omega, by omega, by omega, fun r H4 r0 r1 k4 d4 => ?_⟩
      have g4 := g.draw k4 d4
      obtain ⟨j, rfl⟩ : ∃ j : Nat, r = (j : Int) := ⟨r.toNat, (Int.toNat_of_nonneg r0).symm⟩
      have hj : j < Lf.length := by omega
      have hjy : Lf[j]? = some Lf[j] := List.getElem?_eq_getElem hj
      walk_at "rd"
      refine rd_popAt g4.hl (y := .int (Lf[j] : Int)) (by unfold iv; rw [List.getElem?_map, hjy]; rfl) (by omega) ?_
      walk_at "rd"
      have hp4 : (upd H4 lf (.lst ((iv Lf).eraseIdx j))) pl = some (.lst (iv P')) := (upd_ne g4.ne.symm).trans g4.hp
      refine rd_app hp4 (by unfold iv; rw [List.length_map]; exact Nat.lt_of_lt_of_le (by omega : P'.length < 100) (by decide)) ?_
      refine ⟨_, _, _, rfl, by rw [List.length_append, hP]; rfl, g4.take hjy, ?_⟩
      have t1 : TM H4 (upd H4 lf (.lst ((iv Lf).eraseIdx j))) := TM.tx (Tx.lst g4.hl)
      exact ((tm.trans (g.d.tm k4)).trans t1).trans (TM.tx (Tx.lst hp4))
    · obtain ⟨y5, Lf, P', rfl, hP, g, tm⟩ := p
      have nd : P'.Nodup := (List.nodup_append.mp g.nd).1
      have lt : ∀ z ∈ P', z < S.length + 2 := fun z hz => g.lt z (List.mem_append_left _ hz)
      walk_at "rd"
      refine rd_newT fun q0 H4 n4 e4 h4 => ?_
      walk_at "rd"
      refine rd_newT fun q1 H5 n5 e5 h5 => ?_
      walk_at "rd"
      refine rd_newL fun l6 H6 n6 e6 h6 => ?_
      walk_at "rd"
      have e46 := (e4.trans e5).trans e6
      have tm6 := tm.trans (TM.ex e46)
      refine rd_lenO (.inr (st_of (tm6 _ _ hsa))) ?_
      rw [hxl]
      walk_at "rd"
      refine rd_rep (n := S.length + 2) h6 (by omega) (by rw [List.length_singleton, Nat.one_mul]; exact Nat.le_trans (by omega : S.length + 2 ≤ 9) (by decide)) fun fl H7 n7 e7 h7' => ?_
      rw [flat_rep] at h7'
      have e47 := e46.trans e7
      have tm7 := tm.trans (TM.ex e47)
      have k7 := g.kp.trans (Keeps.ex e47)
      have nfl : H fl = none := by
        cases z : H fl with
        | none => rfl
        | some o =>
          by_cases e : fl = m
          · obtain ⟨kvs, hm⟩ := (g.d.keep e46).at
            rw [e, hm] at n7
            cases n7
          · have := e46 _ _ (g.kp fl o e z)
            rw [this] at n7
            cases n7
      have okp : okT (S.length + 2) (.pr (.it 7) .nl) := ⟨by show (7 : Int).natAbs < 10 ^ 38; decide, trivial⟩
      have g7 : Ms H m c fl H7 (List.replicate (S.length + 2) (.ref q1)) (List.replicate (S.length + 2) (.pr (.it 7) .nl)) (S.length + 2) (n + S.length) :=
        ⟨k7, nfl, h7', ⟨by simp, fun i t ht => by
          have hi : i < S.length + 2 := by have := (List.getElem?_eq_some_iff.mp ht).1; simpa using this
          rw [List.getElem?_replicate_of_lt hi] at ht ⊢
          cases Option.some.inj ht
          exact ⟨_, rfl, q1, _, _, rfl, e7 _ _ (e6 _ _ h5), rfl, q0, rfl, e7 _ _ (e6 _ _ (e5 _ _ h4))⟩⟩, fun t ht => by rw [List.eq_of_mem_replicate ht]; exact okp, g.d.keep e47⟩
      have hp7 : H7 pl = some (.lst (iv P')) := e47 _ _ g.hp
      walk_at "rd"
      refine rd_enW (st_of (tm7 _ _ hsa)) ?_
      refine rd_forEn xs (fun i σ H' => ∃ (y5 y7 : Option V) (fs : List V) (S' : List Th), σ = [some (.ref m), some (.ref sa), some (.ref vl), some (.ref lf), some (.ref pl), y5, some (.ref fl), y7, none, none] ∧ Ms H m c fl H' fs S' (S.length + 2) (n + S.length) ∧ H' pl = some (.lst (iv P')) ∧ S'.length = S.length + 2 ∧ (∀ (j : Nat) (t : Th) (p : Nat), j < i → S[j]? = some t → P'[j]? = some p → S'[p]? = some (ldT P' t)) ∧ TM H H')
        ⟨_, none, _, _, rfl, g7, hp7, by simp, (fun j t p hj => absurd hj (Nat.not_lt_zero _)), tm7⟩ (fun i σ H' _ p => ?_) (fun i xk T0 σ H' H8 hxk p nT e8 hT => ?_) (fun σ H' p => ?_)
      · obtain ⟨_, _, _, _, _, _, _, _, _, tm⟩ := p
        exact st_of (tm _ _ hsa)
      · obtain ⟨y5, y7, fs, S', rfl, g, hp, hS', hat, tm⟩ := p
        have hi : i < S.length := by have := (List.getElem?_eq_some_iff.mp hxk).1; omega
        obtain ⟨u0, hu0, ht⟩ := hsl.2 i S[i] (List.getElem?_eq_getElem hi)
        rw [hxk] at hu0
        cases Option.some.inj hu0
        have okt := hok S[i] (List.getElem_mem hi)
        have hSi : S[i]? = some S[i] := List.getElem?_eq_getElem hi
        generalize S[i] = t at ht okt hSi
        have tm8 := tm.trans (TM.ex e8)
        have g8 := g.ex e8
        have hp8 := e8 _ _ hp
        have hPi : P'[i]? = some (P'[i]'(by omega)) := List.getElem?_eq_getElem _
        generalize P'[i]'(by omega) = pi at hPi
        have hpi : pi < S.length + 2 := lt pi (List.mem_of_getElem? hPi)
        have okl : ∀ z : Va, OkV S.length z → OkV (S.length + 2) (ld P' z) := fun z hz => by
          cases z with
          | th j =>
            have hj : j < S.length := hz
            show P'.getD j 0 < S.length + 2
            rw [List.getD_eq_getElem?_getD, List.getElem?_eq_getElem (by omega)]
            exact lt _ (List.getElem_mem _)
          | nl => trivial
          | nm c => trivial
          | bl b => trivial
          | it j => exact hz
        refine rd_gtup (st_of hT) rfl ?_
        walk_at "rd"
        -- the thing is put at its place
        have fin : ∀ {H9 : Hp} {z : V} {t' : Th}, Ex H8 H9 → Tr H9 z t' → t' = ldT P' t → okT (S.length + 2) t' → gSub (tVar 6) (tOp (rIxL K) (tVar 4) (tVar 5)) rSetL z [some (.ref m), some (.ref sa), some (.ref vl), some (.ref lf), some (.ref pl), some (.int (i : Int)), some (.ref fl), some xk, none, none] H9 fun σ' H' => ∃ (y5 y7 : Option V) (fs : List V) (S' : List Th), σ' = [some (.ref m), some (.ref sa), some (.ref vl), some (.ref lf), some (.ref pl), y5, some (.ref fl), y7, none, none] ∧ Ms H m c fl H' fs S' (S.length + 2) (n + S.length) ∧ H' pl = some (.lst (iv P')) ∧ S'.length = S.length + 2 ∧ (∀ (j : Nat) (t : Th) (p : Nat), j < i + 1 → S[j]? = some t → P'[j]? = some p → S'[p]? = some (ldT P' t)) ∧ TM H H' := fun {H9 z t'} e9 hz et ot => by
          have g9 := g8.ex e9
          refine rd_gsub ?_
          walk_at "rd"
          refine rd_ixL (sq_of (e9 _ _ hp8)) (atI_nat (v := .int (pi : Int)) (by unfold iv; rw [List.getElem?_map, hPi]; rfl)) ?_
          refine rd_setL g9.hl (by rw [g9.tl.1, hS']; exact hpi) ?_
          have hne : pl ≠ fl := ne_of (e9 _ _ hp8) g9.hl (fun zz => by
            have z2 := HO.lst.inj zz
            have z3 := congrArg List.length z2
            unfold iv at z3
            rw [List.length_map, g9.tl.1, hS'] at z3
            omega)
          refine ⟨_, _, _, _, rfl, g9.set (by rw [hS']; exact hpi) hz ot, (upd_ne hne).trans (e9 _ _ hp8), by rw [List.length_set]; exact hS', fun j tj pj hj h1 h2 => ?_, (tm8.trans (TM.ex e9)).trans (TM.tx (Tx.lst g9.hl))⟩
          by_cases e : j = i
          · subst e
            rw [hSi] at h1
            rw [hPi] at h2
            cases h1
            cases h2
            rw [List.getElem?_set_self (by rw [hS']; exact hpi), et]
          · have hpp : pi ≠ pj := fun z => e ((List.getElem?_inj (by omega) nd).mp (h2.trans (z ▸ hPi.symm)))
            rw [List.getElem?_set_ne hpp]
            exact hat j tj pj (by omega) h1 h2
        refine rd_ifE ?_
        cases t with
        | fn =>
          have ht0 := ht.mono tm8
          obtain ⟨a, b, c', rfl, ha, _⟩ := ht
          walk_at "rd"
          refine rd_ixT (st_of (tm8 _ _ ha)) rfl ?_
          walk_at "rd"
          refine rd_eq rfl ?_
          walk_at "rd"
          refine if_no (by decide +kernel) ?_
          refine rd_var rfl ?_
          exact fin (Ex.refl _) ht0 rfl trivial
        | kp =>
          have ht0 := ht.mono tm8
          obtain ⟨a, b, c', rfl, ha, _⟩ := ht
          walk_at "rd"
          refine rd_ixT (st_of (tm8 _ _ ha)) rfl ?_
          walk_at "rd"
          refine rd_eq rfl ?_
          walk_at "rd"
          refine if_no (by decide +kernel) ?_
          refine rd_var rfl ?_
          exact fin (Ex.refl _) ht0 rfl trivial
        | pr x1 y1 =>
          obtain ⟨a, u1, w1, rfl, ha, v1, v2⟩ := ht.mono tm8
          walk_at "rd"
          refine rd_ixT (st_of ha) rfl ?_
          walk_at "rd"
          refine rd_eq rfl ?_
          walk_at "rd"
          refine if_yes rfl ?_
          walk_at "rd"
          refine rd_tupW (st_of ha) ?_
          refine (rd_lcMap (fun i y H => match i with | 0 => y = .str "pair" | 1 => Vr H y (ld P' x1) | 2 => Vr H y (ld P' y1) | _ => True) (fun i y H1 H2 e r => ?_) [.str "pair", u1, w1] (Nat.lt_of_lt_of_le (by decide : 3 < 4) (by decide)) (fun _ => rfl) (fun i x H' Q' hi e qq => ?_) (fun Dl acc H9 e9 hDl hlen hacc => ?_)).1 (st_of ha)
          · match i with
            | 0 => exact r
            | 1 => exact Vr.mono e r
            | 2 => exact Vr.mono e r
            | _ + 3 => trivial
          · walk_at "rd"
            match i with
            | 0 =>
              cases Option.some.inj hi
              exact ⟨_, pl, P', rfl, e _ _ hp8, .inr ⟨_, rfl, qq _ _ (Ex.refl _) rfl⟩⟩
            | 1 =>
              cases Option.some.inj hi
              exact ⟨_, pl, P', rfl, e _ _ hp8, .inl ⟨x1, v1.mono (TM.ex e), by rw [hP]; exact okt.1, fun r H4 e4 hr => qq _ _ e4 hr⟩⟩
            | 2 =>
              cases Option.some.inj hi
              exact ⟨_, pl, P', rfl, e _ _ hp8, .inl ⟨y1, v2.mono (TM.ex e), by rw [hP]; exact okt.2, fun r H4 e4 hr => qq _ _ e4 hr⟩⟩
            | i + 3 => cases hi
          · match acc, hlen with
            | [z0, z1, z2], _ =>
              refine rd_tupO (sq_of hDl) fun pt H10 n10 e10 h10 => ?_
              have r0 : z0 = .str "pair" := hacc 0 z0 rfl
              have r1 : Vr H9 z1 (ld P' x1) := hacc 1 z1 rfl
              have r2 : Vr H9 z2 (ld P' y1) := hacc 2 z2 rfl
              subst r0
              exact fin (t' := .pr (ld P' x1) (ld P' y1)) (e9.trans e10) ⟨pt, z1, z2, rfl, h10, r1.mono (TM.ex e10), r2.mono (TM.ex e10)⟩ rfl ⟨okl _ okt.1, okl _ okt.2⟩
      · obtain ⟨y5, y7, fs, S', rfl, g, hp, hS', hat, tm⟩ := p
        have okl : ∀ z : Va, OkV S.length z → OkV (S.length + 2) (ld P' z) := fun z hz => by
          cases z with
          | th j =>
            have hj : j < S.length := hz
            show P'.getD j 0 < S.length + 2
            rw [List.getD_eq_getElem?_getD, List.getElem?_eq_getElem (by omega)]
            exact lt _ (List.getElem_mem _)
          | nl => trivial
          | nm c => trivial
          | bl b => trivial
          | it j => exact hz
        have M : Mv S S' P' := ⟨hS, hP, nd, fun i t p h1 h2 => hat i t p (by have := (List.getElem?_eq_some_iff.mp h1).1; omega) h1 h2⟩
        have hvl' : H' vl = some (.lst [v, u]) := g.kp _ _ (hd.lne hvl) hvl
        walk_at "rd"
        refine rd_tupO (sq_of g.hl) fun pt H9 n9 e9 h9 => ?_
        walk_at "rd"
        have tm9 := tm.trans (TM.ex e9)
        refine rd_lstW (sq_of (e9 _ _ hvl')) ?_
        refine (rd_lcMap (fun i y' H => match i with | 0 => Vr H y' (ld P' x) | 1 => Vr H y' (ld P' y) | _ => True) (fun i y H1 H2 e r => ?_) [v, u] (Nat.lt_of_lt_of_le (by decide : 2 < 3) (by decide)) (fun _ => rfl) (fun i z H' Q' hi e qq => ?_) (fun Dl acc H10 e10 hDl hlen hacc => ?_)).2 (sq_of (e9 _ _ hvl'))
        · match i with
          | 0 => exact Vr.mono e r
          | 1 => exact Vr.mono e r
          | _ + 2 => trivial
        · walk_at "rd"
          match i with
          | 0 =>
            cases Option.some.inj hi
            exact ⟨_, pl, P', rfl, e _ _ (e9 _ _ hp), .inl ⟨x, hx.mono (tm9.trans (TM.ex e)), by rw [hP]; exact ox, fun r H4 e4 hr => qq _ _ e4 hr⟩⟩
          | 1 =>
            cases Option.some.inj hi
            exact ⟨_, pl, P', rfl, e _ _ (e9 _ _ hp), .inl ⟨y, hy.mono (tm9.trans (TM.ex e)), by rw [hP]; exact oy, fun r H4 e4 hr => qq _ _ e4 hr⟩⟩
          | i + 2 => cases hi
        · match acc, hlen with
          | [z0, z1], _ =>
            walk_at "rd"
            refine rd_newT fun pr H11 n11 e11 h11 => ?_
            have e911 := (e9.trans e10).trans e11
            have r0 : Vr H10 z0 (ld P' x) := hacc 0 z0 rfl
            have r1 : Vr H10 z1 (ld P' y) := hacc 1 z1 rfl
            exact q pr Dl _ z0 z1 S' P' H11 (g.kp.trans (Keeps.ex e911)) ((g.d.keep e911).mono (by omega)) h11 (e11 _ _ hDl) ⟨pt, fs, rfl, e11 _ _ (e10 _ _ h9), g.tl.mono (TM.ex e911)⟩ M (by omega) (okS_of g.ok hS') (r0.mono (TM.ex e11)) (r1.mono (TM.ex e11)) (by rw [hS']; exact okl _ ox) (by rw [hS']; exact okl _ oy)
end
end K22
namespace K22
open PySem PySem.Spec PyProof.Rows L2 Kt Evl
section
variable {X : Cx}
def rReprV (K : PySem.W.Frag) : List V → Hp → VK → Prop := fun vs H Q => rReprD K vs H Q ∨ ∃ i : Int, vs = [.int i] ∧ i.natAbs < 10 ^ 38 ∧ Q (.str (PyData.shown (.int i))) H
theorem call_reprV (hA : X.A.guards = some []) (hu : X.A.units + 129 < cLine) : CallR X (.builtin "repr") (rReprV X.K) := by
  intro pins s σ H vs us Q I r h
  rcases h with h | ⟨i, e, hz, q⟩
  · exact call_reprD hA hu pins s σ H vs us Q I r h
  · exact SkE.call_repr_int pins s σ H vs us Q I r ⟨i, e, Nat.lt_trans (log2_small hz) (by decide), q⟩
end
section
variable {K : PySem.W.Frag} {H : Hp} {Q : VK}
theorem rd_reprV {a : Addr} {d : PyData} {w dp : Nat} (h : Dp K H (.ref a) d) (s : Sm w dp d) (hw : w ≤ 390000) (hd : dp ≤ 128) (q : Q (.str d.shown) H) : rReprV K [.ref a] H Q := .inl (rd_repr' h s hw hd q)
theorem rd_reprI {i : Int} (h : i.natAbs < 10 ^ 38) (q : Q (.str (PyData.shown (.int i))) H) : rReprV K [.int i] H Q := .inr ⟨i, rfl, h, q⟩
end
def Td : Th → PyData
  | .pr a b => .tuple [.str "pair", Vd a, Vd b]
  | .fn => .tuple [.str "fn", .tuple [.int 0], .tuple []]
  | .kp => .tuple [.str "kept", .tuple [], .tuple []]
theorem Tr.dp {K : PySem.W.Frag} {H : Hp} {v : V} : ∀ {t : Th}, Tr H v t → Dp K H v (Td t)
  | .pr x y, ⟨a, u, w, h1, h2, h3, h4⟩ => h1 ▸ .tup (st_of h2) (.cons (.str _) (.cons h3.dp (.cons h4.dp .nil)))
  | .fn, ⟨a, b, c, h1, h2, h3, h4⟩ => h1 ▸ .tup (st_of h2) (.cons (.str _) (.cons (.tup (st_of h3) (.cons (.int 0) .nil)) (.cons (.tup (st_of h4) .nil) .nil)))
  | .kp, ⟨a, b, c, h1, h2, h3, h4⟩ => h1 ▸ .tup (st_of h2) (.cons (.str _) (.cons (.tup (st_of h3) .nil) (.cons (.tup (st_of h4) .nil) .nil)))
theorem tl_dp {K : PySem.W.Frag} {H : Hp} : ∀ (xs : List V) (S : List Th), Tl H xs S → DpAll K H xs (S.map Td)
  | [], [], _ => .nil
  | [], t :: S, h => by have := h.1; cases this
  | x :: xs, [], h => by have := h.1; cases this
  | x :: xs, t :: S, h => by
    obtain ⟨u, hu, ht⟩ := h.2 0 t rfl
    cases Option.some.inj hu
    exact .cons ht.dp (tl_dp xs S ⟨Nat.succ.inj h.1, fun i t' h' => h.2 (i + 1) t' h'⟩)
theorem Sr.dp {K : PySem.W.Frag} {H : Hp} {v : V} {S : List Th} (h : Sr H v S) : Dp K H v (.tuple (S.map Td)) := let ⟨a, xs, h1, h2, h3⟩ := h; h1 ▸ .tup (st_of h2) (tl_dp xs S h3)
def Rd : Option (List Int) → PyData
  | none => .none
  | some r => .tuple (r.map .int)
theorem Rr.dp {K : PySem.W.Frag} {H : Hp} {v : V} : ∀ {o : Option (List Int)}, Rr H v o → Dp K H v (Rd o)
  | none, h => (show v = .non from h) ▸ .non
  | some r, ⟨a, h1, h2⟩ => h1 ▸ .tup (st_of h2) (dp_ints r)
theorem Rr.isN {H : Hp} {v : V} : ∀ {o : Option (List Int)}, Rr H v o → decide (v = .non) = o.isNone
  | none, h => by rw [show v = .non from h]; rfl
  | some r, ⟨a, h1, h2⟩ => by rw [h1]; rfl
def Ad : Except Nat Va → PyData
  | .ok y => .list [Vd y]
  | .error k => .int (k : Int)
theorem Ar.dp {K : PySem.W.Frag} {H : Hp} {v : V} : ∀ {e : Except Nat Va}, Ar H v e → Dp K H v (Ad e)
  | .ok y, ⟨l, u, h1, h2, h3⟩ => h1 ▸ .lst (sq_of h2) (.cons h3.dp .nil)
  | .error k, h => (show v = .int (k : Int) from h) ▸ .int _
/-! ### how great -/
theorem sm_nat {i : Nat} (h : i ≤ 100000) : Sm 130 0 (.int (i : Int)) := Sm.int (Nat.lt_of_le_of_lt (by omega : ((i : Int)).natAbs ≤ 100000) (by decide))
theorem sm_str {x : Str} (h : PyData.strOk x = true) (hz : x.cps.size ≤ 10) : Sm 10 0 (.str x) := (Sm.str h).more hz (Nat.le_refl _)
theorem sm_Vd {n : Nat} (hn : n ≤ 1000) : ∀ {x : Va}, OkV n x → Sm 300 1 (Vd x)
  | .th i, h => (Sm.tuple (.cons (sm_str ok_thing (by decide +kernel)) (.cons (sm_nat (show i ≤ 100000 by have : i < n := h; omega)) .nil))).more (by decide) (by decide)
  | .nl, _ => (Sm.tuple .nil).more (by decide) (by decide)
  | .nm c, _ => (Sm.tuple (.cons (sm_str ok_name (by decide +kernel)) (.cons (sm_str (ok_nm c) (by cases c <;> decide +kernel)) .nil))).more (by decide) (by decide)
  | .bl b, _ => Sm.bool.more (by decide) (by decide)
  | .it i, h => (Sm.int h).more (by decide) (by decide)
theorem sm_Td {n : Nat} (hn : n ≤ 1000) : ∀ {t : Th}, okT n t → Sm 1000 2 (Td t)
  | .pr a b, h => (Sm.tuple (.cons (sm_str (by decide +kernel) (by decide +kernel)) (.cons (sm_Vd hn h.1) (.cons (sm_Vd hn h.2) .nil)))).more (by decide) (by decide)
  | .fn, _ => (Sm.tuple (.cons (sm_str (by decide +kernel) (by decide +kernel)) (.cons (Sm.tuple (.cons (sm_nat (i := 0) (by decide)) .nil)) (.cons (Sm.tuple .nil) .nil)))).more (by decide) (by decide)
  | .kp, _ => (Sm.tuple (.cons (sm_str (by decide +kernel) (by decide +kernel)) (.cons (Sm.tuple .nil) (.cons (Sm.tuple .nil) .nil)))).more (by decide) (by decide)
theorem sm_all {n : Nat} (hn : n ≤ 1000) : ∀ (S : List Th), (∀ t ∈ S, okT n t) → SmAll (1001 * S.length) 2 (S.map Td)
  | [], _ => ⟨rfl, rfl, Nat.zero_le _, Nat.le_refl _, rfl⟩
  | t :: S, h => by
    have q := SmAll.cons (sm_Td hn (h t List.mem_cons_self)) (sm_all hn S fun t' h' => h t' (List.mem_cons_of_mem _ h'))
    rw [List.map_cons, List.length_cons, show 1001 * (S.length + 1) = 1000 + 1 + 1001 * S.length by omega]
    exact q
theorem sm_store {S : List Th} (h : ∀ t ∈ S, okT S.length t) (h7 : S.length ≤ 7) : Sm 8000 3 (.tuple (S.map Td)) := (Sm.tuple (sm_all (n := S.length) (by omega) S h)).more (by omega) (by decide)
theorem sm_road {r : List Int} (h : Dg r) (hl : r.length ≤ 300) : Sm 40000 1 (.tuple (r.map .int)) := by
  refine (Sm.tuple (SmAll.ints r fun z hz => ?_)).more (by omega) (Nat.le_refl _)
  rcases h z hz with rfl | rfl <;> decide
theorem sm_Rd {o : Option (List Int)} (h : ∀ r, o = some r → Dg r ∧ r.length ≤ 300) : Sm 40000 1 (Rd o) := by
  cases o with
  | none => exact Sm.none.more (by decide) (by decide)
  | some r => exact sm_road (h r rfl).1 (h r rfl).2
theorem least_dg {S : List Th} {x y : Va} {o : Option (List Int)} (h : Least S x y o) : ∀ r, o = some r → Dg r := fun r e => by
  subst e
  exact h.1.dg
theorem atR_ok {S : List Th} (hS : OkS S) : ∀ {r : List Int} {x y : Va} {k : Nat}, OkV S.length x → atR S x r k = .ok y → OkV S.length y
  | [], x, y, k, h, e => by cases e; exact h
  | j :: r, x, y, k, h, e => by
    have e' : (match step S j x with | none => Except.error k | some u => atR S u r (k + 1)) = .ok y := e
    cases z : step S j x with
    | none => rw [z] at e'; cases e'
    | some u =>
      rw [z] at e'
      exact atR_ok hS (step_ok hS z) e'
theorem atR_err {S : List Th} : ∀ {r : List Int} {x : Va} {k k' : Nat}, atR S x r k = .error k' → k' < k + r.length
  | [], x, k, k', e => by cases e
  | j :: r, x, k, k', e => by
    have e' : (match step S j x with | none => Except.error k | some u => atR S u r (k + 1)) = .error k' := e
    cases z : step S j x with
    | none => rw [z] at e'; cases e'; rw [List.length_cons]; omega
    | some u =>
      rw [z] at e'
      have := atR_err e'
      rw [List.length_cons]
      omega
theorem sm_Ad {S : List Th} (hS : OkS S) (h7 : S.length ≤ 7) {x : Va} (ox : OkV S.length x) {r : List Int} (hr : r.length ≤ 300) : Sm 400 2 (Ad (atR S x r 0)) := by
  cases e : atR S x r 0 with
  | ok y => exact (Sm.list (.cons (sm_Vd (by omega) (atR_ok hS ox e)) .nil)).more (by decide) (by decide)
  | error k => exact (sm_nat (by have := atR_err e; omega)).more (by decide) (by decide)
end K22
namespace K22
open PySem PySem.Spec PyProof.Rows L2 Kt Evl
/-- roads in the heap -/
def Rs (H : Hp) (as : List V) : Prop := ∀ x ∈ as, ∃ (a : Addr) (r : List Int), x = .ref a ∧ H a = some (.tup (r.map V.int)) ∧ Dg r ∧ r.length ≤ 250
theorem Rs.mono {H H' : Hp} (e : TM H H') {as : List V} (h : Rs H as) : Rs H' as := fun x hx => let ⟨a, r, h1, h2, h3⟩ := h x hx; ⟨a, r, h1, e _ _ h2, h3⟩
theorem dg_nil : Dg [] := fun k h => by cases h
theorem dg_app {r s : List Int} (h : Dg r) (h' : Dg s) : Dg (r ++ s) := fun k hk => (List.mem_append.mp hk).elim (h k) (h' k)
theorem dg_one : Dg [1] := fun k h => .inl (List.mem_singleton.mp h)
theorem dg_two : Dg [2] := fun k h => .inr (List.mem_singleton.mp h)
theorem dg_22 : Dg [2, 2] := dg_app dg_two dg_two
theorem dg_21 : Dg [2, 1] := dg_app dg_two dg_one
theorem cut_last {r : List Int} (h : Dg r) : ∃ s : List Int, cutV (r.map V.int) none (some (-1)) = s.map V.int ∧ Dg s ∧ s.length ≤ r.length := by
  obtain ⟨ms, h1, h2⟩ := cut_ints r none (some (-1))
  refine ⟨ms, h1, fun k hk => ?_, h2⟩
  have : V.int k ∈ ms.map V.int := List.mem_map.mpr ⟨k, hk, rfl⟩
  rw [← h1] at this
  unfold cutV at this
  have h3 := List.mem_of_mem_drop (List.mem_of_mem_take this)
  obtain ⟨z, hz, e⟩ := List.mem_map.mp h3
  have e' : z = k := V.int.inj e
  exact h k (e' ▸ hz)
section
variable {K : PySem.W.Frag} {H : Hp} {Q : VK}
theorem rd_slA {a : Addr} {xs : List V} {lo hi : Option Int} (h : H a = some (.tup xs)) (hw : (HT.sIx xs.length 0 lo = 0 ∧ HT.sIx xs.length xs.length hi = xs.length) → cutV xs lo hi = xs) (q : ∀ p H', Ex H H' → H' p = some (.tup (cutV xs lo hi)) → Q (.ref p) H') : rSlA K (.ref a) lo hi H Q :=
  ⟨a, xs, rfl, st_of h, fun e => q a H (Ex.refl _) (by rw [hw e]; exact h), fun _ p hp => q p _ (Ex.new hp) upd_same⟩
end
theorem cut_whole {xs : List V} {lo hi : Option Int} (h : HT.sIx xs.length 0 lo = 0 ∧ HT.sIx xs.length xs.length hi = xs.length) : cutV xs lo hi = xs := by
  unfold cutV
  rw [h.1, h.2, List.drop_zero, Nat.sub_zero, List.take_length]
section
variable {P : Program} {w : World} {K : PySem.W.Frag} {mg : Str → Option Value} {base : Heap}
/-- _law_right(m, store, first, second) -/
def spRight (K : PySem.W.Frag) : Sp := fun vs H Q _ => ∃ (m c : Addr) (n : Nat) (s v u : V) (S : List Th) (x y : Va), vs = [.ref m, s, v, u] ∧ Drw H m c n ∧ Cel K H c ∧ n ≤ 600000 ∧ Sr H s S ∧ OkS S ∧ S.length ≤ 7 ∧ (∀ t ∈ S, okT S.length t) ∧ Vr H v x ∧ Vr H u y ∧ OkV S.length x ∧ OkV S.length y ∧
  ∀ H', Keeps m H H' → Drw H' m c (n + 30) → Q (.bl true) H'
abbrev s_law_right : Stmt := topS 31
theorem sc_law_right : FnScope ["m", "store", "first", "second", "kept", "due", "told", "other", "led", "roads", "k", "road", "value"] ["m", "store", "first", "second"] (defScope s_law_right) := ⟨rfl, rfl, rfl, by decide +kernel, rfl, by decide +kernel, by decide +kernel⟩
set_option maxHeartbeats 8000000 in
theorem c_law_right (T : Txt K mg) (D : DefG K mg "_law_right" s_law_right ["m", "store", "first", "second"]) (c_law_least : CalG P w K mg base 2 "_law_least" spLeast) (c_parting_road : CalG P w K mg base 5 "parting_road" spPart) (c_alike : CalG P w K mg base 6 "alike" spAlike) (c_law_moved : CalG P w K mg base 2 "_law_moved" (spMoved K)) (c_law_draw : CalG P w K mg base 1 "_law_draw" (spDraw K)) (c_law_told_at : CalO P w K mg base 4 "_law_told_at" spAt) (c_law_at : CalO P w K mg base 2 "_law_at" spAt) : CalG P w K mg base 7 "_law_right" (spRight K) := by
  refine calG D sc_law_right (fun vs H Q E h => ?_) (fun cdv f A outer s0 H vs Q E hA hr h => ?_)
  · obtain ⟨m, c, n, s, v, u, S, x, y, rfl, _⟩ := h
    rfl
  · obtain ⟨m, c, n, s, v, u, S, x, y, rfl, hd, hc, hn, hs, hS, h7, hok, hx, hy, ox, oy, q⟩ := h
    have hR : (A.deeper (envOfC "_law_right" (defScope s_law_right) s0.heap.objs.size f cdv)).units + 129 < cLine := by have := hr.un; omega
    refine ⟨_, pss_cons (ps_par (i := 4) (j := 5) (by rfl) sc_law_right.nd rfl rfl (by decide) rfl rfl (pa_cons (pe_callB (call_reprV hA hR) (by rfl) T.repr (by decide +kernel) (pa_cons (pv 1) pa_nil)) (pa_cons (pe_cG c_law_least hA hr (by decide) (by rfl) (pa_cons (pv 1) (pa_cons (pv 2) (pa_cons (pv 3) pa_nil)))) pa_nil)) (by rfl))
      (pss_cons (ps_set (i := 6) sc_law_right.nd rfl (Or.inl rfl) (pe_lst (pa_cons (pe_cG c_parting_road hA hr (by decide) (by rfl) (pa_cons (pv 1) (pa_cons (pv 2) (pa_cons (pv 3) pa_nil)))) (pa_cons (pe_cG c_parting_road hA hr (by decide) (by rfl) (pa_cons (pv 1) (pa_cons (pv 3) (pa_cons (pv 2) pa_nil)))) (pa_cons (pe_cG c_parting_road hA hr (by decide) (by rfl) (pa_cons (pv 1) (pa_cons (pv 2) (pa_cons (pv 3) pa_nil)))) pa_nil)))))
      (pss_cons (ps_if (PW.pt (pw_or (pt_cmpR op_ne (pe_callB (call_reprV hA hR) (by rfl) T.repr (by decide +kernel) (pa_cons (pv 6) pa_nil)) (pe_callB (call_reprV hA hR) (by rfl) T.repr (by decide +kernel) (pa_cons (pe_lst (pa_cons (pv 5) (pa_cons (pv 5) (pa_cons (pv 5) pa_nil)))) pa_nil)) (nomark _)) (pw_or1 (pt_cmpR op_ne (pe_callB (call_reprV hA hR) (by rfl) T.repr (by decide +kernel) (pa_cons (pv 1) pa_nil)) (pv 4) (nomark _)))))
        (pss_one (ps_ret (pe_bl)))
        (pss_nil))
      (pss_cons (ps_if (pt_cmpR op_ne (pe_callB (call_reprV hA hR) (by rfl) T.repr (by decide +kernel) (pa_cons (pe_lst (pa_cons (pe_cG c_alike hA hr (by decide) (by rfl) (pa_cons (pv 1) (pa_cons (pv 2) (pa_cons (pv 3) pa_nil)))) (pa_cons (pe_cG c_alike hA hr (by decide) (by rfl) (pa_cons (pv 1) (pa_cons (pv 3) (pa_cons (pv 2) pa_nil)))) pa_nil))) pa_nil)) (pe_callB (call_reprV hA hR) (by rfl) T.repr (by decide +kernel) (pa_cons (pe_lst (pa_cons (pe_cmpR op_isN1 (pv 5) pe_non (nomark _)) (pa_cons (pe_cmpR op_isN1 (pv 5) pe_non (nomark _)) pa_nil))) pa_nil)) (nomark _))
        (pss_one (ps_ret (pe_bl)))
        (pss_nil))
      (pss_cons (ps_if (pt_cmpR op_ne (pe_callB (call_reprV hA hR) (by rfl) T.repr (by decide +kernel) (pa_cons (pe_lst (pa_cons (pe_cG c_alike hA hr (by decide) (by rfl) (pa_cons (pv 1) (pa_cons (pv 2) (pa_cons (pv 2) pa_nil)))) (pa_cons (pe_cG c_parting_road hA hr (by decide) (by rfl) (pa_cons (pv 1) (pa_cons (pv 3) (pa_cons (pv 3) pa_nil)))) pa_nil))) pa_nil)) pe_str (nomark _))
        (pss_one (ps_ret (pe_bl)))
        (pss_nil))
      (pss_cons (ps_asg (pe_cG c_law_moved hA hr (by decide) (by rfl) (pa_cons (pv 0) (pa_cons (pv 1) (pa_cons (pe_lst (pa_cons (pv 2) (pa_cons (pv 3) pa_nil))) pa_nil)))) (pg_tup rfl (pgs_cons (pg_name (i := 7) sc_law_right.nd rfl (Or.inl rfl)) (pgs_cons (pg_name (i := 8) sc_law_right.nd rfl (Or.inl rfl)) pgs_nil))))
      (pss_cons (ps_if (pt_cmpR op_ne (pe_callB (call_reprV hA hR) (by rfl) T.repr (by decide +kernel) (pa_cons (pe_lst (pa_cons (pe_cG c_parting_road hA hr (by decide) (by rfl) (pa_cons (pv 7) (pa_cons (pe_ix ix_list (pv 8) pe_int (fun _ _ => rfl)) (pa_cons (pe_ix ix_list (pv 8) pe_int (fun _ _ => rfl)) pa_nil)))) (pa_cons (pe_cG c_alike hA hr (by decide) (by rfl) (pa_cons (pv 7) (pa_cons (pe_ix ix_list (pv 8) pe_int (fun _ _ => rfl)) (pa_cons (pe_ix ix_list (pv 8) pe_int (fun _ _ => rfl)) pa_nil)))) pa_nil))) pa_nil)) (pe_callB (call_reprV hA hR) (by rfl) T.repr (by decide +kernel) (pa_cons (pe_lst (pa_cons (pv 5) (pa_cons (pe_cmpR op_isN1 (pv 5) pe_non (nomark _)) pa_nil))) pa_nil)) (nomark _))
        (pss_one (ps_ret (pe_bl)))
        (pss_nil))
      (pss_cons (ps_set (i := 9) sc_law_right.nd rfl (Or.inl rfl) (pe_lst (pa_cons (pe_tup pa_nil) (pa_cons (pe_tup (pa_cons pe_int pa_nil)) (pa_cons (pe_tup (pa_cons pe_int (pa_cons pe_int pa_nil))) (pa_cons (pe_callTy call_tupO (by rfl) T.tuple (by decide +kernel) (pa_cons (pe_lc (own := [("k", 10)]) (g := gName 10) (tt := tYes) (by rfl) sc_law_right.nd (pi_range1 (by rfl) T.range (pa_cons (pe_cG c_law_draw hA hr (by decide) (by rfl) (pa_cons (pv 0) (pa_cons pe_int pa_nil))) pa_nil)) (blkOk_by (own := [("k", 10)]) (N := ["m", "store", "first", "second", "kept", "due", "told", "other", "led", "roads", "k", "road", "value"]) (sc := defScope s_law_right) (by decide +kernel)) (fun _ _ _ _ _ => pg_name (i := 10) sc_law_right.nd rfl (Or.inl rfl)) (fun _ _ _ _ _ => pts_nil) (fun _ _ _ _ _ => pe_op op_add pe_int (pe_cG c_law_draw hA hr (by decide) (by rfl) (pa_cons (pv 0) (pa_cons pe_int pa_nil))))) pa_nil)) pa_nil))))))
      (pss_cons (ps_for PassesOwn.never rfl (pi_list (pe_op op_cat (pv 9) (pe_ifExp (pt_cmpR op_notN1 (pv 5) pe_non (nomark _)) (pe_lst (pa_cons (pv 5) (pa_cons (pe_op op_catT' (pv 5) (pe_tup (pa_cons pe_int pa_nil))) (pa_cons (pe_op op_catT' (pe_slice sl_tupA (pv 5) po_none (po_some (pe_un un_neg pe_int))) (pe_tup (pa_cons pe_int (pa_cons pe_int pa_nil)))) pa_nil)))) (pe_lst pa_nil)))) (pg_name (i := 11) sc_law_right.nd rfl (Or.inl rfl))
        (pss_one (ps_for PassesOwn.never rfl (pi_tup (pe_tup (pa_cons (pv 2) (pa_cons (pv 3) pa_nil)))) (pg_name (i := 12) sc_law_right.nd rfl (Or.inl rfl))
          (pss_one (ps_if (pt_cmpR op_ne (pe_callB (call_reprV hA hR) (by rfl) T.repr (by decide +kernel) (pa_cons (pe_cO c_law_told_at hr (by decide) (by rfl) (pa_cons (pv 1) (pa_cons (pv 12) (pa_cons (pv 11) pa_nil)))) pa_nil)) (pe_callB (call_reprV hA hR) (by rfl) T.repr (by decide +kernel) (pa_cons (pe_cO c_law_at hr (by decide) (by rfl) (pa_cons (pv 1) (pa_cons (pv 12) (pa_cons (pv 11) pa_nil)))) pa_nil)) (nomark _))
            (pss_one (ps_ret (pe_bl)))
            (pss_nil))))))
      (pss_one (ps_ret (pe_bl))))))))))), ?_⟩
    have h1000 : S.length ≤ 1000 := by omega
    obtain ⟨sa, hsx⟩ : ∃ sa, s = .ref sa := let ⟨a, _, h, _⟩ := hs; ⟨a, h⟩
    subst hsx
    have smS := sm_store hok h7
    walk_at "rd"
    refine rd_reprV hs.dp smS (by decide) (by decide) ?_
    walk_at "rd"
    refine ⟨.ref sa, v, u, S, x, y, rfl, hs, hx, hy, hS, h7, ox, oy, fun o due H1 e1 lo ho hlen => ?_⟩
    have dgo := least_dg lo
    have smo : Sm 40000 1 (Rd o) := sm_Rd fun r hr => ⟨dgo r hr, by have := hlen r hr; omega⟩
    walk_at "rd"
    refine ⟨.ref sa, v, u, S, x, y, rfl, hs.mono (TM.ex e1), hx.mono (TM.ex e1), hy.mono (TM.ex e1), hS, h1000, ox, oy, fun o1 v1 H2 e2 l1 r1 => ?_⟩
    obtain rfl : o1 = o := l1.uniq lo
    have t2 := TM.ex (e1.trans e2)
    walk_at "rd"
    refine ⟨.ref sa, u, v, S, y, x, rfl, hs.mono t2, hy.mono t2, hx.mono t2, hS, h1000, oy, ox, fun o2 v2 H3 e3 l2 r2 => ?_⟩
    obtain rfl : o2 = o1 := l2.uniq lo.symm
    have t3 := TM.ex ((e1.trans e2).trans e3)
    walk_at "rd"
    refine ⟨.ref sa, v, u, S, x, y, rfl, hs.mono t3, hx.mono t3, hy.mono t3, hS, h1000, ox, oy, fun o3 v3 H4 e4 l3 r3 => ?_⟩
    obtain rfl : o3 = o2 := l3.uniq lo
    walk_at "rd"
    refine rd_newL fun tl H5 n5 e5 h5 => ?_
    walk_at "rd"
    have e15 : Ex H1 H5 := ((e2.trans e3).trans e4).trans e5
    have ee5 : Ex H H5 := e1.trans e15
    have sm3 : Sm 390000 2 (.list [Rd o3, Rd o3, Rd o3]) := (Sm.list (.cons smo (.cons smo (.cons smo .nil)))).more (by decide) (by decide)
    refine rd_reprV (.lst (sq_of h5) (.cons (r1.mono (TM.ex ((e3.trans e4).trans e5))).dp (.cons (r2.mono (TM.ex (e4.trans e5))).dp (.cons (r3.mono (TM.ex e5)).dp .nil)))) sm3 (by decide) (by decide) ?_
    walk_at "rd"
    refine rd_newL fun tl2 H6 n6 e6 h6 => ?_
    walk_at "rd"
    have ho6 := ho.mono (TM.ex (e15.trans e6))
    refine rd_reprV (.lst (sq_of h6) (.cons ho6.dp (.cons ho6.dp (.cons ho6.dp .nil)))) sm3 (by decide) (by decide) ?_
    refine rd_ne rfl ?_
    walk_at "rd"
    refine if_nyes rfl ?_
    walk_at "rd"
    have t6 := TM.ex (ee5.trans e6)
    refine rd_reprV (hs.mono t6).dp smS (by decide) (by decide) ?_
    walk_at "rd"
    refine rd_ne rfl ?_
    walk_at "rd"
    refine if_nyes rfl ?_
    walk_at "rd"
    -- alike
    refine ⟨.ref sa, v, u, S, x, y, rfl, hs.mono t6, hx.mono t6, hy.mono t6, hS, h1000, ox, oy, fun o7 H7 e7 l7 => ?_⟩
    obtain rfl : o7 = o3 := l7.uniq lo
    have t7 := t6.trans (TM.ex e7)
    walk_at "rd"
    refine ⟨.ref sa, u, v, S, y, x, rfl, hs.mono t7, hy.mono t7, hx.mono t7, hS, h1000, oy, ox, fun o8 H8 e8 l8 => ?_⟩
    obtain rfl : o8 = o7 := l8.uniq lo.symm
    walk_at "rd"
    refine rd_newL fun al H9 n9 e9 h9 => ?_
    walk_at "rd"
    have smb : Sm 390000 2 (.list [.bool o8.isNone, .bool o8.isNone]) := (Sm.list (.cons Sm.bool (.cons Sm.bool .nil))).more (by decide) (by decide)
    refine rd_reprV (.lst (sq_of h9) (.cons (.bl _) (.cons (.bl _) .nil))) smb (by decide) (by decide) ?_
    walk_at "rd"
    refine rd_newL fun al2 H10 n10 e10 h10 => ?_
    rw [ho6.isN] at h10
    walk_at "rd"
    refine rd_reprV (.lst (sq_of h10) (.cons (.bl _) (.cons (.bl _) .nil))) smb (by decide) (by decide) ?_
    refine rd_ne rfl ?_
    walk_at "rd"
    refine if_nyes rfl ?_
    walk_at "rd"
    -- each with itself
    have e610 := ((e7.trans e8).trans e9).trans e10
    have t10 := t6.trans (TM.ex e610)
    refine ⟨.ref sa, v, v, S, x, x, rfl, hs.mono t10, hx.mono t10, hx.mono t10, hS, h1000, ox, ox, fun o11 H11 e11 l11 => ?_⟩
    obtain rfl : o11 = none := l11.uniq Least.refl
    have t11 := t10.trans (TM.ex e11)
    walk_at "rd"
    refine ⟨.ref sa, u, u, S, y, y, rfl, hs.mono t11, hy.mono t11, hy.mono t11, hS, h1000, oy, oy, fun o12 v12 H12 e12 l12 r12 => ?_⟩
    obtain rfl : o12 = none := l12.uniq Least.refl
    cases (show v12 = .non from r12)
    walk_at "rd"
    refine rd_newL fun al3 H13 n13 e13 h13 => ?_
    walk_at "rd"
    have smn : Sm 390000 2 (.list [.bool true, .none]) := (Sm.list (.cons Sm.bool (.cons Sm.none .nil))).more (by decide) (by decide)
    refine rd_reprV (.lst (sq_of h13) (.cons (.bl _) (.cons .non .nil))) smn (by decide) (by decide) ?_
    walk_at "rd"
    refine rd_ne rfl ?_
    walk_at "rd"
    refine if_nyes (by decide +kernel) ?_
    walk_at "rd"
    -- moved
    refine rd_newL fun ml H14 n14 e14 h14 => ?_
    have e13' := ((e610.trans e11).trans e12).trans e13
    have e614 := e13'.trans e14
    have ee14 := (ee5.trans e6).trans e614
    have t14 := TM.ex ee14
    have d14 := hd.keep ee14
    walk_at "rd"
    refine ⟨m, c, n, .ref sa, v, u, ml, S, x, y, rfl, d14, hc.keep ee14, by omega, hs.mono t14, hS, h7, hok, h14, hx.mono t14, hy.mono t14, ox, oy, fun p l s' v' u' S' P' H15 k15 d15 hp hl hs' M h9' hS' hv' hu' ox' oy' => ?_⟩
    have t15 := t14.trans (d14.tm k15)
    refine rd_gtup (st_of hp) rfl ?_
    walk_at "rd"
    have lo' : Least S' (ld P' x) (ld P' y) o8 := lo.congr (M.parts ox oy)
    refine rd_ixL (sq_of hl) (atI_nat (j := 0) rfl) ?_
    walk_at "rd"
    refine rd_ixL (sq_of hl) (atI_nat (j := 1) rfl) ?_
    walk_at "rd"
    refine ⟨s', v', u', S', ld P' x, ld P' y, rfl, hs', hv', hu', hS', by omega, ox', oy', fun o16 v16 H16 e16 l16 r16 => ?_⟩
    obtain rfl : o16 = o8 := l16.uniq lo'
    walk_at "rd"
    refine rd_ixL (sq_of (e16 _ _ hl)) (atI_nat (j := 0) rfl) ?_
    walk_at "rd"
    refine rd_ixL (sq_of (e16 _ _ hl)) (atI_nat (j := 1) rfl) ?_
    walk_at "rd"
    refine ⟨s', v', u', S', ld P' x, ld P' y, rfl, hs'.mono (TM.ex e16), hv'.mono (TM.ex e16), hu'.mono (TM.ex e16), hS', by omega, ox', oy', fun o17 H17 e17 l17 => ?_⟩
    obtain rfl : o17 = o16 := l17.uniq lo'
    walk_at "rd"
    refine rd_newL fun bl H18 n18 e18 h18 => ?_
    walk_at "rd"
    have e1518 := (e16.trans e17).trans e18
    have smr : Sm 390000 2 (.list [Rd o17, .bool o17.isNone]) := (Sm.list (.cons smo (.cons Sm.bool .nil))).more (by decide) (by decide)
    refine rd_reprV (.lst (sq_of h18) (.cons (r16.mono (TM.ex (e17.trans e18))).dp (.cons (.bl _) .nil))) smr (by decide) (by decide) ?_
    walk_at "rd"
    refine rd_newL fun bl2 H19 n19 e19 h19 => ?_
    walk_at "rd"
    have ho15 := (ho6.mono (TM.ex e614)).mono (d14.tm k15)
    rw [ho15.isN] at h19
    have e1519 := e1518.trans e19
    have ho19 := ho15.mono (TM.ex e1519)
    refine rd_reprV (.lst (sq_of h19) (.cons ho19.dp (.cons (.bl _) .nil))) smr (by decide) (by decide) ?_
    refine rd_ne rfl ?_
    walk_at "rd"
    refine if_nyes rfl ?_
    walk_at "rd"
    -- roads
    refine rd_newT fun q0 H20 n20 e20 h20 => ?_
    walk_at "rd"
    refine rd_newT fun q1 H21 n21 e21 h21 => ?_
    walk_at "rd"
    refine rd_newT fun q2 H22 n22 e22 h22 => ?_
    walk_at "rd"
    have ee22 := ((e1519.trans e20).trans e21).trans e22
    have d22 := d15.keep ee22
    have k22 : Keeps m H H22 := ((Keeps.ex ee14).trans k15).trans (Keeps.ex ee22)
    refine ⟨m, c, 9, _, rfl, d22, hd.cel k22 hc, by omega, by decide, by decide, fun rn H23 z0 z1 k23 d23 => ?_⟩
    walk_at "rd"
    refine rd_rngW (by omega) (by omega) ?_
    obtain ⟨j, rfl⟩ : ∃ j : Nat, rn = (j : Int) := ⟨rn.toNat, (Int.toNat_of_nonneg z0).symm⟩
    rw [Int.toNat_natCast]
    have k23' := k22.trans k23
    -- the rest, once the drawn road is there
    suffices rest : ∀ (Dl : Addr) (ds : List Int) (H24 : Hp), Keeps m H23 H24 → Drw H24 m c (n + 30) → H24 Dl = some (.lst (ds.map V.int)) → Dg ds → ds.length ≤ 10 → _ from by
      intro Dl hD
      refine lc_range (lo := 0) (n := j) (fun i H' => Keeps m H23 H' ∧ Drw H' m c (n + 11 + i) ∧ ∃ ds : List Int, H' Dl = some (.lst (ds.map V.int)) ∧ ds.length = i ∧ Dg ds) ⟨Keeps.new hD, (d23.keep (Ex.new hD)).mono (by omega), [], upd_same, rfl, dg_nil⟩ (fun i H' hi p => ?_) (fun H' p => ?_)
      · obtain ⟨kk, dd, ds, hds, hdl, dgd⟩ := p
        refine ⟨rfl, ?_⟩
        refine rd_yes ?_
        rw [if_pos rfl]
        walk_at "rd"
        refine ⟨m, c, 2, _, rfl, dd, hd.cel (k23'.trans kk) hc, by omega, by decide, by decide, fun r2 H4' y0 y1 k4 d4 => ?_⟩
        walk_at "rd"
        have hds4 := k4 _ _ (dd.lne hds) hds
        refine ⟨_, hds4, by rw [List.length_map]; exact Nat.lt_of_lt_of_le (by omega : ds.length < 10) (by decide), (kk.trans k4).mut hD, (Drw.oth d4 (d4.lne hds4).symm).mono (by omega), ds ++ [1 + r2], by rw [upd_same, List.map_append]; rfl, by rw [List.length_append, hdl]; rfl, dg_app dgd fun z hz => ?_⟩
        rw [List.mem_singleton.mp hz]
        omega
      · obtain ⟨kk, dd, ds, hds, hdl, dgd⟩ := p
        exact rest Dl ds H' kk (dd.mono (by omega)) hds dgd (by omega)
    intro Dl ds H24 k24 d24 hds dgd hdl
    have tm0 : TM H H24 := (hd.tm k23').trans (d23.tm k24)
    have tm22 : TM H22 H24 := (d22.tm k23).trans (d23.tm k24)
    walk_at "rd"
    refine rd_tupO (sq_of hds) fun q3 H25 n25 e25 h25 => ?_
    walk_at "rd"
    refine rd_newL fun rl H26 n26 e26 h26 => ?_
    walk_at "rd"
    have e2426 := e25.trans e26
    have ho26 : Rr H26 due o17 := ho19.mono (((TM.ex ((e20.trans e21).trans e22)).trans tm22).trans (TM.ex e2426))
    have f0 : H26 q0 = some (.tup (([] : List Int).map V.int)) := e2426 _ _ (tm22 _ _ (e22 _ _ (e21 _ _ h20)))
    have f1 : H26 q1 = some (.tup (([1] : List Int).map V.int)) := e2426 _ _ (tm22 _ _ (e22 _ _ h21))
    have f2 : H26 q2 = some (.tup (([2, 1] : List Int).map V.int)) := e2426 _ _ (tm22 _ _ h22)
    have f3 : H26 q3 = some (.tup (ds.map V.int)) := e26 _ _ h25
    have base : Rs H26 [.ref q0, .ref q1, .ref q2, .ref q3] := fun z hz => by
      rcases List.mem_cons.mp hz with rfl | hz
      · exact ⟨q0, [], rfl, f0, dg_nil, by decide⟩
      rcases List.mem_cons.mp hz with rfl | hz
      · exact ⟨q1, [1], rfl, f1, dg_one, by decide⟩
      rcases List.mem_cons.mp hz with rfl | hz
      · exact ⟨q2, [2, 1], rfl, f2, dg_21, by decide⟩
      rw [List.mem_singleton.mp hz]
      exact ⟨q3, ds, rfl, f3, dgd, by omega⟩
    have dfin : Drw H26 m c (n + 30) := d24.keep e2426
    have kfin : Keeps m H H26 := (k23'.trans k24).trans (Keeps.ex e2426)
    have tmf : TM H H26 := tm0.trans (TM.ex e2426)
    -- all roads, from both values
    have walkR : ∀ (H27 : Hp) (la : Addr) (as : List V), Ex H26 H27 → H27 la = some (.lst as) → Rs H27 as → as.length ≤ 100 → ∀ (y7 y8 : V), ForW (Itl K la) (gName 11)
        (tFor (iTup K (tTup (tCons (tVar 2) (tCons (tVar 3) tNil)))) (gName 12)
          (tIfS (tTest (tOp rNe (tCB (rReprV K) (tCons (fun σ H Q => tCons (tVar 1) (tCons (tVar 12) (tCons (tVar 11) tNil)) σ H fun vs H1 => spAt vs H1 Q E0) tNil)) (tCB (rReprV K) (tCons (fun σ H Q => tCons (tVar 1) (tCons (tVar 12) (tCons (tVar 11) tNil)) σ H fun vs H1 => spAt vs H1 Q E0) tNil)))) (tRet (tC (.bl false))) tNext))
        { nx := fun σ H' => Q (.bl true) H', rt := Q } [some (.ref m), some (.ref sa), some v, some u, some (.str (PyData.shown (.tuple (S.map Td)))), some due, some (.ref tl), some y7, some y8, some (.ref rl), none, none, none] H27 := fun H27 la as e27 hla hrs hal y7 y8 => by
      refine rd_forL as (fun i σ H' => ∃ (y11 y12 : Option V), σ = [some (.ref m), some (.ref sa), some v, some u, some (.str (PyData.shown (.tuple (S.map Td)))), some due, some (.ref tl), some y7, some y8, some (.ref rl), none, y11, y12] ∧ Ex H27 H') ⟨none, none, rfl, Ex.refl _⟩ (fun i σ H' _ p => sq_of (p.elim fun _ p => p.elim fun _ p => p.2 _ _ hla)) (fun i xk σ H' hxk p => ?_) (fun σ H' p => ?_)
      · obtain ⟨y11, y12, rfl, e28⟩ := p
        obtain ⟨ra, r, rfl, hra, dgr, hrl⟩ := hrs _ (List.mem_of_getElem? hxk)
        walk_at "rd"
        refine rd_newT fun tv H29 n29 e29 h29 => ?_
        refine rd_tupW (st_of h29) ?_
        refine rd_forTg [v, u] (fun i σ H' => ∃ (y12 : Option V), σ = [some (.ref m), some (.ref sa), some v, some u, some (.str (PyData.shown (.tuple (S.map Td)))), some due, some (.ref tl), some y7, some y8, some (.ref rl), none, some (.ref ra), y12] ∧ Ex H29 H') ⟨_, rfl, Ex.refl _⟩ (fun i σ H' _ p => st_of (p.elim fun _ p => p.2 _ _ h29)) (fun i zk σ H' hzk p => ?_) (fun σ H' p => ?_)
        · obtain ⟨y12, rfl, e30⟩ := p
          have ea : Ex H26 H' := ((e27.trans e28).trans e29).trans e30
          have ta := tmf.trans (TM.ex ea)
          have hra' := e30 _ _ (e29 _ _ (e28 _ _ hra))
          obtain ⟨z, hz, oz⟩ : ∃ z, Vr H zk z ∧ OkV S.length z := by
            rcases i with _|_|i
            · cases Option.some.inj hzk; exact ⟨x, hx, ox⟩
            · cases Option.some.inj hzk; exact ⟨y, hy, oy⟩
            · cases hzk
          have smA := sm_Ad hS h7 oz (show r.length ≤ 300 by omega)
          -- repr of what is told
          have rp : ∀ {H5 : Hp} {rv : V} {Q' : VK}, Ar H5 rv (atR S z r 0) → Q' (.str (PyData.shown (Ad (atR S z r 0)))) H5 → rReprV K [rv] H5 Q' := fun {H5 rv Q'} har hq => by
            cases e : atR S z r 0 with
            | ok w =>
              rw [e] at har hq smA
              have dp := har.dp (K := K)
              obtain ⟨l, u1, rfl, _⟩ := har
              exact rd_reprV dp smA (by decide) (by decide) hq
            | error k =>
              rw [e] at har hq
              cases (show rv = .int (k : Int) from har)
              refine rd_reprI (Nat.lt_of_le_of_lt (by have := atR_err e; omega : ((k : Int)).natAbs ≤ 1000) (by decide)) hq
          walk_at "rd"
          refine ⟨.ref sa, zk, ra, S, z, r, rfl, hs.mono ta, hz.mono ta, hS, oz, hra', dgr, fun rv H5 e5' har => ?_⟩
          refine rp har ?_
          walk_at "rd"
          refine ⟨.ref sa, zk, ra, S, z, r, rfl, hs.mono (ta.trans (TM.ex e5')), hz.mono (ta.trans (TM.ex e5')), hS, oz, e5' _ _ hra', dgr, fun rv2 H6' e6' har2 => ?_⟩
          refine rp har2 ?_
          refine rd_ne rfl ?_
          walk_at "rd"
          refine if_nyes rfl ?_
          walk_at "rd"
          exact ⟨_, rfl, (e30.trans e5').trans e6'⟩
        · obtain ⟨y12, rfl, e30⟩ := p
          exact ⟨_, _, rfl, (e28.trans e29).trans e30⟩
      · obtain ⟨y11, y12, rfl, e28⟩ := p
        exact q H' (kfin.trans (Keeps.ex (e27.trans e28))) (dfin.keep (e27.trans e28))
    refine rd_ifE ?_
    walk_at "rd"
    cases o17 with
    | none =>
      cases (show due = .non from ho26)
      refine if_nyes rfl ?_
      walk_at "rd"
      refine rd_newL fun nl H27 n27 e27 h27 => ?_
      refine rd_cat (e27 _ _ h26) h27 (Nat.le_of_ble_eq_true rfl) fun la H28 n28 e28 h28 => ?_
      refine rd_lstW (sq_of h28) ?_
      exact walkR H28 la _ (e27.trans e28) h28 ((base.mono (TM.ex (e27.trans e28)))) (by simp) _ _
    | some r =>
      obtain ⟨da, rfl, hda⟩ := ho26
      have dgr := dgo r rfl
      have hrl := hlen r rfl
      refine if_nno (fun z => by cases z) ?_
      walk_at "rd"
      refine rd_newT fun o1' H27 n27 e27 h27 => ?_
      refine rd_catT (st_of (e27 _ _ hda)) h27 (by simp) (by rw [List.length_map]; exact Nat.le_trans (by simp; omega : r.length + 1 ≤ 300) (by decide)) fun c1 H28 e28 h28 => ?_
      walk_at "rd"
      have hda28 := e28 _ _ (e27 _ _ hda)
      refine rd_slA hda28 cut_whole fun sl H29 e29 h29 => ?_
      obtain ⟨s', es', dgs', ls'⟩ := cut_last dgr
      rw [es'] at h29
      walk_at "rd"
      refine rd_newT fun o2' H30 n30 e30 h30 => ?_
      refine rd_catT (st_of (e30 _ _ h29)) h30 (by simp) (by rw [List.length_map]; exact Nat.le_trans (by simp; omega : s'.length + 2 ≤ 300) (by decide)) fun c2 H31 e31 h31 => ?_
      walk_at "rd"
      refine rd_newL fun nl H32 n32 e32 h32 => ?_
      have e2832 := ((e29.trans e30).trans e31).trans e32
      have e2632 := (e27.trans e28).trans e2832
      refine rd_cat (e2632 _ _ h26) h32 (Nat.le_of_ble_eq_true rfl) fun la H33 n33 e33 h33 => ?_
      refine rd_lstW (sq_of h33) ?_
      refine walkR H33 la _ (e2632.trans e33) h33 (fun z hz => ?_) (by simp) _ _
      rcases List.mem_append.mp hz with hz | hz
      · exact base.mono (TM.ex (e2632.trans e33)) z hz
      · rcases List.mem_cons.mp hz with rfl | hz
        · exact ⟨da, r, rfl, e33 _ _ (e2832 _ _ hda28), dgr, by omega⟩
        rcases List.mem_cons.mp hz with rfl | hz
        · exact ⟨c1, r ++ [1], rfl, by rw [e33 _ _ (e2832 _ _ h28), List.map_append]; rfl, dg_app dgr dg_one, by simp; omega⟩
        rw [List.mem_singleton.mp hz]
        exact ⟨c2, s' ++ [2, 2], rfl, by rw [e33 _ _ (e32 _ _ h31), List.map_append]; rfl, dg_app dgs' dg_22, by simp; omega⟩
end
end K22
namespace K22
open PySem PySem.Spec PyProof.Rows L2 Kt Evl
theorem okT_of {S : List Th} (hS : OkS S) : ∀ t ∈ S, okT S.length t := fun t ht => by
  obtain ⟨i, hi⟩ := List.mem_iff_getElem?.mp ht
  cases t with
  | pr a b => exact hS i a b hi
  | fn => trivial
  | kp => trivial
abbrev S5 : List Th := [.pr (.it 1) (.th 0), .pr (.it 1) (.th 2), .pr (.it 1) (.th 1), .pr (.it 1) (.th 4), .pr (.it 2) (.th 0)]
theorem parts_cons {S : List Th} {x y : Va} {k : Int} {r : List Int} (h : Parts S x y (k :: r)) : ∃ u v, step S k x = some u ∧ step S k y = some v ∧ Parts S u v r := by
  obtain ⟨u, v, h1, h2, h3⟩ := h
  have h1' : (step S k x).bind (fun w => follow S w r) = some u := h1
  have h2' : (step S k y).bind (fun w => follow S w r) = some v := h2
  cases e1 : step S k x with
  | none => rw [e1] at h1'; cases h1'
  | some u' =>
    cases e2 : step S k y with
    | none => rw [e2] at h2'; cases h2'
    | some v' =>
      rw [e1] at h1'
      rw [e2] at h2'
      exact ⟨u', v', rfl, rfl, u, v, h1', h2', h3⟩
theorem parts_nil {S : List Th} {x y : Va} (h : Parts S x y []) : apart S x y = true := by
  obtain ⟨u, v, h1, h2, h3⟩ := h
  cases Option.some.inj h1
  cases Option.some.inj h2
  exact h3
def In3 (x : Va) : Prop := x = .th 0 ∨ x = .th 1 ∨ x = .th 2
theorem no_parts : ∀ (r : List Int) (x y : Va), (x = y ∨ (In3 x ∧ In3 y)) → ¬ Parts S5 x y r
  | [], x, y, h, p => by
    have a := parts_nil p
    rcases h with rfl | ⟨hx, hy⟩
    · rw [apart_refl] at a; cases a
    · have : apart S5 x y = false := by
        rcases hx with rfl | rfl | rfl <;> rcases hy with rfl | rfl | rfl <;> decide
      rw [this] at a
      cases a
  | k :: r, x, y, h, p => by
    obtain ⟨u, v, h1, h2, h3⟩ := parts_cons p
    refine no_parts r u v ?_ h3
    rcases h with rfl | ⟨hx, hy⟩
    · rw [h1] at h2
      exact .inl (Option.some.inj h2)
    · rcases (step_some h1).1 with rfl | rfl
      · left
        have e : ∀ z, In3 z → step S5 1 z = some (.it 1) := fun z hz => by rcases hz with rfl | rfl | rfl <;> rfl
        rw [e x hx] at h1
        rw [e y hy] at h2
        exact (Option.some.inj h1).symm.trans (Option.some.inj h2)
      · right
        have e : ∀ z w, In3 z → step S5 2 z = some w → In3 w := fun z w hz hw => by
          rcases hz with rfl | rfl | rfl
          · cases (Option.some.inj (show some (Va.th 0) = some w from hw)); exact .inl rfl
          · cases (Option.some.inj (show some (Va.th 2) = some w from hw)); exact .inr (.inr rfl)
          · cases (Option.some.inj (show some (Va.th 1) = some w from hw)); exact .inr (.inl rfl)
        exact ⟨e x u hx h1, e y v hy h2⟩
theorem least_a : Least S5 (.th 0) (.th 1) none := fun r => no_parts r _ _ (.inr ⟨.inl rfl, .inr (.inl rfl)⟩)
theorem least_b : Least S5 (.th 0) (.th 3) (some [2, 1]) := by
  refine ⟨⟨.it 1, .it 2, rfl, rfl, by decide⟩, fun q p => ?_⟩
  show 5 ≤ code q
  match q with
  | [] => exact absurd (parts_nil p) (by decide)
  | [k] =>
    obtain ⟨u, v, h1, h2, h3⟩ := parts_cons p
    rcases (step_some h1).1 with rfl | rfl
    · cases (Option.some.inj (show some (Va.it 1) = some u from h1))
      cases (Option.some.inj (show some (Va.it 1) = some v from h2))
      exact absurd (parts_nil h3) (by decide)
    · cases (Option.some.inj (show some (Va.th 0) = some u from h1))
      cases (Option.some.inj (show some (Va.th 4) = some v from h2))
      exact absurd (parts_nil h3) (by decide)
  | [k, j] =>
    obtain ⟨u, v, h1, h2, h3⟩ := parts_cons p
    obtain ⟨u2, v2, h4, h5, h6⟩ := parts_cons h3
    rcases (step_some h1).1 with rfl | rfl
    · cases (Option.some.inj (show some (Va.it 1) = some u from h1))
      have := (step_some h4).2
      cases this
    · rcases (step_some h4).1 with rfl | rfl
      · decide
      · decide
  | a :: b :: c :: r =>
    have d := p.dg
    have ha := d a (by simp)
    have hb := d b (by simp)
    have hc := d c (by simp)
    refine Nat.le_trans ?_ (code_le_app [a, b, c] r)
    rcases ha with rfl | rfl <;> rcases hb with rfl | rfl <;> rcases hc with rfl | rfl <;> decide
section
variable {P : Program} {w : World} {K : PySem.W.Frag} {mg : Str → Option Value} {base : Heap}
def spLaw (K : PySem.W.Frag) : Sp := fun vs H Q _ => ∃ (a : Addr) (ns : List Int), vs = [.ref a] ∧ SqL K H a (ns.map V.int) ∧ ns.length ≤ 63 ∧ ∀ H', Q (.bl true) H'
abbrev s_law : Stmt := topS 32
theorem sc_law : FnScope ["script", "turn", "m", "lap", "size", "store", "rings", "first", "second", "p", "q", "s", "told"] ["script"] (defScope s_law) := ⟨rfl, rfl, rfl, by decide +kernel, rfl, by decide +kernel, by decide +kernel⟩
set_option maxHeartbeats 8000000 in
theorem g_law {fa : Addr} {fd : FuncData} (T : Txt K mg) (F : Fun K "law" "law" s_law fa fd) (c_law_begun : CalG P w K mg base 1 "_law_begun" (spBegun K)) (c_law_draw : CalG P w K mg base 1 "_law_draw" (spDraw K)) (c_law_store : CalG P w K mg base 4 "_law_store" (spStore K)) (c_law_right : CalG P w K mg base 7 "_law_right" (spRight K)) (c_law_value : CalG P w K mg base 3 "_law_value" (spValue K)) (c_law_rings : CalG P w K mg base 3 "_law_rings" (spRings K)) (c_parting_road : CalG P w K mg base 5 "parting_road" spPart) : FnG P w K mg base CX0 8 fa fd ["script"] (spLaw K) := by
  refine FunG F sc_law (fun vs H Q E h => ?_) (fun cdv A outer s0 H vs Q E hA hr h => ?_)
  · obtain ⟨a, ns, rfl, _⟩ := h
    rfl
  · obtain ⟨sa, sn, rfl, hS, hl, q⟩ := h
    have hR : (A.deeper (envOfC "law" (defScope s_law) s0.heap.objs.size fa cdv)).units + 129 < cLine := by have := hr.un; omega
    refine ⟨_, pss_cons (ps_for PassesOwn.never rfl (pi_range1 (by rfl) T.range (pa_cons (pe_op op_add pe_int (pe_callTy call_intO (by rfl) T.int (by decide +kernel) (pa_cons (pe_cmpR op_gt (pe_callB call_lenO (by rfl) T.len (by decide +kernel) (pa_cons (pv 0) pa_nil)) pe_int (nomark _)) pa_nil))) pa_nil)) (pg_name (i := 1) sc_law.nd rfl (Or.inl rfl))
        (pss_cons (ps_set (i := 2) sc_law.nd rfl (Or.inl rfl) (pe_cG c_law_begun hA hr (by decide) (by rfl) (pa_cons (pv 0) (pa_cons (pv 1) pa_nil))))
        (pss_one (ps_for PassesOwn.never rfl (pi_range1 (by rfl) T.range (pa_cons pe_int pa_nil)) (pg_name (i := 3) sc_law.nd rfl (Or.inl rfl))
          (pss_cons (ps_set (i := 4) sc_law.nd rfl (Or.inl rfl) (pe_op op_add pe_int (pe_cG c_law_draw hA hr (by decide) (by rfl) (pa_cons (pv 2) (pa_cons pe_int pa_nil)))))
          (pss_cons (ps_set (i := 5) sc_law.nd rfl (Or.inl rfl) (pe_cG c_law_store hA hr (by decide) (by rfl) (pa_cons (pv 2) (pa_cons (pv 4) pa_nil))))
          (pss_cons (ps_if (pt_not (pt_val (pe_cG c_law_right hA hr (by decide) (by rfl) (pa_cons (pv 2) (pa_cons (pv 5) (pa_cons (pe_cG c_law_value hA hr (by decide) (by rfl) (pa_cons (pv 2) (pa_cons (pv 4) pa_nil))) (pa_cons (pe_cG c_law_value hA hr (by decide) (by rfl) (pa_cons (pv 2) (pa_cons (pv 4) pa_nil))) pa_nil)))))))
            (pss_one (ps_ret (pe_bl)))
            (pss_nil))
          (pss_cons (ps_if (pt_not (pt_val (pe_cG c_law_right hA hr (by decide) (by rfl) (pa_cons (pv 2) (pa_cons (pv 5) (pa_cons (pe_tup (pa_cons pe_str (pa_cons (pe_cG c_law_draw hA hr (by decide) (by rfl) (pa_cons (pv 2) (pa_cons (pv 4) pa_nil))) pa_nil))) (pa_cons (pe_tup (pa_cons pe_str (pa_cons (pe_cG c_law_draw hA hr (by decide) (by rfl) (pa_cons (pv 2) (pa_cons (pv 4) pa_nil))) pa_nil))) pa_nil)))))))
            (pss_one (ps_ret (pe_bl)))
            (pss_nil))
          (pss_cons (ps_asg (pe_cG c_law_rings hA hr (by decide) (by rfl) (pa_cons (pv 2) pa_nil)) (pg_tup rfl (pgs_cons (pg_name (i := 6) sc_law.nd rfl (Or.inl rfl)) (pgs_cons (pg_name (i := 7) sc_law.nd rfl (Or.inl rfl)) (pgs_cons (pg_name (i := 8) sc_law.nd rfl (Or.inl rfl)) pgs_nil)))))
          (pss_one (ps_if (pt_not (pt_val (pe_cG c_law_right hA hr (by decide) (by rfl) (pa_cons (pv 2) (pa_cons (pv 6) (pa_cons (pv 7) (pa_cons (pv 8) pa_nil)))))))
            (pss_one (ps_ret (pe_bl)))
            (pss_nil))))))))))))
      (pss_cons (ps_asg (pe_tup (pa_cons (pe_tup (pa_cons pe_str (pa_cons pe_int (pa_cons (pe_tup (pa_cons pe_str (pa_cons pe_int pa_nil))) pa_nil)))) (pa_cons (pe_tup (pa_cons pe_str (pa_cons pe_int (pa_cons (pe_tup (pa_cons pe_str (pa_cons pe_int pa_nil))) pa_nil)))) (pa_cons (pe_tup (pa_cons pe_str (pa_cons pe_int (pa_cons (pe_tup (pa_cons pe_str (pa_cons pe_int pa_nil))) pa_nil)))) pa_nil)))) (pg_tup rfl (pgs_cons (pg_name (i := 9) sc_law.nd rfl (Or.inl rfl)) (pgs_cons (pg_name (i := 10) sc_law.nd rfl (Or.inl rfl)) (pgs_cons (pg_name (i := 11) sc_law.nd rfl (Or.inl rfl)) pgs_nil)))))
      (pss_cons (ps_set (i := 5) sc_law.nd rfl (Or.inl rfl) (pe_tup (pa_cons (pv 9) (pa_cons (pv 10) (pa_cons (pv 11) (pa_cons (pe_tup (pa_cons pe_str (pa_cons pe_int (pa_cons (pe_tup (pa_cons pe_str (pa_cons pe_int pa_nil))) pa_nil)))) (pa_cons (pe_tup (pa_cons pe_str (pa_cons pe_int (pa_cons (pe_tup (pa_cons pe_str (pa_cons pe_int pa_nil))) pa_nil)))) pa_nil)))))))
      (pss_cons (ps_set (i := 12) sc_law.nd rfl (Or.inl rfl) (pe_lst (pa_cons (pe_cG c_parting_road hA hr (by decide) (by rfl) (pa_cons (pv 5) (pa_cons (pe_tup (pa_cons pe_str (pa_cons pe_int pa_nil))) (pa_cons (pe_tup (pa_cons pe_str (pa_cons pe_int pa_nil))) pa_nil)))) (pa_cons (pe_cG c_parting_road hA hr (by decide) (by rfl) (pa_cons (pv 5) (pa_cons (pe_tup (pa_cons pe_str (pa_cons pe_int pa_nil))) (pa_cons (pe_tup (pa_cons pe_str (pa_cons pe_int pa_nil))) pa_nil)))) pa_nil))))
      (pss_one (ps_ret (pe_cmpR op_eq (pe_callB (call_reprV hA hR) (by rfl) T.repr (by decide +kernel) (pa_cons (pv 12) pa_nil)) (pe_callB (call_reprV hA hR) (by rfl) T.repr (by decide +kernel) (pa_cons (pe_lst (pa_cons pe_non (pa_cons (pe_tup (pa_cons pe_int (pa_cons pe_int pa_nil))) pa_nil))) pa_nil)) (nomark _))))))), ?_⟩
    walk_at "rd"
    refine rd_lenO (.inl hS) ?_
    walk_at "rd"
    refine Or.inr ⟨_, rfl, ?_⟩
    walk_at "rd"
    have hb : ∀ b : Bool, -(2 ^ 62) ≤ (1 + (if b = true then (1 : Int) else 0)) ∧ (1 + (if b = true then (1 : Int) else 0)) < 2 ^ 62 ∧ (1 + (if b = true then (1 : Int) else 0)).toNat ≤ 2 := fun b => by cases b <;> decide
    refine rd_rngW (hb _).1 (hb _).2.1 ?_
    refine rd_forN (fun i σ H' => ∃ y1 y2 y3 y4 y5 y6 y7 y8, σ = [some (.ref sa), y1, y2, y3, y4, y5, y6, y7, y8, none, none, none, none] ∧ Ex H H') ⟨none, none, none, none, none, none, none, none, rfl, Ex.refl H⟩ (fun i σ H' hi p => ?_) (fun σ H' p => ?_)
    · obtain ⟨y1, y2, y3, y4, y5, y6, y7, y8, rfl, e0⟩ := p
      have hi2 : i < 2 := Nat.lt_of_lt_of_le hi (hb _).2.2
      walk_at "rd"
      refine ⟨sa, sn, i, rfl, ex_l e0 hS, hl, by omega, by omega, fun m c H1 nm e01 d1 ce1 => ?_⟩
      have nm0 : H m = none := fresh_back e0 nm
      have e1 := e0.trans e01
      walk_at "rd"
      refine rd_rngW (by decide) (by decide) ?_
      refine rd_forN (n := 3) (fun j σ H' => ∃ y3 y4 y5 y6 y7 y8, σ = [some (.ref sa), some (.int (i : Int)), some (.ref m), y3, y4, y5, y6, y7, y8, none, none, none, none] ∧ Keeps m H1 H' ∧ Drw H' m c (1000 * j)) ⟨_, _, _, _, _, _, rfl, Keeps.refl _ _, d1.mono (by omega)⟩ (fun j σ H' hj p => ?_) (fun σ H' p => ?_)
      · obtain ⟨y3, y4, y5, y6, y7, y8, rfl, k, d⟩ := p
        walk_at "rd"
        refine ⟨m, c, 6, _, rfl, d, d1.cel k ce1, by omega, by decide, by decide, fun r H2 r0 r1 k2 d2 => ?_⟩
        obtain ⟨z, ez⟩ : ∃ z : Nat, 2 + r = (z : Int) := ⟨(2 + r).toNat, by omega⟩
        have hz : 2 ≤ z ∧ z ≤ 7 := by omega
        have k12 := k.trans k2
        walk_at "rd"
        rw [ez]
        refine ⟨m, c, z, _, rfl, d2, d1.cel k12 ce1, by omega, by omega, by omega, fun sv S H3 k3 d3 hs hlen hok => ?_⟩
        have k13 := k12.trans k3
        walk_at "rd"
        refine ⟨m, c, z, _, rfl, d3, d1.cel k13 ce1, by omega, by omega, by omega, fun v4 x4 H4 k4 d4 hv4 ox4 => ?_⟩
        have k14 := k13.trans k4
        walk_at "rd"
        refine ⟨m, c, z, _, rfl, d4, d1.cel k14 ce1, by omega, by omega, by omega, fun v5 x5 H5 k5 d5 hv5 ox5 => ?_⟩
        have k15 := k14.trans k5
        walk_at "rd"
        refine ⟨m, c, _, sv, v4, v5, S, x4, x5, rfl, d5, d1.cel k15 ce1, by omega, hs.mono ((d3.tm k4).trans (d4.tm k5)), hok, by omega, okT_of hok, hv4.mono (d4.tm k5), hv5, by rw [hlen]; exact ox4, by rw [hlen]; exact ox5, fun H6 k6 d6 => ?_⟩
        have k16 := k15.trans k6
        have hs6 := hs.mono (((d3.tm k4).trans (d4.tm k5)).trans (d5.tm k6))
        walk_at "rd"
        refine iteF ?_
        walk_at "rd"
        refine ⟨m, c, z, _, rfl, d6, d1.cel k16 ce1, by omega, by omega, by omega, fun r7 H7 a0 a1 k7 d7 => ?_⟩
        walk_at "rd"
        refine rd_newT fun p8 H8 n8 e8 h8 => ?_
        have d8 := d7.keep e8
        have k18 := (k16.trans k7).trans (Keeps.ex e8)
        walk_at "rd"
        refine ⟨m, c, z, _, rfl, d8, d1.cel k18 ce1, by omega, by omega, by omega, fun r9 H9 b0 b1 k9 d9 => ?_⟩
        walk_at "rd"
        refine rd_newT fun p10 H10 n10 e10 h10 => ?_
        have d10 := d9.keep e10
        have k110 := (k18.trans k9).trans (Keeps.ex e10)
        obtain ⟨i7, rfl⟩ : ∃ i7 : Nat, r7 = (i7 : Int) := ⟨r7.toNat, (Int.toNat_of_nonneg a0).symm⟩
        obtain ⟨i9, rfl⟩ : ∃ i9 : Nat, r9 = (i9 : Int) := ⟨r9.toNat, (Int.toNat_of_nonneg b0).symm⟩
        have tm610 := (((d6.tm k7).trans (TM.ex e8)).trans (d8.tm k9)).trans (TM.ex e10)
        walk_at "rd"
        refine ⟨m, c, _, sv, .ref p8, .ref p10, S, .th i7, .th i9, rfl, d10, d1.cel k110 ce1, by omega, hs6.mono tm610, hok, by omega, okT_of hok, ⟨p8, rfl, e10 _ _ (d8.tm k9 _ _ h8)⟩, ⟨p10, rfl, h10⟩, by show i7 < S.length; omega, by show i9 < S.length; omega, fun H11 k11 d11 => ?_⟩
        have k111 := k110.trans k11
        walk_at "rd"
        refine iteF ?_
        walk_at "rd"
        refine ⟨m, c, _, rfl, d11, d1.cel k111 ce1, by omega, fun p sr v12 u12 Sr12 j1 j2 H12 k12' d12 hp12 hs12 h7 hok12 hv12 hu12 hj1 hj2 => ?_⟩
        have k112 := k111.trans k12'
        refine rd_gtup (st_of hp12) rfl ?_
        walk_at "rd"
        refine ⟨m, c, _, sr, v12, u12, Sr12, .th j1, .th j2, rfl, d12, d1.cel k112 ce1, by omega, hs12, hok12, h7, okT_of hok12, hv12, hu12, hj1, hj2, fun H13 k13' d13 => ?_⟩
        walk_at "rd"
        refine iteF ?_
        walk_at "rd"
        exact ⟨_, _, _, _, _, _, rfl, k112.trans k13', d13.mono (by omega)⟩
      · obtain ⟨y3, y4, y5, y6, y7, y8, rfl, k, d⟩ := p
        exact ⟨_, _, _, _, _, _, _, _, rfl, ex_keeps e1 k nm0⟩
    · obtain ⟨y1, y2, y3, y4, y5, y6, y7, y8, rfl, e0⟩ := p
      walk_at "rd"
      refine rd_newT fun t0 H1 n1 e1 h1 => ?_
      walk_at "rd"
      refine rd_newT fun p0 H2 n2 e2 h2 => ?_
      walk_at "rd"
      refine rd_newT fun t1 H3 n3 e3 h3 => ?_
      walk_at "rd"
      refine rd_newT fun p1 H4 n4 e4 h4 => ?_
      walk_at "rd"
      refine rd_newT fun t2 H5 n5 e5 h5 => ?_
      walk_at "rd"
      refine rd_newT fun p2 H6 n6 e6 h6 => ?_
      walk_at "rd"
      refine rd_newT fun pq H7 n7 e7 h7 => ?_
      refine rd_gtup (st_of h7) rfl ?_
      walk_at "rd"
      refine rd_newT fun t3 H8 n8 e8 h8 => ?_
      walk_at "rd"
      refine rd_newT fun p3 H9 n9 e9 h9 => ?_
      walk_at "rd"
      refine rd_newT fun t4 H10 n10 e10 h10 => ?_
      walk_at "rd"
      refine rd_newT fun p4 H11 n11 e11 h11 => ?_
      walk_at "rd"
      refine rd_newT fun ps H12 n12 e12 h12 => ?_
      walk_at "rd"
      have x11 := e12
      have x10 := e11.trans x11
      have x9 := e10.trans x10
      have x8 := e9.trans x9
      have x7 := e8.trans x8
      have x6 := e7.trans x7
      have x5 := e6.trans x6
      have x4 := e5.trans x5
      have x3 := e4.trans x4
      have x2 := e3.trans x3
      have x1 := e2.trans x2
      have S0 : Sr H12 (.ref ps) S5 := ⟨ps, _, rfl, h12, rfl, fun i t ht => by
        rcases i with _|_|_|_|_|i
        · cases Option.some.inj ht; exact ⟨_, rfl, p0, _, _, rfl, x2 _ _ h2, rfl, t0, rfl, x1 _ _ h1⟩
        · cases Option.some.inj ht; exact ⟨_, rfl, p1, _, _, rfl, x4 _ _ h4, rfl, t1, rfl, x3 _ _ h3⟩
        · cases Option.some.inj ht; exact ⟨_, rfl, p2, _, _, rfl, x6 _ _ h6, rfl, t2, rfl, x5 _ _ h5⟩
        · cases Option.some.inj ht; exact ⟨_, rfl, p3, _, _, rfl, x9 _ _ h9, rfl, t3, rfl, x8 _ _ h8⟩
        · cases Option.some.inj ht; exact ⟨_, rfl, p4, _, _, rfl, x11 _ _ h11, rfl, t4, rfl, x10 _ _ h10⟩
        · cases ht⟩
      have ok5 : OkS S5 := fun i a b h => by
        have i1 : OkV S5.length (.it 1) := by show (1 : Int).natAbs < 10 ^ 38; decide
        have i2 : OkV S5.length (.it 2) := by show (2 : Int).natAbs < 10 ^ 38; decide
        rcases i with _|_|_|_|_|i
        · cases Option.some.inj h; exact ⟨i1, by show 0 < 5; decide⟩
        · cases Option.some.inj h; exact ⟨i1, by show 2 < 5; decide⟩
        · cases Option.some.inj h; exact ⟨i1, by show 1 < 5; decide⟩
        · cases Option.some.inj h; exact ⟨i1, by show 4 < 5; decide⟩
        · cases Option.some.inj h; exact ⟨i2, by show 0 < 5; decide⟩
        · cases h
      refine rd_newT fun a1 H13 n13 e13 h13 => ?_
      walk_at "rd"
      refine rd_newT fun a2 H14 n14 e14 h14 => ?_
      walk_at "rd"
      refine ⟨.ref ps, .ref a1, .ref a2, S5, .th 0, .th 1, rfl, S0.mono (TM.ex (e13.trans e14)), ⟨a1, rfl, e14 _ _ h13⟩, ⟨a2, rfl, h14⟩, ok5, by decide, by show 0 < 5; decide, by show 1 < 5; decide, fun o15 v15 H15 e15 l15 r15 => ?_⟩
      obtain rfl : o15 = none := l15.uniq least_a
      cases (show v15 = .non from r15)
      walk_at "rd"
      refine rd_newT fun a3 H16 n16 e16 h16 => ?_
      walk_at "rd"
      refine rd_newT fun a4 H17 n17 e17 h17 => ?_
      walk_at "rd"
      refine ⟨.ref ps, .ref a3, .ref a4, S5, .th 0, .th 3, rfl, S0.mono (TM.ex ((((e13.trans e14).trans e15).trans e16).trans e17)), ⟨a3, rfl, e17 _ _ h16⟩, ⟨a4, rfl, h17⟩, ok5, by decide, by show 0 < 5; decide, by show 3 < 5; decide, fun o18 v18 H18 e18 l18 r18 => ?_⟩
      obtain rfl : o18 = some [2, 1] := l18.uniq least_b
      walk_at "rd"
      refine rd_newL fun tl H19 n19 e19 h19 => ?_
      walk_at "rd"
      have smt : Sm 390000 2 (.list [.none, .tuple (([2, 1] : List Int).map .int)]) := (Sm.list (.cons Sm.none (.cons (sm_road dg_21 (by decide)) .nil))).more (by decide) (by decide)
      refine rd_reprV (.lst (sq_of h19) (.cons .non (.cons (r18.mono (TM.ex e19)).dp .nil))) smt (by decide) (by decide) ?_
      walk_at "rd"
      refine rd_newT fun a5 H20 n20 e20 h20 => ?_
      walk_at "rd"
      refine rd_newL fun tl2 H21 n21 e21 h21 => ?_
      walk_at "rd"
      refine rd_reprV (.lst (sq_of h21) (.cons .non (.cons (.tup (st_of (e21 _ _ h20)) (dp_ints [2, 1])) .nil))) smt (by decide) (by decide) ?_
      refine rd_eq rfl ?_
      rw [show Rd (some [2, 1]) = PyData.tuple (List.map PyData.int [2, 1]) from rfl, decide_eq_true rfl]
      exact q H21
end
end K22
namespace K22
open PySem PySem.Spec PyProof.Rows L2 Kt Evl
section
theorem defG_mk {K : PySem.W.Frag} {h : Heap} {mg : Str → Option Value} {x : Str} {st : Stmt} {ps : List Str} {f : Addr} {oc kV dc pm cd ct : Value} {od an : Option Addr} {sl : Array (Option Value)} (X : K.In h) (G : h.Ns mainGlobals mg)
    (a : PySem.W.nsIn K mainGlobals x = some (some (.ref f))) (l : K.lookup f = some ⟨oc, od, .func (PySem.W.fnOf x x (defArgs st) (defBody st) (defScope st) .none kV dc pm an cd ct), sl⟩) (c : PySem.W.codeIn K cd x = true) (k : PySem.W.keepIn K (.ref f) = true)
    (hb : ∀ (kV doc pm : Value) (an : Option Addr) (cdv ct : Value) (us : List Value), us.length = ps.length → bindArgs (PySem.W.fnOf x x (defArgs st) (defBody st) (defScope st) .none kV doc pm an cdv ct) ⟨us, []⟩ = pure (ps.zip us)) : DefG K mg x st ps :=
  ⟨f, _, fun_mk l c k, PySem.W.mg_of X G a, (fun_mk l c k).binds hb⟩
/-- what an own exception class is named by -/
theorem exm_own {K : PySem.W.Frag} {S : Addr} (h1 : PySem.W.subIn K (.ref S) (.type "BaseException") = some true) (h2 : PySem.W.isClsIn K S = true) (h3 : PySem.W.typeIn K (.ref S) = some (.type "type")) (h4 : PySem.W.subIn K (.ref S) (.ref S) = some true) : PySem.W.exmOne K (.ref S) (.ref S) = some true := by
  have e : (PySem.W.clsIn K S).isSome = true := h2
  simp [PySem.W.exmOne, PySem.W.kitCls, h1, h3, h4, e]
theorem all_mk {P : Program} {w : World} {K : PySem.W.Frag} {h : Heap} {mg : Str → Option Value} {fa : Addr} (X : K.In h) (G : h.Ns mainGlobals mg) (hfa : mg "law" = some (.ref fa))
    {f0 : Addr} {oc0 kV0 dc0 pm0 cd0 ct0 : Value} {od0 an0 : Option Addr} {sl0 : Array (Option Value)}
    (a0 : PySem.W.nsIn K mainGlobals "is_thing" = some (some (.ref f0))) (l0 : K.lookup f0 = some ⟨oc0, od0, .func (PySem.W.fnOf "is_thing" "is_thing" (defArgs s_is_thing) (defBody s_is_thing) (defScope s_is_thing) .none kV0 dc0 pm0 an0 cd0 ct0), sl0⟩) (c0 : PySem.W.codeIn K cd0 "is_thing" = true) (k0 : PySem.W.keepIn K (.ref f0) = true)
    {f1 : Addr} {oc1 kV1 dc1 pm1 cd1 ct1 : Value} {od1 an1 : Option Addr} {sl1 : Array (Option Value)}
    (a1 : PySem.W.nsIn K mainGlobals "is_integer" = some (some (.ref f1))) (l1 : K.lookup f1 = some ⟨oc1, od1, .func (PySem.W.fnOf "is_integer" "is_integer" (defArgs s_is_integer) (defBody s_is_integer) (defScope s_is_integer) .none kV1 dc1 pm1 an1 cd1 ct1), sl1⟩) (c1 : PySem.W.codeIn K cd1 "is_integer" = true) (k1 : PySem.W.keepIn K (.ref f1) = true)
    {f2 : Addr} {oc2 kV2 dc2 pm2 cd2 ct2 : Value} {od2 an2 : Option Addr} {sl2 : Array (Option Value)}
    (a2 : PySem.W.nsIn K mainGlobals "is_pair" = some (some (.ref f2))) (l2 : K.lookup f2 = some ⟨oc2, od2, .func (PySem.W.fnOf "is_pair" "is_pair" (defArgs s_is_pair) (defBody s_is_pair) (defScope s_is_pair) .none kV2 dc2 pm2 an2 cd2 ct2), sl2⟩) (c2 : PySem.W.codeIn K cd2 "is_pair" = true) (k2 : PySem.W.keepIn K (.ref f2) = true)
    {f3 : Addr} {oc3 kV3 dc3 pm3 cd3 ct3 : Value} {od3 an3 : Option Addr} {sl3 : Array (Option Value)}
    (a3 : PySem.W.nsIn K mainGlobals "kind_of" = some (some (.ref f3))) (l3 : K.lookup f3 = some ⟨oc3, od3, .func (PySem.W.fnOf "kind_of" "kind_of" (defArgs s_kind_of) (defBody s_kind_of) (defScope s_kind_of) .none kV3 dc3 pm3 an3 cd3 ct3), sl3⟩) (c3 : PySem.W.codeIn K cd3 "kind_of" = true) (k3 : PySem.W.keepIn K (.ref f3) = true)
    {f4 : Addr} {oc4 kV4 dc4 pm4 cd4 ct4 : Value} {od4 an4 : Option Addr} {sl4 : Array (Option Value)}
    (a4 : PySem.W.nsIn K mainGlobals "same_data" = some (some (.ref f4))) (l4 : K.lookup f4 = some ⟨oc4, od4, .func (PySem.W.fnOf "same_data" "same_data" (defArgs s_same_data) (defBody s_same_data) (defScope s_same_data) .none kV4 dc4 pm4 an4 cd4 ct4), sl4⟩) (c4 : PySem.W.codeIn K cd4 "same_data" = true) (k4 : PySem.W.keepIn K (.ref f4) = true)
    {f5 : Addr} {oc5 kV5 dc5 pm5 cd5 ct5 : Value} {od5 an5 : Option Addr} {sl5 : Array (Option Value)}
    (a5 : PySem.W.nsIn K mainGlobals "are_one" = some (some (.ref f5))) (l5 : K.lookup f5 = some ⟨oc5, od5, .func (PySem.W.fnOf "are_one" "are_one" (defArgs s_are_one) (defBody s_are_one) (defScope s_are_one) .none kV5 dc5 pm5 an5 cd5 ct5), sl5⟩) (c5 : PySem.W.codeIn K cd5 "are_one" = true) (k5 : PySem.W.keepIn K (.ref f5) = true)
    {f6 : Addr} {oc6 kV6 dc6 pm6 cd6 ct6 : Value} {od6 an6 : Option Addr} {sl6 : Array (Option Value)}
    (a6 : PySem.W.nsIn K mainGlobals "are_apart" = some (some (.ref f6))) (l6 : K.lookup f6 = some ⟨oc6, od6, .func (PySem.W.fnOf "are_apart" "are_apart" (defArgs s_are_apart) (defBody s_are_apart) (defScope s_are_apart) .none kV6 dc6 pm6 an6 cd6 ct6), sl6⟩) (c6 : PySem.W.codeIn K cd6 "are_apart" = true) (k6 : PySem.W.keepIn K (.ref f6) = true)
    {f7 : Addr} {oc7 kV7 dc7 pm7 cd7 ct7 : Value} {od7 an7 : Option Addr} {sl7 : Array (Option Value)}
    (a7 : PySem.W.nsIn K mainGlobals "road_back" = some (some (.ref f7))) (l7 : K.lookup f7 = some ⟨oc7, od7, .func (PySem.W.fnOf "road_back" "road_back" (defArgs s_road_back) (defBody s_road_back) (defScope s_road_back) .none kV7 dc7 pm7 an7 cd7 ct7), sl7⟩) (c7 : PySem.W.codeIn K cd7 "road_back" = true) (k7 : PySem.W.keepIn K (.ref f7) = true)
    {f8 : Addr} {oc8 kV8 dc8 pm8 cd8 ct8 : Value} {od8 an8 : Option Addr} {sl8 : Array (Option Value)}
    (a8 : PySem.W.nsIn K mainGlobals "parting_road" = some (some (.ref f8))) (l8 : K.lookup f8 = some ⟨oc8, od8, .func (PySem.W.fnOf "parting_road" "parting_road" (defArgs s_parting_road) (defBody s_parting_road) (defScope s_parting_road) .none kV8 dc8 pm8 an8 cd8 ct8), sl8⟩) (c8 : PySem.W.codeIn K cd8 "parting_road" = true) (k8 : PySem.W.keepIn K (.ref f8) = true)
    {f9 : Addr} {oc9 kV9 dc9 pm9 cd9 ct9 : Value} {od9 an9 : Option Addr} {sl9 : Array (Option Value)}
    (a9 : PySem.W.nsIn K mainGlobals "alike" = some (some (.ref f9))) (l9 : K.lookup f9 = some ⟨oc9, od9, .func (PySem.W.fnOf "alike" "alike" (defArgs s_alike) (defBody s_alike) (defScope s_alike) .none kV9 dc9 pm9 an9 cd9 ct9), sl9⟩) (c9 : PySem.W.codeIn K cd9 "alike" = true) (k9 : PySem.W.keepIn K (.ref f9) = true)
    {f10 : Addr} {oc10 kV10 dc10 pm10 cd10 ct10 : Value} {od10 an10 : Option Addr} {sl10 : Array (Option Value)}
    (a10 : PySem.W.nsIn K mainGlobals "value_at" = some (some (.ref f10))) (l10 : K.lookup f10 = some ⟨oc10, od10, .func (PySem.W.fnOf "value_at" "value_at" (defArgs s_value_at) (defBody s_value_at) (defScope s_value_at) .none kV10 dc10 pm10 an10 cd10 ct10), sl10⟩) (c10 : PySem.W.codeIn K cd10 "value_at" = true) (k10 : PySem.W.keepIn K (.ref f10) = true)
    {f11 : Addr} {oc11 kV11 dc11 pm11 cd11 ct11 : Value} {od11 an11 : Option Addr} {sl11 : Array (Option Value)}
    (a11 : PySem.W.nsIn K mainGlobals "_law_draw" = some (some (.ref f11))) (l11 : K.lookup f11 = some ⟨oc11, od11, .func (PySem.W.fnOf "_law_draw" "_law_draw" (defArgs s_law_draw) (defBody s_law_draw) (defScope s_law_draw) .none kV11 dc11 pm11 an11 cd11 ct11), sl11⟩) (c11 : PySem.W.codeIn K cd11 "_law_draw" = true) (k11 : PySem.W.keepIn K (.ref f11) = true)
    {f12 : Addr} {oc12 kV12 dc12 pm12 cd12 ct12 : Value} {od12 an12 : Option Addr} {sl12 : Array (Option Value)}
    (a12 : PySem.W.nsIn K mainGlobals "_law_of" = some (some (.ref f12))) (l12 : K.lookup f12 = some ⟨oc12, od12, .func (PySem.W.fnOf "_law_of" "_law_of" (defArgs s_law_of) (defBody s_law_of) (defScope s_law_of) .none kV12 dc12 pm12 an12 cd12 ct12), sl12⟩) (c12 : PySem.W.codeIn K cd12 "_law_of" = true) (k12 : PySem.W.keepIn K (.ref f12) = true)
    {f13 : Addr} {oc13 kV13 dc13 pm13 cd13 ct13 : Value} {od13 an13 : Option Addr} {sl13 : Array (Option Value)}
    (a13 : PySem.W.nsIn K mainGlobals "_law_begun" = some (some (.ref f13))) (l13 : K.lookup f13 = some ⟨oc13, od13, .func (PySem.W.fnOf "_law_begun" "_law_begun" (defArgs s_law_begun) (defBody s_law_begun) (defScope s_law_begun) .none kV13 dc13 pm13 an13 cd13 ct13), sl13⟩) (c13 : PySem.W.codeIn K cd13 "_law_begun" = true) (k13 : PySem.W.keepIn K (.ref f13) = true)
    {f14 : Addr} {oc14 kV14 dc14 pm14 cd14 ct14 : Value} {od14 an14 : Option Addr} {sl14 : Array (Option Value)}
    (a14 : PySem.W.nsIn K mainGlobals "_law_value" = some (some (.ref f14))) (l14 : K.lookup f14 = some ⟨oc14, od14, .func (PySem.W.fnOf "_law_value" "_law_value" (defArgs s_law_value) (defBody s_law_value) (defScope s_law_value) .none kV14 dc14 pm14 an14 cd14 ct14), sl14⟩) (c14 : PySem.W.codeIn K cd14 "_law_value" = true) (k14 : PySem.W.keepIn K (.ref f14) = true)
    {f15 : Addr} {oc15 kV15 dc15 pm15 cd15 ct15 : Value} {od15 an15 : Option Addr} {sl15 : Array (Option Value)}
    (a15 : PySem.W.nsIn K mainGlobals "_law_store" = some (some (.ref f15))) (l15 : K.lookup f15 = some ⟨oc15, od15, .func (PySem.W.fnOf "_law_store" "_law_store" (defArgs s_law_store) (defBody s_law_store) (defScope s_law_store) .none kV15 dc15 pm15 an15 cd15 ct15), sl15⟩) (c15 : PySem.W.codeIn K cd15 "_law_store" = true) (k15 : PySem.W.keepIn K (.ref f15) = true)
    {f16 : Addr} {oc16 kV16 dc16 pm16 cd16 ct16 : Value} {od16 an16 : Option Addr} {sl16 : Array (Option Value)}
    (a16 : PySem.W.nsIn K mainGlobals "_law_rings" = some (some (.ref f16))) (l16 : K.lookup f16 = some ⟨oc16, od16, .func (PySem.W.fnOf "_law_rings" "_law_rings" (defArgs s_law_rings) (defBody s_law_rings) (defScope s_law_rings) .none kV16 dc16 pm16 an16 cd16 ct16), sl16⟩) (c16 : PySem.W.codeIn K cd16 "_law_rings" = true) (k16 : PySem.W.keepIn K (.ref f16) = true)
    {f17 : Addr} {oc17 kV17 dc17 pm17 cd17 ct17 : Value} {od17 an17 : Option Addr} {sl17 : Array (Option Value)}
    (a17 : PySem.W.nsIn K mainGlobals "_law_kind" = some (some (.ref f17))) (l17 : K.lookup f17 = some ⟨oc17, od17, .func (PySem.W.fnOf "_law_kind" "_law_kind" (defArgs s_law_kind) (defBody s_law_kind) (defScope s_law_kind) .none kV17 dc17 pm17 an17 cd17 ct17), sl17⟩) (c17 : PySem.W.codeIn K cd17 "_law_kind" = true) (k17 : PySem.W.keepIn K (.ref f17) = true)
    {f18 : Addr} {oc18 kV18 dc18 pm18 cd18 ct18 : Value} {od18 an18 : Option Addr} {sl18 : Array (Option Value)}
    (a18 : PySem.W.nsIn K mainGlobals "_law_least" = some (some (.ref f18))) (l18 : K.lookup f18 = some ⟨oc18, od18, .func (PySem.W.fnOf "_law_least" "_law_least" (defArgs s_law_least) (defBody s_law_least) (defScope s_law_least) .none kV18 dc18 pm18 an18 cd18 ct18), sl18⟩) (c18 : PySem.W.codeIn K cd18 "_law_least" = true) (k18 : PySem.W.keepIn K (.ref f18) = true)
    {f19 : Addr} {oc19 kV19 dc19 pm19 cd19 ct19 : Value} {od19 an19 : Option Addr} {sl19 : Array (Option Value)}
    (a19 : PySem.W.nsIn K mainGlobals "_law_at" = some (some (.ref f19))) (l19 : K.lookup f19 = some ⟨oc19, od19, .func (PySem.W.fnOf "_law_at" "_law_at" (defArgs s_law_at) (defBody s_law_at) (defScope s_law_at) .none kV19 dc19 pm19 an19 cd19 ct19), sl19⟩) (c19 : PySem.W.codeIn K cd19 "_law_at" = true) (k19 : PySem.W.keepIn K (.ref f19) = true)
    {f20 : Addr} {oc20 kV20 dc20 pm20 cd20 ct20 : Value} {od20 an20 : Option Addr} {sl20 : Array (Option Value)}
    (a20 : PySem.W.nsIn K mainGlobals "_law_told_at" = some (some (.ref f20))) (l20 : K.lookup f20 = some ⟨oc20, od20, .func (PySem.W.fnOf "_law_told_at" "_law_told_at" (defArgs s_law_told_at) (defBody s_law_told_at) (defScope s_law_told_at) .none kV20 dc20 pm20 an20 cd20 ct20), sl20⟩) (c20 : PySem.W.codeIn K cd20 "_law_told_at" = true) (k20 : PySem.W.keepIn K (.ref f20) = true)
    {f21 : Addr} {oc21 kV21 dc21 pm21 cd21 ct21 : Value} {od21 an21 : Option Addr} {sl21 : Array (Option Value)}
    (a21 : PySem.W.nsIn K mainGlobals "_law_led" = some (some (.ref f21))) (l21 : K.lookup f21 = some ⟨oc21, od21, .func (PySem.W.fnOf "_law_led" "_law_led" (defArgs s_law_led) (defBody s_law_led) (defScope s_law_led) .none kV21 dc21 pm21 an21 cd21 ct21), sl21⟩) (c21 : PySem.W.codeIn K cd21 "_law_led" = true) (k21 : PySem.W.keepIn K (.ref f21) = true)
    {f22 : Addr} {oc22 kV22 dc22 pm22 cd22 ct22 : Value} {od22 an22 : Option Addr} {sl22 : Array (Option Value)}
    (a22 : PySem.W.nsIn K mainGlobals "_law_moved" = some (some (.ref f22))) (l22 : K.lookup f22 = some ⟨oc22, od22, .func (PySem.W.fnOf "_law_moved" "_law_moved" (defArgs s_law_moved) (defBody s_law_moved) (defScope s_law_moved) .none kV22 dc22 pm22 an22 cd22 ct22), sl22⟩) (c22 : PySem.W.codeIn K cd22 "_law_moved" = true) (k22 : PySem.W.keepIn K (.ref f22) = true)
    {f23 : Addr} {oc23 kV23 dc23 pm23 cd23 ct23 : Value} {od23 an23 : Option Addr} {sl23 : Array (Option Value)}
    (a23 : PySem.W.nsIn K mainGlobals "_law_right" = some (some (.ref f23))) (l23 : K.lookup f23 = some ⟨oc23, od23, .func (PySem.W.fnOf "_law_right" "_law_right" (defArgs s_law_right) (defBody s_law_right) (defScope s_law_right) .none kV23 dc23 pm23 an23 cd23 ct23), sl23⟩) (c23 : PySem.W.codeIn K cd23 "_law_right" = true) (k23 : PySem.W.keepIn K (.ref f23) = true)
    {f24 : Addr} {oc24 kV24 dc24 pm24 cd24 ct24 : Value} {od24 an24 : Option Addr} {sl24 : Array (Option Value)}
    (a24 : PySem.W.nsIn K mainGlobals "law" = some (some (.ref f24))) (l24 : K.lookup f24 = some ⟨oc24, od24, .func (PySem.W.fnOf "law" "law" (defArgs s_law) (defBody s_law) (defScope s_law) .none kV24 dc24 pm24 an24 cd24 ct24), sl24⟩) (c24 : PySem.W.codeIn K cd24 "law" = true) (k24 : PySem.W.keepIn K (.ref f24) = true)
    {CC CN KE : Addr}
    (gC : PySem.W.nsIn K mainGlobals "Classes" = some (some (.ref CC)))
    (cpg : PySem.W.plainGet K CC Str.empty = true)
    (chd : PySem.W.hasDictIn K CC = true)
    (cpo : PySem.W.plainOver K CC = true)
    (csa : PySem.W.findIn K (.ref CC) "__setattr__" = some (some (.builtin "object.__setattr__")))
    (cnH : PySem.W.findIn K (.ref CC) "heads" = some none)
    (cmk : PySem.W.makesIn K CC = true)
    (ckp : PySem.W.keepIn K (.ref CC) = true)
    {fI : Addr}
    (mI : PySem.W.findIn K (.ref CC) "__init__" = some (some (.ref fI)))
    (nI : PySem.W.isFn K (.ref fI) = true)
    {ocI kVI dcI pmI cdI ctI : Value} {odI anI : Option Addr} {slI : Array (Option Value)}
    (lI : K.lookup fI = some ⟨ocI, odI, .func (PySem.W.fnOf "__init__" "Classes.__init__" (defArgs s_init) (defBody s_init) (defScope s_init) .none kVI dcI pmI anI cdI ctI), slI⟩)
    (cI : PySem.W.codeIn K cdI "Classes.__init__" = true)
    (kI : PySem.W.keepIn K (.ref fI) = true)
    {fH : Addr}
    (mH : PySem.W.findIn K (.ref CC) "head" = some (some (.ref fH)))
    (nH : PySem.W.isFn K (.ref fH) = true)
    {ocH kVH dcH pmH cdH ctH : Value} {odH anH : Option Addr} {slH : Array (Option Value)}
    (lH : K.lookup fH = some ⟨ocH, odH, .func (PySem.W.fnOf "head" "Classes.head" (defArgs s_head) (defBody s_head) (defScope s_head) .none kVH dcH pmH anH cdH ctH), slH⟩)
    (cH : PySem.W.codeIn K cdH "Classes.head" = true)
    (kH : PySem.W.keepIn K (.ref fH) = true)
    {fJ : Addr}
    (mJ : PySem.W.findIn K (.ref CC) "join" = some (some (.ref fJ)))
    (nJ : PySem.W.isFn K (.ref fJ) = true)
    {ocJ kVJ dcJ pmJ cdJ ctJ : Value} {odJ anJ : Option Addr} {slJ : Array (Option Value)}
    (lJ : K.lookup fJ = some ⟨ocJ, odJ, .func (PySem.W.fnOf "join" "Classes.join" (defArgs s_join) (defBody s_join) (defScope s_join) .none kVJ dcJ pmJ anJ cdJ ctJ), slJ⟩)
    (cJ : PySem.W.codeIn K cdJ "Classes.join" = true)
    (kJ : PySem.W.keepIn K (.ref fJ) = true)
    (gN : PySem.W.nsIn K mainGlobals "NoRoad" = some (some (.ref CN)))
    {nm qq : Str} {Nx : Addr} {bs : List Value} {sn : List Str} {sub : List Value} {ab : Bool} {col : Option Bool} {dd : Option Addr} {m0 m1 m2 m3 m5 : Option Value}
    (xN : K.lookup CN = some (excClassObj nm qq CN Nx bs [.ref KE, .type "ValueError", .type "Exception", .type "BaseException", .type "object"] true sn sub ab col dd m0 m1 m2 m3 m5 "ValueError.__new__"))
    (nsa : PySem.W.findIn K (.ref CN) "__setattr__" = some (some (.builtin "object.__setattr__")))
    (nga : PySem.W.findIn K (.ref CN) "__getattribute__" = some (some (.builtin "BaseException.__getattribute__")))
    (ngg : PySem.W.findIn K (.ref CN) "__getattr__" = some none)
    (nnn : PySem.W.findIn K (.ref CN) "number" = some none)
    (nex : PySem.W.subIn K (.ref CN) (.type "BaseException") = some true)
    (nty : PySem.W.typeIn K (.ref CN) = some (.type "type"))
    (nkp : PySem.W.keepIn K (.ref CN) = true)
    (nhd : PySem.W.hasDictIn K CN = true)
    (nic : PySem.W.isClsIn K CN = true)
    (nsc : PySem.W.subIn K (.ref CN) (.ref CN) = some true)
    {fN : Addr}
    (iN : PySem.W.findIn K (.ref CN) "__init__" = some (some (.ref fN)))
    (tN : PySem.W.typeIn K (.ref fN) = some (.type "function"))
    {ocN kVN dcN pmN cdN ctN : Value} {odN anN : Option Addr} {slN : Array (Option Value)}
    (lN : K.lookup fN = some ⟨ocN, odN, .func (PySem.W.fnOf "__init__" "NoRoad.__init__" (defArgs s_NoRoad) (defBody s_NoRoad) (defScope s_NoRoad) .none kVN dcN pmN anN cdN ctN), slN⟩)
    (cN : PySem.W.codeIn K cdN "NoRoad.__init__" = true)
    (kN : PySem.W.keepIn K (.ref fN) = true)
    (z0 : PySem.W.nsIn K mainGlobals "len" = some none)
    (z1 : PySem.W.nsIn K mainGlobals "int" = some none)
    (z2 : PySem.W.nsIn K mainGlobals "repr" = some none)
    (z3 : PySem.W.nsIn K mainGlobals "tuple" = some none)
    (z4 : PySem.W.nsIn K mainGlobals "list" = some none)
    (z5 : PySem.W.nsIn K mainGlobals "range" = some none)
    (z6 : PySem.W.nsIn K mainGlobals "type" = some none)
    (z7 : PySem.W.nsIn K mainGlobals "zip" = some none)
    (z8 : PySem.W.nsIn K mainGlobals "bool" = some none)
    (z9 : PySem.W.nsIn K mainGlobals "enumerate" = some none)
    (z10 : PySem.W.nsIn K mainGlobals "isinstance" = some none) :
    ∃ fd : FuncData, (∀ (s : Shared) (v : Value), BindsTo s fd ⟨[v], []⟩ [("script", v)]) ∧ ∀ base : Heap, K.In base → base.Ns mainGlobals mg → FnG P w K mg base CX0 8 fa fd ["script"] (spLaw K) := by
  have e := hfa.symm.trans (PySem.W.mg_of X G a24)
  cases e
  have T : Txt K mg := ⟨PySem.W.mg_none_of X G z0, PySem.W.mg_none_of X G z1, PySem.W.mg_none_of X G z2, PySem.W.mg_none_of X G z3, PySem.W.mg_none_of X G z4, PySem.W.mg_none_of X G z5, PySem.W.mg_none_of X G z6, PySem.W.mg_none_of X G z7, PySem.W.mg_none_of X G z8, PySem.W.mg_none_of X G z9, PySem.W.mg_none_of X G z10⟩
  refine ⟨PySem.W.fnOf "law" "law" (defArgs s_law) (defBody s_law) (defScope s_law) .none kV24 dc24 pm24 an24 cd24 ct24, fun s v => .of_eq rfl, fun base _ _ => ?_⟩
  have D0 : DefG K mg "is_thing" s_is_thing ["value"] := defG_mk X G a0 l0 c0 k0 fun _ _ _ _ _ _ us hl => match us, hl with | [_], _ => rfl
  have D1 : DefG K mg "is_integer" s_is_integer ["value"] := defG_mk X G a1 l1 c1 k1 fun _ _ _ _ _ _ us hl => match us, hl with | [_], _ => rfl
  have D2 : DefG K mg "is_pair" s_is_pair ["store", "value"] := defG_mk X G a2 l2 c2 k2 fun _ _ _ _ _ _ us hl => match us, hl with | [_, _], _ => rfl
  have D3 : DefG K mg "kind_of" s_kind_of ["store", "value"] := defG_mk X G a3 l3 c3 k3 fun _ _ _ _ _ _ us hl => match us, hl with | [_, _], _ => rfl
  have D4 : DefG K mg "same_data" s_same_data ["one", "other"] := defG_mk X G a4 l4 c4 k4 fun _ _ _ _ _ _ us hl => match us, hl with | [_, _], _ => rfl
  have D5 : DefG K mg "are_one" s_are_one ["value", "other"] := defG_mk X G a5 l5 c5 k5 fun _ _ _ _ _ _ us hl => match us, hl with | [_, _], _ => rfl
  have D6 : DefG K mg "are_apart" s_are_apart ["store", "value", "other"] := defG_mk X G a6 l6 c6 k6 fun _ _ _ _ _ _ us hl => match us, hl with | [_, _, _], _ => rfl
  have D7 : DefG K mg "road_back" s_road_back ["reached", "at"] := defG_mk X G a7 l7 c7 k7 fun _ _ _ _ _ _ us hl => match us, hl with | [_, _], _ => rfl
  have D8 : DefG K mg "parting_road" s_parting_road ["store", "value", "other"] := defG_mk X G a8 l8 c8 k8 fun _ _ _ _ _ _ us hl => match us, hl with | [_, _, _], _ => rfl
  have D9 : DefG K mg "alike" s_alike ["store", "value", "other"] := defG_mk X G a9 l9 c9 k9 fun _ _ _ _ _ _ us hl => match us, hl with | [_, _, _], _ => rfl
  have D10 : DefG K mg "value_at" s_value_at ["store", "value", "road"] := defG_mk X G a10 l10 c10 k10 fun _ _ _ _ _ _ us hl => match us, hl with | [_, _, _], _ => rfl
  have D11 : DefG K mg "_law_draw" s_law_draw ["m", "below"] := defG_mk X G a11 l11 c11 k11 fun _ _ _ _ _ _ us hl => match us, hl with | [_, _], _ => rfl
  have D12 : DefG K mg "_law_of" s_law_of ["m", "some"] := defG_mk X G a12 l12 c12 k12 fun _ _ _ _ _ _ us hl => match us, hl with | [_, _], _ => rfl
  have D13 : DefG K mg "_law_begun" s_law_begun ["script", "k"] := defG_mk X G a13 l13 c13 k13 fun _ _ _ _ _ _ us hl => match us, hl with | [_, _], _ => rfl
  have D14 : DefG K mg "_law_value" s_law_value ["m", "size"] := defG_mk X G a14 l14 c14 k14 fun _ _ _ _ _ _ us hl => match us, hl with | [_, _], _ => rfl
  have D15 : DefG K mg "_law_store" s_law_store ["m", "size"] := defG_mk X G a15 l15 c15 k15 fun _ _ _ _ _ _ us hl => match us, hl with | [_, _], _ => rfl
  have D16 : DefG K mg "_law_rings" s_law_rings ["m"] := defG_mk X G a16 l16 c16 k16 fun _ _ _ _ _ _ us hl => match us, hl with | [_], _ => rfl
  have D17 : DefG K mg "_law_kind" s_law_kind ["store", "value"] := defG_mk X G a17 l17 c17 k17 fun _ _ _ _ _ _ us hl => match us, hl with | [_, _], _ => rfl
  have D18 : DefG K mg "_law_least" s_law_least ["store", "first", "second"] := defG_mk X G a18 l18 c18 k18 fun _ _ _ _ _ _ us hl => match us, hl with | [_, _, _], _ => rfl
  have D19 : DefG K mg "_law_at" s_law_at ["store", "value", "road"] := defG_mk X G a19 l19 c19 k19 fun _ _ _ _ _ _ us hl => match us, hl with | [_, _, _], _ => rfl
  have D20 : DefG K mg "_law_told_at" s_law_told_at ["store", "value", "road"] := defG_mk X G a20 l20 c20 k20 fun _ _ _ _ _ _ us hl => match us, hl with | [_, _, _], _ => rfl
  have D21 : DefG K mg "_law_led" s_law_led ["value", "places"] := defG_mk X G a21 l21 c21 k21 fun _ _ _ _ _ _ us hl => match us, hl with | [_, _], _ => rfl
  have D22 : DefG K mg "_law_moved" s_law_moved ["m", "store", "values"] := defG_mk X G a22 l22 c22 k22 fun _ _ _ _ _ _ us hl => match us, hl with | [_, _, _], _ => rfl
  have D23 : DefG K mg "_law_right" s_law_right ["m", "store", "first", "second"] := defG_mk X G a23 l23 c23 k23 fun _ _ _ _ _ _ us hl => match us, hl with | [_, _, _, _], _ => rfl
  have ct : CT K CC := ⟨⟨cpg, chd, cpo, csa⟩, cnH⟩
  have FI := fun_mk (st := s_init) lI cI kI
  have FH := fun_mk (st := s_head) lH cH kH
  have FJ := fun_mk (st := s_join) lJ cJ kJ
  have bI := FI.binds (ps := ["self"]) fun _ _ _ _ _ _ us hl => match us, hl with | [_], _ => rfl
  have bH := FH.binds (ps := ["self", "address"]) fun _ _ _ _ _ _ us hl => match us, hl with | [_, _], _ => rfl
  have bJ := FJ.binds (ps := ["self", "one", "other"]) fun _ _ _ _ _ _ us hl => match us, hl with | [_, _, _], _ => rfl
  have Z : ClsT P w K mg base CC fI fJ _ _ := ⟨ct, ⟨cmk, mI, nI, ckp⟩, PySem.W.mg_of X G gC, m_init ct FI, bI, ⟨mJ, nJ, kJ⟩, m_join ct ⟨mH, nH, kH⟩ (m_head ct FH) bH FJ, bJ⟩
  have oe : OexC K CN := ⟨⟨nm, qq, Nx, bs, _, sn, sub, ab, col, dd, m0, m1, m2, m3, m5, xN, rfl⟩, nsa, nex, nty, nkp⟩
  have FN := fun_mk (st := s_NoRoad) lN cN kN
  have bN := FN.binds (ps := ["self", "number"]) fun _ _ _ _ _ _ us hl => match us, hl with | [_, _], _ => rfl
  have ZN : NoT P w K mg base CN fN _ := ⟨oe, iN, tN, PySem.W.mg_of X G gN, nnn, ⟨nga, ngg, nex, nhd⟩, exm_own nex nic nty nsc, m_noroad oe nnn FN, bN⟩
  have C0 := c_is_thing (P := P) (w := w) (base := base) T D0 
  have C1 := c_is_integer (P := P) (w := w) (base := base) T D1 
  have C2 := c_is_pair (P := P) (w := w) (base := base) T D2 C0
  have C3 := c_kind_of (P := P) (w := w) (base := base) T D3 C1 C2
  have C4 := c_same_data (P := P) (w := w) (base := base) T D4 
  have C5 := c_are_one (P := P) (w := w) (base := base) T D5 C4
  have C6 := c_are_apart (P := P) (w := w) (base := base) T D6 C3 C2 C5
  have C7 := c_road_back (P := P) (w := w) (base := base) T D7 
  have C8 := c_parting_road (P := P) (w := w) (base := base) T D8 Z C6 C2 C7
  have C9 := c_alike (P := P) (w := w) (base := base) T D9 C8
  have C10 := c_value_at (P := P) (w := w) (base := base) T D10 ZN C2
  have C11 := c_law_draw (P := P) (w := w) (base := base) T D11 
  have C12 := c_law_of (P := P) (w := w) (base := base) T D12 C11
  have C13 := c_law_begun (P := P) (w := w) (base := base) T D13 
  have C14 := c_law_value (P := P) (w := w) (base := base) T D14 C11 C12
  have C15 := c_law_store (P := P) (w := w) (base := base) T D15 C11 C14 C12
  have C16 := c_law_rings (P := P) (w := w) (base := base) T D16 C11 C12
  have C17 := c_law_kind (P := P) (w := w) (base := base) T D17 
  have C18 := c_law_least (P := P) (w := w) (base := base) T D18 C17
  have C19 := c_law_at (P := P) (w := w) (base := base) T D19 C17
  have C20 := c_law_told_at (P := P) (w := w) (base := base) T D20 ZN C10
  have C21 := c_law_led (P := P) (w := w) (base := base) T D21 
  have C22 := c_law_moved (P := P) (w := w) (base := base) T D22 C11 C21
  have C23 := c_law_right (P := P) (w := w) (base := base) T D23 C18 C8 C9 C22 C11 C20 C19
  exact g_law T (fun_mk (st := s_law) l24 c24 k24) C13 C11 C15 C23 C14 C16 C8
end
end K22
open PySem PySem.W PyProof.Rows
set_option maxRecDepth 100000 in
set_option maxHeartbeats 0 in
theorem PySem.Challenge.cw_keptrest_k22_whole_least_roads_holds : PySem.Challenge.rw_keptrest_k22_whole_least_roads.Holds := by
  w_on; o_law; k_head; (case hw => w_witness2)
  k_fill
  refine Kt.walk_ofG (l := PySem.Challenge.rw_keptrest_k22_whole_least_roads) (n := 63) (k := 8) (x := "script") (sp := K22.spLaw) rfl (by decide) rfl ⟨rfl, by decide, by decide⟩ (fun w h Y => PySem.W.kIn_of Y) ?F (fun K H a ns hl hS => ⟨a, ns, rfl, hS, hl, fun _ => rfl⟩)
  case F =>
    intro w mg fa h KX G hmg
    refine' K22.all_mk KX G hmg ?a0 ?l0 ?c0 ?k0 ?a1 ?l1 ?c1 ?k1 ?a2 ?l2 ?c2 ?k2 ?a3 ?l3 ?c3 ?k3 ?a4 ?l4 ?c4 ?k4 ?a5 ?l5 ?c5 ?k5 ?a6 ?l6 ?c6 ?k6 ?a7 ?l7 ?c7 ?k7 ?a8 ?l8 ?c8 ?k8 ?a9 ?l9 ?c9 ?k9 ?a10 ?l10 ?c10 ?k10 ?a11 ?l11 ?c11 ?k11 ?a12 ?l12 ?c12 ?k12 ?a13 ?l13 ?c13 ?k13 ?a14 ?l14 ?c14 ?k14 ?a15 ?l15 ?c15 ?k15 ?a16 ?l16 ?c16 ?k16 ?a17 ?l17 ?c17 ?k17 ?a18 ?l18 ?c18 ?k18 ?a19 ?l19 ?c19 ?k19 ?a20 ?l20 ?c20 ?k20 ?a21 ?l21 ?c21 ?k21 ?a22 ?l22 ?c22 ?k22 ?a23 ?l23 ?c23 ?k23 ?a24 ?l24 ?c24 ?k24 ?gC ?cpg ?chd ?cpo ?csa ?cnH ?cmk ?ckp ?mI ?nI ?lI ?cI ?kI ?mH ?nH ?lH ?cH ?kH ?mJ ?nJ ?lJ ?cJ ?kJ ?gN ?xN ?nsa ?nga ?ngg ?nnn ?nex ?nty ?nkp ?nhd ?nic ?nsc ?iN ?tN ?lN ?cN ?kN ?z0 ?z1 ?z2 ?z3 ?z4 ?z5 ?z6 ?z7 ?z8 ?z9 ?z10
    (case a0 => k_is); (case l0 => k_is); (case c0 => k_is); (case k0 => k_is)
    (case a1 => k_is); (case l1 => k_is); (case c1 => k_is); (case k1 => k_is)
    (case a2 => k_is); (case l2 => k_is); (case c2 => k_is); (case k2 => k_is)
    (case a3 => k_is); (case l3 => k_is); (case c3 => k_is); (case k3 => k_is)
    (case a4 => k_is); (case l4 => k_is); (case c4 => k_is); (case k4 => k_is)
    (case a5 => k_is); (case l5 => k_is); (case c5 => k_is); (case k5 => k_is)
    (case a6 => k_is); (case l6 => k_is); (case c6 => k_is); (case k6 => k_is)
    (case a7 => k_is); (case l7 => k_is); (case c7 => k_is); (case k7 => k_is)
    (case a8 => k_is); (case l8 => k_is); (case c8 => k_is); (case k8 => k_is)
    (case a9 => k_is); (case l9 => k_is); (case c9 => k_is); (case k9 => k_is)
    (case a10 => k_is); (case l10 => k_is); (case c10 => k_is); (case k10 => k_is)
    (case a11 => k_is); (case l11 => k_is); (case c11 => k_is); (case k11 => k_is)
    (case a12 => k_is); (case l12 => k_is); (case c12 => k_is); (case k12 => k_is)
    (case a13 => k_is); (case l13 => k_is); (case c13 => k_is); (case k13 => k_is)
    (case a14 => k_is); (case l14 => k_is); (case c14 => k_is); (case k14 => k_is)
    (case a15 => k_is); (case l15 => k_is); (case c15 => k_is); (case k15 => k_is)
    (case a16 => k_is); (case l16 => k_is); (case c16 => k_is); (case k16 => k_is)
    (case a17 => k_is); (case l17 => k_is); (case c17 => k_is); (case k17 => k_is)
    (case a18 => k_is); (case l18 => k_is); (case c18 => k_is); (case k18 => k_is)
    (case a19 => k_is); (case l19 => k_is); (case c19 => k_is); (case k19 => k_is)
    (case a20 => k_is); (case l20 => k_is); (case c20 => k_is); (case k20 => k_is)
    (case a21 => k_is); (case l21 => k_is); (case c21 => k_is); (case k21 => k_is)
    (case a22 => k_is); (case l22 => k_is); (case c22 => k_is); (case k22 => k_is)
    (case a23 => k_is); (case l23 => k_is); (case c23 => k_is); (case k23 => k_is)
    (case a24 => k_is); (case l24 => k_is); (case c24 => k_is); (case k24 => k_is)
    (case gC => k_is); (case cpg => k_is); (case chd => k_is); (case cpo => k_is)
    (case csa => k_is); (case cnH => k_is); (case cmk => k_is); (case ckp => k_is)
    (case mI => k_is); (case nI => k_is); (case lI => k_is); (case cI => k_is)
    (case kI => k_is); (case mH => k_is); (case nH => k_is); (case lH => k_is)
    (case cH => k_is); (case kH => k_is); (case mJ => k_is); (case nJ => k_is)
    (case lJ => k_is); (case cJ => k_is); (case kJ => k_is); (case gN => k_is)
    (case xN => k_is); (case nsa => k_is); (case nga => k_is); (case ngg => k_is)
    (case nnn => k_is); (case nex => k_is); (case nty => k_is); (case nkp => k_is)
    (case nhd => k_is); (case nic => k_is); (case nsc => first | rfl | k_is); (case iN => k_is); (case tN => k_is)
    (case lN => k_is); (case cN => k_is); (case kN => k_is); (case z0 => k_is)
    (case z1 => k_is); (case z2 => k_is); (case z3 => k_is); (case z4 => k_is)
    (case z5 => k_is); (case z6 => k_is); (case z7 => k_is); (case z8 => k_is)
    (case z9 => k_is); (case z10 => k_is)
