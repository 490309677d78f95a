import PyProof.Rows.All
import Wide.All
import OpenK.AllK
import Wide.FinOn
import HandS.Base
import HandS.Call
import HandS.List
import HandS.Comp
import HandS.Ends
import HandS.Dict
import HandS.Iter
import HandS.Text
import HandS.Words
import HandS.WordsList
import HandS.Wide
import HandS.IsInst
import HandS.Walk
import PyProof.ReprRoads
import HandS.More
import HandS.Codes
import PyProof.ReprLen
import PyProof.StrLawsRepr
import PyProof.Rows.ReprOcc
import HandS.Style
import HandS.TupAny
import PySem.Challenge.RW_variantnest_k05_trees_recognized
set_option Elab.async false
set_option linter.all false
set_option maxRecDepth 100000
set_option maxHeartbeats 2000000
/-! Vn: calls where it is known that no repr is under way (guards = some []), and repr of data at any depth. -/
namespace Vn
open PySem PySem.Spec PyProof.Rows L2

/-! ### a def's run at one surrounding -/
/-- f, called within A, keeps sp -/
def RunAt (P : Program) (w : World) (K : PySem.W.Frag) (mg : Str → Option Value) (base : Heap) (CX : CXT)
    (f : Addr) (fd : FuncData) (ps : List Str) (sp : Sp) (A : Around) : Prop :=
  ∀ (outer : List Env) (s : Shared) (H : Hp) (args : Args) (us : List Value) (vs : List V) (Q : VK) (E : XK),
    Env0 P w K mg base A outer s H → BindsTo s fd args (ps.zip us) → Vals vs us → sp vs H Q E →
      codeAny (model P w) A (.call (.ref f) args) (CR CX outer P w H s Q E) s
/-- FnOk for callers under which no repr is under way -/
structure FnG (P : Program) (w : World) (K : PySem.W.Frag) (mg : Str → Option Value) (base : Heap) (CX : CXT)
    (k : Nat) (f : Addr) (fd : FuncData) (ps : List Str) (sp : Sp) : Prop where
  len : ∀ vs H Q E, sp vs H Q E → vs.length = ps.length
  run : ∀ A : Around, A.guards = some [] → Room k A → RunAt P w K mg base CX f fd ps sp A
theorem FnG.of {P : Program} {w : World} {K : PySem.W.Frag} {mg : Str → Option Value} {base : Heap} {CX : CXT}
    {k : Nat} {f : Addr} {fd : FuncData} {ps : List Str} {sp : Sp} (F : FnOk P w K mg base CX k f fd ps sp) :
    FnG P w K mg base CX k f fd ps sp :=
  ⟨F.len, fun A _ r outer s H args us vs Q E => F.run A outer s H args us vs Q E r⟩

section
variable {P : Program} {w : World} {K : PySem.W.Frag} {mg : Str → Option Value} {base : Heap} {CX : CXT} {k : Nat}
  {f : Addr} {fd : FuncData} {N ps : List Str} {sp : Sp}
/-- from the walk of a body -/
theorem runAt_body {A : Around} {name qual : Str} {params : Arguments} {body : List Stmt} {scope : Scope} {dV kV doc pm cdv ct oc : Value} {an od : Option Addr} {osl : Array (Option Value)}
    (lk : K.lookup f = some ⟨oc, od, .func (PySem.W.fnOf name qual params body scope dV kV doc pm an cdv ct), osl⟩)
    (hcd : PySem.W.codeIn K cdv qual = true) (S : FnScope N ps scope) (hlen : ∀ vs H Q E, sp vs H Q E → vs.length = ps.length)
    (hr : Room (k + 1) A)
    (hbody : ∀ (outer : List Env) (s : Shared) (H : Hp) (vs : List V) (Q : VK) (E : XK),
      Room k (A.deeper (envOfC qual scope s.heap.objs.size f cdv)) → sp vs H Q E →
      ∃ t, PSs (cxOf CX P w K mg base N qual scope f cdv A outer s H E) body t ∧ t { nx := fun _ H' => Q .non H', rt := Q } (start N vs) H) :
    RunAt P w K mg base CX f (PySem.W.fnOf name qual params body scope dV kV doc pm an cdv ct) ps sp A := by
  intro outer s H args us vs Q E e0 hb rv hsp
  have stands : ∀ b o, base.get? b = some o → s.heap.get? b = some o := fun b o e => (e0.bs b o e).1
  have inK : K.In s.heap := e0.mod.kin.keeps stands
  have nolim : s.heap.NoLimit := e0.mod.nolimit.keeps stands
  have n1 := hlen _ _ _ _ hsp
  refine codeAny_call_function hr.depth (inK _ _ lk) rfl S.co S.gen rfl
    (PySem.W.codeRec_of inK hcd) (hb _ _ _ _ (wpAny_newFunctionEnv_cells S.kind ?kinds fun env he s1 x => ?inside))
  case kinds =>
    rintro ⟨n, v⟩ hy
    cases S.par n (List.of_mem_zip hy).1 with
    | inl q => exact .inl q
    | inr q => exact .inr ⟨q, PySem.W.cellsFrom_some _ _ _ (.inl q)⟩
  case inside =>
    subst he
    refine ⟨nolim.keeps x.toInCall.keep, codeAny_func ?_⟩
    obtain ⟨t, ht, hq⟩ := hbody outer s H vs Q E (hr.deeper _) hsp
    have J0 := inv_start (CX := CX) (E := E) S hr.hd e0 n1 rv x
    refine wpAny_mono (ht.run [] s1 (start N vs) H _ J0 hq) (fun fl s' z => ?_) (fun _ _ z => z)
    match fl, z with
    | .ret u, ⟨v, _, H', J, r, q⟩ => exact ⟨v, H', J.os, J.bare, J.base, J.hok, r, q⟩
    | .next, ⟨_, H', J, q⟩ => exact ⟨V.non, H', J.os, J.bare, J.base, J.hok, rfl, q⟩
    | .brk, ⟨_, _, _, q⟩ => exact q.elim
    | .cont, ⟨_, _, _, q⟩ => exact q.elim
/-- a def of the text whose body needs to know that no repr is under way; nothing leaves it -/
theorem Fun_okG {x qual : Str} {st : Stmt} (F : Fun K x qual st f fd) (S : FnScope N ps (defScope st))
    (hlen : ∀ vs H Q E, sp vs H Q E → vs.length = ps.length)
    (hbody : ∀ (cdv : Value) (A : Around) (outer : List Env) (s : Shared) (H : Hp) (vs : List V) (Q : VK) (E : XK),
      A.guards = some [] → Room k (A.deeper (envOfC qual (defScope st) s.heap.objs.size f cdv)) → sp vs H Q E →
      ∃ t, PSs (cxOf CX0 P w K mg base N qual (defScope st) f cdv A outer s H E).nox (defBody st) t ∧ t { nx := fun _ H' => Q .non H', rt := Q } (start N vs) H) :
    FnG P w K mg base CX0 (k + 1) f fd ps sp := by
  obtain ⟨oc, od, kV, doc, pm, an, cdv, ct, osl, rfl, lk, hcd⟩ := F.ex
  refine ⟨hlen, fun A hg hr => runAt_body lk hcd S hlen hr fun outer s H vs Q E r1 h1 => ?_⟩
  obtain ⟨t, h, q⟩ := hbody cdv A outer s H vs Q E hg r1 h1
  exact ⟨t, h.nox, q⟩
end

section
variable {X : Cx} {CX : CXT} {k : Nat} {f : Addr} {fd : FuncData} {ps : List Str} {sp : Sp} {dvs : List V} {ds : List Value} {E : XK} {x : Str} {p pos : Pos} {e : Expr} {es : List Expr} {t : TA}
/-- f(e, ..) where no repr is under way -/
theorem pe_callG (F : FnG X.prog X.w X.K X.mg X.base CX k f fd ps sp) (hG : X.A.guards = some []) (hr : Room k X.A)
    (hg : Gl X x) (hm : X.mg x = some (.ref f)) (hk : PySem.W.keepIn X.K (.ref f) = true) (hb : Binds X.K fd ps ds) (hd : Vals dvs ds)
    (hx : Passes CX X E) (ha : PA X (e :: es) t) (hdb : (x == ("__debug__" : Str)) = false := by decide)
    (he : starEach (e :: es) X.env = (false, eval e X.env) :: starEach es X.env := by rfl)
    (hpl : (backTo pos (starEach es X.env)).any (·.1) = false := by rfl) : PE X (.Call (.Name x p) (e :: es) [] pos) (tCall sp dvs E t) := by
  constructor
  intro pins s σ H Q I h
  refine wpAny_Call_Name_kw (ld_glob I hg hm (PySem.W.callWith_K (h₀ := X.base) I.ok.mod.kin hk (thn (ha.run pos pins s σ H _ I h) ?_) he hpl) hdb)
  rintro us s1 ⟨vs, H1, I1, r, q⟩
  have r2 : Vals (vs ++ dvs) (us ++ ds) := r.append hd
  have hl : (us ++ ds).length = ps.length := r2.length.symm.trans (F.len _ _ _ _ q)
  refine ⟨I1.kIn, wpAny_call (codeAny_mono (F.run X.A hG hr X.stack s1 H1 ⟨us, []⟩ (us ++ ds) _ Q E I1.env0 (hb s1 us I1.kIn hl) r2 q) fun o s' z => ?_)⟩
  match o, z with
  | .error e, z => exact hx pins σ H1 s1 e s' I1 z
  | .ok (.ret u), z => exact I1.after z
  | .ok .next, z => exact z.elim
  | .ok .brk, z => exact z.elim
  | .ok .cont, z => exact z.elim

/-- repr of data: none, bools, ints, texts, lists, tuples, at any depth below 60 -/
def rReprD (K : PySem.W.Frag) : List V → Hp → VK → Prop := fun xs H Q => ∃ (v : V) (d : PyData), xs = [v] ∧ Dp K H v d ∧ d.showable = true ∧ d.hasDict = false ∧ d.depth ≤ 60 ∧ d.shown.length ≤ sizeLine ∧ Q (.str d.shown) H
theorem call_reprD (hG : X.A.guards = some []) (hu : X.A.units + 64 < cLine) : CallR X (.builtin "repr") (rReprD X.K) := by
  intro pins s σ H xs us Q I r h
  obtain ⟨v, d, rfl, hd, h1, h2, h3, h4, q⟩ := h
  obtain ⟨u, rfl, rx⟩ := vals1 r
  cases hd with
  | non =>
    cases (show u = Value.none from rx)
    exact PySem.P.repr_of_none ⟨.str _, H, I.tok _, ⟨_, rfl⟩, q⟩
  | bl b =>
    cases (show u = Value.bool b from rx)
    exact PySem.P.repr_of_bool ⟨.str _, H, I.tok _, ⟨_, rfl⟩, q⟩
  | int i =>
    obtain ⟨t, rfl⟩ := (show ∃ t, u = Value.int i t from rx)
    exact PySem.P.repr_of_int (of_decide_eq_true h1) ⟨.str _, H, I.tok _, ⟨_, rfl⟩, q⟩
  | str x =>
    obtain ⟨t, rfl⟩ := (show ∃ t, u = Value.str x t from rx)
    exact PySem.P.repr_of_str ⟨.str _, H, I.tok _, ⟨_, rfl⟩, q⟩ h4
  | lst hs ha =>
    cases (show u = Value.ref _ from rx)
    obtain ⟨as, rd⟩ := Dp.reads I _ _ _ (.lst hs ha) rx
    exact repr_of_reads' rd h1 (PyData.noDict_hsm h2) hG (by omega) (fun _ _ e => e)
      (fun h' u tk hk => ⟨.str _, H, I.kept hk, ⟨_, rfl⟩, q⟩) h4
  | tup hs ha =>
    cases (show u = Value.ref _ from rx)
    obtain ⟨as, rd⟩ := Dp.reads I _ _ _ (.tup hs ha) rx
    exact repr_of_reads' rd h1 (PyData.noDict_hsm h2) hG (by omega) (fun _ _ e => e)
      (fun h' u tk hk => ⟨.str _, H, I.kept hk, ⟨_, rfl⟩, q⟩) h4
end

/-! ### the law's own run: FnG at the outermost call -/
section
variable {P : Program} {w : World} {K : PySem.W.Frag} {mg mb : Str → Option Value} {k : Nat} {fa a : Addr} {fd : FuncData} {x : Str} {sp : Sp} {s₁ : Shared} {vs : List Value} {ns : List Int}
/-- what a row wants behind its call -/
abbrev GoodEnd (s₁ : Shared) (r : Result) (s' : Shared) : Prop :=
  r = .ok (.ret (.bool true)) ∧ OldK s₁.heap s'.heap ∧ s'.os = s₁.os ∧ AllBare s'.gens
/-- from an abstract heap H that tracks the script at most -/
theorem law_at (KX : K.In s₁.heap) (hns : s₁.heap.Ns mainGlobals mg) (hb : s₁.heap.Ns builtinsNs mb)
    (hbb : ∀ y : Str, y ≠ "__name__" → mb y = bootBuiltins y) (hlim : s₁.heap.NoLimit) (hgen : s₁.gens = #[])
    (ha : s₁.heap.get? a = some { cls := .type "list", data := .seq vs.toArray }) (hr : Room k callerA)
    (F : ∀ base : Heap, K.In base → base.Ns mainGlobals mg → FnG P w K mg base CX0 k fa fd [x] sp)
    (hbind : ∀ (s : Shared) (u : Value), BindsTo s fd ⟨[u], []⟩ [(x, u)]) (H : Hp) (hO : Only H)
    (hsp : sp [.ref a] H (fun v _ => v = .bl true) fun _ _ _ => False) (hok : HOk P w H s₁.heap)
    (hA : ∀ b, H b ≠ none → b = a) (hK : H a ≠ none → K.lookup a = none) :
    codeAny (model P w) callerA (.call (.ref fa) ⟨[.ref a], []⟩) (GoodEnd s₁) s₁ := by
  have tracked : ∀ {b : Addr}, ¬ b = a → H b = none := fun {b} n => by
    cases q : H b with
    | none => rfl
    | some u => exact absurd (hA b (by rw [q]; exact Option.some_ne_none u)) n
  have noDict : ∀ {b : Addr} {o : Obj} {es : Array DictEntry} {ep : Nat}, s₁.heap.get? b = some o → o.data = .dict es ep → H b = none := by
    intro b o es ep e d
    refine tracked fun z => ?_
    rw [z, ha] at e
    cases e
    cases (show Data.seq vs.toArray _ = Data.dict es ep from d)
  have nsH : ∀ {b : Addr} {m : Str → Option Value}, s₁.heap.Ns b m → (hidT s₁.heap H).Ns b m := by
    rintro b m ⟨o, es, ep, e, d, r⟩
    exact ⟨o, es, ep, hidT_get e (noDict e d), d, r⟩
  have inK : K.In (hidT s₁.heap H) := by
    intro b o e
    refine hidT_get (KX b o e) ?_
    by_cases z : b = a
    · cases q : H b with
      | none => rfl
      | some u =>
        subst z
        rw [hK (by rw [q]; exact Option.some_ne_none u)] at e
        cases e
    · exact tracked z
  have lim : (hidT s₁.heap H).NoLimit := by
    obtain ⟨mc, h1, h2⟩ := hlim
    exact ⟨mc, nsH h1, h2⟩
  have no : ∀ {b : Addr}, ¬ b ∈ ([] : List Addr) := fun h => nomatch h
  have e0 : Env0 P w K mg (hidT s₁.heap H) callerA [] s₁ H :=
    { frames := rfl, mod := ⟨inK, nsH hns, ⟨mb, nsH hb, hbb⟩, lim⟩, bs := fun b o e => of_hidT e, bsz := Nat.le_of_eq (hidT_size _ _),
      funs := trivial, frf := fun b z => (no (b := b) z).elim, hok := hok, bare := .of_eq hgen }
  refine codeAny_mono ((F _ inK (nsH hns)).run callerA rfl hr [] s₁ H ⟨[.ref a], []⟩ [.ref a] [.ref a] _ _ e0
    (hbind s₁ (.ref a)) (.cons rfl .nil) hsp) fun r s' h => ?_
  match r, h with
  | .error e, h => exact h.elim
  | .ok .next, h => exact h.elim
  | .ok .brk, h => exact h.elim
  | .ok .cont, h => exact h.elim
  | .ok (.ret u), ⟨v, H', os, bare, un, hok', rv, (q : v = .bl true)⟩ =>
    subst q
    cases (show u = Value.bool true from rv)
    refine ⟨rfl, OldK.of_keep fun b o e => ?_, os, bare⟩
    rcases hO b with z | ⟨ob, xs, z⟩
    · exact un.keep b o e z (fun m => (no (b := b) m).elim) (fun m => (no (b := b) m).elim)
    · obtain ⟨e1, _⟩ := hok b _ z
      obtain ⟨e2, _⟩ := hok' b _ (un.frzs b ob _ z)
      cases e.symm.trans e1
      exact e2
/-- the end of a law row whose def keeps its promise where no repr is under way -/
theorem walk_ofG {l : PySem.W.OpenLaw} {n : Nat} {q : Program} {loose : List Str} {XP : (Str → Option Value) → Heap → Prop} {YP : World → Heap → Prop} {d : DefRec} {K : Params → PySem.W.Frag} {sp : World → Sp}
    (hn : l.most = some n) (hn2 : n ≤ sizeLine) (hdf : d.params.defaults = []) (hr : Room k callerA)
    (hY : ∀ (w : World) (h : Heap), YP w h → (K w.params).In h)
    (F : ∀ (w : World) (mg : Str → Option Value) (fa : Addr) (h : Heap), (K w.params).In h → h.Ns mainGlobals mg → mg d.name = some (.ref fa) →
      ∃ fd : FuncData, (∀ (s : Shared) (u : Value), BindsTo s fd ⟨[u], []⟩ [(x, u)]) ∧
        ∀ base : Heap, (K w.params).In base → base.Ns mainGlobals mg → FnG l.prog w (K w.params) mg base CX0 k fa fd [x] (sp w))
    (hsp : ∀ (w : World) (H : Hp) (a : Addr) (ns : List Int), ns.length ≤ n → Only H → SqL (K w.params) H a (ns.map V.int) → sp w [.ref a] H (fun v _ => v = .bl true) fun _ _ _ => False) :
    PySem.W.WalkO q loose XP YP l.row.toRowW d [] (fun f vs => PySem.call f vs) := by
  refine Att.attach_call hn hdf ?_
  intro w s₀ s₁ mg mb fa o pm cd doc a vs ns G Y ho hd hcd hmg hobj hints hlen hgen
  have KX := hY w _ Y
  obtain ⟨fd, hb, hF⟩ := F w mg fa _ KX G.T.g hmg
  have rv := vals_ints hints
  have small : ns.length ≤ sizeLine := Nat.le_trans hlen hn2
  have go := law_at (P := l.prog) (w := w) KX G.T.g G.T.b G.T.builtins G.T.nolimit hgen hobj hr hF hb
  cases hk : (K w.params).lookup a with
  | some ob =>
    have e := KX a ob hk
    rw [hobj] at e
    cases e
    refine go (fun _ => none) (fun _ => .inl rfl) (hsp w _ a ns hlen (fun _ => .inl rfl) (.inr ⟨_, vs.toArray, _, hk, rfl, rfl, rfl, ?_, rv⟩)) (fun _ _ z => nomatch z) (fun _ z => (z rfl).elim) (fun z => (z rfl).elim)
    rw [List.size_toArray, hints.length]
    exact small
  | none =>
    have at_a : ∀ b, (if b = a then some (HO.frz { cls := .type "list", data := .seq vs.toArray } (.lst (ns.map V.int))) else none) ≠ none → b = a := by
      intro b z
      by_cases e : b = a
      · exact e
      · rw [if_neg e] at z
        exact (z rfl).elim
    have only : Only fun b => if b = a then some (.frz { cls := .type "list", data := .seq vs.toArray } (.lst (ns.map V.int))) else none := by
      intro b
      by_cases e : b = a
      · exact .inr ⟨_, _, if_pos e⟩
      · exact .inl (if_neg e)
    refine go _ only (hsp w _ a ns hlen only (.inl (.inr ⟨_, if_pos rfl⟩))) (fun b u z => ?_) at_a fun _ => hk
    obtain rfl := at_a b (by rw [z]; exact Option.some_ne_none u)
    rw [if_pos rfl] at z
    cases z
    exact ⟨hobj, by rw [List.length_map]; exact small, vs, _, rv, hobj⟩
end
end Vn

set_option Elab.async false
set_option linter.all false
set_option maxRecDepth 100000
set_option maxHeartbeats 2000000
/-! Vn: data as the laws draw it: its size, its place beside the stream, the stream. -/
namespace Vn
open PySem PySem.Spec PyProof.Rows L2

/-! ### data that can be shown -/
mutual
/-- no text of it is shown by more signs than this -/
def big : PyData → Nat
  | .none | .bool _ => 5
  | .int _ => 2000
  | .str x => 10 * x.length + 2
  | .list xs | .tuple xs => bigs xs + 3
  | .dict _ => 0
def bigs : List PyData → Nat
  | [] => 0
  | x :: xs => big x + 2 + bigs xs
end
mutual
def fine : PyData → Bool
  | .none | .bool _ => true
  | .int i => decide (i.natAbs.log2 < 1920)
  | .str x => x.cps.toList.all fun c => decide (c < 1114112)
  | .list xs | .tuple xs => fines xs
  | .dict _ => false
def fines : List PyData → Bool
  | [] => true
  | x :: xs => fine x && fines xs
end
theorem toString_small {i : Int} (h : i.natAbs.log2 < 1920) : (Str.ofString (toString i)).length ≤ 2000 := by
  rw [PySem.ofString_length]
  have := int_text_length_le (k := 1920) (by decide) h
  omega
mutual
theorem shown_big : ∀ d : PyData, fine d = true → d.showable = true ∧ d.hasDict = false ∧ d.shown.length ≤ big d
  | .none, _ => by
    simp only [PyData.showable, PyData.hasDict, PyData.shown, big]
    exact ⟨trivial, trivial, by decide⟩
  | .bool b, _ => by
    simp only [PyData.showable, PyData.hasDict, PyData.shown, big]
    cases b <;> exact ⟨trivial, trivial, by decide⟩
  | .int i, h => by
    simp only [fine] at h
    simp only [PyData.showable, PyData.hasDict, PyData.shown, big]
    exact ⟨h, trivial, toString_small (of_decide_eq_true h)⟩
  | .str x, h => by
    simp only [fine, List.all_eq_true, decide_eq_true_eq] at h
    simp only [PyData.showable, PyData.hasDict, PyData.shown, big]
    exact ⟨trivial, trivial, StrLaws.reprText_len x fun c hc => Nat.lt_trans (h c hc) (by decide)⟩
  | .list xs, h => by
    simp only [fine] at h
    obtain ⟨h1, h2, h3⟩ := shown_bigs xs h
    simp only [PyData.showable, PyData.hasDict, PyData.shown, big]
    refine ⟨h1, h2, ?_⟩
    have := listText_len_le (PyData.shownAll xs)
    omega
  | .tuple xs, h => by
    simp only [fine] at h
    obtain ⟨h1, h2, h3⟩ := shown_bigs xs h
    simp only [PyData.showable, PyData.hasDict, PyData.shown, big]
    refine ⟨h1, h2, ?_⟩
    have := tupleText_len_le (PyData.shownAll xs)
    omega
  | .dict _, h => by simp [fine] at h
theorem shown_bigs : ∀ ds : List PyData, fines ds = true → PyData.showableAll ds = true ∧ PyData.hasDictAll ds = false ∧ ((PyData.shownAll ds).map (·.length)).sum + 2 * (PyData.shownAll ds).length ≤ bigs ds
  | [], _ => by simp [PyData.showableAll, PyData.hasDictAll, PyData.shownAll, bigs]
  | d :: ds, h => by
    simp only [fines, Bool.and_eq_true] at h
    obtain ⟨a1, a2, a3⟩ := shown_big d h.1
    obtain ⟨b1, b2, b3⟩ := shown_bigs ds h.2
    simp only [PyData.showableAll, PyData.hasDictAll, PyData.shownAll, bigs, a1, a2, b1, b2, List.map_cons, List.sum_cons, List.length_cons]
    exact ⟨rfl, rfl, by omega⟩
end
/-- depth at most n, shown by at most b signs -/
structure Nice (n b : Nat) (d : PyData) : Prop where
  fine : fine d = true
  depth : d.depth ≤ n
  big : big d ≤ b
structure Nices (n b : Nat) (ds : List PyData) : Prop where
  fine : fines ds = true
  depth : PyData.depthAll ds ≤ n
  big : bigs ds ≤ b
theorem Nice.mono {n b n' b' : Nat} {d : PyData} (h : Nice n b d) (hn : n ≤ n') (hb : b ≤ b') : Nice n' b' d := ⟨h.fine, Nat.le_trans h.depth hn, Nat.le_trans h.big hb⟩
theorem Nices.nil {n b : Nat} : Nices n b [] := ⟨rfl, Nat.zero_le _, Nat.zero_le _⟩
theorem Nices.mono {n b n' b' : Nat} {ds : List PyData} (h : Nices n b ds) (hn : n ≤ n') (hb : b ≤ b') : Nices n' b' ds := ⟨h.fine, Nat.le_trans h.depth hn, Nat.le_trans h.big hb⟩
theorem fines_append : ∀ {ds es : List PyData}, fines (ds ++ es) = (fines ds && fines es)
  | [], _ => by simp [fines]
  | d :: ds, es => by simp [fines, fines_append (ds := ds) (es := es), Bool.and_assoc]
theorem bigs_append : ∀ {ds es : List PyData}, bigs (ds ++ es) = bigs ds + bigs es
  | [], _ => by simp [bigs]
  | d :: ds, es => by
    simp only [List.cons_append, bigs, bigs_append (ds := ds) (es := es)]
    omega
theorem depthAll_append : ∀ {ds es : List PyData}, PyData.depthAll (ds ++ es) = max (PyData.depthAll ds) (PyData.depthAll es)
  | [], _ => by simp [PyData.depthAll]
  | d :: ds, es => by
    simp only [List.cons_append, PyData.depthAll, depthAll_append (ds := ds) (es := es)]
    omega
theorem Nices.append {n b c : Nat} {ds es : List PyData} (h : Nices n b ds) (g : Nices n c es) : Nices n (b + c) (ds ++ es) :=
  ⟨by rw [fines_append, h.fine, g.fine]; rfl, by rw [depthAll_append]; exact Nat.max_le.mpr ⟨h.depth, g.depth⟩, by rw [bigs_append]; exact Nat.add_le_add h.big g.big⟩
theorem Nices.one {n b : Nat} {d : PyData} (h : Nice n b d) : Nices n (b + 2) [d] :=
  ⟨by simp [fines, h.fine], by simp only [PyData.depthAll]; have := h.depth; omega, by simp only [bigs]; have := h.big; omega⟩
theorem Nices.snoc {n b c : Nat} {ds : List PyData} {d : PyData} (h : Nices n b ds) (g : Nice n c d) : Nices n (b + (c + 2)) (ds ++ [d]) := h.append (.one g)
theorem Nices.lst {n b : Nat} {ds : List PyData} (h : Nices n b ds) : Nice (n + 1) (b + 3) (.list ds) :=
  ⟨by simp only [Vn.fine]; exact h.fine, by simp only [PyData.depth]; have := h.depth; omega, by simp only [Vn.big]; have := h.big; omega⟩
theorem Nices.tup {n b : Nat} {ds : List PyData} (h : Nices n b ds) : Nice (n + 1) (b + 3) (.tuple ds) :=
  ⟨by simp only [Vn.fine]; exact h.fine, by simp only [PyData.depth]; have := h.depth; omega, by simp only [Vn.big]; have := h.big; omega⟩
theorem Nices.mem {n b : Nat} : ∀ {ds : List PyData} {d : PyData}, Nices n b ds → d ∈ ds → Nice n b d
  | [], _, _, h => nomatch h
  | e :: ds, d, H, h => by
    have h1 := H.fine
    have h2 := H.depth
    have h3 := H.big
    simp only [fines, Bool.and_eq_true] at h1
    simp only [PyData.depthAll] at h2
    simp only [bigs] at h3
    cases h with
    | head => exact ⟨h1.1, by omega, by omega⟩
    | tail _ m => exact Nices.mem ⟨h1.2, by omega, by omega⟩ m
theorem Nice.int {n : Nat} {i : Int} (h : i.natAbs.log2 < 1920) : Nice n 2000 (.int i) := ⟨decide_eq_true h, Nat.zero_le _, Nat.le_refl _⟩
set_option exponentiation.threshold 3000 in
theorem log2_small {i : Int} (h : i.natAbs < 2 ^ 1000) : i.natAbs.log2 < 1920 := by
  by_cases z : i.natAbs = 0
  · rw [z]; decide
  · exact Nat.lt_trans ((Nat.log2_lt z).mpr h) (by decide)

/-! ### where data stands -/
/-- all but the stream and its script -/
def cut (S C : Addr) (H : Hp) : Hp := fun a => if a = S ∨ a = C then none else H a
theorem cut_in {S C a : Addr} {H : Hp} (h1 : a ≠ S) (h2 : a ≠ C) : cut S C H a = H a := if_neg fun h => h.elim h1 h2
theorem cut_same {S C : Addr} {H : Hp} : Same (cut S C H) H := fun b o h => by
  unfold cut at h
  by_cases z : b = S ∨ b = C
  · rw [if_pos z] at h; cases h
  · rwa [if_neg z] at h
theorem cut_some {S C a : Addr} {o : HO} {H : Hp} (h : cut S C H a = some o) : a ≠ S ∧ a ≠ C ∧ H a = some o := by
  unfold cut at h
  by_cases z : a = S ∨ a = C
  · rw [if_pos z] at h; cases h
  · rw [if_neg z] at h
    exact ⟨fun e => z (.inl e), fun e => z (.inr e), h⟩
/-- what was tracked stands, but the stream and its script -/
abbrev Fr (S C : Addr) (H H' : Hp) : Prop := Same (cut S C H) (cut S C H')
theorem Fr.of_same {S C : Addr} {H H' : Hp} (h : Same H H') : Fr S C H H' := fun b o q => by
  obtain ⟨h1, h2, h3⟩ := cut_some q
  rw [cut_in h1 h2]
  exact h b o h3
theorem Fr.updS {S C : Addr} {H : Hp} {o : HO} : Fr S C H (upd H S o) := fun b u q => by
  obtain ⟨h1, h2, h3⟩ := cut_some q
  rw [cut_in h1 h2, upd_ne h1]
  exact h3
theorem Fr.updC {S C : Addr} {H : Hp} {o : HO} : Fr S C H (upd H C o) := fun b u q => by
  obtain ⟨h1, h2, h3⟩ := cut_some q
  rw [cut_in h1 h2, upd_ne h2]
  exact h3
theorem same_new {H : Hp} {p : Addr} (h : H p = none) (o : HO) : Same H (upd H p o) := fun b u q => by
  rw [upd_ne (ne_of_none q h)]
  exact q
theorem Same.seqT {K : PySem.W.Frag} {H H' : Hp} {a : Addr} {xs : List V} (e : Same H H') (h : SqT K H a xs) : SqT K H' a xs := by
  rcases h with (h | ⟨o, h⟩) | h
  · exact .inl (.inl (e _ _ h))
  · exact .inl (.inr ⟨o, e _ _ h⟩)
  · exact .inr h
mutual
theorem Dp_mono {K : PySem.W.Frag} {H H' : Hp} (e : Same H H') : ∀ {d : PyData} {v : V}, Dp K H v d → Dp K H' v d
  | _, _, .non => .non
  | _, _, .bl b => .bl b
  | _, _, .int i => .int i
  | _, _, .str x => .str x
  | _, _, .lst h a => .lst (e.seq h) (DpAll_mono e a)
  | _, _, .tup h a => .tup (Same.seqT e h) (DpAll_mono e a)
theorem DpAll_mono {K : PySem.W.Frag} {H H' : Hp} (e : Same H H') : ∀ {ds : List PyData} {vs : List V}, DpAll K H vs ds → DpAll K H' vs ds
  | _, _, .nil => .nil
  | _, _, .cons h a => .cons (Dp_mono e h) (DpAll_mono e a)
end
theorem DpAll_append {K : PySem.W.Frag} {H : Hp} : ∀ {ds es : List PyData} {vs us : List V}, DpAll K H vs ds → DpAll K H us es → DpAll K H (vs ++ us) (ds ++ es)
  | _, _, _, _, .nil, h => h
  | _, _, _, _, .cons a r, h => .cons a (DpAll_append r h)
theorem DpAll_snoc {K : PySem.W.Frag} {H : Hp} {ds : List PyData} {vs : List V} {v : V} {d : PyData} (h : DpAll K H vs ds) (g : Dp K H v d) : DpAll K H (vs ++ [v]) (ds ++ [d]) := DpAll_append h (.cons g .nil)
theorem DpAll_len {K : PySem.W.Frag} {H : Hp} : ∀ {ds : List PyData} {vs : List V}, DpAll K H vs ds → vs.length = ds.length
  | _, _, .nil => rfl
  | _, _, .cons _ r => congrArg (· + 1) (DpAll_len r)
theorem DpAll_get {K : PySem.W.Frag} {H : Hp} : ∀ (i : Nat) {ds : List PyData} {vs : List V} {v : V}, DpAll K H vs ds → vs[i]? = some v → ∃ d, ds[i]? = some d ∧ Dp K H v d
  | _, _, _, _, .nil, e => by simp at e
  | 0, _, _, _, .cons h _, e => ⟨_, rfl, by cases e; exact h⟩
  | i + 1, _, _, _, .cons _ r, e => DpAll_get i r e
theorem DpAll_take {K : PySem.W.Frag} {H : Hp} : ∀ {ds : List PyData} {vs : List V} (n : Nat), DpAll K H vs ds → DpAll K H (vs.take n) (ds.take n)
  | _, _, 0, _ => .nil
  | _, _, _ + 1, .nil => .nil
  | _, _, n + 1, .cons a r => .cons a (DpAll_take n r)
theorem DpAll_drop {K : PySem.W.Frag} {H : Hp} : ∀ {ds : List PyData} {vs : List V} (n : Nat), DpAll K H vs ds → DpAll K H (vs.drop n) (ds.drop n)
  | _, _, 0, h => h
  | _, _, _ + 1, .nil => .nil
  | _, _, n + 1, .cons _ r => DpAll_drop n r
/-- the i-th of some drawn values by a number below their number -/
theorem DpAll_at {K : PySem.W.Frag} {H : Hp} {ds : List PyData} {vs : List V} {r : Int} (h : DpAll K H vs ds) (h0 : 0 ≤ r) (h1 : r < (vs.length : Int)) :
    ∃ v d, atI vs r = some v ∧ d ∈ ds ∧ Dp K H v d := by
  have q : r.toNat < vs.length := by omega
  obtain ⟨d, hd, hv⟩ := DpAll_get _ h (List.getElem?_eq_getElem q)
  have e : r = ((r.toNat : Nat) : Int) := by omega
  have z : atI vs ((r.toNat : Nat) : Int) = some vs[r.toNat] := atI_nat (List.getElem?_eq_getElem q)
  rw [← e] at z
  exact ⟨vs[r.toNat], d, z, List.mem_of_getElem? hd, hv⟩

/-! ### the type of data -/
def tyName : PyData → String
  | .none => "NoneType"
  | .bool _ => "bool"
  | .int _ => "int"
  | .str _ => "str"
  | .list _ => "list"
  | .tuple _ => "tuple"
  | .dict _ => "dict"
theorem Dp_type {K : PySem.W.Frag} {H : Hp} {v : V} {d : PyData} (h : Dp K H v d) : TyX K H v (.type (tyName d)) := by
  cases h with
  | non => exact .base .non
  | bl b => exact .base (.bl b)
  | int i => exact .base (.int i)
  | str x => exact .base (.str x)
  | lst hs _ =>
    rcases hs with (h | ⟨o, h⟩) | ⟨o, its, n, h, hc, _⟩
    · exact .base (.lst h)
    · exact .base (.frz h)
    · exact .kList h hc
  | tup hs _ =>
    rcases hs with (h | ⟨o, h⟩) | ⟨o, its, n, h, hc, _⟩
    · exact .base (.tup h)
    · exact .fTuple h
    · exact .kTuple h hc
def isStr : PyData → Bool
  | .str _ => true
  | _ => false
def isTup : PyData → Bool
  | .tuple _ => true
  | _ => false
theorem kit_str {K : PySem.W.Frag} {v : V} {d : PyData} {H : Hp} (h : Dp K H v d) : PySem.W.kitOne K (.type (tyName d)) (.type "str") = some (isStr d) := by
  refine kit_ty ?_
  cases h <;> (simp only [tyName, isStr]; decide +kernel)
theorem kit_tup {K : PySem.W.Frag} {v : V} {d : PyData} {H : Hp} (h : Dp K H v d) : PySem.W.kitOne K (.type (tyName d)) (.type "tuple") = some (isTup d) := by
  refine kit_ty ?_
  cases h <;> (simp only [tyName, isTup]; decide +kernel)
def isInt : PyData → Bool
  | .int _ => true
  | .bool _ => true
  | _ => false
def isBool : PyData → Bool
  | .bool _ => true
  | _ => false
def isLst : PyData → Bool
  | .list _ => true
  | _ => false
theorem kit_int {K : PySem.W.Frag} {v : V} {d : PyData} {H : Hp} (h : Dp K H v d) : PySem.W.kitOne K (.type (tyName d)) (.type "int") = some (isInt d) := by
  refine kit_ty ?_
  cases h <;> (simp only [tyName, isInt]; decide +kernel)
theorem kit_bool {K : PySem.W.Frag} {v : V} {d : PyData} {H : Hp} (h : Dp K H v d) : PySem.W.kitOne K (.type (tyName d)) (.type "bool") = some (isBool d) := by
  refine kit_ty ?_
  cases h <;> (simp only [tyName, isBool]; decide +kernel)
theorem kit_lst {K : PySem.W.Frag} {v : V} {d : PyData} {H : Hp} (h : Dp K H v d) : PySem.W.kitOne K (.type (tyName d)) (.type "list") = some (isLst d) := by
  refine kit_ty ?_
  cases h <;> (simp only [tyName, isLst]; decide +kernel)

/-! ### the stream -/
/-- at S the stream, at C what is left of the script; at most n draws so far -/
def Strm (S C : Addr) (n : Nat) (H : Hp) : Prop := S ≠ C ∧ ∃ (ns : List Int) (x1 x2 x3 : Int),
  H S = some (.lst [.ref C, .int x1, .int x2, .int x3]) ∧ H C = some (.lst (ns.map V.int)) ∧ ns.length ≤ 63 ∧ 0 ≤ x1 ∧ 0 ≤ x2 ∧ x2 ≤ (n : Int) ∧ 0 ≤ x3 ∧ x3 < 2147483647
theorem Strm.mono {S C : Addr} {n m : Nat} {H : Hp} (h : Strm S C n H) (q : n ≤ m) : Strm S C m H := by
  obtain ⟨h0, ns, x1, x2, x3, h1, h2, h3, h4, h5, h6, h7, h8⟩ := h
  exact ⟨h0, ns, x1, x2, x3, h1, h2, h3, h4, h5, by omega, h7, h8⟩
theorem Strm.same {S C : Addr} {n : Nat} {H H' : Hp} (h : Strm S C n H) (e : Same H H') : Strm S C n H' := by
  obtain ⟨h0, ns, x1, x2, x3, h1, h2, r⟩ := h
  exact ⟨h0, ns, x1, x2, x3, e _ _ h1, e _ _ h2, r⟩
theorem Strm.neS {S C p : Addr} {n : Nat} {H : Hp} (h : Strm S C n H) (q : H p = none) : p ≠ S := by
  obtain ⟨h0, ns, x1, x2, x3, h1, h2, r⟩ := h
  exact fun e => by rw [e, h1] at q; cases q
theorem Strm.neC {S C p : Addr} {n : Nat} {H : Hp} (h : Strm S C n H) (q : H p = none) : p ≠ C := by
  obtain ⟨h0, ns, x1, x2, x3, h1, h2, r⟩ := h
  exact fun e => by rw [e, h2] at q; cases q
/-- a new object beside the stream is in the part of the heap that draws leave alone -/
theorem Strm.new {S C p : Addr} {n : Nat} {H : Hp} {o : HO} (h : Strm S C n H) (q : H p = none) : cut S C (upd H p o) p = some o := by
  rw [cut_in (h.neS q) (h.neC q), upd_same]
end Vn

set_option Elab.async false
set_option linter.all false
set_option maxRecDepth 100000
set_option maxHeartbeats 4000000
/-! Vn: what is drawn is new; draws, picks, lists of drawn things. -/
namespace Vn
open PySem PySem.Spec PyProof.Rows L2

/-- the part of H' that was not tracked in H -/
def newp (H H' : Hp) : Hp := fun a => match H a with
  | none => H' a
  | some _ => none
theorem newp_some {H H' : Hp} {a : Addr} {o : HO} (h : newp H H' a = some o) : H a = none ∧ H' a = some o := by
  unfold newp at h
  cases e : H a with
  | none => rw [e] at h; exact ⟨rfl, h⟩
  | some u => rw [e] at h; cases h
theorem newp_of {H H' : Hp} {a : Addr} (h : H a = none) : newp H H' a = H' a := by
  unfold newp
  rw [h]
theorem newp_same {H H' : Hp} : Same (newp H H') H' := fun _ _ h => (newp_some h).2
/-- what is tracked stays tracked -/
def Ext (H H' : Hp) : Prop := ∀ a, H' a = none → H a = none
theorem Ext.trans {H H1 H2 : Hp} (a : Ext H H1) (b : Ext H1 H2) : Ext H H2 := fun x h => a x (b x h)
theorem Ext.of_same {H H' : Hp} (e : Same H H') : Ext H H' := fun _ h => e.free h
theorem Ext.upd {H : Hp} {p : Addr} {o : HO} : Ext H (upd H p o) := fun a h => by
  by_cases e : a = p
  · rw [e, upd_same] at h; cases h
  · rwa [upd_ne e] at h
theorem Fr.ext {S C : Addr} {n : Nat} {H H' : Hp} (st : Strm S C n H') (f : Fr S C H H') : Ext H H' := fun a h => by
  have h1 := st.neS h
  have h2 := st.neC h
  have := f.free (by rw [cut_in h1 h2]; exact h)
  rwa [cut_in h1 h2] at this
theorem newp_left {H H1 H2 : Hp} (e : Ext H H1) : Same (newp H1 H2) (newp H H2) := fun a o h => by
  obtain ⟨h1, h2⟩ := newp_some h
  rw [newp_of (e a h1)]
  exact h2
theorem newp_right {H H1 H2 : Hp} (e : Same H1 H2) : Same (newp H H1) (newp H H2) := fun a o h => by
  obtain ⟨h1, h2⟩ := newp_some h
  rw [newp_of h1]
  exact e _ _ h2
theorem newp_fr {S C : Addr} {n : Nat} {H H1 H2 : Hp} (st : Strm S C n H) (f : Fr S C H1 H2) : Same (newp H H1) (newp H H2) := fun a o h => by
  obtain ⟨h1, h2⟩ := newp_some h
  have n1 := st.neS h1
  have n2 := st.neC h1
  rw [newp_of h1]
  exact (cut_some (f a o (by rw [cut_in n1 n2]; exact h2))).2.2
/-- another value at a place that was tracked ahead -/
theorem newp_upd {H H1 : Hp} {p : Addr} {o : HO} (h : H p ≠ none) : Same (newp H H1) (newp H (upd H1 p o)) := fun a u q => by
  obtain ⟨h1, h2⟩ := newp_some q
  rw [newp_of h1, upd_ne (fun e : a = p => h (by rw [← e]; exact h1))]
  exact h2
theorem newp_at {H H1 : Hp} {p : Addr} {o : HO} (h : H p = none) : newp H (upd H1 p o) p = some o := by rw [newp_of h, upd_same]
theorem cut_keep {S C p : Addr} {H H' : Hp} {o : HO} (f : Fr S C H H') (h1 : p ≠ S) (h2 : p ≠ C) (h : H p = some o) : H' p = some o :=
  (cut_some (f p o (by rw [cut_in h1 h2]; exact h))).2.2
/-- an object that was laid beside the stream stands behind draws -/
theorem Strm.keep {S C p : Addr} {n : Nat} {H H' : Hp} {o : HO} (st : Strm S C n H) (np : H p = none) (f : Fr S C (upd H p o) H') : H' p = some o :=
  cut_keep f (st.neS np) (st.neC np) upd_same
theorem Strm.lay {S C p : Addr} {n : Nat} {H : Hp} (st : Strm S C n H) (np : H p = none) (o : HO) : Strm S C n (upd H p o) := st.same (same_new np o)
theorem Strm.upd {S C p : Addr} {n : Nat} {H : Hp} (st : Strm S C n H) (h1 : p ≠ S) (h2 : p ≠ C) (o : HO) : Strm S C n (upd H p o) := by
  obtain ⟨h0, ns, x1, x2, x3, a, b, r⟩ := st
  exact ⟨h0, ns, x1, x2, x3, (upd_ne h1.symm).trans a, (upd_ne h2.symm).trans b, r⟩
theorem Fr.lay {S C p : Addr} {H : Hp} (np : H p = none) (o : HO) : Fr S C H (upd H p o) := .of_same (same_new np o)
theorem Fr.upd {S C p : Addr} {H H1 : Hp} {o : HO} (f : Fr S C H H1) (np : H p = none) : Fr S C H (upd H1 p o) := fun a u q => by
  obtain ⟨h1, h2, h3⟩ := cut_some q
  have h4 := f a u q
  rw [cut_in h1 h2] at h4 ⊢
  rw [upd_ne (ne_of_none h3 np)]
  exact h4

/-! ### rules whose reading names K itself (within comprehensions) -/
section
variable {X : Cx} {K : PySem.W.Frag}
theorem ixL (h : X.K = K := by rfl) : IxR X (rIxL K) := by subst h; exact ix_list
theorem ixT (h : X.K = K := by rfl) : IxR X (rIxT K) := by subst h; exact ix_tup
theorem catK (h : X.K = K := by rfl) : OpR X (binaryOp .Add) (rCatT K) := by subst h; exact op_catT
theorem isiK (h : X.K = K := by rfl) : CallR X (.builtin "isinstance") (rIsi K) := by subst h; exact call_isi
theorem eqDK (hu : X.A.units + 64 < cLine) (h : X.K = K := by rfl) : OpR X (compareOp .Eq) (rEqD K) := by subst h; exact op_eqD hu
theorem neDK (hu : X.A.units + 64 < cLine) (h : X.K = K := by rfl) : OpR X (compareOp .NotEq) (rNeD K) := by subst h; exact op_neD hu
theorem allK (hc : X.calm = true) (h : X.K = K := by rfl) : CallR X (.builtin "all") (rAll K) := by subst h; exact cr_all hc
theorem reprK (hG : X.A.guards = some []) (hu : X.A.units + 64 < cLine) (h : X.K = K := by rfl) : CallR X (.builtin "repr") (rReprD K) := by subst h; exact call_reprD hG hu
theorem lenK (h : X.K = K := by rfl) : CallR X (.builtin "len") (fun xs H Q => ∃ p ys, xs = [.ref p] ∧ (SqL K H p ys ∨ SqT K H p ys) ∧ Q (.int ys.length) H) := by
  subst h; exact call_len_seq
theorem tupK (h : X.K = K := by rfl) : CallR X (.type "tuple") (fun xs H Q => ∃ p ys, xs = [.ref p] ∧ ((SqL K H p ys ∧ ∀ l, H l = none → Q (.ref l) (L2.upd H l (.tup ys))) ∨ (SqT K H p ys ∧ Q (.ref p) H))) := by
  subst h; exact call_tuple_of
theorem lstK (h : X.K = K := by rfl) : CallR X (.type "list") (fun xs H Q => ∃ p ys, xs = [.ref p] ∧ (SqL K H p ys ∨ SqT K H p ys) ∧ ∀ l, H l = none → Q (.ref l) (L2.upd H l (.lst ys))) := by
  subst h; exact call_list_of
end

/-! ### promises of drawing defs -/
/-- _law_draw(stream, many) -/
def spDraw : Sp := fun vs H Q _ => ∃ (S C : Addr) (n : Nat) (m : Int), vs = [.ref S, .int m] ∧ Strm S C n H ∧ n < 20000000 ∧ 0 < m ∧ m < 20000000 ∧
  ∀ (r : Int) (H' : Hp), 0 ≤ r → r < m → Strm S C (n + 1) H' → Fr S C H H' → Q (.int r) H'
/-- f(stream, ..): at most k draws, a new thing of the kind R; A: what is asked of the further arguments -/
def spGet (K : PySem.W.Frag) (k : Nat) (A : List V → Prop) (R : PyData → Prop) : Sp := fun vs H Q _ => ∃ (S C : Addr) (n : Nat) (us : List V), vs = .ref S :: us ∧ A us ∧ Strm S C n H ∧ n + k ≤ 20000000 ∧
  ∀ (v : V) (d : PyData) (H' : Hp), Dp K (newp H H') v d → R d → Strm S C (n + k) H' → Fr S C H H' → Q v H'
/-- a draw by a caller -/
theorem draw_by {S C : Addr} {n : Nat} {m : Int} {H : Hp} {Q : VK} {E : XK} (st : Strm S C n H) (hn : n < 20000000) (h0 : 0 < m) (h1 : m < 20000000)
    (q : ∀ (r : Int) (H' : Hp), 0 ≤ r → r < m → Strm S C (n + 1) H' → Fr S C H H' → Q (.int r) H') : spDraw [.ref S, .int m] H Q E :=
  ⟨S, C, n, m, rfl, st, hn, h0, h1, q⟩
theorem get_by {K : PySem.W.Frag} {k : Nat} {A : List V → Prop} {R : PyData → Prop} {S C : Addr} {n : Nat} {us : List V} {H : Hp} {Q : VK} {E : XK} (st : Strm S C n H) (hn : n + k ≤ 20000000) (a : A us)
    (q : ∀ (v : V) (d : PyData) (H' : Hp), Dp K (newp H H') v d → R d → Strm S C (n + k) H' → Fr S C H H' → Q v H') : spGet K k A R (.ref S :: us) H Q E :=
  ⟨S, C, n, us, rfl, a, st, hn, q⟩
theorem at_int {vs : List V} {r : Int} (h0 : 0 ≤ r) (h1 : r < (vs.length : Int)) : ∃ v, atI vs r = some v ∧ vs[r.toNat]? = some v := by
  have q : r.toNat < vs.length := by omega
  have z : atI vs ((r.toNat : Nat) : Int) = some vs[r.toNat] := atI_nat (List.getElem?_eq_getElem q)
  rw [show ((r.toNat : Nat) : Int) = r by omega] at z
  exact ⟨_, z, List.getElem?_eq_getElem q⟩
/-- [..][draw(stream, m)]: the list is laid, a number drawn, the item taken -/
theorem pick_by {K : PySem.W.Frag} {S C p : Addr} {n : Nat} {m : Int} {vs : List V} {H : Hp} {Q : VK} {E : XK} (st : Strm S C n H) (hn : n < 20000000) (hp : H p = none) (hm : m = (vs.length : Int)) (h0 : 0 < vs.length) (h1 : vs.length < 1000)
    (q : ∀ (v : V) (i : Nat) (H' : Hp), vs[i]? = some v → Strm S C (n + 1) H' → Fr S C H H' → Same (newp H (L2.upd H p (.lst vs))) (newp H H') → Q v H') :
    spDraw [.ref S, .int m] (L2.upd H p (.lst vs)) (fun y H2 => rIxL K (.ref p) y H2 Q) E :=
  draw_by (st.lay hp _) hn (by omega) (by omega) fun r H' r0 r1 s1 f1 => by
    obtain ⟨v, e1, e2⟩ := at_int (vs := vs) r0 (by omega)
    exact ⟨p, vs, r, v, rfl, rfl, SqL.of (st.keep hp f1), e1, q v _ H' e2 s1 ((Fr.lay hp _).trans f1) (newp_fr st f1)⟩

/-! ### the numbers of _law_draw -/
theorem ints_eqv_nil {ns : List Int} : PyData.eqv (.list (ns.map PyData.int)) (.list []) = decide (ns = []) := by
  cases ns <;> simp [PyData.eqv, PyData.eqvAll]
theorem ints_shaped (ns : List Int) : SeqAt.shaped (.list (ns.map PyData.int)) = true := by
  have h1 : PyData.canLayAll0 (ns.map PyData.int) = true := by
    induction ns with
    | nil => rfl
    | cons n r ih => simpa [PyData.canLayAll0, PyData.canLay0] using ih
  have h2 : PyData.depthAll (ns.map PyData.int) = 0 := by
    clear h1
    induction ns with
    | nil => rfl
    | cons n r ih => simp only [List.map_cons, PyData.depthAll, PyData.depth, ih]; rfl
  simp [SeqAt.shaped, PyData.canLay0, PyData.depth, h1, h2]
/-- the mixed number is one of 0 .. m - 1 -/
theorem pow5_ok {x2 x3 : Int} (h3 : 0 ≤ x3) (h3' : x3 < 2147483647) (h2 : 0 ≤ x2) (h2' : x2 ≤ 20000000) : CPow (x3 + 104729 * x2 + 17) 5 := by
  refine ⟨by decide, by decide, ?_⟩
  have e : (2 : Nat) ^ 64 = 18446744073709551616 := by decide
  rw [e]
  omega
theorem sq_small {x2 : Int} (h2 : 0 ≤ x2) (h2' : x2 ≤ 20000000) : 0 ≤ x2 * x2 ∧ x2 * x2 ≤ 400000000000000 := by
  refine ⟨Int.mul_nonneg h2 h2, ?_⟩
  have := Int.mul_le_mul h2' h2' h2 (by decide : (0 : Int) ≤ 20000000)
  simpa using this
theorem pow3_ok {x2 y : Int} (h3 : 0 ≤ y) (h3' : y < 2147483629) (h2 : 0 ≤ x2) (h2' : x2 ≤ 20000000) : CPow (y * 48271 + 40503 * x2 * x2 + 13) 3 := by
  refine ⟨by decide, by decide, ?_⟩
  have e : (2 : Nat) ^ 64 = 18446744073709551616 := by decide
  obtain ⟨s1, s2⟩ := sq_small h2 h2'
  rw [e, Int.mul_assoc]
  generalize x2 * x2 = z at *
  omega
theorem many_div {x m : Int} (h : 0 < m) (h1 : m < 20000000) : CDivW x m := by
  refine wide_div (b := 64) h ?_ (by decide) (by decide)
  have e : (2 : Nat) ^ 64 = 18446744073709551616 := by decide
  rw [e]
  omega
theorem ten18_ok : CPow 10 18 := ⟨by decide, by decide, by decide⟩
theorem DpAll_ints {K : PySem.W.Frag} {H : Hp} : ∀ ns : List Int, DpAll K H (ns.map V.int) (ns.map PyData.int)
  | [] => .nil
  | n :: r => .cons (.int n) (DpAll_ints r)

/-! ### lists of drawn things -/
/-- [f(stream, ..) for k in range(m)], from the new list at D on -/
theorem lc_get {K : PySem.W.Frag} {S C D : Addr} {n k m j : Nat} {R : PyData → Prop} {te : TE} {own : List Nat} {σ : L2.St} {H : Hp} {Qd : Hp → Prop}
    (st : Strm S C n H) (nD : H D = none) (hm : m < 100000) (hw : ∀ v, wipe ((wipe σ own).set j v) own = wipe σ own)
    (elt : ∀ (i : Nat) (H3 : Hp) (q : VK), i < m → Strm S C (n + i * k) H3 →
      (∀ (v : V) (d : PyData) (H4 : Hp), Dp K (newp H3 H4) v d → R d → Strm S C (n + i * k + k) H4 → Fr S C H3 H4 → q v H4) → te ((wipe σ own).set j (some (.int (0 + (i : Int))))) H3 q)
    (done : ∀ (H' : Hp) (vs : List V) (ds : List PyData), H' D = some (.lst vs) → DpAll K (newp (L2.upd H D (.lst [])) H') vs ds → ds.length = m → (∀ d ∈ ds, R d) → Strm S C (n + m * k) H' → Fr S C H H' → Qd H') :
    ∃ W : Nat → Nat → Hp → Prop, (∃ z, W 0 z (L2.upd H D (.lst []))) ∧ ∀ i z H, W i z H → ((Itr 0 m).stop i H ∧ Qd H) ∨
      ((Itr 0 m).go i H ∧ ∃ N : Hp → Prop, (∀ H', N H' → ∃ z', z' < z ∧ W (i + 1) z' H') ∧ ∀ x H', (Itr 0 m).yld i H x H' →
        gName j x (wipe σ own) H' fun σ2 H2 => wipe σ2 own = wipe σ own ∧ tYes σ2 H2 fun b H3 =>
          if b = true then te σ2 H3 fun y H4 => ∃ acc, H4 D = some (.lst acc) ∧ acc.length < sizeLine ∧ N (L2.upd H4 D (.lst (acc ++ [y]))) else N H3) := by
  have neS := st.neS nD
  have neC := st.neC nD
  have tr : (L2.upd H D (.lst [])) D ≠ none := by rw [upd_same]; exact Option.some_ne_none _
  refine lc_range (fun i H' => ∃ (vs : List V) (ds : List PyData), H' D = some (.lst vs) ∧ DpAll K (newp (L2.upd H D (.lst [])) H') vs ds ∧ ds.length = i ∧ (∀ d ∈ ds, R d) ∧ Strm S C (n + i * k) H' ∧ Fr S C H H' ∧ Ext (L2.upd H D (.lst [])) H')
    ⟨[], [], upd_same, .nil, rfl, (fun _ h => nomatch h), by rw [Nat.zero_mul, Nat.add_zero]; exact st.lay nD _, Fr.lay nD _, fun _ h => h⟩ ?_ ?_
  · rintro i H3 hi ⟨vs, ds, e, dp, hl, hR, s3, f3, x3⟩
    refine ⟨hw _, ?_⟩
    unfold tYes
    refine iteT ?_
    refine elt i H3 _ hi s3 fun v d H4 hv hd s4 f4 => ?_
    have e4 : H4 D = some (.lst vs) := cut_keep f4 neS neC e
    refine ⟨vs, e4, ?_, vs ++ [v], ds ++ [d], upd_same, ?_, by rw [List.length_append, hl]; rfl, ?_, ?_, ?_, ?_⟩
    · rw [DpAll_len dp, hl]
      exact Nat.lt_of_lt_of_le hi (Nat.le_trans (Nat.le_of_lt hm) (by decide))
    · refine DpAll_snoc (DpAll_mono ((newp_fr (st.lay nD _) f4).trans (newp_upd tr)) dp) (Dp_mono ((newp_left x3).trans (newp_upd tr)) hv)
    · intro x hx
      rcases List.mem_append.mp hx with hx | hx
      · exact hR x hx
      · rw [List.mem_singleton.mp hx]; exact hd
    · rw [Nat.succ_mul, ← Nat.add_assoc]
      exact s4.upd neS neC _
    · exact Fr.upd (f3.trans f4) nD
    · exact (x3.trans (f4.ext s4)).trans Ext.upd
  · rintro H' ⟨vs, ds, e, dp, hl, hR, s3, f3, x3⟩
    exact done H' vs ds e dp hl hR s3 f3
/-- the region behind the new list lies in what is new -/
theorem DpAll_out {K : PySem.W.Frag} {H H' : Hp} {D : Addr} {o : HO} {vs : List V} {ds : List PyData} (h : DpAll K (newp (L2.upd H D o) H') vs ds) : DpAll K (newp H H') vs ds :=
  DpAll_mono (newp_left Ext.upd) h
theorem nices_of {n b : Nat} : ∀ {ds : List PyData}, (∀ d ∈ ds, Nice n b d) → Nices n (ds.length * (b + 2)) ds
  | [], _ => .nil
  | d :: ds, h => by
    have h1 := Nices.one (h d List.mem_cons_self)
    have h2 := nices_of (n := n) (b := b) fun x hx => h x (List.mem_cons_of_mem _ hx)
    have := h1.append h2
    rw [List.length_cons, Nat.succ_mul, Nat.add_comm]
    exact this
/-- a new list or tuple of new things -/
theorem new_lst {K : PySem.W.Frag} {H H' : Hp} {D : Addr} {vs : List V} {ds : List PyData} (n : H D = none) (e : H' D = some (.lst vs)) (h : DpAll K (newp H H') vs ds) : Dp K (newp H H') (.ref D) (.list ds) :=
  .lst (SqL.of ((newp_of n).trans e)) h
theorem new_tup {K : PySem.W.Frag} {H H' : Hp} {D : Addr} {vs : List V} {ds : List PyData} (n : H D = none) (e : H' D = some (.tup vs)) (h : DpAll K (newp H H') vs ds) : Dp K (newp H H') (.ref D) (.tuple ds) :=
  .tup (SqT.of ((newp_of n).trans e)) h

/-! ### names, paths -/
def nameD : PyData → Bool
  | .str x => decide (1 ≤ x.length) && decide (x.length ≤ 8) && x.cps.toList.all fun c => decide (97 ≤ c) && decide (c ≤ 122)
  | _ => false
def pathD : PyData → Bool
  | .tuple ds => decide (ds.length ≤ 8) && ds.all nameD
  | _ => false
/-- data that can be looked at: its texts are not too long -/
structure Ok (d : PyData) : Prop where
  fine : fine d = true
  big : big d ≤ sizeLine
  depth : d.depth ≤ 60
theorem Nice.ok {n b : Nat} {d : PyData} (h : Nice n b d) (hn : n ≤ 60 := by decide) (hb : b ≤ 16777216 := by decide) : Ok d :=
  ⟨h.fine, Nat.le_trans h.big (by rw [sizeLine_eq]; exact hb), Nat.le_trans h.depth hn⟩
theorem Ok.str {x : Str} (h : Ok (.str x)) : x.length ≤ sizeLine := by
  have := h.big
  simp only [Vn.big] at this
  omega
theorem Ok.item {ds : List PyData} {d : PyData} (h : Ok (.tuple ds)) (hd : d ∈ ds) : Ok d := by
  have h1 := h.fine
  have h2 := h.big
  have h3 := h.depth
  simp only [Vn.fine] at h1
  simp only [Vn.big] at h2
  simp only [PyData.depth] at h3
  have q : Nice 60 sizeLine d := Nices.mem ⟨h1, by omega, by omega⟩ hd
  exact ⟨q.fine, q.big, q.depth⟩
theorem Ok.items {ds : List PyData} {d : PyData} (h : Ok (.list ds)) (hd : d ∈ ds) : Ok d := by
  have h1 := h.fine
  have h2 := h.big
  have h3 := h.depth
  simp only [Vn.fine] at h1
  simp only [Vn.big] at h2
  simp only [PyData.depth] at h3
  have q : Nice 60 sizeLine d := Nices.mem ⟨h1, by omega, by omega⟩ hd
  exact ⟨q.fine, q.big, q.depth⟩
/-- f(thing): answers a bool, all that stood stands -/
def spTell (K : PySem.W.Frag) (f : PyData → Bool) : Sp := fun vs H Q _ => ∃ (v : V) (d : PyData), vs = [v] ∧ Dp K H v d ∧ Ok d ∧ ∀ H', Same H H' → Q (.bl (f d)) H'
theorem lt1 (c b : Nat) : decide ([c] < [b]) = decide (c < b) := by
  congr 1
  simp [List.cons_lt_cons_iff]
theorem sign_az (c : Nat) : ((!decide ([c] < [97])) && (!decide ([122] < [c]))) = (decide (97 ≤ c) && decide (c ≤ 122)) := by
  rw [lt1, lt1]
  by_cases h1 : c < 97 <;> by_cases h2 : 122 < c <;> simp [h1, h2] <;> omega
theorem sign_in (c : Nat) : decide (c ∈ (Str.ofString "abcdefghijklmnopqrstuvwxyz").cps.toList) = (decide (97 ≤ c) && decide (c ≤ 122)) := by
  have e : (Str.ofString "abcdefghijklmnopqrstuvwxyz").cps.toList = List.range' 97 26 := by decide +kernel
  rw [e]
  by_cases h1 : 97 ≤ c <;> by_cases h2 : c ≤ 122 <;> simp [h1, h2, List.mem_range'_1] <;> omega
theorem take_snoc {α : Type} {l : List α} {i : Nat} {x : α} (h : l[i]? = some x) : l.take (i + 1) = l.take i ++ [x] := by
  rw [List.take_add_one, h]
  rfl
/-- a list comprehension over a text whose element is a bool by the sign -/
theorem lc_signs {D j : Nat} {x : Str} {te : TE} {own : List Nat} {σ : L2.St} {H : Hp} {Qd : Hp → Prop} (g : Nat → Bool) (nD : H D = none) (hx : x.length ≤ sizeLine)
    (hw : ∀ v, wipe ((wipe σ own).set j v) own = wipe σ own)
    (elt : ∀ (c : Nat) (H3 : Hp) (q : VK), c ∈ x.cps.toList → q (.bl (g c)) H3 → te ((wipe σ own).set j (some (.str ⟨#[c]⟩))) H3 q)
    (done : ∀ H', Same H H' → H' D = some (.lst ((x.cps.toList.map g).map V.bl)) → Qd H') :
    ∃ W : Nat → Nat → Hp → Prop, (∃ z, W 0 z (L2.upd H D (.lst []))) ∧ ∀ i z H, W i z H → ((Its x).stop i H ∧ Qd H) ∨
      ((Its x).go i H ∧ ∃ N : Hp → Prop, (∀ H', N H' → ∃ z', z' < z ∧ W (i + 1) z' H') ∧ ∀ u H', (Its x).yld i H u H' →
        gName j u (wipe σ own) H' fun σ2 H2 => wipe σ2 own = wipe σ own ∧ tYes σ2 H2 fun b H3 =>
          if b = true then te σ2 H3 fun y H4 => ∃ acc, H4 D = some (.lst acc) ∧ acc.length < sizeLine ∧ N (L2.upd H4 D (.lst (acc ++ [y]))) else N H3) := by
  refine lc_it walk_str (fun i H' => Same H H' ∧ H' D = some (.lst (((x.cps.toList.take i).map g).map V.bl))) ⟨same_new nD _, upd_same⟩ (fun _ _ _ _ => trivial) ?_ ?_
  · rintro i v H3 H4 hi ⟨s3, e3⟩ ⟨rfl, c, ec, rfl⟩
    refine ⟨hw _, ?_⟩
    unfold tYes
    refine iteT ?_
    have ec' : x.cps.toList[i]? = some c := by rw [Array.getElem?_toList]; exact ec
    refine elt c _ _ (List.mem_of_getElem? ec') ⟨_, e3, ?_, ?_, ?_⟩
    · rw [List.length_map, List.length_map, List.length_take]
      have h1 : x.length = x.cps.size := rfl
      omega
    · exact fun b o q => by
        rw [upd_ne (ne_of_none q nD)]
        exact s3 b o q
    · rw [upd_same, take_snoc ec', List.map_append, List.map_append]
      rfl
  · rintro H' ⟨s3, e3⟩
    refine done H' s3 ?_
    rw [e3, List.take_of_length_le (by rw [Array.length_toList]; exact Nat.le_refl _)]
/-- a list comprehension over a tuple of data whose element is a bool by the item -/
theorem lc_items {K : PySem.W.Frag} {D j : Nat} {a : Addr} {xs : List V} {ds : List PyData} {te : TE} {own : List Nat} {σ : L2.St} {H : Hp} {Qd : Hp → Prop} (g : PyData → Bool) (nD : H D = none)
    (hq : SqT K H a xs) (dp : DpAll K H xs ds) (hl : ds.length ≤ sizeLine) (hw : ∀ v, wipe ((wipe σ own).set j v) own = wipe σ own)
    (elt : ∀ (v : V) (d : PyData) (H3 : Hp) (q : VK), d ∈ ds → Dp K H3 v d → Same H H3 → (∀ H4, Same H3 H4 → q (.bl (g d)) H4) → te ((wipe σ own).set j (some v)) H3 q)
    (done : ∀ H', Same H H' → H' D = some (.lst ((ds.map g).map V.bl)) → Qd H') :
    ∃ W : Nat → Nat → Hp → Prop, (∃ z, W 0 z (L2.upd H D (.lst []))) ∧ ∀ i z H, W i z H → ((Itt K a).stop i H ∧ Qd H) ∨
      ((Itt K a).go i H ∧ ∃ N : Hp → Prop, (∀ H', N H' → ∃ z', z' < z ∧ W (i + 1) z' H') ∧ ∀ u H', (Itt K a).yld i H u H' →
        gName j u (wipe σ own) H' fun σ2 H2 => wipe σ2 own = wipe σ own ∧ tYes σ2 H2 fun b H3 =>
          if b = true then te σ2 H3 fun y H4 => ∃ acc, H4 D = some (.lst acc) ∧ acc.length < sizeLine ∧ N (L2.upd H4 D (.lst (acc ++ [y]))) else N H3) := by
  have hlen := DpAll_len dp
  refine lc_tup (xs := xs) (fun i H' => Same H H' ∧ H' D = some (.lst (((ds.take i).map g).map V.bl))) ⟨same_new nD _, upd_same⟩ (fun i H' _ p => Same.seqT p.1 hq) ?_ ?_
  · rintro i v H3 hv ⟨s3, e3⟩
    refine ⟨hw _, ?_⟩
    unfold tYes
    refine iteT ?_
    obtain ⟨d, hd, hvd⟩ := DpAll_get i dp hv
    refine elt v d _ _ (List.mem_of_getElem? hd) (Dp_mono s3 hvd) s3 fun H4 s4 => ⟨_, s4 _ _ e3, ?_, ?_, ?_⟩
    · rw [List.length_map, List.length_map, List.length_take]
      have := (List.getElem?_eq_some_iff.mp hd).1
      omega
    · exact fun b o q => by
        rw [upd_ne (ne_of_none q nD)]
        exact s4 _ _ (s3 b o q)
    · rw [upd_same, take_snoc hd, List.map_append, List.map_append]
      rfl
  · rintro H' ⟨s3, e3⟩
    refine done H' s3 ?_
    rw [e3, hlen, List.take_of_length_le (Nat.le_refl _)]

/-- _law_same(found, due): are both shown by one text? -/
def spSame (K : PySem.W.Frag) : Sp := fun vs H Q _ => ∃ (v u : V) (d e : PyData), vs = [v, u] ∧ Dp K H v d ∧ Dp K H u e ∧ Ok d ∧ Ok e ∧ Q (.bl (decide (d.shown = e.shown))) H
theorem str_dec (a b : Str) : decide (V.str a = V.str b) = decide (a = b) := by
  by_cases h : a = b
  · subst h
    simp
  · have q : ¬ V.str a = V.str b := fun z => h (V.str.inj z)
    rw [decide_eq_false h, decide_eq_false q]
theorem repr_by {K : PySem.W.Frag} {v : V} {d : PyData} {H : Hp} {Q : VK} (h : Dp K H v d) (ok : Ok d) (q : Q (.str d.shown) H) : rReprD K [v] H Q := by
  obtain ⟨h1, h2, h3⟩ := shown_big d ok.fine
  exact ⟨v, d, rfl, h, h1, h2, ok.depth, Nat.le_trans h3 ok.big, q⟩

/-! ### texts -/
/-- every sign can be shown -/
def okStr (x : Str) : Prop := ∀ c ∈ x.cps.toList, c < 1114112
theorem Nice.str {n b : Nat} {x : Str} (h : okStr x) (hb : 10 * x.length + 2 ≤ b) : Nice n b (.str x) := by
  refine ⟨?_, Nat.zero_le _, hb⟩
  simp only [Vn.fine, List.all_eq_true, decide_eq_true_eq]
  exact h
theorem okStr_app {x y : Str} (h : okStr x) (g : okStr y) : okStr (x ++ y) := fun c hc => by
  have e : (x ++ y).cps.toList = x.cps.toList ++ y.cps.toList := Array.toList_append
  rw [e] at hc
  exact (List.mem_append.mp hc).elim (h c) (g c)
theorem len_app (x y : Str) : (x ++ y).length = x.length + y.length := Array.size_append
theorem okStr_cut {x : Str} (h : okStr x) (lo hi : Option Int) : okStr (cutS x lo hi) := fun c hc => by
  unfold cutS at hc
  exact h c (List.mem_of_mem_drop (List.mem_of_mem_take (by simpa using hc)))
/-- letters a to z alone -/
def azStr (x : Str) : Prop := ∀ c ∈ x.cps.toList, 97 ≤ c ∧ c ≤ 122
theorem azStr.ok {x : Str} (h : azStr x) : okStr x := fun c hc => Nat.lt_of_le_of_lt (h c hc).2 (by decide)
theorem joined {m : Nat} : ∀ {ys : List Str}, ys.length = m → (∀ y ∈ ys, y.length = 1 ∧ azStr y) → (Str.join (Str.ofString "") ys).length = m ∧ azStr (Str.join (Str.ofString "") ys)
  | [], h, _ => ⟨h, fun c hc => by
      have e : (Str.join (Str.ofString "") []).cps.toList = [] := by decide +kernel
      rw [e] at hc
      exact nomatch hc⟩
  | [y], h, g => by
    have e : Str.join (Str.ofString "") [y] = y := rfl
    rw [e]
    obtain ⟨a, b⟩ := g y List.mem_cons_self
    exact ⟨a.trans h, b⟩
  | y :: z :: r, h, g => by
    obtain ⟨a, b⟩ := g y List.mem_cons_self
    obtain ⟨c, d⟩ := joined (ys := z :: r) rfl fun u hu => g u (List.mem_cons_of_mem _ hu)
    have e : Str.join (Str.ofString "") (y :: z :: r) = y ++ Str.ofString "" ++ Str.join (Str.ofString "") (z :: r) := rfl
    have e0 : (Str.ofString "").length = 0 := by decide +kernel
    have e1 : (Str.ofString "").cps.toList = [] := by decide +kernel
    refine ⟨?_, fun c hc => ?_⟩
    · rw [e, len_app, len_app, a, c, e0, ← h]
      simp only [List.length_cons]
      omega
    · have q : (y ++ Str.ofString "" ++ Str.join (Str.ofString "") (z :: r)).cps.toList = (y.cps.toList ++ (Str.ofString "").cps.toList) ++ (Str.join (Str.ofString "") (z :: r)).cps.toList := by
        rw [show (y ++ Str.ofString "" ++ Str.join (Str.ofString "") (z :: r)).cps.toList = (y ++ Str.ofString "").cps.toList ++ _ from Array.toList_append, show (y ++ Str.ofString "").cps.toList = _ from Array.toList_append]
      rw [e, q, e1, List.append_nil] at hc
      exact (List.mem_append.mp hc).elim (b c) (d c)
/-- texts of one sign as values -/
theorem strs_of {K : PySem.W.Frag} {H : Hp} : ∀ {vs : List V} {ds : List PyData}, DpAll K H vs ds → (∀ d ∈ ds, ∃ x, d = .str x ∧ x.length = 1 ∧ azStr x) →
    ∃ ys : List Str, vs = ys.map V.str ∧ ys.length = ds.length ∧ ∀ y ∈ ys, y.length = 1 ∧ azStr y
  | _, _, .nil, _ => ⟨[], rfl, rfl, fun _ h => nomatch h⟩
  | _, _, .cons h r, g => by
    obtain ⟨x, rfl, hx⟩ := g _ List.mem_cons_self
    cases h
    obtain ⟨ys, rfl, hl, hy⟩ := strs_of r fun d hd => g d (List.mem_cons_of_mem _ hd)
    exact ⟨x :: ys, rfl, by rw [List.length_cons, List.length_cons, hl], fun y hm => by
      cases hm with
      | head => exact hx
      | tail _ m => exact hy y m⟩
/-- _law_letters(stream, many) -/
def spLetters : Sp := fun vs H Q _ => ∃ (S C : Addr) (n m : Nat), vs = [.ref S, .int (m : Int)] ∧ m ≤ 100 ∧ Strm S C n H ∧ n + m ≤ 20000000 ∧
  ∀ (x : Str) (H' : Hp), x.length = m → azStr x → Strm S C (n + m) H' → Fr S C H H' → Q (.str x) H'
theorem letters_by {S C : Addr} {n : Nat} {i : Int} (m : Nat) {H : Hp} {Q : VK} {E : XK} (st : Strm S C n H) (hi : i = (m : Int)) (hm : m ≤ 100) (hn : n + m ≤ 20000000)
    (q : ∀ (x : Str) (H' : Hp), x.length = m → azStr x → Strm S C (n + m) H' → Fr S C H H' → Q (.str x) H') : spLetters [.ref S, .int i] H Q E :=
  ⟨S, C, n, m, by rw [hi], hm, st, hn, q⟩
def kT : Nat → Nat
  | 0 => 3
  | m + 1 => 3 * kT m + 5
def bT : Nat → Nat
  | 0 => 2100
  | m + 1 => 3 * (bT m + 2) + 3
abbrev spThing (K : PySem.W.Frag) (m : Nat) : Sp := spGet K (kT m) (fun us => us = [.int (m : Int)]) (Nice (m + 1) (bT m))
/-- a thing of _law_thing's own list -/
theorem some_thing {K : PySem.W.Frag} {H : Hp} {p1 p2 p3 p4 : Addr} (n1 : H p1 = some (.tup [])) (n2 : H p2 = some (.lst [])) (n3 : H p3 = some (.tup [.str "a"])) (n4 : H p4 = some (.lst [.str "a"])) :
    DpAll K H [V.non, V.bl true, V.bl false, V.int 0, V.int 1, V.int (-7), V.int (10 ^ 30 - 1), V.str "", V.str "link", V.str "a", V.str "on", V.ref p1, V.ref p2, V.ref p3, V.ref p4, V.str "A", V.str "b c"]
      [.none, .bool true, .bool false, .int 0, .int 1, .int (-7), .int (10 ^ 30 - 1), .str "", .str "link", .str "a", .str "on", .tuple [], .list [], .tuple [.str "a"], .list [.str "a"], .str "A", .str "b c"] :=
  .cons .non (.cons (.bl _) (.cons (.bl _) (.cons (.int _) (.cons (.int _) (.cons (.int _) (.cons (.int _) (.cons (.str _) (.cons (.str _) (.cons (.str _) (.cons (.str _)
    (.cons (.tup (SqT.of n1) .nil) (.cons (.lst (SqL.of n2) .nil) (.cons (.tup (SqT.of n3) (.cons (.str _) .nil)) (.cons (.lst (SqL.of n4) (.cons (.str _) .nil)) (.cons (.str _) (.cons (.str _) .nil))))))))))))))))
theorem some_nice : ∀ d ∈ ([.none, .bool true, .bool false, .int 0, .int 1, .int (-7), .int (10 ^ 30 - 1), .str "", .str "link", .str "a", .str "on", .tuple [], .list [], .tuple [.str "a"], .list [.str "a"], .str "A", .str "b c"] : List PyData),
    fine d = true ∧ d.depth ≤ 1 ∧ big d ≤ 2100 := by
  intro d hd
  simp only [List.mem_cons, List.not_mem_nil, or_false] at hd
  rcases hd with rfl | rfl | rfl | rfl | rfl | rfl | rfl | rfl | rfl | rfl | rfl | rfl | rfl | rfl | rfl | rfl | rfl <;> exact ⟨by decide +kernel, by decide +kernel, by decide +kernel⟩
theorem bigs_take_drop (ds : List PyData) (i : Nat) : bigs (ds.take i) + bigs (ds.drop i) = bigs ds := by rw [← bigs_append, List.take_append_drop]
theorem fines_take_drop (ds : List PyData) (i : Nat) : (fines (ds.take i) && fines (ds.drop i)) = fines ds := by rw [← fines_append, List.take_append_drop]
theorem depth_take_drop (ds : List PyData) (i : Nat) : max (PyData.depthAll (ds.take i)) (PyData.depthAll (ds.drop i)) = PyData.depthAll ds := by rw [← depthAll_append, List.take_append_drop]
theorem Nices.take {n b : Nat} {ds : List PyData} (h : Nices n b ds) (i : Nat) : Nices n b (ds.take i) := by
  have h1 := fines_take_drop ds i
  rw [h.fine, Bool.and_eq_true] at h1
  have h2 := depth_take_drop ds i
  have h3 := bigs_take_drop ds i
  have := h.depth
  have := h.big
  exact ⟨h1.1, by omega, by omega⟩
theorem Nices.drop {n b : Nat} {ds : List PyData} (h : Nices n b ds) (i : Nat) : Nices n b (ds.drop i) := by
  have h1 := fines_take_drop ds i
  rw [h.fine, Bool.and_eq_true] at h1
  have h2 := depth_take_drop ds i
  have h3 := bigs_take_drop ds i
  have := h.depth
  have := h.big
  exact ⟨h1.2, by omega, by omega⟩
theorem Nices.insert {n b c : Nat} {ds : List PyData} {d : PyData} (h : Nices n b ds) (g : Nice n c d) (i : Nat) : Nices n (b + (c + 2)) (ds.take i ++ [d] ++ ds.drop i) := by
  have h1 := fines_take_drop ds i
  rw [h.fine, Bool.and_eq_true] at h1
  have h2 := depth_take_drop ds i
  have h3 := bigs_take_drop ds i
  have := h.depth
  have := h.big
  have := g.depth
  have := g.big
  refine ⟨?_, ?_, ?_⟩
  · rw [fines_append, fines_append]
    simp [fines, h1.1, h1.2, g.fine]
  · rw [depthAll_append, depthAll_append]
    simp only [PyData.depthAll]
    omega
  · rw [bigs_append, bigs_append]
    simp only [bigs]
    omega
theorem Nices.set {n b c : Nat} {ds : List PyData} {d : PyData} (h : Nices n b ds) (g : Nice n c d) (i : Nat) : Nices n (b + (c + 2)) (ds.set i d) := by
  by_cases hi : i < ds.length
  · have e : ds.set i d = ds.take i ++ [d] ++ ds.drop (i + 1) := by
      rw [List.set_eq_take_append_cons_drop, if_pos hi, List.append_assoc]
      rfl
    rw [e]
    have q := (h.take i).append (.one g)
    have r := h.drop (i + 1)
    have h2 := bigs_take_drop ds i
    have h3 : bigs (ds.drop (i + 1)) ≤ bigs (ds.drop i) := by
      have := bigs_take_drop (ds.drop i) 1
      rw [List.drop_drop] at this
      omega
    have := h.big
    have := g.big
    refine ⟨?_, ?_, ?_⟩
    · rw [fines_append, q.fine, r.fine]; rfl
    · rw [depthAll_append]; exact Nat.max_le.mpr ⟨q.depth, r.depth⟩
    · rw [bigs_append, bigs_append]
      simp only [bigs]
      omega
  · rw [List.set_eq_of_length_le (by omega)]
    exact h.mono (Nat.le_refl _) (by omega)
theorem Nices.erase {n b : Nat} {ds : List PyData} (h : Nices n b ds) (i : Nat) : Nices n (b + b) (ds.eraseIdx i) := by
  rw [List.eraseIdx_eq_take_drop_succ]
  exact (h.take i).append (h.drop (i + 1))
theorem DpAll_set {K : PySem.W.Frag} {H : Hp} {v : V} {d : PyData} (g : Dp K H v d) : ∀ {ds : List PyData} {vs : List V} (i : Nat), DpAll K H vs ds → DpAll K H (vs.set i v) (ds.set i d)
  | _, _, _, .nil => .nil
  | _, _, 0, .cons _ r => .cons g r
  | _, _, i + 1, .cons a r => .cons a (DpAll_set g i r)
theorem DpAll_erase {K : PySem.W.Frag} {H : Hp} : ∀ {ds : List PyData} {vs : List V} (i : Nat), DpAll K H vs ds → DpAll K H (vs.eraseIdx i) (ds.eraseIdx i)
  | _, _, _, .nil => .nil
  | _, _, 0, .cons _ r => r
  | _, _, i + 1, .cons a r => .cons a (DpAll_erase i r)
theorem item_nice {n b : Nat} {K : PySem.W.Frag} {H : Hp} {vs : List V} {ds : List PyData} {i : Nat} {v : V} (h : DpAll K H vs ds) (g : Nices n b ds) (e : vs[i]? = some v) : ∃ d, Dp K H v d ∧ Nice n b d := by
  obtain ⟨d, hd, hv⟩ := DpAll_get i h e
  exact ⟨d, hv, g.mem (List.mem_of_getElem? hd)⟩
theorem ext_laid {S C D : Addr} {n : Nat} {H H' : Hp} {o u : HO} (s : Strm S C n H') (f : Fr S C H H') (e : H' D = some u) : Ext (L2.upd H D o) H' := fun a h => by
  have hn : a ≠ D := fun z => by
    rw [z, e] at h
    cases h
  rw [upd_ne hn]
  exact f.ext s a h
/-- a new object D beside new things: what is new but for D -/
theorem side {S C D : Addr} {n1 n2 : Nat} {H1 H2 : Hp} (s1 : Strm S C n1 H1) (s2 : Strm S C n2 H2) (f : Fr S C H1 H2) (nD : H2 D = none) (o : HO) :
    ∃ G, Ext H1 G ∧ G D ≠ none ∧ Strm S C n1 G ∧ Same (newp H1 H2) (newp G (L2.upd H2 D o)) ∧ Ext G (L2.upd H2 D o) := by
  have n1D : H1 D = none := Fr.ext s2 f D nD
  refine ⟨L2.upd H1 D (.lst []), Ext.upd, by rw [upd_same]; exact Option.some_ne_none _, s1.lay n1D _, fun a u h => ?_, fun a h => ?_⟩
  · obtain ⟨h1, h2⟩ := newp_some h
    have hn : a ≠ D := ne_of_none h2 nD
    rw [newp_of (by rw [upd_ne hn]; exact h1), upd_ne hn]
    exact h2
  · by_cases e : a = D
    · rw [e, upd_same] at h
      cases h
    · rw [upd_ne e] at h ⊢
      exact Fr.ext s2 f a h
theorem ix0 {n : Nat} (h : 0 < n) : ixN n 0 = some 0 := by simp [ixN, h]
theorem seqIx {n : Nat} {i : Int} (h0 : 0 ≤ i) (h : i < (n : Int)) : seqIndex? i n = some i.toNat := by
  have q : ixN n i = some i.toNat := by
    unfold ixN
    rw [if_pos h0, if_pos h]
  exact (ixN_seq q).1
end Vn

set_option Elab.async false
set_option linter.all false
set_option maxRecDepth 100000
set_option maxHeartbeats 4000000
/-! Vn: values, links: what is shown by 'link'; == of data. -/
namespace Vn
open PySem PySem.Spec PyProof.Rows L2

mutual
theorem lay_of : ∀ d : PyData, fine d = true → d.canLay0 = true
  | .none, _ => by simp only [PyData.canLay0]
  | .bool _, _ => by simp only [PyData.canLay0]
  | .int _, _ => by simp only [PyData.canLay0]
  | .str x, h => by
    simp only [Vn.fine, List.all_eq_true, decide_eq_true_eq] at h
    simp only [PyData.canLay0, PyData.strOk, Array.all_eq_true', decide_eq_true_eq]
    exact fun c hc => h c (Array.mem_toList_iff.mpr hc)
  | .list xs, h => by
    simp only [Vn.fine] at h
    simp only [PyData.canLay0]
    exact lays_of xs h
  | .tuple xs, h => by
    simp only [Vn.fine] at h
    simp only [PyData.canLay0]
    exact lays_of xs h
  | .dict _, h => by simp [Vn.fine] at h
theorem lays_of : ∀ ds : List PyData, fines ds = true → PyData.canLayAll0 ds = true
  | [], _ => by simp only [PyData.canLayAll0]
  | d :: ds, h => by
    simp only [Vn.fines, Bool.and_eq_true] at h
    simp only [PyData.canLayAll0, lay_of d h.1, lays_of ds h.2]
    rfl
end
theorem Ok.shaped {d : PyData} (h : Ok d) : SeqAt.shaped d = true := by
  unfold SeqAt.shaped
  rw [lay_of d h.fine, decide_eq_true (Nat.le_trans h.depth (by decide))]
  rfl
theorem str_ext {x y : Str} (h : x.cps.toList = y.cps.toList) : x = y := by
  cases x
  cases y
  congr 1
  exact Array.toList_inj.mp h
/-- the signs of a text's repr -/
theorem fold_signs (f : Nat → List Nat) : ∀ (l : List Nat) (acc : Array Nat), (l.foldl (fun out c => out ++ (f c).toArray) acc).toList = acc.toList ++ l.flatMap f
  | [], acc => by simp
  | c :: r, acc => by
    rw [List.foldl_cons, fold_signs f r, List.flatMap_cons]
    simp
theorem repr_signs (x : Str) : (reprText x).cps.toList = reprQuote x :: (x.cps.toList.flatMap (Builtin.Str.reprChar (reprQuote x)) ++ [reprQuote x]) := by
  unfold reprText
  rw [Array.toList_push, ← Array.foldl_toList, fold_signs]
  simp
theorem sign_shown (q c : Nat) : Builtin.Str.reprChar q c = [c] ∨ 92 ∈ Builtin.Str.reprChar q c := by
  unfold Builtin.Str.reprChar
  split
  · exact .inr List.mem_cons_self
  split
  · exact .inr List.mem_cons_self
  split
  · exact .inr List.mem_cons_self
  split
  · exact .inr List.mem_cons_self
  split
  · exact .inl rfl
  split
  · exact .inr List.mem_cons_self
  split
  · exact .inr List.mem_cons_self
  · exact .inr List.mem_cons_self
theorem signs_plain (q : Nat) : ∀ l : List Nat, 92 ∉ l.flatMap (Builtin.Str.reprChar q) → l.flatMap (Builtin.Str.reprChar q) = l
  | [], _ => rfl
  | c :: r, h => by
    rw [List.flatMap_cons] at h ⊢
    have h1 : 92 ∉ Builtin.Str.reprChar q c := fun m => h (List.mem_append_left _ m)
    have h2 : 92 ∉ r.flatMap (Builtin.Str.reprChar q) := fun m => h (List.mem_append_right _ m)
    rw [signs_plain q r h2, (sign_shown q c).resolve_right h1]
    rfl
theorem link_signs : (PyData.str (Str.ofString "link")).shown.cps.toList = [39, 108, 105, 110, 107, 39] := by decide +kernel
theorem shown_link {d : PyData} (hf : fine d = true) : decide (d.shown = (PyData.str (Str.ofString "link")).shown) = PyData.eqv d (.str (Str.ofString "link")) := by
  have key : ∀ {l : List Nat}, d.shown.cps.toList = l → l ≠ [39, 108, 105, 110, 107, 39] → decide (d.shown = (PyData.str (Str.ofString "link")).shown) = false := fun e n =>
    decide_eq_false fun z => n (by rw [← e, z, link_signs])
  cases d with
  | none => rw [key (l := [78, 111, 110, 101]) (by decide +kernel) (by decide)]; rfl
  | bool b => cases b <;> (rw [key rfl (by decide +kernel)]; simp only [PyData.eqv])
  | int i =>
    rw [decide_eq_false fun z => (shown_int_free_39 i).mp (by rw [z, link_signs]; exact List.mem_cons_self)]
    simp only [PyData.eqv]
  | list xs =>
    rw [decide_eq_false fun z => ?_]
    · simp only [PyData.eqv]
    · obtain ⟨l, e⟩ : ∃ l, (PyData.list xs).shown.cps.toList = 91 :: l := by
        simp only [PyData.shown, listText_eq_join]
        rw [cps_toList_append, cps_toList_append, signs_lbrack]
        exact ⟨_, rfl⟩
      rw [z, link_signs] at e
      cases e
  | tuple xs =>
    rw [decide_eq_false fun z => ?_]
    · simp only [PyData.eqv]
    · obtain ⟨l, e⟩ : ∃ l, (PyData.tuple xs).shown.cps.toList = 40 :: l := by
        simp only [PyData.shown, tupleText]
        rw [cps_toList_append, cps_toList_append, signs_lparen]
        exact ⟨_, rfl⟩
      rw [z, link_signs] at e
      cases e
  | dict _ => simp [Vn.fine] at hf
  | str x =>
    simp only [PyData.eqv]
    by_cases h : x = Str.ofString "link"
    · subst h
      simp
    · rw [decide_eq_false fun z => h (str_ext ?_)]
      · simp [h]
      · have e := link_signs
        rw [← z] at e
        simp only [PyData.shown] at e
        rw [repr_signs] at e
        have q39 : reprQuote x = 39 := (List.cons.inj e).1
        rw [q39] at e
        have e2 : x.cps.toList.flatMap (Builtin.Str.reprChar 39) = [108, 105, 110, 107] := List.append_cancel_right (as := x.cps.toList.flatMap (Builtin.Str.reprChar 39)) (bs := [39]) (cs := [108, 105, 110, 107]) (List.cons.inj e).2
        rw [signs_plain 39 _ (by rw [e2]; decide)] at e2
        rw [e2]
        decide +kernel
theorem int_dec (a b : Int) : decide (V.int a = V.int b) = decide (a = b) := by
  by_cases h : a = b
  · subst h
    simp
  · rw [decide_eq_false h, decide_eq_false fun z => h (V.int.inj z)]
/-- a list comprehension over a list of data whose element is a bool by the item -/
theorem lc_itemsL {K : PySem.W.Frag} {D j : Nat} {a : Addr} {xs : List V} {ds : List PyData} {te : TE} {own : List Nat} {σ : L2.St} {H : Hp} {Qd : Hp → Prop} (g : PyData → Bool) (nD : H D = none)
    (hq : SqL K H a xs) (dp : DpAll K H xs ds) (hl : ds.length ≤ sizeLine) (hw : ∀ v, wipe ((wipe σ own).set j v) own = wipe σ own)
    (elt : ∀ (v : V) (d : PyData) (H3 : Hp) (q : VK), d ∈ ds → Dp K H3 v d → Same H H3 → (∀ H4, Same H3 H4 → q (.bl (g d)) H4) → te ((wipe σ own).set j (some v)) H3 q)
    (done : ∀ H', Same H H' → H' D = some (.lst ((ds.map g).map V.bl)) → Qd H') :
    ∃ W : Nat → Nat → Hp → Prop, (∃ z, W 0 z (L2.upd H D (.lst []))) ∧ ∀ i z H, W i z H → ((Itl K a).stop i H ∧ Qd H) ∨
      ((Itl K a).go i H ∧ ∃ N : Hp → Prop, (∀ H', N H' → ∃ z', z' < z ∧ W (i + 1) z' H') ∧ ∀ u H', (Itl K a).yld i H u H' →
        gName j u (wipe σ own) H' fun σ2 H2 => wipe σ2 own = wipe σ own ∧ tYes σ2 H2 fun b H3 =>
          if b = true then te σ2 H3 fun y H4 => ∃ acc, H4 D = some (.lst acc) ∧ acc.length < sizeLine ∧ N (L2.upd H4 D (.lst (acc ++ [y]))) else N H3) := by
  have hlen := DpAll_len dp
  refine lc_list (xs := xs) (fun i H' => Same H H' ∧ H' D = some (.lst (((ds.take i).map g).map V.bl))) ⟨same_new nD _, upd_same⟩ (fun i H' _ p => Same.seq p.1 hq) ?_ ?_
  · rintro i v H3 hv ⟨s3, e3⟩
    refine ⟨hw _, ?_⟩
    unfold tYes
    refine iteT ?_
    obtain ⟨d, hd, hvd⟩ := DpAll_get i dp hv
    refine elt v d _ _ (List.mem_of_getElem? hd) (Dp_mono s3 hvd) s3 fun H4 s4 => ⟨_, s4 _ _ e3, ?_, ?_, ?_⟩
    · rw [List.length_map, List.length_map, List.length_take]
      have := (List.getElem?_eq_some_iff.mp hd).1
      omega
    · exact fun b o q => by
        rw [upd_ne (ne_of_none q nD)]
        exact s4 _ _ (s3 b o q)
    · rw [upd_same, take_snoc hd, List.map_append, List.map_append]
      rfl
  · rintro H' ⟨s3, e3⟩
    refine done H' s3 ?_
    rw [e3, hlen, List.take_of_length_le (Nat.le_refl _)]

/-- [f(thing) for k in range(m)], all that stood stands -/
theorem lc_again {D j m : Nat} {b : Bool} {te : TE} {own : List Nat} {σ : L2.St} {H : Hp} {Qd : Hp → Prop} (nD : H D = none) (hm : m < 1000)
    (hw : ∀ v, wipe ((wipe σ own).set j v) own = wipe σ own)
    (elt : ∀ (i : Nat) (H3 : Hp) (q : VK), Same H H3 → (∀ H4, Same H3 H4 → q (.bl b) H4) → te ((wipe σ own).set j (some (.int (0 + (i : Int))))) H3 q)
    (done : ∀ H', Same H H' → H' D = some (.lst (List.replicate m (V.bl b))) → Qd H') :
    ∃ W : Nat → Nat → Hp → Prop, (∃ z, W 0 z (L2.upd H D (.lst []))) ∧ ∀ i z H, W i z H → ((Itr 0 m).stop i H ∧ Qd H) ∨
      ((Itr 0 m).go i H ∧ ∃ N : Hp → Prop, (∀ H', N H' → ∃ z', z' < z ∧ W (i + 1) z' H') ∧ ∀ u H', (Itr 0 m).yld i H u H' →
        gName j u (wipe σ own) H' fun σ2 H2 => wipe σ2 own = wipe σ own ∧ tYes σ2 H2 fun b H3 =>
          if b = true then te σ2 H3 fun y H4 => ∃ acc, H4 D = some (.lst acc) ∧ acc.length < sizeLine ∧ N (L2.upd H4 D (.lst (acc ++ [y]))) else N H3) := by
  refine lc_range (fun i H' => Same H H' ∧ H' D = some (.lst (List.replicate i (V.bl b)))) ⟨same_new nD _, upd_same⟩ ?_ ?_
  · rintro i H3 hi ⟨s3, e3⟩
    refine ⟨hw _, ?_⟩
    unfold tYes
    refine iteT ?_
    refine elt i _ _ s3 fun H4 s4 => ⟨_, s4 _ _ e3, ?_, ?_, ?_⟩
    · rw [List.length_replicate]
      exact Nat.lt_of_lt_of_le hi (Nat.le_trans (Nat.le_of_lt hm) (by decide))
    · exact fun c o q => by
        rw [upd_ne (ne_of_none q nD)]
        exact s4 _ _ (s3 c o q)
    · rw [upd_same, List.replicate_succ']
  · rintro H' ⟨s3, e3⟩
    exact done H' s3 e3
theorem DpAll_bools {K : PySem.W.Frag} {H : Hp} : ∀ bs : List Bool, DpAll K H (bs.map V.bl) (bs.map PyData.bool)
  | [] => .nil
  | b :: r => .cons (.bl b) (DpAll_bools r)
/-- values -/
def linkD : PyData → Bool
  | .tuple [a, p] => PyData.eqv a (.str (Str.ofString "link")) && pathD p
  | _ => false
def intD : PyData → Bool
  | .int _ => true
  | _ => false
theorem linkD_not {ds : List PyData} (h : ds.length ≠ 2) : linkD (.tuple ds) = false := by
  match ds with
  | [] => rfl
  | [_] => rfl
  | [_, _] => exact absurd rfl h
  | _ :: _ :: _ :: _ => rfl
theorem two_of {K : PySem.W.Frag} {H : Hp} {xs : List V} {ds : List PyData} (h : DpAll K H xs ds) (e : xs.length = 2) : ∃ x y d0 d1, xs = [x, y] ∧ ds = [d0, d1] ∧ Dp K H x d0 ∧ Dp K H y d1 := by
  cases h with
  | nil => cases e
  | cons a r =>
    cases r with
    | nil => cases e
    | cons b r =>
      cases r with
      | nil => exact ⟨_, _, _, _, rfl, rfl, a, b⟩
      | cons _ _ => simp at e
theorem ne_two {n : Nat} (c : (!decide (V.int (n : Int) = V.int 2)) = true) : n ≠ 2 := fun e => by
  subst e
  simp at c
theorem is_two {n : Nat} (c : ¬ (!decide (V.int (n : Int) = V.int 2)) = true) : n = 2 := by
  rw [int_dec] at c
  simp at c
  omega
theorem is_two' {n : Nat} (c : decide (V.int (n : Int) = V.int 2) = true) : n = 2 := by
  rw [int_dec] at c
  simp at c
  omega
theorem ne_two' {n : Nat} (c : ¬ decide (V.int (n : Int) = V.int 2) = true) : n ≠ 2 := fun e => by
  subst e
  simp at c
theorem link_shaped : SeqAt.shaped (.str (Str.ofString "link")) = true := by decide +kernel
theorem link_ok : Ok (.str (Str.ofString "link")) := ⟨by decide +kernel, by decide +kernel, by decide +kernel⟩
def valueD (d : PyData) : Bool := intD d || (nameD d || linkD d)
end Vn

set_option Elab.async false
set_option linter.all false
set_option maxRecDepth 100000
set_option maxHeartbeats 4000000
/-! Vn: trees: their look. -/
namespace Vn
open PySem PySem.Spec PyProof.Rows L2
def pairD : PyData → Bool
  | .tuple [_, _] => true
  | _ => false
def fstD : PyData → PyData
  | .tuple (a :: _) => a
  | _ => .none
def sndD : PyData → PyData
  | .tuple [_, b] => b
  | _ => .none
def strD : PyData → Str
  | .str x => x
  | _ => ⟨#[]⟩
def itemsD : PyData → List PyData
  | .tuple ds => ds
  | _ => []
def nmD (e : PyData) : Bool := pairD e && nameD (fstD e)
def namedD : PyData → Bool
  | .tuple ds => ds.all nmD
  | _ => false
def keysL (ds : List PyData) : List Str := ds.map fun e => strD (fstD e)
def ascD : List Str → Bool
  | x :: y :: r => decide (x.cps.toList < y.cps.toList) && ascD (y :: r)
  | _ => true
/-- n: one more than the levels that are allowed below the root -/
def treeD : Nat → PyData → Bool
  | 0, _ => false
  | n + 1, .tuple [p, c] => (namedD p && namedD c) && ((ascD (keysL (itemsD p)) && ascD (keysL (itemsD c))) && (((itemsD p).all fun e => valueD (sndD e)) && ((itemsD c).all fun e => treeD n (sndD e))))
  | _, _ => false
theorem pair_is {e : PyData} (h : pairD e = true) : ∃ a b, e = .tuple [a, b] := by
  match e, h with
  | .tuple [a, b], _ => exact ⟨a, b, rfl⟩
theorem named_is {e : PyData} (h : nmD e = true) : ∃ x b, e = .tuple [.str x, b] ∧ nameD (.str x) = true := by
  unfold nmD at h
  rw [Bool.and_eq_true] at h
  obtain ⟨a, b, rfl⟩ := pair_is h.1
  have h2 : nameD a = true := h.2
  match a, h2 with
  | .str x, h2 => exact ⟨x, b, rfl, h2⟩
theorem named_tup {p : PyData} (h : namedD p = true) : ∃ ps, p = .tuple ps := by
  cases p with
  | tuple ps => exact ⟨ps, rfl⟩
  | _ => cases h
theorem not_pair {ds : List PyData} (h : ds.length ≠ 2) : pairD (.tuple ds) = false := by
  match ds with
  | [] => rfl
  | [_] => rfl
  | [_, _] => exact absurd rfl h
  | _ :: _ :: _ :: _ => rfl
theorem treeD_not {n : Nat} {d : PyData} (h : pairD d = false) : treeD n d = false := by
  cases n with
  | zero => rfl
  | succ n =>
    cases d with
    | tuple ds =>
      match ds with
      | [] => rfl
      | [_] => rfl
      | [_, _] => cases h
      | _ :: _ :: _ :: _ => rfl
    | _ => rfl
/-- ascends, place by place -/
def ascAt (ss : List Str) : List Bool := (ss.zip (ss.drop 1)).map fun p => decide (p.1.cps.toList < p.2.cps.toList)
theorem asc_at : ∀ ss : List Str, (ascAt ss).all id = ascD ss
  | [] => rfl
  | [_] => rfl
  | x :: y :: r => by
    have ih := asc_at (y :: r)
    unfold ascAt at ih ⊢
    simp only [List.drop_one, List.tail_cons, List.zip_cons_cons, List.map_cons, List.all_cons, id, ascD] at ih ⊢
    rw [ih]
theorem atI0 {α : Type} (x : α) (xs : List α) : atI (x :: xs) 0 = some x := atI_nat (j := 0) rfl
theorem cut_one (xs : List V) : cutV xs (some 1) none = xs.drop 1 := by
  unfold cutV
  have e1 : HT.sIx xs.length 0 (some 1) = min 1 xs.length := HT.sIx_nat xs.length 0 1
  rw [e1, HT.sIx_none]
  cases xs with
  | nil => rfl
  | cons x r =>
    have e2 : min 1 (x :: r).length = 1 := by
      rw [List.length_cons]
      omega
    rw [e2]
    exact List.take_of_length_le (by simp)
/-- the promises -/
def spAsc (K : PySem.W.Frag) : Sp := fun vs H Q _ => ∃ (a : Addr) (ss : List Str), vs = [.ref a] ∧ SqL K H a (ss.map V.str) ∧ ss.length ≤ sizeLine ∧ ∀ H', Same H H' → Q (.bl (ascD ss)) H'
def spNames (K : PySem.W.Frag) : Sp := fun vs H Q _ => ∃ (v : V) (ds : List PyData), vs = [v] ∧ Dp K H v (.tuple ds) ∧ ds.length ≤ sizeLine ∧ ds.all nmD = true ∧
  ∀ p H', Same H H' → H' p = some (.lst ((keysL ds).map V.str)) → Q (.ref p) H'
/-- is_tree_within(value, n - 1) -/
def spTree (K : PySem.W.Frag) (n : Nat) : Sp := fun vs H Q _ => ∃ (v : V) (d : PyData), vs = [v, .int ((n : Int) - 1)] ∧ Dp K H v d ∧ Ok d ∧ ∀ H', Same H H' → Q (.bl (treeD n d)) H'
theorem all_map {α : Type} (ds : List α) (g : α → Bool) : ((ds.map g).all id) = ds.all g := by rw [List.all_map]; rfl
theorem bigs_len : ∀ ds : List PyData, 2 * ds.length ≤ bigs ds
  | [] => Nat.le_refl _
  | d :: ds => by
    have := bigs_len ds
    simp only [bigs, List.length_cons]
    omega
theorem Ok.len {ds : List PyData} (h : Ok (.tuple ds)) : ds.length ≤ sizeLine := by
  have h2 := h.big
  simp only [Vn.big] at h2
  have := bigs_len ds
  omega
/-- one item of a comprehension over a tuple of data: any value by the item -/
theorem lc_vals {K : PySem.W.Frag} {D j : Nat} {a : Addr} {xs : List V} {ds : List PyData} {te : TE} {own : List Nat} {σ : L2.St} {H : Hp} {Qd : Hp → Prop} (g : PyData → V) (nD : H D = none)
    (hq : SqT K H a xs) (dp : DpAll K H xs ds) (hl : ds.length ≤ sizeLine) (hw : ∀ v, wipe ((wipe σ own).set j v) own = wipe σ own)
    (elt : ∀ (v : V) (d : PyData) (H3 : Hp) (q : VK), d ∈ ds → Dp K H3 v d → Same H H3 → (∀ H4, Same H3 H4 → q (g d) H4) → te ((wipe σ own).set j (some v)) H3 q)
    (done : ∀ H', Same H H' → H' D = some (.lst (ds.map g)) → Qd H') :
    ∃ W : Nat → Nat → Hp → Prop, (∃ z, W 0 z (L2.upd H D (.lst []))) ∧ ∀ i z H, W i z H → ((Itt K a).stop i H ∧ Qd H) ∨
      ((Itt K a).go i H ∧ ∃ N : Hp → Prop, (∀ H', N H' → ∃ z', z' < z ∧ W (i + 1) z' H') ∧ ∀ u H', (Itt K a).yld i H u H' →
        gName j u (wipe σ own) H' fun σ2 H2 => wipe σ2 own = wipe σ own ∧ tYes σ2 H2 fun b H3 =>
          if b = true then te σ2 H3 fun y H4 => ∃ acc, H4 D = some (.lst acc) ∧ acc.length < sizeLine ∧ N (L2.upd H4 D (.lst (acc ++ [y]))) else N H3) := by
  have hlen := DpAll_len dp
  refine lc_tup (xs := xs) (fun i H' => Same H H' ∧ H' D = some (.lst ((ds.take i).map g))) ⟨same_new nD _, upd_same⟩ (fun i H' _ p => Same.seqT p.1 hq) ?_ ?_
  · rintro i v H3 hv ⟨s3, e3⟩
    refine ⟨hw _, ?_⟩
    unfold tYes
    refine iteT ?_
    obtain ⟨d, hd, hvd⟩ := DpAll_get i dp hv
    refine elt v d _ _ (List.mem_of_getElem? hd) (Dp_mono s3 hvd) s3 fun H4 s4 => ⟨_, s4 _ _ e3, ?_, ?_, ?_⟩
    · rw [List.length_map, List.length_take]
      have := (List.getElem?_eq_some_iff.mp hd).1
      omega
    · exact fun b o q => by
        rw [upd_ne (ne_of_none q nD)]
        exact s4 _ _ (s3 b o q)
    · rw [upd_same, take_snoc hd, List.map_append]
      rfl
  · rintro H' ⟨s3, e3⟩
    refine done H' s3 ?_
    rw [e3, hlen, List.take_of_length_le (Nat.le_refl _)]
/-! ### a walk over a list or a tuple -/
def iEither (K : PySem.W.Frag) (te : TE) : TI := fun σ H R => te σ H fun x H1 => ∃ a, x = .ref a ∧ (((∃ xs, SqL K H1 a xs) ∧ R (Itl K a) H1) ∨ ((∃ xs, SqT K H1 a xs) ∧ R (Itt K a) H1))
theorem pi_either {X : Cx} {K : PySem.W.Frag} {tg e : Expr} {te : TE} (he : PE X e te) (hK : X.K = K := by rfl) : PI X tg e (iEither K te) := by
  subst hK
  constructor
  intro pins s σ H R I h
  refine thn (he.run pins s σ H _ I h) ?_
  rintro v s1 ⟨x, H1, I1, r1, a, rfl, q⟩
  cases r1
  have fresh := I1.fpOk (Nat.le_refl s1.heap.objs.size) (I1.hok.fresh (Nat.le_refl _))
  have alone : ∀ b ∈ [s1.heap.objs.size], FpOk X pins H1 b := fun b hb => by
    obtain rfl := List.mem_singleton.mp hb
    exact fresh
  rcases q with ⟨⟨xs, hq⟩, q⟩ | ⟨⟨xs, hq⟩, q⟩
  · obtain ⟨its, _, pl, _⟩ := I1.list hq
    exact wpAny_pyIter_list pl.isList ⟨_, _, _, _, H1, rfl, I1.kept (t' := s1.toks) (fun b o z => Heap.get?_push_of_some _ z), turn_list a _, ⟨_, Heap.get?_push_size _ rfl, rfl, rfl⟩, alone, q⟩
  · obtain ⟨its, _, pl, _⟩ := I1.tuple hq
    exact wpAny_pyIter_tuple (show s1.heap.IsTuple a its.toArray from pl) ⟨_, _, _, _, H1, rfl, I1.kept (t' := s1.toks) (fun b o z => Heap.get?_push_of_some _ z), turn_tuple a _, ⟨_, Heap.get?_push_size _ rfl, rfl, rfl⟩, alone, q⟩
/-! ### the law's own look at pairs: one after another, each name behind the last -/
def keyD (e : PyData) : Str := strD (fstD e)
def stepD (l : Str) (e : PyData) : Bool := nmD e && decide (l.cps.toList < (keyD e).cps.toList)
def loopD : Str → List PyData → Bool
  | _, [] => true
  | l, e :: r => stepD l e && loopD (keyD e) r
def lastK : Str → List PyData → Str
  | l, [] => l
  | _, e :: r => lastK (keyD e) r
theorem loop_app : ∀ (a b : List PyData) (l : Str), loopD l (a ++ b) = (loopD l a && loopD (lastK l a) b)
  | [], _, _ => rfl
  | e :: a, b, l => by
    simp only [List.cons_append, loopD, lastK, loop_app a b, Bool.and_assoc]
theorem lastK_app : ∀ (a : List PyData) (e : PyData) (l : Str), lastK l (a ++ [e]) = keyD e
  | [], _, _ => rfl
  | _ :: a, e, _ => lastK_app a e _
theorem loop_next {ds : List PyData} {i : Nat} {e : PyData} {l : Str} (h : ds[i]? = some e) : loopD l (ds.take (i + 1)) = (loopD l (ds.take i) && stepD (lastK l (ds.take i)) e) := by
  rw [take_snoc h, loop_app]
  simp only [loopD, Bool.and_true]
theorem loop_stop {ds : List PyData} {i : Nat} {e : PyData} {l : Str} (h : ds[i]? = some e) (f : stepD (lastK l (ds.take i)) e = false) : loopD l ds = false := by
  have := loop_next (l := l) h
  rw [f, Bool.and_false] at this
  have e2 := loop_app (ds.take (i + 1)) (ds.drop (i + 1)) l
  rw [List.take_append_drop, this, Bool.false_and] at e2
  exact e2
theorem loop_from : ∀ (ds : List PyData) (l : Str), ds.all nmD = true → loopD l ds = ((match keysL ds with | [] => true | k :: _ => decide (l.cps.toList < k.cps.toList)) && ascD (keysL ds))
  | [], _, _ => rfl
  | [e], l, h => by
    have h1 : nmD e = true := by simpa using h
    simp [loopD, stepD, h1, keysL, ascD, keyD]
  | e :: f :: r, l, h => by
    have h1 : nmD e = true := List.all_eq_true.mp h e List.mem_cons_self
    have h2 : (f :: r).all nmD = true := List.all_eq_true.mpr fun x hx => List.all_eq_true.mp h x (List.mem_cons_of_mem _ hx)
    have ih := loop_from (f :: r) (keyD e) h2
    unfold loopD
    rw [ih]
    simp [stepD, h1, keysL, ascD, keyD]
theorem loop_named : ∀ (ds : List PyData) (l : Str), loopD l ds = true → ds.all nmD = true
  | [], _, _ => rfl
  | e :: r, l, h => by
    unfold loopD at h
    rw [Bool.and_eq_true] at h
    have h1 := h.1
    unfold stepD at h1
    rw [Bool.and_eq_true] at h1
    have h2 := loop_named r _ h.2
    rw [List.all_cons, h1.1, h2]
    rfl
theorem loop_is (ds : List PyData) : loopD (Str.ofString "") ds = (ds.all nmD && ascD (keysL ds)) := by
  by_cases h : ds.all nmD = true
  · rw [loop_from ds _ h, h, Bool.true_and]
    match ds, h with
    | [], _ => rfl
    | e :: r, h =>
      have h1 : nmD e = true := List.all_eq_true.mp h e List.mem_cons_self
      obtain ⟨x, b, rfl, hx⟩ := named_is h1
      simp only [nameD, Bool.and_eq_true, decide_eq_true_eq] at hx
      have hne : x.cps.toList ≠ [] := fun z => by
        have h0 : x.length = x.cps.toList.length := Array.length_toList.symm
        rw [z] at h0
        have := hx.1.1
        rw [h0] at this
        exact absurd this (by decide)
      have e0 : (Str.ofString "").cps.toList = [] := by decide +kernel
      have lt : (Str.ofString "").cps.toList < x.cps.toList := by
        rw [e0]
        cases z : x.cps.toList with
        | nil => exact absurd z hne
        | cons a r => exact List.nil_lt_cons a r
      show (decide ((Str.ofString "").cps.toList < x.cps.toList) && _) = _
      rw [decide_eq_true lt, Bool.true_and]
  · rw [Bool.eq_false_iff.mpr h, Bool.false_and]
    exact Bool.eq_false_iff.mpr fun z => h (loop_named ds _ z)
/-- what one part of a node must be -/
def partD (p : PyData) : Bool := namedD p && ascD (keysL (itemsD p))
theorem part_tup (ds : List PyData) : partD (.tuple ds) = loopD (Str.ofString "") ds := (loop_is ds).symm
theorem treeD_parts {n : Nat} {p c : PyData} : treeD (n + 1) (.tuple [p, c]) = ((partD p && partD c) && (((itemsD p).all fun e => valueD (sndD e)) && ((itemsD c).all fun e => treeD n (sndD e)))) := by
  show ((namedD p && namedD c) && ((ascD (keysL (itemsD p)) && ascD (keysL (itemsD c))) && _)) = _
  unfold partD
  cases namedD p <;> cases namedD c <;> simp
/-! ### the shape of a tree: props and children are tuples of pairs, level by level -/
def shD : Nat → PyData → Bool
  | 0, _ => false
  | n + 1, .tuple [.tuple ps, .tuple cs] => ps.all pairD && (cs.all pairD && cs.all fun e => shD n (sndD e))
  | _ + 1, _ => false
theorem sh_is {n : Nat} {d : PyData} (h : shD (n + 1) d = true) : ∃ ps cs, d = .tuple [.tuple ps, .tuple cs] ∧ ps.all pairD = true ∧ cs.all pairD = true ∧ ∀ e ∈ cs, shD n (sndD e) = true := by
  unfold shD at h
  split at h
  · cases ‹_ + 1 = 0›
  · rename_i m ps cs e
    obtain rfl := Nat.succ.inj e
    rw [Bool.and_eq_true, Bool.and_eq_true] at h
    exact ⟨ps, cs, rfl, h.1, h.2.1, fun e he => List.all_eq_true.mp h.2.2 e he⟩
  · cases h
theorem sh_mk {n : Nat} {ps cs : List PyData} (h1 : ps.all pairD = true) (h2 : cs.all pairD = true) (h3 : ∀ e ∈ cs, shD n (sndD e) = true) : shD (n + 1) (.tuple [.tuple ps, .tuple cs]) = true := by
  show (ps.all pairD && (cs.all pairD && cs.all fun e => shD n (sndD e))) = true
  rw [h1, h2, List.all_eq_true.mpr h3]
  rfl
theorem sh_mono : ∀ {n : Nat} {d : PyData}, shD n d = true → shD (n + 1) d = true
  | 0, _, h => by cases h
  | n + 1, d, h => by
    obtain ⟨ps, cs, rfl, h1, h2, h3⟩ := sh_is h
    exact sh_mk h1 h2 fun e he => sh_mono (h3 e he)
theorem sh_more {n : Nat} {d : PyData} (k : Nat) (h : shD n d = true) : shD (n + k) d = true := by
  induction k with
  | zero => exact h
  | succ k ih => exact sh_mono ih
theorem pairs_of {ds : List PyData} (h : ds.all nmD = true) : ds.all pairD = true := by
  rw [List.all_eq_true] at h ⊢
  intro e he
  have := h e he
  unfold nmD at this
  rw [Bool.and_eq_true] at this
  exact this.1
theorem under_sh {n : Nat} {p c : PyData} {x : Str} (hp : partD p = true) : shD (n + 1) (.tuple [p, .tuple [.tuple [.str x, c]]]) = shD n c := by
  unfold partD at hp
  rw [Bool.and_eq_true] at hp
  obtain ⟨ps, rfl⟩ := named_tup hp.1
  have h1 : ps.all pairD = true := pairs_of hp.1
  show (ps.all pairD && (([PyData.tuple [.str x, c]] : List PyData).all pairD && ([PyData.tuple [.str x, c]] : List PyData).all fun e => shD n (sndD e))) = _
  rw [h1]
  simp [pairD, sndD]
end Vn

set_option Elab.async false
set_option linter.all false
set_option maxRecDepth 100000
set_option maxHeartbeats 4000000
/-! Vn: lists of drawn things by a list that is walked; a list beside the stream. -/
namespace Vn
open PySem PySem.Spec PyProof.Rows L2
/-- item by item -/
inductive All2 (R : V → PyData → Prop) : List V → List PyData → Prop
  | nil : All2 R [] []
  | cons {x : V} {d : PyData} {xs : List V} {ds : List PyData} : R x d → All2 R xs ds → All2 R (x :: xs) (d :: ds)
theorem All2.snoc {R : V → PyData → Prop} {x : V} {d : PyData} : ∀ {xs : List V} {ds : List PyData}, All2 R xs ds → R x d → All2 R (xs ++ [x]) (ds ++ [d])
  | _, _, .nil, h => .cons h .nil
  | _, _, .cons a r, h => .cons a (r.snoc h)
theorem All2.len {R : V → PyData → Prop} : ∀ {xs : List V} {ds : List PyData}, All2 R xs ds → ds.length = xs.length
  | _, _, .nil => rfl
  | _, _, .cons _ r => congrArg (· + 1) r.len
theorem All2.mem {R : V → PyData → Prop} {d : PyData} : ∀ {xs : List V} {ds : List PyData}, All2 R xs ds → d ∈ ds → ∃ x, R x d
  | _, _, .nil, h => nomatch h
  | _, _, .cons a r, h => by
    cases h with
    | head => exact ⟨_, a⟩
    | tail _ m => exact r.mem m
/-- [elt for x in xs if test], test and elt may draw -/
theorem lc_draw {K : PySem.W.Frag} {S C D a : Addr} {n k j : Nat} {xs : List V} {R : V → PyData → Prop} {tt : TT} {te : TE} {own : List Nat} {σ : L2.St} {H : Hp} {Qd : Hp → Prop}
    (st : Strm S C n H) (nD : H D = none) (aS : a ≠ S) (aC : a ≠ C) (ha : H a = some (.lst xs)) (hw : ∀ v, wipe ((wipe σ own).set j v) own = wipe σ own) (hx : xs.length ≤ 100000)
    (elt : ∀ (i : Nat) (x : V) (H3 : Hp) (q : VK) (q0 : Hp → Prop), xs[i]? = some x → Strm S C (n + i * k) H3 →
      (∀ (v : V) (d : PyData) (H4 : Hp), Dp K (newp H3 H4) v d → R x d → Strm S C (n + i * k + k) H4 → Fr S C H3 H4 → q v H4) →
      (∀ H4, Strm S C (n + i * k + k) H4 → Fr S C H3 H4 → q0 H4) →
      tt ((wipe σ own).set j (some x)) H3 fun b H4 => if b = true then te ((wipe σ own).set j (some x)) H4 q else q0 H4)
    (done : ∀ (H' : Hp) (vs : List V) (ds : List PyData) (ys : List V), H' D = some (.lst vs) → DpAll K (newp (L2.upd H D (.lst [])) H') vs ds → ys.Sublist xs → All2 R ys ds → Strm S C (n + xs.length * k) H' → Fr S C H H' → Qd H') :
    ∃ W : Nat → Nat → Hp → Prop, (∃ z, W 0 z (L2.upd H D (.lst []))) ∧ ∀ i z H, W i z H → ((Itl K a).stop i H ∧ Qd H) ∨
      ((Itl K a).go i H ∧ ∃ N : Hp → Prop, (∀ H', N H' → ∃ z', z' < z ∧ W (i + 1) z' H') ∧ ∀ x H', (Itl K a).yld i H x H' →
        gName j x (wipe σ own) H' fun σ2 H2 => wipe σ2 own = wipe σ own ∧ tt σ2 H2 fun b H3 =>
          if b = true then te σ2 H3 fun y H4 => ∃ acc, H4 D = some (.lst acc) ∧ acc.length < sizeLine ∧ N (L2.upd H4 D (.lst (acc ++ [y]))) else N H3) := by
  have neS := st.neS nD
  have neC := st.neC nD
  have tr : (L2.upd H D (.lst [])) D ≠ none := by rw [upd_same]; exact Option.some_ne_none _
  have aD : a ≠ D := ne_of_none ha nD
  refine lc_list (xs := xs) (fun i H' => ∃ (vs : List V) (ds : List PyData) (ys : List V), H' D = some (.lst vs) ∧ H' a = some (.lst xs) ∧ DpAll K (newp (L2.upd H D (.lst [])) H') vs ds ∧ ys.Sublist (xs.take i) ∧ All2 R ys ds ∧ Strm S C (n + i * k) H' ∧ Fr S C H H' ∧ Ext (L2.upd H D (.lst [])) H')
    ⟨[], [], [], upd_same, (upd_ne aD).trans ha, .nil, .slnil, .nil, by rw [Nat.zero_mul, Nat.add_zero]; exact st.lay nD _, Fr.lay nD _, fun _ h => h⟩ (fun i H' _ p => by
      obtain ⟨vs, ds, ys, _, e, _⟩ := p
      exact SqL.of e) ?_ ?_
  · rintro i x H3 hx' ⟨vs, ds, ys, e, ea, dp, hs, hR, s3, f3, x3⟩
    have hi := (List.getElem?_eq_some_iff.mp hx').1
    have lds : ds.length ≤ i := by
      rw [hR.len]
      have := hs.length_le
      rw [List.length_take] at this
      omega
    refine ⟨hw _, elt i x H3 _ _ hx' s3 (fun v d H4 hv hd s4 f4 => ?_) (fun H4 s4 f4 => ?_)⟩
    · have e4 : H4 D = some (.lst vs) := cut_keep f4 neS neC e
      refine ⟨vs, e4, ?_, vs ++ [v], ds ++ [d], ys ++ [x], upd_same, (upd_ne aD).trans (cut_keep f4 aS aC ea), ?_, ?_, hR.snoc hd, ?_, ?_, ?_⟩
      · rw [DpAll_len dp]
        exact Nat.lt_of_le_of_lt (show ds.length ≤ 100000 by omega) (by decide)
      · exact DpAll_snoc (DpAll_mono ((newp_fr (st.lay nD _) f4).trans (newp_upd tr)) dp) (Dp_mono ((newp_left x3).trans (newp_upd tr)) hv)
      · rw [take_snoc hx']
        exact hs.append (List.Sublist.refl _)
      · rw [Nat.succ_mul, ← Nat.add_assoc]
        exact s4.upd neS neC _
      · exact Fr.upd (f3.trans f4) nD
      · exact (x3.trans (Fr.ext s4 f4)).trans Ext.upd
    · refine ⟨vs, ds, ys, cut_keep f4 neS neC e, cut_keep f4 aS aC ea, DpAll_mono (newp_fr (st.lay nD _) f4) dp, ?_, hR, ?_, f3.trans f4, x3.trans (Fr.ext s4 f4)⟩
      · rw [take_snoc hx']
        exact hs.trans (List.sublist_append_left _ _)
      · rw [Nat.succ_mul, ← Nat.add_assoc]
        exact s4
  · rintro H' ⟨vs, ds, ys, e, ea, dp, hs, hR, s3, f3, x3⟩
    rw [List.take_of_length_le (Nat.le_refl _)] at hs
    exact done H' vs ds ys e dp hs hR s3 f3
/-- names in order -/
theorem asc_of : ∀ ss : List Str, ss.Pairwise (fun a b => a.cps.toList < b.cps.toList) → ascD ss = true
  | [], _ => rfl
  | [_], _ => rfl
  | x :: y :: r, h => by
    rw [List.pairwise_cons] at h
    show (decide (x.cps.toList < y.cps.toList) && ascD (y :: r)) = true
    rw [decide_eq_true (h.1 y List.mem_cons_self), asc_of (y :: r) h.2]
    rfl
def vStr : V → Str
  | .str x => x
  | _ => ⟨#[]⟩
/-- pairs that stand for names in order -/
theorem part_of {R : V → PyData → Prop} {xs ys : List V} {ds : List PyData} (hs : ys.Sublist xs) (hR : All2 R ys ds) (ho : (xs.map vStr).Pairwise (fun a b => a.cps.toList < b.cps.toList))
    (hp : ∀ x d, R x d → nmD d = true ∧ strD (fstD d) = vStr x) : partD (.tuple ds) = true := by
  have h1 : ds.all nmD = true := List.all_eq_true.mpr fun d hd => by
    obtain ⟨x, hx⟩ := hR.mem hd
    exact (hp x d hx).1
  have h2 : keysL ds = ys.map vStr := by
    clear hs h1
    induction hR with
    | nil => rfl
    | cons a _ ih =>
      unfold keysL at ih ⊢
      rw [List.map_cons, List.map_cons, ih, (hp _ _ a).2]
  unfold partD
  show (ds.all nmD && ascD (keysL ds)) = true
  rw [h1, h2, asc_of _ (ho.sublist (hs.map vStr))]
  rfl
/-- some names: texts of at most 8 letters -/
def okNames (m : Nat) (ys : List Str) : Prop := ys.length ≤ m ∧ ∀ y ∈ ys, y.length ≤ 8 ∧ azStr y
def spSome : Sp := fun vs H Q _ => ∃ (S C : Addr) (n m : Nat), vs = [.ref S, .int (m : Int)] ∧ m ≤ 50 ∧ Strm S C n H ∧ n + m * 9 ≤ 20000000 ∧
  ∀ (p : Addr) (ys : List Str) (H' : Hp), H p = none → H' p = some (.lst (ys.map V.str)) → okNames m ys → Strm S C (n + m * 9) H' → Fr S C H H' → Q (.ref p) H'
theorem flat_strs (ys : List Str) : (ys.map V.str).all flatV = true := by
  rw [List.all_map, List.all_eq_true]
  exact fun _ _ => rfl
/-! ### a list L beside the stream that is counted down -/
def Fr3 (S C L : Addr) (H H' : Hp) : Prop := ∀ a o, a ≠ S → a ≠ C → a ≠ L → H a = some o → H' a = some o
theorem Fr3.of {S C L : Addr} {H H' : Hp} (f : Fr S C H H') : Fr3 S C L H H' := fun a o h1 h2 _ h => cut_keep f h1 h2 h
theorem Fr3.trans {S C L : Addr} {H H1 H2 : Hp} (f : Fr3 S C L H H1) (g : Fr3 S C L H1 H2) : Fr3 S C L H H2 := fun a o h1 h2 h3 h => g a o h1 h2 h3 (f a o h1 h2 h3 h)
theorem Fr3.updL {S C L : Addr} {H : Hp} {o : HO} : Fr3 S C L H (L2.upd H L o) := fun a u _ _ h3 h => (upd_ne h3).trans h
theorem Fr3.upd {S C L p : Addr} {H H1 : Hp} {o : HO} (f : Fr3 S C L H H1) (np : H p = none) : Fr3 S C L H (L2.upd H1 p o) := fun a u h1 h2 h3 h => (upd_ne (ne_of_none h np)).trans (f a u h1 h2 h3 h)
theorem Fr3.drop {S C L : Addr} {H H' : Hp} (f : Fr3 S C L H H') (h : H L = none) : Fr S C H H' := fun a o q => by
  obtain ⟨h1, h2, h3⟩ := cut_some q
  rw [cut_in h1 h2]
  exact f a o h1 h2 (ne_of_none h3 h) h3
theorem Fr3.ext {S C L : Addr} {n : Nat} {u : HO} {H H' : Hp} (s : Strm S C n H') (e : H' L = some u) (f : Fr3 S C L H H') : Ext H H' := fun a h => by
  cases q : H a with
  | none => rfl
  | some o =>
    have h3 : a ≠ L := fun z => by
      rw [z, e] at h
      cases h
    rw [f a o (s.neS h) (s.neC h) h3 q] at h
    cases h
theorem newp_fr3 {S C L : Addr} {n : Nat} {H H1 H2 : Hp} (s : Strm S C n H) (hL : H L ≠ none) (f : Fr3 S C L H1 H2) : Same (newp H H1) (newp H H2) := fun a o h => by
  obtain ⟨h1, h2⟩ := newp_some h
  rw [newp_of h1]
  exact f a o (s.neS h1) (s.neC h1) (fun z => hL (by rw [← z]; exact h1)) h2
def kW : Nat → Nat
  | 0 => 210
  | m + 1 => 3 * kW m + 210
def bW : Nat → Nat
  | 0 => 10600
  | m + 1 => 3 * (bW m + 100) + 10200
def spWide (K : PySem.W.Frag) (m : Nat) : Sp := fun vs H Q _ => ∃ (S C L : Addr) (n : Nat) (z : Int), vs = [.ref S, .ref L, .int (m : Int)] ∧ Strm S C n H ∧ L ≠ S ∧ L ≠ C ∧ H L = some (.lst [.int z]) ∧ n + kW m ≤ 20000000 ∧
  ∀ (v : V) (d : PyData) (H' : Hp) (z' : Int), Dp K (newp H H') v d → Nice (5 + 3 * m) (bW m) d → shD (m + 1) d = true → Strm S C (n + kW m) H' → Fr3 S C L H H' → H' L = some (.lst [.int z']) → Q v H'
theorem az_name {x : Str} (h : azStr x) (h1 : 1 ≤ x.length) (h8 : x.length ≤ 8) : nameD (.str x) = true := by
  show (decide (1 ≤ x.length) && decide (x.length ≤ 8) && x.cps.toList.all fun c => decide (97 ≤ c) && decide (c ≤ 122)) = true
  rw [decide_eq_true h1, decide_eq_true h8, List.all_eq_true.mpr fun c hc => by rw [decide_eq_true (h c hc).1, decide_eq_true (h c hc).2]; rfl]
  rfl
theorem under_tree {n : Nat} {p c : PyData} {x : Str} (hp : partD p = true) (hv : (itemsD p).all (fun e => valueD (sndD e)) = true) (hx : nameD (.str x) = true) :
    treeD (n + 1) (.tuple [p, .tuple [.tuple [.str x, c]]]) = treeD n c := by
  have h2 : partD (.tuple [.tuple [.str x, c]]) = true := by
    unfold partD
    show (([PyData.tuple [.str x, c]] : List PyData).all nmD && ascD (keysL [.tuple [.str x, c]])) = true
    have : nmD (.tuple [.str x, c]) = true := hx
    simp [this, keysL, ascD]
  rw [treeD_parts, hp, hv, h2]
  simp [itemsD, sndD]
/-- _law_under(stream, part, levels) -/
def spUnder (K : PySem.W.Frag) : Sp := fun vs H Q _ => ∃ (S C : Addr) (n m nb dd bb : Nat) (B : Hp) (v : V) (d : PyData), vs = [.ref S, v, .int (m : Int)] ∧ m ≤ 8 ∧ Strm S C n H ∧ n + m * 230 ≤ 20000000 ∧ Strm S C nb B ∧ Ext B H ∧ Dp K (newp B H) v d ∧ Nice dd bb d ∧ 2 ≤ dd ∧
  ∀ (v' : V) (d' : PyData) (H' : Hp), Dp K (newp B H') v' d' → Nice (dd + 3 * m) (bb + m * 13300) d' → (∀ j, treeD (j + m) d' = treeD j d) → (∀ j, shD (j + m) d' = shD j d) → Strm S C (n + m * 230) H' → Fr S C H H' → Q v' H'
end Vn

set_option Elab.async false
set_option linter.all false
set_option maxRecDepth 100000
set_option maxHeartbeats 4000000
/-! Vn: t[::-1] of a tuple; slices and sums of drawn tuples. -/
namespace Vn
open PySem PySem.Spec PyProof.Rows L2 HT
section
variable {prog : Program} {w : World} {A : Around} {E : Value → Shared → Prop} {s : Shared}
theorem adjust_rev (n : Nat) : Builtin.Slice.sliceAdjust none none (-1) (n : Int) = ((n : Int) - 1, -1) := rfl
theorem places_rev (n : Nat) : Builtin.Slice.slicePlaces ((n : Int) - 1) (-1) (-1) = n := by
  unfold Builtin.Slice.slicePlaces
  have h1 : ¬ ((-1 : Int) > 0) := by decide
  simp only [h1, if_false]
  rw [show (- -1 : Int) = 1 by decide, Int.ediv_one]
  split <;> omega
theorem sliceApplied_rev {sl : Addr} {vl vu vs : Value} {n : Nat} {Q : Int × Int × Nat → Shared → Prop} (hs : s.heap.IsSliceOf sl vl vu vs) (pl : IsPart vl none) (pu : IsPart vu none) (ps : IsPart vs (some (-1)))
    (h : Q ((n : Int) - 1, -1, n) s) : wpAny (model prog w) A (Builtin.Slice.sliceApplied (.ref sl) (pure (n : Int))) Q E s := by
  obtain ⟨os, hos, hcs, hds⟩ := id hs
  unfold Builtin.Slice.sliceApplied Builtin.Slice.sliceFields
  refine wpAny_bind (wpAny_bind (wpAny_field hos hds (x := vl) rfl (wpAny_bind (wpAny_field hos hds (x := vu) rfl (wpAny_bind (wpAny_field hos hds (x := vs) rfl (wpAny_pure ?_)))))))
  refine wpAny_bind (slicePart_ ps ?_)
  show wpAny _ _ (if ((-1 : Int) == 0) = true then _ else _) _ _ s
  rw [if_neg (by decide)]
  refine wpAny_bind (slicePart_ pl (wpAny_bind (slicePart_ pu (wpAny_bind (wpAny_pure ?_)))))
  show wpAny _ _ (match Builtin.Slice.sliceAdjust none none (-1) (n : Int) with | (lo, hi) => pure (lo, (-1 : Int), Builtin.Slice.slicePlaces lo hi (-1))) _ _ s
  rw [adjust_rev n]
  show wpAny _ _ (pure ((n : Int) - 1, (-1 : Int), Builtin.Slice.slicePlaces ((n : Int) - 1) (-1) (-1))) _ _ s
  rw [places_rev]
  exact wpAny_pure h
theorem fm_congr {α β : Type} {f g : α → Option β} : ∀ {l : List α}, (∀ a ∈ l, f a = g a) → l.filterMap f = l.filterMap g
  | [], _ => rfl
  | a :: l, h => by rw [List.filterMap_cons, List.filterMap_cons, h a (.head _), fm_congr fun b hb => h b (.tail _ hb)]
theorem pick_rev (xs : Array Value) : ((List.range xs.size).filterMap fun (m : Nat) => xs[(((xs.size : Nat) : Int) - 1 + (m : Int) * -1).toNat]?).toArray = xs.toList.reverse.toArray := by
  have e : (List.range xs.size).filterMap (fun m : Nat => xs[(((xs.size : Nat) : Int) - 1 + (m : Int) * -1).toNat]?) = ((List.range xs.size).map fun k => xs.size - 1 - k).filterMap (xs[·]?) := by
    rw [List.filterMap_map]
    refine fm_congr fun m hm => ?_
    have := List.mem_range.mp hm
    show xs[(((xs.size : Nat) : Int) - 1 + (m : Int) * -1).toNat]? = xs[xs.size - 1 - m]?
    rw [show (((xs.size : Nat) : Int) - 1 + (m : Int) * -1).toNat = xs.size - 1 - m by omega]
  rw [e, PySem.W.krv_range, List.filterMap_reverse, PySem.W.krv_all]
theorem getItem_tuple_rev {t sl : Addr} {items : Array Value} {vl vu vs : Value} {Q : Value → Shared → Prop} (ht : IsTup s.heap t items) (hs : s.heap.IsSliceOf sl vl vu vs) (pl : IsPart vl none) (pu : IsPart vu none) (ps : IsPart vs (some (-1)))
    (h : Q (.ref s.heap.objs.size) { s with heap := s.heap.push { cls := .type "tuple", data := .seq items.toList.reverse.toArray } })
    (hsz : items.size ≤ sizeLine) : wpAny (model prog w) A (getItem (.ref t) (.ref sl)) Q E s := by
  have htake : sizeOk (.seq items.toList.reverse.toArray) := by
    show items.toList.reverse.toArray.size ≤ sizeLine
    rw [List.size_toArray, List.length_reverse, Array.length_toList]
    exact hsz
  obtain ⟨os, hos, hcs, hds⟩ := id hs
  have hTs : s.TypeIs (.ref sl) "slice" := ⟨os, hos, hcs⟩
  unfold getItem
  try with_reducible refine wpAny_holding ?_
  first | refine wpAny_bind (wpAny_pure ?_) | skip
  refine wpAny_bind (wpAny_sequenceKey ht.typeIs (by decide) ?_)
  refine wpAny_bind (wpAny_callSpecial?_slot (name := Str.ofString "__getitem__") ht.typeIs PyProof.Rows.slot_tuple_getitem
    (wpAny_call_entry PyProof.Rows.slot_tuple_getitem ht.typeIs entry_tuple_getitem ?_ (args_tuple_getitem _ _)))
  show wpAny _ _ (Builtin.Tuple.tupleItemsOf (.ref t) >>= _) _ _ s
  refine wpAny_bind (tupleItemsOf_ ht ?_)
  refine wpAny_bind (wpAny_typeOf hTs ?_)
  rw [if_pos (by decide)]
  refine wpAny_bind (sliceApplied_rev hs pl pu ps ?_)
  have hno : ¬ (((((items.size : Nat) : Int) - 1) == 0 && (-1 : Int) == 1 && (items.size == items.size)) = true) := by
    intro q
    rw [Bool.and_eq_true, Bool.and_eq_true] at q
    exact absurd (eq_of_beq q.1.2) (by decide)
  show wpAny _ _ (if ((((items.size : Nat) : Int) - 1) == 0 && (-1 : Int) == 1 && (items.size == items.size)) = true then _ else _) _ _ s
  rw [if_neg hno, pick_rev]
  first
    | exact wpAny_bind (m := Builtin.Tuple.tupleExact _) (wpAny_newObj_type (wpAny_pure ⟨_, rfl, wpAny_pure h⟩) htake)
    | exact wpAny_bind (m := Builtin.Tuple.tupleExact _) (wpAny_newObj_type (wpAny_bind (wpAny_pure (wpAny_pure ⟨_, rfl, wpAny_pure h⟩))) htake)
    | exact wpAny_bind (wpAny_bind (m := Builtin.Tuple.tupleExact _) (wpAny_newObj_type (wpAny_pure (wpAny_pure ⟨_, rfl, wpAny_pure h⟩)) htake))
    | exact wpAny_bind (wpAny_bind (m := Builtin.Tuple.tupleExact _) (wpAny_newObj_type (wpAny_pure ⟨_, rfl, wpAny_pure h⟩) htake))
end
def tRevT (K : PySem.W.Frag) (te : TE) : TE := fun σ H Q => te σ H fun x H1 => ∃ a xs, x = .ref a ∧ SqT K H1 a xs ∧ xs.length ≤ sizeLine ∧ ∀ p, H1 p = none → Q (.ref p) (L2.upd H1 p (.tup xs.reverse))
theorem pe_revT {X : Cx} {K : PySem.W.Frag} {e : Expr} {te : TE} {k : Nat} {p1 p2 p3 pos : Pos} (he : PE X e te) (hK : X.K = K := by rfl) : PE X (.Subscript e (.Slice none none (some (.UnaryOp .USub (.Constant (.int 1) k p1) p2)) p3) pos) (tRevT K te) := by
  subst hK
  refine ⟨fun pins s σ H Q I h => ?_⟩
  refine Subscript_ (thn (he.run pins s σ H _ I h) fun v s1 ⟨x, H1, I1, r1, q1⟩ => ?_)
  obtain ⟨a, xs, ex, hx, hz0, q⟩ := q1
  subst ex
  cases r1
  have hst : PO X (some (.UnaryOp .USub (.Constant (.int 1) k p1) p2)) (tPart (tUn (rU fun i => .int (-i)) (tC (.int 1)))) := po_some (pe_un un_neg pe_int)
  refine wpAny_Slice (thn (po_none.run pins s1 σ H1 (fun o H2 => o = none ∧ H2 = H1) I1 ⟨rfl, rfl⟩) fun vl s2 ⟨l, H2, I2, pl, el, e2⟩ => ?_)
  subst el e2
  refine thn (po_none.run pins s2 σ H2 (fun o H3 => o = none ∧ H3 = H2) I2 ⟨rfl, rfl⟩) fun vu s3 ⟨u, H3, I3, pu, eu, e3⟩ => ?_
  subst eu e3
  refine thn (hst.run pins s3 σ H3 (fun o H4 => o = some (-1) ∧ H4 = H3) I3 ⟨1, rfl, -1, rfl, rfl, rfl⟩) fun vs s4 ⟨o, H4, I4, ps, eo, e4⟩ => ?_
  subst eo e4
  have I5 : Inv X pins σ H4 { s4 with heap := s4.heap.push { cls := .type "slice", data := .fields #[vl, vu, vs] } } := I4.kept (t' := s4.toks) fun b ob q => Heap.get?_push_of_some _ q
  obtain ⟨its, r, ht, hz⟩ := I5.tuple hx
  have hlen := r.length
  show wpAny (model X.prog X.w) X.A (subscriptTail e (.Slice none none (some (.UnaryOp .USub (.Constant (.int 1) k p1) p2)) p3) (.ref a) (.ref s4.heap.objs.size)) (EP X pins σ Q) X.xe { s4 with heap := s4.heap.push { cls := .type "slice", data := .fields #[vl, vu, vs] } }
  refine tail_any (ops := [.ref a, .ref s4.heap.objs.size]) ht.typeIs (PyProof.Rows.slot_tuple_getitem.lookup) ?_ (by with_unfolding_all rfl)
  refine getItem_tuple_rev ht (Heap.IsSliceOf.new _ vl vu vs) pl pu ps ?_ (by rw [List.size_toArray]; omega)
  refine ⟨.ref _, _, I5.laid (t' := s4.toks) (o := .tup xs.reverse) (fun b ob q => Heap.get?_push_of_some _ q) (Nat.le_refl _) ?_, rfl, q _ (I5.hok.fresh (Nat.le_refl _))⟩
  refine ⟨by rw [List.length_reverse]; exact hz0, its.toArray.toList.reverse, r.reverse, ?_⟩
  exact IsTup.new _ _
section
variable {K : PySem.W.Frag} {X : Cx}
theorem slA (h : X.K = K := by rfl) : SlR X (rSlA K) := by subst h; exact sl_tupA
theorem caA (h : X.K = K := by rfl) : OpR X (binaryOp .Add) (rCatA K) := by subst h; exact op_catA
end
/-- [elt for x in xs]: elt makes a thing new against G, without drawing; D, the new list, is no part of what is new against G -/
theorem lc_base {K : PySem.W.Frag} {S C D a : Addr} {n nG j : Nat} {xs : List V} {G : Hp} {R : PyData → Prop} {te : TE} {own : List Nat} {σ : L2.St} {H : Hp} {Qd : Hp → Prop}
    (st : Strm S C n H) (nD : H D = none) (sG : Strm S C nG G) (gD : G D ≠ none) (xG : Ext G (L2.upd H D (.lst []))) (aS : a ≠ S) (aC : a ≠ C) (ha : H a = some (.lst xs)) (hw : ∀ v, wipe ((wipe σ own).set j v) own = wipe σ own) (hx : xs.length ≤ 100000)
    (elt : ∀ (i : Nat) (x : V) (H3 : Hp) (q : VK), xs[i]? = some x → Strm S C n H3 → Fr S C H H3 → Ext G H3 →
      (∀ (v : V) (d : PyData) (H4 : Hp), Dp K (newp G H4) v d → R d → Strm S C n H4 → Fr S C H3 H4 → q v H4) →
      te ((wipe σ own).set j (some x)) H3 q)
    (done : ∀ (H' : Hp) (vs : List V) (ds : List PyData), H' D = some (.lst vs) → DpAll K (newp G H') vs ds → ds.length = xs.length → (∀ d ∈ ds, R d) → Strm S C n H' → Fr S C H H' → Ext G H' → Qd H') :
    ∃ W : Nat → Nat → Hp → Prop, (∃ z, W 0 z (L2.upd H D (.lst []))) ∧ ∀ i z H, W i z H → ((Itl K a).stop i H ∧ Qd H) ∨
      ((Itl K a).go i H ∧ ∃ N : Hp → Prop, (∀ H', N H' → ∃ z', z' < z ∧ W (i + 1) z' H') ∧ ∀ x H', (Itl K a).yld i H x H' →
        gName j x (wipe σ own) H' fun σ2 H2 => wipe σ2 own = wipe σ own ∧ tYes σ2 H2 fun b H3 =>
          if b = true then te σ2 H3 fun y H4 => ∃ acc, H4 D = some (.lst acc) ∧ acc.length < sizeLine ∧ N (L2.upd H4 D (.lst (acc ++ [y]))) else N H3) := by
  have neS := st.neS nD
  have neC := st.neC nD
  have aD : a ≠ D := ne_of_none ha nD
  refine lc_list (xs := xs) (fun i H' => ∃ (vs : List V) (ds : List PyData), H' D = some (.lst vs) ∧ H' a = some (.lst xs) ∧ DpAll K (newp G H') vs ds ∧ ds.length = i ∧ (∀ d ∈ ds, R d) ∧ Strm S C n H' ∧ Fr S C H H' ∧ Ext G H')
    ⟨[], [], upd_same, (upd_ne aD).trans ha, .nil, rfl, (fun d hd => nomatch hd), st.lay nD _, Fr.lay nD _, xG⟩ (fun i H' _ p => by
      obtain ⟨vs, ds, _, e, _⟩ := p
      exact SqL.of e) ?_ ?_
  · rintro i x H3 hx' ⟨vs, ds, e, ea, dp, hl, hR, s3, f3, x3⟩
    have hi := (List.getElem?_eq_some_iff.mp hx').1
    refine ⟨hw _, ?_⟩
    unfold tYes
    refine iteT (elt i x H3 _ hx' s3 f3 x3 fun v d H4 hv hd s4 f4 => ?_)
    have e4 : H4 D = some (.lst vs) := cut_keep f4 neS neC e
    refine ⟨vs, e4, ?_, vs ++ [v], ds ++ [d], upd_same, (upd_ne aD).trans (cut_keep f4 aS aC ea), ?_, ?_, ?_, ?_, ?_, ?_⟩
    · rw [DpAll_len dp]
      exact Nat.lt_of_le_of_lt (show ds.length ≤ 100000 by omega) (by decide)
    · exact DpAll_snoc (DpAll_mono ((newp_fr sG f4).trans (newp_upd gD)) dp) (Dp_mono (newp_upd gD) hv)
    · rw [List.length_append, hl]; rfl
    · intro d' hd'
      rcases List.mem_append.mp hd' with h | h
      · exact hR d' h
      · rw [List.mem_singleton.mp h]; exact hd
    · exact s4.upd neS neC _
    · exact Fr.upd (f3.trans f4) nD
    · exact (x3.trans (Fr.ext s4 f4)).trans Ext.upd
  · rintro H' ⟨vs, ds, e, ea, dp, hl, hR, s3, f3, x3⟩
    exact done H' vs ds e dp hl hR s3 f3 x3
/-! ### t + u, t[lo:hi] of drawn tuples -/
/-- t + u: the new tuple, or the one that is not empty -/
theorem cat_by {K : PySem.W.Frag} {B H : Hp} {x y : V} {ds es : List PyData} {Q : VK} (xB : Ext B H) (hx : Dp K (newp B H) x (.tuple ds)) (hy : Dp K (newp B H) y (.tuple es)) (hz : ds.length + es.length ≤ sizeLine)
    (q : ∀ (v : V) (H' : Hp), Dp K (newp B H') v (.tuple (ds ++ es)) → Same H H' → Q v H') : rCatA K x y H Q := by
  cases hx with
  | @tup _ xs _ sx hx =>
  cases hy with
  | @tup _ ys _ sy hy =>
  have lx := DpAll_len hx
  have ly := DpAll_len hy
  refine ⟨_, _, _, _, rfl, rfl, Same.seqT newp_same sx, Same.seqT newp_same sy, by rw [lx, ly]; exact hz, fun e => ?_, fun _ e => ?_, fun _ _ p np => ?_⟩
  · subst e
    cases hx
    exact q _ _ (.tup sy hy) fun _ _ h => h
  · subst e
    cases hy
    exact q _ _ (by rw [List.append_nil]; exact .tup sx hx) fun _ _ h => h
  · have w := same_new np (.tup (xs ++ ys))
    exact q _ _ (new_tup (xB p np) upd_same (DpAll_append (DpAll_mono (newp_right w) hx) (DpAll_mono (newp_right w) hy))) w
theorem sIx_nat (n d i : Nat) : HT.sIx n d (some (i : Int)) = min i n := by
  show (if ((i : Nat) : Int) < 0 then (((i : Nat) : Int) + (n : Int)).toNat else min ((i : Nat) : Int).toNat n) = min i n
  rw [if_neg (by omega), Int.toNat_natCast]
theorem sIx_no (n d : Nat) : HT.sIx n d none = d := rfl
theorem cutV_to {i : Nat} (xs : List V) : cutV xs none (some (i : Int)) = xs.take i := by
  unfold cutV
  rw [sIx_nat, sIx_no, List.drop_zero, Nat.sub_zero]
  by_cases h : i ≤ xs.length
  · rw [Nat.min_eq_left h]
  · rw [Nat.min_eq_right (by omega), List.take_of_length_le (Nat.le_refl _), List.take_of_length_le (by omega)]
theorem cutV_from {i : Nat} (xs : List V) : cutV xs (some (i : Int)) none = xs.drop i := by
  unfold cutV
  rw [sIx_nat, sIx_no]
  by_cases h : i ≤ xs.length
  · rw [Nat.min_eq_left h, List.take_of_length_le (by rw [List.length_drop]; exact Nat.le_refl _)]
  · rw [Nat.min_eq_right (by omega), Nat.sub_self, List.take_zero, List.drop_of_length_le (by omega)]
theorem cutV_mid {i k : Nat} (xs : List V) (hi : i ≤ xs.length) (hk : k ≤ xs.length) : cutV xs (some (i : Int)) (some (k : Int)) = (xs.drop i).take (k - i) := by
  unfold cutV
  rw [sIx_nat, sIx_nat, Nat.min_eq_left hi, Nat.min_eq_left hk]
/-- the slice of a drawn tuple: what the cut list says -/
theorem cut_by {K : PySem.W.Frag} {B H : Hp} {x : V} {ds : List PyData} {lo hi : Option Int} {es : List PyData} {Q : VK} (xB : Ext B H) (hx : Dp K (newp B H) x (.tuple ds))
    (he : ∀ (xs : List V) (H' : Hp), DpAll K H' xs ds → DpAll K H' (cutV xs lo hi) es) (hwhole : HT.sIx ds.length 0 lo = 0 ∧ HT.sIx ds.length ds.length hi = ds.length → es = ds)
    (q : ∀ (v : V) (H' : Hp), Dp K (newp B H') v (.tuple es) → Same H H' → Q v H') : rSlA K x lo hi H Q := by
  cases hx with
  | @tup _ xs _ sx hx =>
  have lx := DpAll_len hx
  refine ⟨_, _, rfl, Same.seqT newp_same sx, fun e => ?_, fun _ p np => ?_⟩
  · rw [lx] at e
    rw [hwhole e] at q
    exact q _ _ (.tup sx hx) fun _ _ h => h
  · have w := same_new np (.tup (cutV xs lo hi))
    exact q _ _ (new_tup (xB p np) upd_same (he _ _ (DpAll_mono (newp_right w) hx))) w
theorem take_by {K : PySem.W.Frag} {B H : Hp} {x : V} {ds : List PyData} {i : Nat} {Q : VK} (xB : Ext B H) (hx : Dp K (newp B H) x (.tuple ds))
    (q : ∀ (v : V) (H' : Hp), Dp K (newp B H') v (.tuple (ds.take i)) → Same H H' → Q v H') : rSlA K x none (some (i : Int)) H Q :=
  cut_by xB hx (fun xs H' h => by rw [cutV_to]; exact DpAll_take i h) (fun ⟨_, e⟩ => by
    rw [sIx_nat] at e
    exact List.take_of_length_le (by omega)) q
theorem drop_by {K : PySem.W.Frag} {B H : Hp} {x : V} {ds : List PyData} {i : Nat} {Q : VK} (xB : Ext B H) (hx : Dp K (newp B H) x (.tuple ds)) (hi : i ≤ ds.length)
    (q : ∀ (v : V) (H' : Hp), Dp K (newp B H') v (.tuple (ds.drop i)) → Same H H' → Q v H') : rSlA K x (some (i : Int)) none H Q :=
  cut_by xB hx (fun xs H' h => by rw [cutV_from]; exact DpAll_drop i h) (fun ⟨e, _⟩ => by
    rw [sIx_nat] at e
    have : ds.drop i = ds := by
      by_cases z : i = 0
      · rw [z, List.drop_zero]
      · have : ds.length = 0 := by omega
        rw [List.eq_nil_of_length_eq_zero this, List.drop_nil]
    exact this) q
theorem mid_by {K : PySem.W.Frag} {B H : Hp} {x : V} {ds : List PyData} {i k : Nat} {Q : VK} (xB : Ext B H) (hx : Dp K (newp B H) x (.tuple ds)) (hi : i ≤ ds.length) (hk : k ≤ ds.length)
    (q : ∀ (v : V) (H' : Hp), Dp K (newp B H') v (.tuple ((ds.drop i).take (k - i))) → Same H H' → Q v H') : rSlA K x (some (i : Int)) (some (k : Int)) H Q :=
  cut_by xB hx (fun xs H' h => by
      have l := DpAll_len h
      rw [cutV_mid xs (by omega) (by omega)]
      exact DpAll_take _ (DpAll_drop i h)) (fun ⟨e, e2⟩ => by
    rw [sIx_nat] at e e2
    have h2 : k = ds.length := by omega
    by_cases z : i = 0
    · rw [z, List.drop_zero, Nat.sub_zero, h2, List.take_of_length_le (Nat.le_refl _)]
    · have : ds.length = 0 := by omega
      rw [List.eq_nil_of_length_eq_zero this, List.drop_nil, List.take_nil]) q
theorem DpAll_rev {K : PySem.W.Frag} {H : Hp} : ∀ {ds : List PyData} {vs : List V}, DpAll K H vs ds → DpAll K H vs.reverse ds.reverse
  | _, _, .nil => .nil
  | _, _, .cons a r => by
    rw [List.reverse_cons, List.reverse_cons]
    exact DpAll_snoc (DpAll_rev r) a
theorem bigs_rev : ∀ ds : List PyData, bigs ds.reverse = bigs ds
  | [] => rfl
  | d :: ds => by
    rw [List.reverse_cons, bigs_append, bigs_rev ds]
    simp only [bigs]
    omega
theorem fines_rev : ∀ ds : List PyData, fines ds.reverse = fines ds
  | [] => rfl
  | d :: ds => by
    rw [List.reverse_cons, fines_append, fines_rev ds]
    simp only [fines, Bool.and_true]
    exact Bool.and_comm _ _
theorem depth_rev : ∀ ds : List PyData, PyData.depthAll ds.reverse = PyData.depthAll ds
  | [] => rfl
  | d :: ds => by
    rw [List.reverse_cons, depthAll_append, depth_rev ds]
    simp only [PyData.depthAll]
    omega
theorem Nices.rev {n b : Nat} {ds : List PyData} (h : Nices n b ds) : Nices n b ds.reverse := ⟨(fines_rev ds).trans h.fine, by rw [depth_rev]; exact h.depth, by rw [bigs_rev]; exact h.big⟩
/-- a list that is its own -/
def LivL (H : Hp) (v : V) (d : PyData) : Prop := ∀ ds, d = .list ds → ∃ a xs, v = .ref a ∧ H a = some (.lst xs) ∧ xs.length = ds.length
theorem LivL.mono {H H' : Hp} {v : V} {d : PyData} (e : Same H H') (h : LivL H v d) : LivL H' v d := fun ds z => by
  obtain ⟨a, xs, r, q, l⟩ := h ds z
  exact ⟨a, xs, r, e _ _ q, l⟩
theorem LivL.not {H : Hp} {v : V} {d : PyData} (h : isLst d = false) : LivL H v d := fun ds z => by
  rw [z] at h
  cases h
theorem LivL.lst {H : Hp} {a : Addr} {xs : List V} {ds : List PyData} (h : H a = some (.lst xs)) (l : xs.length = ds.length) : LivL H (.ref a) (.list ds) := fun _ e => by
  cases e
  exact ⟨a, xs, rfl, h, l⟩
inductive LivA (H : Hp) : List V → List PyData → Prop
  | nil : LivA H [] []
  | cons {v : V} {d : PyData} {vs : List V} {ds : List PyData} : LivL H v d → LivA H vs ds → LivA H (v :: vs) (d :: ds)
theorem LivA.mono {H H' : Hp} (e : Same H H') : ∀ {vs : List V} {ds : List PyData}, LivA H vs ds → LivA H' vs ds
  | _, _, .nil => .nil
  | _, _, .cons a r => .cons (a.mono e) (LivA.mono e r)
theorem LivA.append {H : Hp} : ∀ {vs us : List V} {ds es : List PyData}, LivA H vs ds → LivA H us es → LivA H (vs ++ us) (ds ++ es)
  | _, _, _, _, .nil, h => h
  | _, _, _, _, .cons a r, h => .cons a (LivA.append r h)
theorem LivA.nots {H : Hp} : ∀ {vs : List V} {ds : List PyData}, vs.length = ds.length → (∀ d ∈ ds, isLst d = false) → LivA H vs ds
  | [], [], _, _ => .nil
  | _ :: _, d :: _, h, n => .cons (.not (n d List.mem_cons_self)) (LivA.nots (Nat.succ.inj h) fun e he => n e (List.mem_cons_of_mem _ he))
  | [], _ :: _, h, _ => nomatch h
  | _ :: _, [], h, _ => nomatch h
theorem LivA.get {H : Hp} : ∀ {vs : List V} {ds : List PyData} {i : Nat} {v : V} {d : PyData}, LivA H vs ds → vs[i]? = some v → ds[i]? = some d → LivL H v d
  | _, _, 0, _, _, .cons a _, h1, h2 => by
    cases h1
    cases h2
    exact a
  | _, _, i + 1, _, _, .cons _ r, h1, h2 => LivA.get (i := i) r h1 h2
theorem DpAll_atL {K : PySem.W.Frag} {H : Hp} {ds : List PyData} {vs : List V} {r : Int} (h : DpAll K H vs ds) (L : LivA H vs ds) (h0 : 0 ≤ r) (h1 : r < (vs.length : Int)) :
    ∃ v d, atI vs r = some v ∧ d ∈ ds ∧ Dp K H v d ∧ LivL H v d := by
  have q : r.toNat < vs.length := by omega
  obtain ⟨d, hd, hv⟩ := DpAll_get _ h (List.getElem?_eq_getElem q)
  have e : r = ((r.toNat : Nat) : Int) := by omega
  have z : atI vs ((r.toNat : Nat) : Int) = some vs[r.toNat] := atI_nat (List.getElem?_eq_getElem q)
  rw [← e] at z
  exact ⟨vs[r.toNat], d, z, List.mem_of_getElem? hd, hv, L.get (List.getElem?_eq_getElem q) hd⟩
theorem some_liv {H : Hp} {p1 p2 p3 p4 : Addr} (n2 : H p2 = some (.lst [])) (n4 : H p4 = some (.lst [.str "a"])) :
    LivA H [V.non, V.bl true, V.bl false, V.int 0, V.int 1, V.int (-7), V.int (10 ^ 30 - 1), V.str "", V.str "link", V.str "a", V.str "on", V.ref p1, V.ref p2, V.ref p3, V.ref p4, V.str "A", V.str "b c"]
      [.none, .bool true, .bool false, .int 0, .int 1, .int (-7), .int (10 ^ 30 - 1), .str "", .str "link", .str "a", .str "on", .tuple [], .list [], .tuple [.str "a"], .list [.str "a"], .str "A", .str "b c"] :=
  .cons (.not rfl) (.cons (.not rfl) (.cons (.not rfl) (.cons (.not rfl) (.cons (.not rfl) (.cons (.not rfl) (.cons (.not rfl) (.cons (.not rfl) (.cons (.not rfl) (.cons (.not rfl) (.cons (.not rfl)
    (.cons (.not rfl) (.cons (.lst n2 rfl) (.cons (.not rfl) (.cons (.lst n4 rfl) (.cons (.not rfl) (.cons (.not rfl) .nil))))))))))))))))
/-- _law_thing(stream, m) -/
def spThingL (K : PySem.W.Frag) (m : Nat) : Sp := fun vs H Q _ => ∃ (S C : Addr) (n : Nat) (us : List V), vs = .ref S :: us ∧ us = [.int (m : Int)] ∧ Strm S C n H ∧ n + kT m ≤ 20000000 ∧
  ∀ (v : V) (d : PyData) (H' : Hp), Dp K (newp H H') v d → Nice (m + 1) (bT m) d → LivL (newp H H') v d → Strm S C (n + kT m) H' → Fr S C H H' → Q v H'
def spBentP (K : PySem.W.Frag) : Sp := fun vs H Q _ => ∃ (S C : Addr) (n nb : Nat) (B : Hp) (v : V) (ds : List PyData), vs = [.ref S, v] ∧ Strm S C n H ∧ n + 500 ≤ 20000000 ∧ Strm S C nb B ∧ Ext B H ∧ Dp K (newp B H) v (.tuple ds) ∧ Ok (.tuple ds) ∧ ds.all pairD = true ∧ ds.length < 20000000 ∧
  ∀ (v' : V) (d' : PyData) (H' : Hp), Dp K (newp B H') v' d' → fine d' = true → d'.depth ≤ max (PyData.depthAll ds + 1) 6 → (ds = [] → d'.depth ≤ 2) → big d' ≤ 4 * bigs ds + 60000 → LivL (newp B H') v' d' → Strm S C (n + 500) H' → Fr S C H H' → Q v' H'
/-- side, with less asked -/
theorem side_ext {S C D : Addr} {n1 : Nat} {H1 H2 : Hp} (s1 : Strm S C n1 H1) (f : Ext H1 H2) (nD : H2 D = none) (o : HO) :
    ∃ G, Ext H1 G ∧ G D ≠ none ∧ Strm S C n1 G ∧ Same (newp H1 H2) (newp G H2) ∧ Ext G (L2.upd H2 D o) := by
  have n1D : H1 D = none := f D nD
  refine ⟨L2.upd H1 D (.lst []), Ext.upd, by rw [upd_same]; exact Option.some_ne_none _, s1.lay n1D _, fun a u h => ?_, fun a h => ?_⟩
  · obtain ⟨h1, h2⟩ := newp_some h
    have hn : a ≠ D := ne_of_none h2 nD
    rw [newp_of (by rw [upd_ne hn]; exact h1)]
    exact h2
  · by_cases e : a = D
    · rw [e, upd_same] at h
      cases h
    · rw [upd_ne e] at h ⊢
      exact f a h
theorem lay_tup {K : PySem.W.Frag} {B H : Hp} {p : Addr} {vs : List V} {ds : List PyData} (xB : Ext B H) (np : H p = none) (h : DpAll K (newp B H) vs ds) : Dp K (newp B (L2.upd H p (.tup vs))) (.ref p) (.tuple ds) :=
  new_tup (xB p np) upd_same (DpAll_mono (newp_right (same_new np _)) h)
theorem lay_lst {K : PySem.W.Frag} {B H : Hp} {p : Addr} {vs : List V} {ds : List PyData} (xB : Ext B H) (np : H p = none) (h : DpAll K (newp B H) vs ds) : Dp K (newp B (L2.upd H p (.lst vs))) (.ref p) (.list ds) :=
  new_lst (xB p np) upd_same (DpAll_mono (newp_right (same_new np _)) h)
end Vn

set_option Elab.async false
set_option linter.all false
set_option maxRecDepth 100000
set_option maxHeartbeats 4000000
/-! Vn: what a bend of a tree keeps. -/
namespace Vn
open PySem PySem.Spec PyProof.Rows L2
theorem tree_is {n : Nat} {d : PyData} (h : treeD (n + 1) d = true) : ∃ ps cs, d = .tuple [.tuple ps, .tuple cs] ∧ ps.all pairD = true ∧ cs.all pairD = true ∧ ∀ e ∈ cs, treeD n (sndD e) = true := by
  have hp : pairD d = true := by
    cases q : pairD d with
    | true => rfl
    | false => rw [treeD_not q] at h; cases h
  obtain ⟨p, c, rfl⟩ := pair_is hp
  rw [treeD_parts] at h
  simp only [Bool.and_eq_true] at h
  obtain ⟨⟨h1, h2⟩, _, h3⟩ := h
  unfold partD at h1 h2
  rw [Bool.and_eq_true] at h1 h2
  obtain ⟨ps, rfl⟩ := named_tup h1.1
  obtain ⟨cs, rfl⟩ := named_tup h2.1
  have nm : ∀ {ds : List PyData}, namedD (.tuple ds) = true → ds.all pairD = true := fun {ds} h => by
    have h' : ds.all nmD = true := h
    rw [List.all_eq_true] at h' ⊢
    intro e he
    have := h' e he
    unfold nmD at this
    rw [Bool.and_eq_true] at this
    exact this.1
  exact ⟨ps, cs, rfl, nm h1.1, nm h2.1, fun e he => List.all_eq_true.mp h3 e he⟩
theorem tree_sh : ∀ {n : Nat} {d : PyData}, treeD n d = true → shD n d = true
  | 0, _, h => by cases h
  | n + 1, d, h => by
    obtain ⟨ps, cs, rfl, h1, h2, h3⟩ := tree_is h
    exact sh_mk h1 h2 fun e he => tree_sh (h3 e he)
theorem pairs_len : ∀ ds : List PyData, ds.all pairD = true → 9 * ds.length ≤ bigs ds
  | [], _ => Nat.zero_le _
  | d :: ds, h => by
    rw [List.all_cons, Bool.and_eq_true] at h
    obtain ⟨a, b, rfl⟩ := pair_is h.1
    have := pairs_len ds h.2
    simp only [List.length_cons, bigs, big]
    omega
theorem pairs_deep {ds : List PyData} (h : ds.all pairD = true) (z : PyData.depthAll ds = 0) : ds = [] := by
  cases ds with
  | nil => rfl
  | cons d ds =>
    rw [List.all_cons, Bool.and_eq_true] at h
    obtain ⟨a, b, rfl⟩ := pair_is h.1
    simp only [PyData.depthAll, PyData.depth] at z
    omega
/-- _law_bent_tree(stream, part), part a tree of at most n levels -/
def spBent (K : PySem.W.Frag) (n : Nat) : Sp := fun vs H Q _ => ∃ (S C : Addr) (k nb j : Nat) (B : Hp) (v : V) (d : PyData), vs = [.ref S, v] ∧ Strm S C k H ∧ k + (2 * n + 600) ≤ 20000000 ∧ Strm S C nb B ∧ Ext B H ∧ Dp K (newp B H) v d ∧ fine d = true ∧ d.depth ≤ 3 * j + 2 ∧ 3 * j + 2 ≤ 60 ∧ big d ≤ 4000000 ∧ shD n d = true ∧
  ∀ (v' : V) (d' : PyData) (H' : Hp), Dp K (newp B H') v' d' → fine d' = true → d'.depth ≤ 3 * j + 4 → big d' ≤ 4 * big d + 60000 → Strm S C (k + (2 * n + 600)) H' → Fr S C H H' → Q v' H'
theorem drop_no {K : PySem.W.Frag} {B H : Hp} {x : V} {ds : List PyData} {i : Nat} {σ : L2.St} {Q : VK} (xB : Ext B H) (hx : Dp K (newp B H) x (.tuple ds)) (hi : i ≤ ds.length)
    (q : ∀ (v : V) (H' : Hp), Dp K (newp B H') v (.tuple (ds.drop i)) → Same H H' → Q v H') : tNoPart σ H fun u H3 => rSlA K x (some (i : Int)) u H3 Q := drop_by xB hx hi q
end Vn

set_option Elab.async false
set_option linter.all false
set_option maxRecDepth 100000
set_option maxHeartbeats 8000000
namespace Vn
open PySem PySem.Spec PyProof.Rows L2
/-! ### the text by places -/
def topS (i : Nat) : Stmt := PySem.Challenge.pw_variantnest_k05_trees_recognized.main.body.getD i (.Pass ⟨0, 0, 0, 0⟩)
abbrev s_is_pair : Stmt := topS 1
theorem sc_is_pair : FnScope ["value"] ["value"] (defScope s_is_pair) :=
  ⟨rfl, rfl, rfl, by decide +kernel, rfl, by decide +kernel, by decide +kernel⟩
abbrev s_ascends : Stmt := topS 2
theorem sc_ascends : FnScope ["keys", "one", "other"] ["keys"] (defScope s_ascends) :=
  ⟨rfl, rfl, rfl, by decide +kernel, rfl, by decide +kernel, by decide +kernel⟩
abbrev s_is_name : Stmt := topS 6
theorem sc_is_name : FnScope ["value", "sign"] ["value"] (defScope s_is_name) :=
  ⟨rfl, rfl, rfl, by decide +kernel, rfl, by decide +kernel, by decide +kernel⟩
abbrev s_is_path : Stmt := topS 7
theorem sc_is_path : FnScope ["value", "name"] ["value"] (defScope s_is_path) :=
  ⟨rfl, rfl, rfl, by decide +kernel, rfl, by decide +kernel, by decide +kernel⟩
abbrev s_is_value : Stmt := topS 8
theorem sc_is_value : FnScope ["value"] ["value"] (defScope s_is_value) :=
  ⟨rfl, rfl, rfl, by decide +kernel, rfl, by decide +kernel, by decide +kernel⟩
abbrev s_is_integer : Stmt := topS 9
theorem sc_is_integer : FnScope ["value"] ["value"] (defScope s_is_integer) :=
  ⟨rfl, rfl, rfl, by decide +kernel, rfl, by decide +kernel, by decide +kernel⟩
abbrev s_is_link : Stmt := topS 10
theorem sc_is_link : FnScope ["value"] ["value"] (defScope s_is_link) :=
  ⟨rfl, rfl, rfl, by decide +kernel, rfl, by decide +kernel, by decide +kernel⟩
abbrev s_is_tree : Stmt := topS 12
theorem sc_is_tree : FnScope ["value"] ["value"] (defScope s_is_tree) :=
  ⟨rfl, rfl, rfl, by decide +kernel, rfl, by decide +kernel, by decide +kernel⟩
abbrev s_is_tree_within : Stmt := topS 13
theorem sc_is_tree_within : FnScope ["value", "levels", "props", "children", "pair"] ["value", "levels"] (defScope s_is_tree_within) :=
  ⟨rfl, rfl, rfl, by decide +kernel, rfl, by decide +kernel, by decide +kernel⟩
abbrev s_are_props : Stmt := topS 14
theorem sc_are_props : FnScope ["pairs", "pair"] ["pairs"] (defScope s_are_props) :=
  ⟨rfl, rfl, rfl, by decide +kernel, rfl, by decide +kernel, by decide +kernel⟩
abbrev s_are_rows : Stmt := topS 15
theorem sc_are_rows : FnScope ["pairs"] ["pairs"] (defScope s_are_rows) :=
  ⟨rfl, rfl, rfl, by decide +kernel, rfl, by decide +kernel, by decide +kernel⟩
abbrev s_are_named : Stmt := topS 16
theorem sc_are_named : FnScope ["pairs", "pair"] ["pairs"] (defScope s_are_named) :=
  ⟨rfl, rfl, rfl, by decide +kernel, rfl, by decide +kernel, by decide +kernel⟩
abbrev s_names_of : Stmt := topS 17
theorem sc_names_of : FnScope ["pairs", "pair"] ["pairs"] (defScope s_names_of) :=
  ⟨rfl, rfl, rfl, by decide +kernel, rfl, by decide +kernel, by decide +kernel⟩
abbrev s__law_draw : Stmt := topS 19
theorem sc__law_draw : FnScope ["_law_stream", "_law_many", "_law_digit", "_law_mixed"] ["_law_stream", "_law_many"] (defScope s__law_draw) :=
  ⟨rfl, rfl, rfl, by decide +kernel, rfl, by decide +kernel, by decide +kernel⟩
abbrev s__law_same : Stmt := topS 20
theorem sc__law_same : FnScope ["_law_found", "_law_due"] ["_law_found", "_law_due"] (defScope s__law_same) :=
  ⟨rfl, rfl, rfl, by decide +kernel, rfl, by decide +kernel, by decide +kernel⟩
abbrev s__law_path : Stmt := topS 21
theorem sc__law_path : FnScope ["_law_stream", "_law_most", "_law_k"] ["_law_stream", "_law_most"] (defScope s__law_path) :=
  ⟨rfl, rfl, rfl, by decide +kernel, rfl, by decide +kernel, by decide +kernel⟩
abbrev s__law_value : Stmt := topS 22
theorem sc__law_value : FnScope ["_law_stream", "_law_way"] ["_law_stream"] (defScope s__law_value) :=
  ⟨rfl, rfl, rfl, by decide +kernel, rfl, by decide +kernel, by decide +kernel⟩
abbrev s__law_props : Stmt := topS 23
theorem sc__law_props : FnScope ["_law_stream", "_law_name"] ["_law_stream"] (defScope s__law_props) :=
  ⟨rfl, rfl, rfl, by decide +kernel, rfl, by decide +kernel, by decide +kernel⟩
abbrev s__law_is_name : Stmt := topS 24
theorem sc__law_is_name : FnScope ["_law_thing_here", "_law_sign"] ["_law_thing_here"] (defScope s__law_is_name) :=
  ⟨rfl, rfl, rfl, by decide +kernel, rfl, by decide +kernel, by decide +kernel⟩
abbrev s__law_is_path : Stmt := topS 25
theorem sc__law_is_path : FnScope ["_law_thing_here", "_law_one"] ["_law_thing_here"] (defScope s__law_is_path) :=
  ⟨rfl, rfl, rfl, by decide +kernel, rfl, by decide +kernel, by decide +kernel⟩
abbrev s__law_is_value : Stmt := topS 26
theorem sc__law_is_value : FnScope ["_law_thing_here"] ["_law_thing_here"] (defScope s__law_is_value) :=
  ⟨rfl, rfl, rfl, by decide +kernel, rfl, by decide +kernel, by decide +kernel⟩
abbrev s__law_letters : Stmt := topS 27
theorem sc__law_letters : FnScope ["_law_stream", "_law_many", "_law_letters_here", "_law_k"] ["_law_stream", "_law_many"] (defScope s__law_letters) :=
  ⟨rfl, rfl, rfl, by decide +kernel, rfl, by decide +kernel, by decide +kernel⟩
abbrev s__law_near_name : Stmt := topS 28
theorem sc__law_near_name : FnScope ["_law_stream", "_law_found", "_law_at", "_law_sign"] ["_law_stream"] (defScope s__law_near_name) :=
  ⟨rfl, rfl, rfl, by decide +kernel, rfl, by decide +kernel, by decide +kernel⟩
abbrev s__law_thing : Stmt := topS 29
theorem sc__law_thing : FnScope ["_law_stream", "_law_deep", "_law_some", "_law_parts", "_law_k"] ["_law_stream", "_law_deep"] (defScope s__law_thing) :=
  ⟨rfl, rfl, rfl, by decide +kernel, rfl, by decide +kernel, by decide +kernel⟩
abbrev s__law_near_path : Stmt := topS 30
theorem sc__law_near_path : FnScope ["_law_stream", "_law_many", "_law_parts", "_law_k", "_law_odd"] ["_law_stream"] (defScope s__law_near_path) :=
  ⟨rfl, rfl, rfl, by decide +kernel, rfl, by decide +kernel, by decide +kernel⟩
abbrev s__law_near_value : Stmt := topS 31
theorem sc__law_near_value : FnScope ["_law_stream", "_law_way", "_law_parts"] ["_law_stream"] (defScope s__law_near_value) :=
  ⟨rfl, rfl, rfl, by decide +kernel, rfl, by decide +kernel, by decide +kernel⟩
abbrev s__law_some_names : Stmt := topS 32
theorem sc__law_some_names : FnScope ["_law_stream", "_law_many", "_law_found", "_law_k", "_law_name"] ["_law_stream", "_law_many"] (defScope s__law_some_names) :=
  ⟨rfl, rfl, rfl, by decide +kernel, rfl, by decide +kernel, by decide +kernel⟩
abbrev s__law_wide_tree : Stmt := topS 33
theorem sc__law_wide_tree : FnScope ["_law_stream", "_law_left", "_law_deep", "_law_props_here", "_law_name", "_law_children"] ["_law_stream", "_law_left", "_law_deep"] (defScope s__law_wide_tree) :=
  ⟨rfl, rfl, rfl, by decide +kernel, rfl, by decide +kernel, by decide +kernel⟩
abbrev s__law_under : Stmt := topS 34
theorem sc__law_under : FnScope ["_law_stream", "_law_part", "_law_levels", "_law_k"] ["_law_stream", "_law_part", "_law_levels"] (defScope s__law_under) :=
  ⟨rfl, rfl, rfl, by decide +kernel, rfl, by decide +kernel, by decide +kernel⟩
abbrev s__law_any_tree : Stmt := topS 35
theorem sc__law_any_tree : FnScope ["_law_stream", "_law_part"] ["_law_stream"] (defScope s__law_any_tree) :=
  ⟨rfl, rfl, rfl, by decide +kernel, rfl, by decide +kernel, by decide +kernel⟩
abbrev s__law_is_tree : Stmt := topS 36
theorem sc__law_is_tree : FnScope ["_law_thing_here", "_law_levels", "_law_pairs", "_law_last", "_law_pair"] ["_law_thing_here", "_law_levels"] (defScope s__law_is_tree) :=
  ⟨rfl, rfl, rfl, by decide +kernel, rfl, by decide +kernel, by decide +kernel⟩
abbrev s__law_bent_pairs : Stmt := topS 37
theorem sc__law_bent_pairs : FnScope ["_law_stream", "_law_pairs", "_law_at", "_law_name", "_law_value_here", "_law_some", "_law_one"] ["_law_stream", "_law_pairs"] (defScope s__law_bent_pairs) :=
  ⟨rfl, rfl, rfl, by decide +kernel, rfl, by decide +kernel, by decide +kernel⟩
abbrev s__law_bent_tree : Stmt := topS 38
theorem sc__law_bent_tree : FnScope ["_law_stream", "_law_part", "_law_at", "_law_name", "_law_child", "_law_way", "_law_parts"] ["_law_stream", "_law_part"] (defScope s__law_bent_tree) :=
  ⟨rfl, rfl, rfl, by decide +kernel, rfl, by decide +kernel, by decide +kernel⟩
abbrev s_law : Stmt := topS 39
theorem sc_law : FnScope ["_law_script", "_law_stream", "_law_turn", "_law_thing_here", "_law_k", "_law_kept", "_law_due", "_law_found", "_law_one", "_law_odd", "_law_chain"] ["_law_script"] (defScope s_law) :=
  ⟨rfl, rfl, rfl, by decide +kernel, rfl, by decide +kernel, by decide +kernel⟩
/-- a def of the text, bound to its name -/
structure Df (K : PySem.W.Frag) (mg : Str → Option Value) (x : String) (st : Stmt) (ps : List Str) (f : Addr) (fd : FuncData) : Prop where
  F : Fun K x x st f fd
  b : Binds K fd ps []
  m : mg x = some (.ref f)
/-- the built-in's names that the text calls are the built-in's -/
structure Bi (mg : Str → Option Value) : Prop where
  len : mg "len" = none
  isinstance : mg "isinstance" = none
  all : mg "all" = none
  int : mg "int" = none
  str : mg "str" = none
  tuple : mg "tuple" = none
  list : mg "list" = none
  range : mg "range" = none
  repr : mg "repr" = none
  sorted : mg "sorted" = none
  bool : mg "bool" = none
  zip : mg "zip" = none
/-- where the defs of the text stand -/
structure Env (K : PySem.W.Frag) (mg : Str → Option Value) where
  T : Bi mg
  t_LONGEST_NAME : Tok
  g_LONGEST_NAME : mg "LONGEST_NAME" = some (.int 8 t_LONGEST_NAME)
  t_LONGEST_PATH : Tok
  g_LONGEST_PATH : mg "LONGEST_PATH" = some (.int 8 t_LONGEST_PATH)
  f_is_pair : Addr
  fd_is_pair : FuncData
  D_is_pair : Df K mg "is_pair" s_is_pair ["value"] f_is_pair fd_is_pair
  f_ascends : Addr
  fd_ascends : FuncData
  D_ascends : Df K mg "ascends" s_ascends ["keys"] f_ascends fd_ascends
  f_is_name : Addr
  fd_is_name : FuncData
  D_is_name : Df K mg "is_name" s_is_name ["value"] f_is_name fd_is_name
  f_is_path : Addr
  fd_is_path : FuncData
  D_is_path : Df K mg "is_path" s_is_path ["value"] f_is_path fd_is_path
  f_is_value : Addr
  fd_is_value : FuncData
  D_is_value : Df K mg "is_value" s_is_value ["value"] f_is_value fd_is_value
  f_is_integer : Addr
  fd_is_integer : FuncData
  D_is_integer : Df K mg "is_integer" s_is_integer ["value"] f_is_integer fd_is_integer
  f_is_link : Addr
  fd_is_link : FuncData
  D_is_link : Df K mg "is_link" s_is_link ["value"] f_is_link fd_is_link
  f_is_tree : Addr
  fd_is_tree : FuncData
  D_is_tree : Df K mg "is_tree" s_is_tree ["value"] f_is_tree fd_is_tree
  f_is_tree_within : Addr
  fd_is_tree_within : FuncData
  D_is_tree_within : Df K mg "is_tree_within" s_is_tree_within ["value", "levels"] f_is_tree_within fd_is_tree_within
  f_are_props : Addr
  fd_are_props : FuncData
  D_are_props : Df K mg "are_props" s_are_props ["pairs"] f_are_props fd_are_props
  f_are_rows : Addr
  fd_are_rows : FuncData
  D_are_rows : Df K mg "are_rows" s_are_rows ["pairs"] f_are_rows fd_are_rows
  f_are_named : Addr
  fd_are_named : FuncData
  D_are_named : Df K mg "are_named" s_are_named ["pairs"] f_are_named fd_are_named
  f_names_of : Addr
  fd_names_of : FuncData
  D_names_of : Df K mg "names_of" s_names_of ["pairs"] f_names_of fd_names_of
  f__law_draw : Addr
  fd__law_draw : FuncData
  D__law_draw : Df K mg "_law_draw" s__law_draw ["_law_stream", "_law_many"] f__law_draw fd__law_draw
  f__law_same : Addr
  fd__law_same : FuncData
  D__law_same : Df K mg "_law_same" s__law_same ["_law_found", "_law_due"] f__law_same fd__law_same
  f__law_path : Addr
  fd__law_path : FuncData
  D__law_path : Df K mg "_law_path" s__law_path ["_law_stream", "_law_most"] f__law_path fd__law_path
  f__law_value : Addr
  fd__law_value : FuncData
  D__law_value : Df K mg "_law_value" s__law_value ["_law_stream"] f__law_value fd__law_value
  f__law_props : Addr
  fd__law_props : FuncData
  D__law_props : Df K mg "_law_props" s__law_props ["_law_stream"] f__law_props fd__law_props
  f__law_is_name : Addr
  fd__law_is_name : FuncData
  D__law_is_name : Df K mg "_law_is_name" s__law_is_name ["_law_thing_here"] f__law_is_name fd__law_is_name
  f__law_is_path : Addr
  fd__law_is_path : FuncData
  D__law_is_path : Df K mg "_law_is_path" s__law_is_path ["_law_thing_here"] f__law_is_path fd__law_is_path
  f__law_is_value : Addr
  fd__law_is_value : FuncData
  D__law_is_value : Df K mg "_law_is_value" s__law_is_value ["_law_thing_here"] f__law_is_value fd__law_is_value
  f__law_letters : Addr
  fd__law_letters : FuncData
  D__law_letters : Df K mg "_law_letters" s__law_letters ["_law_stream", "_law_many"] f__law_letters fd__law_letters
  f__law_near_name : Addr
  fd__law_near_name : FuncData
  D__law_near_name : Df K mg "_law_near_name" s__law_near_name ["_law_stream"] f__law_near_name fd__law_near_name
  f__law_thing : Addr
  fd__law_thing : FuncData
  D__law_thing : Df K mg "_law_thing" s__law_thing ["_law_stream", "_law_deep"] f__law_thing fd__law_thing
  f__law_near_path : Addr
  fd__law_near_path : FuncData
  D__law_near_path : Df K mg "_law_near_path" s__law_near_path ["_law_stream"] f__law_near_path fd__law_near_path
  f__law_near_value : Addr
  fd__law_near_value : FuncData
  D__law_near_value : Df K mg "_law_near_value" s__law_near_value ["_law_stream"] f__law_near_value fd__law_near_value
  f__law_some_names : Addr
  fd__law_some_names : FuncData
  D__law_some_names : Df K mg "_law_some_names" s__law_some_names ["_law_stream", "_law_many"] f__law_some_names fd__law_some_names
  f__law_wide_tree : Addr
  fd__law_wide_tree : FuncData
  D__law_wide_tree : Df K mg "_law_wide_tree" s__law_wide_tree ["_law_stream", "_law_left", "_law_deep"] f__law_wide_tree fd__law_wide_tree
  f__law_under : Addr
  fd__law_under : FuncData
  D__law_under : Df K mg "_law_under" s__law_under ["_law_stream", "_law_part", "_law_levels"] f__law_under fd__law_under
  f__law_any_tree : Addr
  fd__law_any_tree : FuncData
  D__law_any_tree : Df K mg "_law_any_tree" s__law_any_tree ["_law_stream"] f__law_any_tree fd__law_any_tree
  f__law_is_tree : Addr
  fd__law_is_tree : FuncData
  D__law_is_tree : Df K mg "_law_is_tree" s__law_is_tree ["_law_thing_here", "_law_levels"] f__law_is_tree fd__law_is_tree
  f__law_bent_pairs : Addr
  fd__law_bent_pairs : FuncData
  D__law_bent_pairs : Df K mg "_law_bent_pairs" s__law_bent_pairs ["_law_stream", "_law_pairs"] f__law_bent_pairs fd__law_bent_pairs
  f__law_bent_tree : Addr
  fd__law_bent_tree : FuncData
  D__law_bent_tree : Df K mg "_law_bent_tree" s__law_bent_tree ["_law_stream", "_law_part"] f__law_bent_tree fd__law_bent_tree
section
variable {P : Program} {w : World} {K : PySem.W.Frag} {mg : Str → Option Value} {base : Heap} (Z : Env K mg)
include Z

/-! ### _law_draw -/
theorem ok__law_draw : FnOk P w K mg base CX0 1 Z.f__law_draw Z.fd__law_draw ["_law_stream", "_law_many"] spDraw := by
  refine Z.D__law_draw.F.ok sc__law_draw (fun vs H Q E h => ?_) (fun cdv A outer s H vs Q E hr h => ?_)
  · obtain ⟨S, C, n, m, rfl, _⟩ := h
    rfl
  obtain ⟨S, C, n, m, rfl, ⟨nSC, ns, x1, x2, x3, hS, hC, hl, h1, h2, h2', h3, h3'⟩, hn, m0, m1, q⟩ := h
  refine ⟨_, (pss_cons (ps_asg (pe_op op_add (pe_ix (ixL (K := K)) (pv 0) pe_int (fun _ _ => rfl)) pe_int) (pg_sub (pv 0) pe_int set_list))
    (C8.pss_cut (ps_if (PW.pt (pw_and (pt_cmpR op_eq (pe_ix (ixL (K := K)) (pv 0) pe_int (fun _ _ => rfl)) pe_int (nomark _)) (pw_and1 (pt_cmpR (neDK (K := K) hr.units) (pe_ix (ixL (K := K)) (pv 0) pe_int (fun _ _ => rfl)) (pe_lst pa_nil) (nomark _))))) (pss_cons (ps_asg (pe_bm PySem.F.plainAttrs_list PySem.F.slot_list_pop PySem.F.type_list_pop mt_popAt (pe_ix (ixL (K := K)) (pv 0) pe_int (fun _ _ => rfl)) (pa_cons pe_int pa_nil)) (pg_sub (pv 0) pe_int set_list))
    (pss_one (ps_if (pt_cmpR op_lt (pe_ix (ixL (K := K)) (pv 0) pe_int (fun _ _ => rfl)) (pe_op op_pow pe_int pe_int) (nomark _)) (pss_cons (ps_asg (pe_op op_mod (pe_callTy call_int1 (by rfl) Z.T.int (by decide +kernel) (pa_cons (pe_op op_add (pe_op op_add (pe_op op_mul (pe_ix (ixL (K := K)) (pv 0) pe_int (fun _ _ => rfl)) pe_int) (pe_ix (ixL (K := K)) (pv 0) pe_int (fun _ _ => rfl))) pe_int) pa_nil)) pe_int) (pg_sub (pv 0) pe_int set_list))
    (pss_one (ps_asg pe_int (pg_sub (pv 0) pe_int set_list)))) pss_nil))) pss_nil)
    (pss_cons (ps_if (pt_cmpR op_gt (pe_ix (ixL (K := K)) (pv 0) pe_int (fun _ _ => rfl)) pe_int (nomark _)) (pss_cons (ps_set (i := 2) sc__law_draw.nd rfl (.inl rfl) (pe_op op_mod (pe_callTy call_int1 (by rfl) Z.T.int (by decide +kernel) (pa_cons (pe_ix (ixL (K := K)) (pv 0) pe_int (fun _ _ => rfl)) pa_nil)) (pv 1)))
    (pss_cons (ps_asg (pe_op op_fdivW (pe_ix (ixL (K := K)) (pv 0) pe_int (fun _ _ => rfl)) (pv 1)) (pg_sub (pv 0) pe_int set_list))
    (pss_one (ps_ret (pv 2))))) pss_nil)
    (pss_cons (ps_set (i := 3) sc__law_draw.nd rfl (.inl rfl) (pe_op op_mod (pe_op op_pow (pe_op op_add (pe_op op_add (pe_ix (ixL (K := K)) (pv 0) pe_int (fun _ _ => rfl)) (pe_op op_mul pe_int (pe_ix (ixL (K := K)) (pv 0) pe_int (fun _ _ => rfl)))) pe_int) pe_int) pe_int))
    (pss_one (ps_ret (pe_op op_mod (pe_op op_mod (pe_op op_pow (pe_op op_add (pe_op op_add (pe_op op_mul (pv 3) pe_int) (pe_op op_mul (pe_op op_mul pe_int (pe_ix (ixL (K := K)) (pv 0) pe_int (fun _ _ => rfl))) (pe_ix (ixL (K := K)) (pv 0) pe_int (fun _ _ => rfl)))) pe_int) pe_int) pe_int) (pv 1)))))))), ?_⟩
  -- stream[2] += 1
  refine ⟨_, rfl, S, _, _, _, rfl, rfl, SqL.of hS, rfl, _, _, rfl, rfl, _, rfl, S, _, _, 2, rfl, rfl, hS, rfl, ?_⟩
  have f0 : Fr S C H (upd H S (.lst ([V.ref C, V.int x1, V.int x2, V.int x3].set 2 (.int (x2 + 1))))) := Fr.updS
  have gS : (upd H S (.lst ([V.ref C, V.int x1, V.int x2, V.int x3].set 2 (.int (x2 + 1))))) S = some (.lst [V.ref C, .int x1, .int (x2 + 1), .int x3]) := upd_same
  have gC : (upd H S (.lst ([V.ref C, V.int x1, V.int x2, V.int x3].set 2 (.int (x2 + 1))))) C = some (.lst (ns.map V.int)) := (upd_ne nSC.symm).trans hC
  generalize (upd H S (.lst ([V.ref C, V.int x1, V.int x2, V.int x3].set 2 (.int (x2 + 1))))) = H0 at f0 gS gC
  refine ⟨fun σ H' => σ = [some (.ref S), some (.int m), none, none] ∧ ∃ (ns : List Int) (x1 x3 : Int), Fr S C H H' ∧ H' S = some (.lst [V.ref C, .int x1, .int (x2 + 1), .int x3]) ∧ H' C = some (.lst (ns.map V.int)) ∧ ns.length ≤ 63 ∧ 0 ≤ x1 ∧ 0 ≤ x3 ∧ x3 < 2147483647, ?_, ?_⟩
  · refine ⟨_, rfl, S, _, _, _, rfl, rfl, SqL.of gS, rfl, rfl, _, rfl, ite2 (fun c => ?_) (fun c => ?_)⟩
    · refine ⟨_, rfl, S, _, _, _, rfl, rfl, SqL.of gS, rfl, (by show 0 ≤ sizeLine; decide), fun e ne => ?_⟩
      have neS : S ≠ e := ne_of_none gS ne
      have neC : C ≠ e := ne_of_none gC ne
      have f1 : Fr S C H (upd H0 e (.lst [])) := f0.trans (Fr.of_same (same_new ne _))
      have gS1 : (upd H0 e (.lst [])) S = _ := (upd_ne neS).trans gS
      have gC1 : (upd H0 e (.lst [])) C = _ := (upd_ne neC).trans gC
      have gE1 : (upd H0 e (.lst [])) e = some (.lst []) := upd_same
      generalize (upd H0 e (.lst [])) = H1 at f1 gS1 gC1 gE1
      refine ⟨.list (ns.map PyData.int), .list [], .lst (SqL.of gC1) (DpAll_ints ns), .lst (SqL.of gE1) .nil, ints_shaped ns, ints_shaped [], _, rfl, ?_⟩
      rw [ints_eqv_nil]
      cases ns with
      | nil => exact iteF ⟨rfl, [], x1, x3, f1, gS1, gC1, hl, h1, h3, h3'⟩
      | cons y ns =>
        refine iteT ?_
        refine ⟨_, rfl, S, _, _, _, rfl, rfl, SqL.of gS1, rfl, .inl ⟨rfl, _, SqL.of gC1⟩, C, _, 0, 0, .int y, rfl, rfl, gC1, (by decide), (by decide), ?_, rfl, ?_⟩
        · simp [seqIndex?]
        have f2 : Fr S C H (upd H1 C (.lst (((y :: ns).map V.int).eraseIdx 0))) := f1.trans Fr.updC
        have gS2 : (upd H1 C (.lst (((y :: ns).map V.int).eraseIdx 0))) S = _ := (upd_ne nSC).trans gS1
        have gC2 : (upd H1 C (.lst (((y :: ns).map V.int).eraseIdx 0))) C = some (.lst (ns.map V.int)) := upd_same
        generalize (upd H1 C (.lst (((y :: ns).map V.int).eraseIdx 0))) = H2 at f2 gS2 gC2
        refine ⟨_, rfl, S, _, _, 1, rfl, rfl, gS2, rfl, ?_⟩
        have f3 : Fr S C H (upd H2 S (.lst ([V.ref C, V.int x1, V.int (x2 + 1), V.int x3].set 1 (.int y)))) := f2.trans Fr.updS
        have gS3 : (upd H2 S (.lst ([V.ref C, V.int x1, V.int (x2 + 1), V.int x3].set 1 (.int y)))) S = some (.lst [V.ref C, .int y, .int (x2 + 1), .int x3]) := upd_same
        have gC3 : (upd H2 S (.lst ([V.ref C, V.int x1, V.int (x2 + 1), V.int x3].set 1 (.int y)))) C = _ := (upd_ne nSC.symm).trans gC2
        generalize (upd H2 S (.lst ([V.ref C, V.int x1, V.int (x2 + 1), V.int x3].set 1 (.int y)))) = H3 at f3 gS3 gC3
        have hl' : ns.length ≤ 63 := by rw [List.length_cons] at hl; omega
        refine ⟨_, rfl, S, _, _, _, rfl, rfl, SqL.of gS3, rfl, _, _, rfl, rfl, ten18_ok, _, _, rfl, rfl, _, rfl, ite2 (fun c => ?_) (fun c => ?_)⟩
        · refine ⟨_, rfl, S, _, _, _, rfl, rfl, SqL.of gS3, rfl, _, _, rfl, rfl, .inl ⟨by omega, by omega⟩, _, rfl, S, _, _, _, rfl, rfl, SqL.of gS3, rfl, _, _, rfl, rfl, _, _, rfl, rfl, .inl ⟨_, rfl, _, _, rfl, rfl, (by show (0 : Int) < 2147483647; decide), ?_⟩⟩
          have z0 := Int.emod_nonneg (x3 * 31 + y + 7) (by decide : (2147483647 : Int) ≠ 0)
          have z1 := Int.emod_lt_of_pos (x3 * 31 + y + 7) (by decide : (0 : Int) < 2147483647)
          show gSub (tVar 0) (tC (V.int 3)) rSetL (.int ((x3 * 31 + y + 7) % 2147483647)) _ _ _
          generalize (x3 * 31 + y + 7) % 2147483647 = z at z0 z1 ⊢
          refine ⟨_, rfl, S, _, _, 3, rfl, rfl, gS3, rfl, ?_⟩
          refine ⟨_, rfl, S, _, _, 1, rfl, rfl, upd_same, rfl, rfl, ns, 0, z, (f3.trans Fr.updS).trans Fr.updS, upd_same, ?_, hl', Int.le_refl _, z0, z1⟩
          rw [upd_ne nSC.symm, upd_ne nSC.symm]
          exact gC3
        · have c' : ¬ y < 10 ^ (18 : Int).toNat := of_decide_eq_false (Bool.eq_false_iff.mpr c)
          have e18 : (10 : Int) ^ (18 : Int).toNat = 1000000000000000000 := by decide
          rw [e18] at c'
          exact ⟨rfl, ns, y, x3, f3, gS3, gC3, hl', by omega, h3, h3'⟩
    · exact ⟨rfl, ns, x1, x3, f0, gS, gC, hl, h1, h3, h3'⟩
  · rintro σ H1 ⟨rfl, ns, x1, x3, f1, gS1, gC1, hl, h1, h3, h3'⟩
    refine ⟨_, rfl, S, _, _, _, rfl, rfl, SqL.of gS1, rfl, _, _, rfl, rfl, _, rfl, ite2 (fun c => ?_) (fun c => ?_)⟩
    · refine ⟨_, rfl, S, _, _, _, rfl, rfl, SqL.of gS1, rfl, .inl ⟨_, rfl, _, rfl, _, _, rfl, rfl, m0, ?_⟩⟩
      refine ⟨_, rfl, S, _, _, _, rfl, rfl, SqL.of gS1, rfl, _, rfl, _, _, rfl, rfl, many_div m0 m1, _, rfl, S, _, _, 1, rfl, rfl, gS1, rfl, ?_⟩
      refine ⟨_, rfl, q _ _ (Int.emod_nonneg _ (by omega)) (Int.emod_lt_of_pos _ m0) ⟨nSC, ns, x1 / m, x2 + 1, x3, upd_same, (upd_ne nSC.symm).trans gC1, hl, Int.ediv_nonneg h1 (by omega), by omega, by omega, h3, h3'⟩ (f1.trans Fr.updS)⟩
    · refine ⟨_, rfl, S, _, _, _, rfl, rfl, SqL.of gS1, rfl, _, rfl, S, _, _, _, rfl, rfl, SqL.of gS1, rfl, _, _, rfl, rfl, .inl ⟨by decide, by decide⟩, _, _, rfl, rfl, _, _, rfl, rfl, _, _, rfl, rfl, pow5_ok h3 h3' (by omega) (by omega), _, _, rfl, rfl, (by show (0 : Int) < 2147483629; decide), ?_⟩
      have z0 := Int.emod_nonneg ((x3 + 104729 * (x2 + 1) + 17) ^ (5 : Int).toNat) (by decide : (2147483629 : Int) ≠ 0)
      have z1 := Int.emod_lt_of_pos ((x3 + 104729 * (x2 + 1) + 17) ^ (5 : Int).toNat) (by decide : (0 : Int) < 2147483629)
      show gName 3 (.int ((x3 + 104729 * (x2 + 1) + 17) ^ (5 : Int).toNat % 2147483629)) _ _ _
      generalize (x3 + 104729 * (x2 + 1) + 17) ^ (5 : Int).toNat % 2147483629 = z at z0 z1 ⊢
      refine ⟨_, rfl, _, _, rfl, rfl, .inl ⟨by omega, by omega⟩, _, rfl, S, _, _, _, rfl, rfl, SqL.of gS1, rfl, _, _, rfl, rfl, .inl ⟨by decide, by decide⟩, _, rfl, S, _, _, _, rfl, rfl, SqL.of gS1, rfl, _, _, rfl, rfl, .inl ⟨by omega, by omega⟩, _, _, rfl, rfl, _, _, rfl, rfl, _, _, rfl, rfl, pow3_ok z0 z1 (by omega) (by omega), _, _, rfl, rfl, (by show (0 : Int) < 1000000007; decide), _, rfl, _, _, rfl, rfl, m0, ?_⟩
      exact q _ _ (Int.emod_nonneg _ (by omega)) (Int.emod_lt_of_pos _ m0) ⟨nSC, ns, x1, x2 + 1, x3, gS1, gC1, hl, h1, by omega, by omega, h3, h3'⟩ f1

/-! ### is_name, is_path -/
theorem ok_is_name : FnOk P w K mg base CX0 1 Z.f_is_name Z.fd_is_name ["value"] (spTell K nameD) := by
  refine Z.D_is_name.F.ok sc_is_name (fun vs H Q E h => ?_) (fun cdv A outer s H vs Q E hr h => ?_)
  · obtain ⟨v, d, rfl, _⟩ := h
    rfl
  obtain ⟨v, d, rfl, hd, ok, q⟩ := h
  refine ⟨_, (pss_cons (ps_if (PW.pt (pw_or (pt_not (pt_val (pe_callB (isiK (K := K)) (by rfl) Z.T.isinstance (by decide +kernel) (pa_cons (pv 0) (pa_cons (pe_bltn (v := .ty "str") (u := .type "str") (by rfl) Z.T.str (by decide +kernel) rfl) pa_nil))))) (pw_or1 (pt_not (pt_chain op_le op_le pe_int (pe_callB call_len_str (by rfl) Z.T.len (by decide +kernel) (pa_cons (pv 0) pa_nil)) (pe_glob (v := .int 8) (by rfl) Z.g_LONGEST_NAME ⟨_, rfl⟩)))))) (pss_one (ps_ret pe_bl)) pss_nil)
    (pss_one (ps_ret (pe_callB (allK (K := K) rfl) (by rfl) Z.T.all (by decide +kernel) (pa_cons (pe_lc (own := [("sign", 1)]) (g := gName 1) (tt := tYes) rfl sc_is_name.nd (pi_str (pv 0)) (blkOk_by (own := [("sign", 1)]) (N := ["value", "sign"]) (sc := defScope s_is_name) (by decide +kernel)) (fun _ _ _ _ _ => (pg_name (i := 1) sc_is_name.nd rfl (.inl rfl))) (fun _ _ _ _ _ => pts_nil) (fun _ _ _ _ _ => (pe_chain op_le_str op_le_str pe_str (pv 1) pe_str))) pa_nil))))), ?_⟩
  refine ⟨_, rfl, _, _, _, _, isStr d, rfl, .ty "str", Dp_type hd, kit_str hd, _, rfl, ?_⟩
  cases d with
  | str x =>
    cases hd
    have hx := ok.str
    refine iteF ?_
    refine ⟨_, rfl, x, rfl, hx, _, _, rfl, rfl, _, rfl, ?_⟩
    have name : ∀ H', Same H H' → Q (.bl ((decide (1 ≤ x.length) && decide (x.length ≤ 8)) && (x.cps.toList.map fun c => decide (97 ≤ c) && decide (c ≤ 122)).all id)) H' := fun H' s' => by
      have e := q H' s'
      simp only [nameD] at e
      rw [List.all_map]
      exact e
    refine ite2 (fun c1 => ?_) (fun c1 => ?_)
    · have c1' := of_decide_eq_true c1
      refine ⟨_, _, rfl, rfl, _, rfl, ?_⟩
      refine ite2 (fun c2 => ?_) (fun c2 => ?_)
      · have c2' : ¬ (x.length : Int) ≤ 8 := by simpa using c2
        have e := name H (Same.refl H)
        rw [decide_eq_false (show ¬ x.length ≤ 8 by omega), Bool.and_false, Bool.false_and] at e
        exact e
      · have c2' : (x.length : Int) ≤ 8 := by simpa using c2
        refine ⟨_, rfl, x, rfl, fun D nD => lc_signs (fun c => decide (97 ≤ c) && decide (c ≤ 122)) nD hx (fun _ => rfl) (fun c H3 q3 _ h3 => ?_) fun H' s' e' => ?_⟩
        · refine ⟨_, rfl, _, _, rfl, rfl, _, rfl, ?_⟩
          rw [← sign_az c] at h3
          refine ite2 (fun d1 => ?_) (fun d1 => ?_)
          · rw [show (!decide ([c] < [97])) = true from d1, Bool.true_and] at h3
            exact ⟨_, _, rfl, rfl, h3⟩
          · rw [show (!decide ([c] < [97])) = false from Bool.eq_false_iff.mpr d1, Bool.false_and] at h3
            exact h3
        · refine ⟨D, _, rfl, SqL.of e', ?_⟩
          have e := name H' s'
          rw [decide_eq_true (show 1 ≤ x.length by omega), decide_eq_true (show x.length ≤ 8 by omega), Bool.true_and, Bool.true_and] at e
          exact e
    · have c1' := of_decide_eq_false (Bool.eq_false_iff.mpr c1)
      refine ⟨_, rfl, iteT ?_⟩
      have e := name H (Same.refl H)
      rw [decide_eq_false (show ¬ 1 ≤ x.length by omega), Bool.false_and, Bool.false_and] at e
      exact e
  | _ => exact iteT (q H (Same.refl H))
theorem ok_is_path : FnOk P w K mg base CX0 2 Z.f_is_path Z.fd_is_path ["value"] (spTell K pathD) := by
  refine Z.D_is_path.F.ok sc_is_path (fun vs H Q E h => ?_) (fun cdv A outer s H vs Q E hr h => ?_)
  · obtain ⟨v, d, rfl, _⟩ := h
    rfl
  obtain ⟨v, d, rfl, hd, ok, q⟩ := h
  refine ⟨_, (pss_cons (ps_if (PW.pt (pw_or (pt_not (pt_val (pe_callB (isiK (K := K)) (by rfl) Z.T.isinstance (by decide +kernel) (pa_cons (pv 0) (pa_cons (pe_bltn (v := .ty "tuple") (u := .type "tuple") (by rfl) Z.T.tuple (by decide +kernel) rfl) pa_nil))))) (pw_or1 (pt_cmpR op_gt (pe_callB (lenK (K := K)) (by rfl) Z.T.len (by decide +kernel) (pa_cons (pv 0) pa_nil)) (pe_glob (v := .int 8) (by rfl) Z.g_LONGEST_PATH ⟨_, rfl⟩) (nomark _))))) (pss_one (ps_ret pe_bl)) pss_nil)
    (pss_one (ps_ret (pe_callB (allK (K := K) rfl) (by rfl) Z.T.all (by decide +kernel) (pa_cons (pe_lc (own := [("name", 1)]) (g := gName 1) (tt := tYes) rfl sc_is_path.nd (pi_tup (pv 0)) (blkOk_by (own := [("name", 1)]) (N := ["value", "name"]) (sc := defScope s_is_path) (by decide +kernel)) (fun _ _ _ _ _ => (pg_name (i := 1) sc_is_path.nd rfl (.inl rfl))) (fun _ _ _ _ _ => pts_nil) (fun _ _ _ _ _ => (pe_call (ok_is_name Z) (hr.mono (by decide)) (by rfl) Z.D_is_name.m Z.D_is_name.F.kp Z.D_is_name.b .nil pass0 (pa_cons (pv 1) pa_nil)))) pa_nil))))), ?_⟩
  refine ⟨_, rfl, _, _, _, _, isTup d, rfl, .ty "tuple", Dp_type hd, kit_tup hd, _, rfl, ?_⟩
  cases d with
  | tuple ds =>
    cases hd with
    | @tup a xs _ hs ha =>
      have hl := DpAll_len ha
      refine iteF ?_
      refine ⟨_, rfl, a, xs, rfl, .inr hs, _, _, rfl, rfl, _, rfl, ?_⟩
      refine ite2 (fun c => ?_) (fun c => ?_)
      · have c' : (8 : Int) < (xs.length : Int) := of_decide_eq_true c
        have e := q H (Same.refl H)
        simp only [pathD] at e
        rw [decide_eq_false (show ¬ ds.length ≤ 8 by omega), Bool.false_and] at e
        exact e
      · have c' : ¬ (8 : Int) < (xs.length : Int) := of_decide_eq_false (Bool.eq_false_iff.mpr c)
        refine ⟨_, rfl, a, rfl, ⟨xs, hs⟩, fun D nD => lc_items nameD nD hs ha (Nat.le_trans (show ds.length ≤ 8 by omega) (by decide)) (fun _ => rfl) (fun v d H3 q3 hd hv _ k => ?_) fun H' s' e' => ?_⟩
        · exact ⟨_, rfl, v, d, rfl, hv, ok.item hd, k⟩
        · refine ⟨D, _, rfl, SqL.of e', ?_⟩
          have e := q H' s'
          simp only [pathD] at e
          rw [decide_eq_true (show ds.length ≤ 8 by omega), Bool.true_and] at e
          rw [List.all_map]
          exact e
  | _ => exact iteT (q H (Same.refl H))

/-! ### _law_same, _law_is_name, _law_is_path -/
theorem ok__law_same : FnG P w K mg base CX0 1 Z.f__law_same Z.fd__law_same ["_law_found", "_law_due"] (spSame K) := by
  refine Fun_okG Z.D__law_same.F sc__law_same (fun vs H Q E h => ?_) (fun cdv A outer s H vs Q E hG hr h => ?_)
  · obtain ⟨v, u, d, e, rfl, _⟩ := h
    rfl
  obtain ⟨v, u, d, e, rfl, hd, he, od, oe, q⟩ := h
  refine ⟨_, (pss_one (ps_ret (pe_cmpR op_eq (pe_callB (reprK (K := K) hG hr.units) (by rfl) Z.T.repr (by decide +kernel) (pa_cons (pv 0) pa_nil)) (pe_callB (reprK (K := K) hG hr.units) (by rfl) Z.T.repr (by decide +kernel) (pa_cons (pv 1) pa_nil)) (nomark _)))), ?_⟩
  obtain ⟨a1, a2, a3⟩ := shown_big d od.fine
  obtain ⟨b1, b2, b3⟩ := shown_big e oe.fine
  refine ⟨_, rfl, v, d, rfl, hd, a1, a2, od.depth, Nat.le_trans a3 od.big, _, rfl, u, e, rfl, he, b1, b2, oe.depth, Nat.le_trans b3 oe.big, rfl, ?_⟩
  rw [str_dec]
  exact q
theorem ok__law_is_name : FnOk P w K mg base CX0 1 Z.f__law_is_name Z.fd__law_is_name ["_law_thing_here"] (spTell K nameD) := by
  refine Z.D__law_is_name.F.ok sc__law_is_name (fun vs H Q E h => ?_) (fun cdv A outer s H vs Q E hr h => ?_)
  · obtain ⟨v, d, rfl, _⟩ := h
    rfl
  obtain ⟨v, d, rfl, hd, ok, q⟩ := h
  refine ⟨_, (pss_cons (ps_if (PW.pt (pw_or (pt_not (pt_val (pe_callB (isiK (K := K)) (by rfl) Z.T.isinstance (by decide +kernel) (pa_cons (pv 0) (pa_cons (pe_bltn (v := .ty "str") (u := .type "str") (by rfl) Z.T.str (by decide +kernel) rfl) pa_nil))))) (pw_or1 (pt_not (pt_chain op_lt op_lt pe_int (pe_callB call_len_str (by rfl) Z.T.len (by decide +kernel) (pa_cons (pv 0) pa_nil)) pe_int))))) (pss_one (ps_ret pe_bl)) pss_nil)
    (pss_one (ps_ret (pe_callB (allK (K := K) rfl) (by rfl) Z.T.all (by decide +kernel) (pa_cons (pe_lc (own := [("_law_sign", 1)]) (g := gName 1) (tt := tYes) rfl sc__law_is_name.nd (pi_str (pv 0)) (blkOk_by (own := [("_law_sign", 1)]) (N := ["_law_thing_here", "_law_sign"]) (sc := defScope s__law_is_name) (by decide +kernel)) (fun _ _ _ _ _ => (pg_name (i := 1) sc__law_is_name.nd rfl (.inl rfl))) (fun _ _ _ _ _ => pts_nil) (fun _ _ _ _ _ => (pe_cmpR op_in_sign (pv 1) pe_str rfl))) pa_nil))))), ?_⟩
  refine ⟨_, rfl, _, _, _, _, isStr d, rfl, .ty "str", Dp_type hd, kit_str hd, _, rfl, ?_⟩
  cases d with
  | str x =>
    cases hd
    have hx := ok.str
    refine iteF ?_
    refine ⟨_, rfl, x, rfl, hx, _, _, rfl, rfl, _, rfl, ?_⟩
    have name : ∀ H', Same H H' → Q (.bl ((decide (1 ≤ x.length) && decide (x.length ≤ 8)) && (x.cps.toList.map fun c => decide (97 ≤ c) && decide (c ≤ 122)).all id)) H' := fun H' s' => by
      have e := q H' s'
      simp only [nameD] at e
      rw [List.all_map]
      exact e
    refine ite2 (fun c1 => ?_) (fun c1 => ?_)
    · have c1' := of_decide_eq_true c1
      refine ⟨_, _, rfl, rfl, _, rfl, ?_⟩
      refine ite2 (fun c2 => ?_) (fun c2 => ?_)
      · have c2' : ¬ (x.length : Int) < 9 := by simpa using c2
        have e := name H (Same.refl H)
        rw [decide_eq_false (show ¬ x.length ≤ 8 by omega), Bool.and_false, Bool.false_and] at e
        exact e
      · have c2' : (x.length : Int) < 9 := by simpa using c2
        refine ⟨_, rfl, x, rfl, fun D nD => lc_signs (fun c => decide (97 ≤ c) && decide (c ≤ 122)) nD hx (fun _ => rfl) (fun c H3 q3 _ h3 => ?_) fun H' s' e' => ?_⟩
        · refine ⟨_, rfl, c, _, rfl, rfl, ?_⟩
          rw [sign_in]
          exact h3
        · refine ⟨D, _, rfl, SqL.of e', ?_⟩
          have e := name H' s'
          rw [decide_eq_true (show 1 ≤ x.length by omega), decide_eq_true (show x.length ≤ 8 by omega), Bool.true_and, Bool.true_and] at e
          exact e
    · have c1' := of_decide_eq_false (Bool.eq_false_iff.mpr c1)
      refine ⟨_, rfl, iteT ?_⟩
      have e := name H (Same.refl H)
      rw [decide_eq_false (show ¬ 1 ≤ x.length by omega), Bool.false_and, Bool.false_and] at e
      exact e
  | _ => exact iteT (q H (Same.refl H))
theorem ok__law_is_path : FnOk P w K mg base CX0 2 Z.f__law_is_path Z.fd__law_is_path ["_law_thing_here"] (spTell K pathD) := by
  refine Z.D__law_is_path.F.ok sc__law_is_path (fun vs H Q E h => ?_) (fun cdv A outer s H vs Q E hr h => ?_)
  · obtain ⟨v, d, rfl, _⟩ := h
    rfl
  obtain ⟨v, d, rfl, hd, ok, q⟩ := h
  refine ⟨_, (pss_one (ps_ret (pe_and (pe_callB (isiK (K := K)) (by rfl) Z.T.isinstance (by decide +kernel) (pa_cons (pv 0) (pa_cons (pe_bltn (v := .ty "tuple") (u := .type "tuple") (by rfl) Z.T.tuple (by decide +kernel) rfl) pa_nil))) (pe_and (pe_cmpR op_lt (pe_callB (lenK (K := K)) (by rfl) Z.T.len (by decide +kernel) (pa_cons (pv 0) pa_nil)) pe_int (nomark _)) (pe_one (pe_callB (allK (K := K) rfl) (by rfl) Z.T.all (by decide +kernel) (pa_cons (pe_lc (own := [("_law_one", 1)]) (g := gName 1) (tt := tYes) rfl sc__law_is_path.nd (pi_tup (pv 0)) (blkOk_by (own := [("_law_one", 1)]) (N := ["_law_thing_here", "_law_one"]) (sc := defScope s__law_is_path) (by decide +kernel)) (fun _ _ _ _ _ => (pg_name (i := 1) sc__law_is_path.nd rfl (.inl rfl))) (fun _ _ _ _ _ => pts_nil) (fun _ _ _ _ _ => (pe_call (ok__law_is_name Z) (hr.mono (by decide)) (by rfl) Z.D__law_is_name.m Z.D__law_is_name.F.kp Z.D__law_is_name.b .nil pass0 (pa_cons (pv 1) pa_nil)))) pa_nil))))))), ?_⟩
  refine ⟨_, rfl, _, _, _, _, isTup d, rfl, .ty "tuple", Dp_type hd, kit_tup hd, _, rfl, ?_⟩
  cases d with
  | tuple ds =>
    cases hd with
    | @tup a xs _ hs ha =>
      have hl := DpAll_len ha
      refine iteT ?_
      refine ⟨_, rfl, a, xs, rfl, .inr hs, _, _, rfl, rfl, _, rfl, ?_⟩
      refine ite2 (fun c => ?_) (fun c => ?_)
      · have c' : (xs.length : Int) < 9 := of_decide_eq_true c
        refine ⟨_, rfl, a, rfl, ⟨xs, hs⟩, fun D nD => lc_items nameD nD hs ha (Nat.le_trans (show ds.length ≤ 8 by omega) (by decide)) (fun _ => rfl) (fun v d H3 q3 hd hv _ k => ?_) fun H' s' e' => ?_⟩
        · exact ⟨_, rfl, v, d, rfl, hv, ok.item hd, k⟩
        · refine ⟨D, _, rfl, SqL.of e', ?_⟩
          have e := q H' s'
          simp only [pathD] at e
          rw [decide_eq_true (show ds.length ≤ 8 by omega), Bool.true_and] at e
          rw [List.all_map]
          exact e
      · have c' : ¬ (xs.length : Int) < 9 := of_decide_eq_false (Bool.eq_false_iff.mpr c)
        have e := q H (Same.refl H)
        simp only [pathD] at e
        rw [decide_eq_false (show ¬ ds.length ≤ 8 by omega), Bool.false_and] at e
        exact e
  | _ => exact iteF (q H (Same.refl H))

/-! ### _law_letters, _law_near_name -/
theorem ok__law_letters : FnOk P w K mg base CX0 2 Z.f__law_letters Z.fd__law_letters ["_law_stream", "_law_many"] spLetters := by
  refine Z.D__law_letters.F.ok sc__law_letters (fun vs H Q E h => ?_) (fun cdv A outer s H vs Q E hr h => ?_)
  · obtain ⟨S, C, n, m, rfl, _⟩ := h
    rfl
  obtain ⟨S, C, n, m, rfl, hm, st, hn, q⟩ := h
  refine ⟨_, (pss_cons (ps_set (i := 2) sc__law_letters.nd rfl (.inr rfl) pe_str)
    (pss_one (ps_ret (pe_join pe_str (pe_lc (own := [("_law_k", 3)]) (g := gName 3) (tt := tYes) rfl sc__law_letters.nd (pi_range1 (by rfl) Z.T.range (pa_cons (pv 1) pa_nil)) (blkOk_by (own := [("_law_k", 3)]) (N := ["_law_stream", "_law_many", "_law_letters_here", "_law_k"]) (sc := defScope s__law_letters) (by decide +kernel)) (fun _ _ _ _ _ => (pg_name (i := 3) sc__law_letters.nd rfl (.inl rfl))) (fun _ _ _ _ _ => pts_nil) (fun _ _ _ _ _ => (pe_ix ix_str (pv 2) (pe_call (ok__law_draw Z) (hr.mono (by decide)) (by rfl) Z.D__law_draw.m Z.D__law_draw.F.kp Z.D__law_draw.b .nil pass0 (pa_cons (pv 0) (pa_cons pe_int pa_nil))) (fun _ _ => rfl)))))))), ?_⟩
  refine ⟨⟨_, rfl⟩, _, rfl, m, rfl, by omega, by omega, fun D nD => ?_⟩
  refine lc_get (K := K) (k := 1) (R := fun d => ∃ x, d = .str x ∧ x.length = 1 ∧ azStr x) st nD (by omega) (fun _ => rfl) (fun i H3 q3 hi s3 k3 => ?_) fun H' vs ds e dp hl hR s3 f3 => ?_
  · refine ⟨_, rfl, _, rfl, S, C, _, 26, rfl, s3, by omega, by decide, by decide, fun r H4 r0 r1 s4 f4 => ?_⟩
    have el : (Str.ofString "abcdefghijklmnopqrstuvwxyz").cps.toList = List.range' 97 26 := by decide +kernel
    have hr : r.toNat < 26 := by omega
    have z : atI (Str.ofString "abcdefghijklmnopqrstuvwxyz").cps.toList ((r.toNat : Nat) : Int) = some (97 + r.toNat) := atI_nat (by
      rw [el, List.getElem?_range' hr]
      simp)
    rw [show ((r.toNat : Nat) : Int) = r by omega] at z
    refine ⟨_, r, _, rfl, rfl, (by decide +kernel), z, k3 _ (.str _) H4 (.str _) ⟨_, rfl, rfl, fun c hc => ?_⟩ (s4.mono (by omega)) f4⟩
    have : c = 97 + r.toNat := by simpa using hc
    omega
  · obtain ⟨ys, rfl, hy, g⟩ := strs_of dp hR
    refine ⟨_, D, ys, rfl, rfl, .inl (SqL.of e), ?_, ?_⟩
    · have e0 : (Str.ofString "").length = 0 := by decide +kernel
      have hs : (ys.map (·.length)).sum = ys.length := by
        clear e dp hy
        induction ys with
        | nil => rfl
        | cons y r ih =>
          rw [List.map_cons, List.sum_cons, List.length_cons, (g y List.mem_cons_self).1, ih fun u hu => g u (List.mem_cons_of_mem _ hu)]
          omega
      rw [hs, e0]
      omega
    · obtain ⟨j1, j2⟩ := joined (hy.trans hl) g
      rw [TL.join_eq]
      exact q _ _ j1 j2 (s3.mono (by omega)) f3
theorem ok__law_near_name : FnOk P w K mg base CX0 3 Z.f__law_near_name Z.fd__law_near_name ["_law_stream"] (spGet K 30 (fun us => us = []) fun d => ∃ x, d = .str x ∧ x.length ≤ 40 ∧ okStr x) := by
  refine Z.D__law_near_name.F.ok sc__law_near_name (fun vs H Q E h => ?_) (fun cdv A outer s H vs Q E hr h => ?_)
  · obtain ⟨S, C, n, us, rfl, rfl, _⟩ := h
    rfl
  obtain ⟨S, C, n, us, rfl, rfl, st, hn, q⟩ := h
  refine ⟨_, (pss_cons (ps_set (i := 1) sc__law_near_name.nd rfl (.inl rfl) (pe_call (ok__law_letters Z) (hr.mono (by decide)) (by rfl) Z.D__law_letters.m Z.D__law_letters.F.kp Z.D__law_letters.b .nil pass0 (pa_cons (pv 0) (pa_cons (pe_ix (ixL (K := K)) (pe_lst (pa_cons pe_int (pa_cons pe_int (pa_cons pe_int (pa_cons pe_int (pa_cons pe_int (pa_cons pe_int (pa_cons pe_int (pa_cons pe_int (pa_cons pe_int pa_nil)))))))))) (pe_call (ok__law_draw Z) (hr.mono (by decide)) (by rfl) Z.D__law_draw.m Z.D__law_draw.F.kp Z.D__law_draw.b .nil pass0 (pa_cons (pv 0) (pa_cons pe_int pa_nil))) (fun _ _ => rfl)) pa_nil))))
    (pss_cons (ps_if (pt_cmpR op_eq (pe_call (ok__law_draw Z) (hr.mono (by decide)) (by rfl) Z.D__law_draw.m Z.D__law_draw.F.kp Z.D__law_draw.b .nil pass0 (pa_cons (pv 0) (pa_cons pe_int pa_nil))) pe_int (nomark _)) (pss_cons (ps_set (i := 2) sc__law_near_name.nd rfl (.inl rfl) (pe_call (ok__law_draw Z) (hr.mono (by decide)) (by rfl) Z.D__law_draw.m Z.D__law_draw.F.kp Z.D__law_draw.b .nil pass0 (pa_cons (pv 0) (pa_cons (pe_op op_add (pe_callB call_len_str (by rfl) Z.T.len (by decide +kernel) (pa_cons (pv 1) pa_nil)) pe_int) pa_nil))))
    (pss_cons (ps_set (i := 3) sc__law_near_name.nd rfl (.inl rfl) (pe_ix (ixL (K := K)) (pe_lst (pa_cons pe_str (pa_cons pe_str (pa_cons pe_str (pa_cons pe_str (pa_cons pe_str (pa_cons pe_str (pa_cons pe_str (pa_cons pe_str (pa_cons pe_str (pa_cons pe_str (pa_cons pe_str (pa_cons pe_str (pa_cons pe_str pa_nil)))))))))))))) (pe_call (ok__law_draw Z) (hr.mono (by decide)) (by rfl) Z.D__law_draw.m Z.D__law_draw.F.kp Z.D__law_draw.b .nil pass0 (pa_cons (pv 0) (pa_cons pe_int pa_nil))) (fun _ _ => rfl)))
    (pss_one (ps_set (i := 1) sc__law_near_name.nd rfl (.inl rfl) (pe_op op_add_str (pe_op op_add_str (pe_slice sl_str (pv 1) po_none (po_some (pv 2))) (pv 3)) (pe_slice sl_str (pv 1) (po_some (pe_op op_add (pv 2) (pe_call (ok__law_draw Z) (hr.mono (by decide)) (by rfl) Z.D__law_draw.m Z.D__law_draw.F.kp Z.D__law_draw.b .nil pass0 (pa_cons (pv 0) (pa_cons pe_int pa_nil))))) po_none)))))) pss_nil)
    (pss_one (ps_ret (pv 1))))), ?_⟩
  refine ⟨_, rfl, (by decide), fun p np => ⟨_, rfl, S, C, n, 9, rfl, st.lay np _, by omega, by decide, by decide, fun r H1 r0 r1 s1 f1 => ?_⟩⟩
  obtain ⟨v, e1, e2⟩ := at_int (vs := [V.int 0, V.int 1, V.int 1, V.int 2, V.int 3, V.int 7, V.int 8, V.int 9, V.int 16]) r0 r1
  refine ⟨p, _, r, v, rfl, rfl, SqL.of (st.keep np f1), e1, ?_⟩
  have hv : ∃ m : Nat, v = .int (m : Int) ∧ m ≤ 16 := by
    have := List.mem_of_getElem? e2
    simp only [List.mem_cons, List.not_mem_nil, or_false] at this
    rcases this with rfl | rfl | rfl | rfl | rfl | rfl | rfl | rfl | rfl
    · exact ⟨0, rfl, by decide⟩
    · exact ⟨1, rfl, by decide⟩
    · exact ⟨1, rfl, by decide⟩
    · exact ⟨2, rfl, by decide⟩
    · exact ⟨3, rfl, by decide⟩
    · exact ⟨7, rfl, by decide⟩
    · exact ⟨8, rfl, by decide⟩
    · exact ⟨9, rfl, by decide⟩
    · exact ⟨16, rfl, by decide⟩
  obtain ⟨m, rfl, hm⟩ := hv
  have f1' : Fr S C H H1 := (Fr.lay np _).trans f1
  refine ⟨S, C, n + 1, m, rfl, by omega, s1, by omega, fun x H2 hx az s2 f2 => ?_⟩
  have f2' : Fr S C H H2 := f1'.trans f2
  refine ⟨_, rfl, S, C, _, 3, rfl, s2, by omega, by decide, by decide, fun r H3 r0 r1 s3 f3 => ⟨rfl, _, rfl, ite2 (fun c => ?_) (fun c => ?_)⟩⟩
  · have f3' : Fr S C H H3 := f2'.trans f3
    refine ⟨_, rfl, _, rfl, x, rfl, Nat.le_trans (show x.length ≤ 100 by omega) (by decide), _, _, rfl, rfl, S, C, _, (x.length : Int) + 1, rfl, s3, by omega, by omega, by omega, fun r2 H4 r0 r1 s4 f4 => ?_⟩
    refine ⟨(by decide), fun p np => ⟨_, rfl, S, C, _, 13, rfl, s4.lay np _, by omega, by decide, by decide, fun r H5 r0 r1 s5 f5 => ?_⟩⟩
    obtain ⟨v, e1, e2⟩ := at_int (vs := ["A", "Z", " ", "_", "0", "9", "-", ".", "/", "@", "{", "`", "\n"].map fun z => V.str (Str.ofString z)) r0 r1
    refine ⟨p, _, r, v, rfl, rfl, SqL.of (s4.keep np f5), e1, ?_⟩
    have hv : ∃ y : Str, v = .str y ∧ y.length = 1 ∧ okStr y := by
      have one : ∀ z ∈ ["A", "Z", " ", "_", "0", "9", "-", ".", "/", "@", "{", "`", "\n"], (Str.ofString z).length = 1 ∧ ∀ c ∈ (Str.ofString z).cps.toList, c < 1114112 := by decide +kernel
      obtain ⟨z, hz, rfl⟩ := List.mem_map.mp (List.mem_of_getElem? e2)
      exact ⟨_, rfl, one z hz⟩
    obtain ⟨y, rfl, hy, oy⟩ := hv
    have f5' : Fr S C H H5 := (f3'.trans f4).trans ((Fr.lay np _).trans f5)
    have c1 := cutS_length x none (some r2)
    have big : ∀ {k : Nat}, k ≤ 100 → k ≤ sizeLine := fun h => Nat.le_trans h (by decide)
    refine ⟨_, rfl, _, rfl, r2, rfl, x, rfl, big (by omega), _, rfl, _, _, rfl, rfl, big (by omega), ?_⟩
    refine ⟨_, rfl, _, rfl, _, rfl, S, C, _, 2, rfl, s5, by omega, by decide, by decide, fun r3 H6 r0 r1 s6 f6 => ?_⟩
    have c2 := cutS_length x (some (r2 + r3)) none
    have l1 := len_app (cutS x none (some r2)) y
    have l2 := len_app (cutS x none (some r2) ++ y) (cutS x (some (r2 + r3)) none)
    refine ⟨_, _, rfl, rfl, _, rfl, x, rfl, big (by omega), _, _, rfl, rfl, big (by omega), _, rfl, ?_⟩
    exact q _ (.str _) _ (.str _) ⟨_, rfl, by omega, okStr_app (okStr_app (okStr_cut az.ok _ _) oy) (okStr_cut az.ok _ _)⟩ (s6.mono (by omega)) (f5'.trans f6)
  · refine ⟨_, rfl, q _ (.str x) _ (.str x) ⟨x, rfl, by omega, az.ok⟩ (s3.mono (by omega)) (f2'.trans f3)⟩

/-! ### _law_path, _law_thing -/
theorem ok__law_path : FnOk P w K mg base CX0 2 Z.f__law_path Z.fd__law_path ["_law_stream", "_law_most"] (spGet K 40 (fun us => ∃ m : Nat, us = [.int (m : Int)] ∧ m ≤ 8) fun d => Nice 1 2000 d ∧ pathD d = true) := by
  refine Z.D__law_path.F.ok sc__law_path (fun vs H Q E h => ?_) (fun cdv A outer s H vs Q E hr h => ?_)
  · obtain ⟨S, C, n, us, rfl, ⟨m, rfl, _⟩, _⟩ := h
    rfl
  obtain ⟨S, C, n, us, rfl, ⟨m, rfl, hm⟩, st, hn, q⟩ := h
  refine ⟨_, (pss_one (ps_ret (pe_callTy (tupK (K := K)) (by rfl) Z.T.tuple (by decide +kernel) (pa_cons (pe_lc (own := [("_law_k", 2)]) (g := gName 2) (tt := tYes) rfl sc__law_path.nd (pi_range1 (by rfl) Z.T.range (pa_cons (pe_call (ok__law_draw Z) (hr.mono (by decide)) (by rfl) Z.D__law_draw.m Z.D__law_draw.F.kp Z.D__law_draw.b .nil pass0 (pa_cons (pv 0) (pa_cons (pe_op op_add (pv 1) pe_int) pa_nil))) pa_nil)) (blkOk_by (own := [("_law_k", 2)]) (N := ["_law_stream", "_law_most", "_law_k"]) (sc := defScope s__law_path) (by decide +kernel)) (fun _ _ _ _ _ => (pg_name (i := 2) sc__law_path.nd rfl (.inl rfl))) (fun _ _ _ _ _ => pts_nil) (fun _ _ _ _ _ => (pe_ix (ixL (K := K)) (pe_lst (pa_cons pe_str (pa_cons pe_str (pa_cons pe_str pa_nil)))) (pe_call (ok__law_draw Z) (hr.mono (by decide)) (by rfl) Z.D__law_draw.m Z.D__law_draw.F.kp Z.D__law_draw.b .nil pass0 (pa_cons (pv 0) (pa_cons pe_int pa_nil))) (fun _ _ => rfl)))) pa_nil)))), ?_⟩
  refine ⟨_, rfl, _, rfl, _, _, rfl, rfl, S, C, n, (m : Int) + 1, rfl, st, by omega, by omega, by omega, fun r H1 r0 r1 s1 f1 => ?_⟩
  refine ⟨r, rfl, by omega, by omega, fun D nD => ?_⟩
  refine lc_get (K := K) (k := 1) (R := fun d => Nice 0 40 d ∧ nameD d = true) s1 nD (by omega) (fun _ => rfl) (fun i H3 q3 hi s3 k3 => ?_) fun H' vs ds e dp hl hR s3 f3 => ?_
  · refine ⟨by decide, fun p np => ⟨_, rfl, S, C, _, 3, rfl, s3.lay np _, by omega, by decide, by decide, fun r2 H4 r0 r1 s4 f4 => ?_⟩⟩
    obtain ⟨v, e1, e2⟩ := at_int (vs := ["a", "ab", "kid"].map fun z => V.str (Str.ofString z)) r0 r1
    refine ⟨p, _, r2, v, rfl, rfl, SqL.of (s3.keep np f4), e1, ?_⟩
    have one : ∀ z ∈ ["a", "ab", "kid"], fine (.str (Str.ofString z)) = true ∧ big (.str (Str.ofString z)) ≤ 40 ∧ nameD (.str (Str.ofString z)) = true := by decide +kernel
    obtain ⟨z, hz, rfl⟩ := List.mem_map.mp (List.mem_of_getElem? e2)
    obtain ⟨o1, o2, o3⟩ := one z hz
    exact k3 _ (.str _) H4 (.str _) ⟨⟨o1, Nat.zero_le _, o2⟩, o3⟩ (s4.mono (by omega)) ((Fr.lay np _).trans f4)
  · refine ⟨D, vs, rfl, .inl ⟨SqL.of e, fun l nl => ?_⟩⟩
    have f : Fr S C H H' := f1.trans f3
    have nl0 : H l = none := f.ext s3 l nl
    refine q _ (.tuple ds) _ (new_tup nl0 upd_same (DpAll_mono (newp_right (same_new nl _)) (DpAll_mono ((newp_left Ext.upd).trans (newp_left (f1.ext s1))) dp))) ?_ ((s3.lay nl _).mono (by omega)) (f.trans (Fr.lay nl _))
    have nn := (nices_of fun d hd => (hR d hd).1).tup
    rw [hl] at nn
    refine ⟨nn.mono (by decide) (by omega), ?_⟩
    show (decide (ds.length ≤ 8) && ds.all nameD) = true
    rw [decide_eq_true (show ds.length ≤ 8 by omega), List.all_eq_true.mpr fun d hd => (hR d hd).2]
    rfl

theorem thing_step (m kk : Nat) (spR : Sp) (ih : FnOk P w K mg base CX0 kk Z.f__law_thing Z.fd__law_thing ["_law_stream", "_law_deep"] spR) (hk : kk ≤ m + 1) (hsp : ∀ m', m = m' + 1 → spR = spThing K m') : FnOk P w K mg base CX0 (m+2) Z.f__law_thing Z.fd__law_thing ["_law_stream", "_law_deep"] (spThing K m) := by
  refine Z.D__law_thing.F.ok sc__law_thing (fun vs H Q E h => ?_) (fun cdv A outer s H vs Q E hr h => ?_)
  · obtain ⟨S, C, n, us, rfl, rfl, _⟩ := h
    rfl
  obtain ⟨S, C, n, us, rfl, rfl, st, hn, q⟩ := h
  have hr1 : Room 1 (A.deeper (envOfC "_law_thing" (defScope s__law_thing) s.heap.objs.size Z.f__law_thing cdv)) := hr.mono (by omega)
  have hrk : Room kk (A.deeper (envOfC "_law_thing" (defScope s__law_thing) s.heap.objs.size Z.f__law_thing cdv)) := hr.mono hk
  have k3 : 3 ≤ kT m := by
    cases m with
    | zero => exact Nat.le_refl _
    | succ m => show 3 ≤ 3 * kT m + 5; omega
  have b1 : 2100 ≤ bT m := by
    clear ih hsp hk q hn k3 hr hrk
    induction m with
    | zero => exact Nat.le_refl _
    | succ m i => show 2100 ≤ 3 * (bT m + 2) + 3; omega
  refine ⟨_, (pss_cons (ps_set (i := 2) sc__law_thing.nd rfl (.inl rfl) (pe_lst (pa_cons pe_non (pa_cons pe_bl (pa_cons pe_bl (pa_cons pe_int (pa_cons pe_int (pa_cons (pe_un un_neg pe_int) (pa_cons (pe_op op_sub (pe_op op_pow pe_int pe_int) pe_int) (pa_cons pe_str (pa_cons pe_str (pa_cons pe_str (pa_cons pe_str (pa_cons (pe_tup pa_nil) (pa_cons (pe_lst pa_nil) (pa_cons (pe_tup (pa_cons pe_str pa_nil)) (pa_cons (pe_lst (pa_cons pe_str pa_nil)) (pa_cons pe_str (pa_cons pe_str pa_nil)))))))))))))))))))
    (pss_cons (ps_if (PW.pt (pw_or (pt_cmpR op_eq (pv 1) pe_int (nomark _)) (pw_or1 (pt_cmpR op_gt (pe_call (ok__law_draw Z) hr1 (by rfl) Z.D__law_draw.m Z.D__law_draw.F.kp Z.D__law_draw.b .nil pass0 (pa_cons (pv 0) (pa_cons pe_int pa_nil))) pe_int (nomark _))))) (pss_one (ps_ret (pe_ix (ixL (K := K)) (pv 2) (pe_call (ok__law_draw Z) hr1 (by rfl) Z.D__law_draw.m Z.D__law_draw.F.kp Z.D__law_draw.b .nil pass0 (pa_cons (pv 0) (pa_cons pe_int pa_nil))) (fun _ _ => rfl)))) pss_nil)
    (pss_cons (ps_setLc (i := 3) (own := [("_law_k", 4)]) (g := gName 4) (tt := tYes) rfl sc__law_thing.nd rfl rfl (sw_true rfl rfl rfl (by decide +kernel)) (pi_range1 (by rfl) Z.T.range (pa_cons (pe_call (ok__law_draw Z) hr1 (by rfl) Z.D__law_draw.m Z.D__law_draw.F.kp Z.D__law_draw.b .nil pass0 (pa_cons (pv 0) (pa_cons pe_int pa_nil))) pa_nil)) (blkOk_by (own := [("_law_k", 4)]) (N := ["_law_stream", "_law_deep", "_law_some", "_law_parts", "_law_k"]) (sc := defScope s__law_thing) (by decide +kernel)) (fun _ _ _ _ _ => (pg_name (i := 4) sc__law_thing.nd rfl (.inl rfl))) (fun _ _ _ _ _ => pts_nil) (fun _ _ _ _ _ => (pe_call ih hrk (by rfl) Z.D__law_thing.m Z.D__law_thing.F.kp Z.D__law_thing.b .nil pass0 (pa_cons (pv 0) (pa_cons (pe_op op_sub (pv 1) pe_int) pa_nil)))))
    (pss_one (ps_ret (pe_ix (ixL (K := K)) (pe_lst (pa_cons (pv 3) (pa_cons (pe_callTy (tupK (K := K)) (by rfl) Z.T.tuple (by decide +kernel) (pa_cons (pv 3) pa_nil)) pa_nil))) (pe_call (ok__law_draw Z) hr1 (by rfl) Z.D__law_draw.m Z.D__law_draw.F.kp Z.D__law_draw.b .nil pass0 (pa_cons (pv 0) (pa_cons pe_int pa_nil))) (fun _ _ => rfl))))))), ?_⟩
  have c30 : CPow 10 30 := ⟨by decide, by decide, by decide⟩
  refine ⟨_, rfl, _, _, rfl, rfl, c30, _, _, rfl, rfl, (by decide), fun p1 n1 => ⟨(by decide), fun p2 n2 => ⟨(by decide), fun p3 n3 => ⟨(by decide), fun p4 n4 => ⟨(by show 17 ≤ sizeLine; decide), fun p5 n5 => ?_⟩⟩⟩⟩⟩
  have q1 := same_new n1 (.tup [])
  have a1 : (upd H p1 (.tup [])) p1 = some (.tup []) := upd_same
  generalize (upd H p1 (.tup [])) = H1 at n2 n3 n4 n5 q1 a1 ⊢
  have q2 := same_new n2 (.lst [])
  have a2 : (upd H1 p2 (.lst [])) p2 = some (.lst []) := upd_same
  generalize (upd H1 p2 (.lst [])) = H2 at n3 n4 n5 q2 a2 ⊢
  have q3 := same_new n3 (.tup [.str "a"])
  have a3 : (upd H2 p3 (.tup [.str "a"])) p3 = some (.tup [.str "a"]) := upd_same
  generalize (upd H2 p3 (.tup [.str "a"])) = H3 at n4 n5 q3 a3 ⊢
  have q4 := same_new n4 (.lst [.str "a"])
  have a4 : (upd H3 p4 (.lst [.str "a"])) p4 = some (.lst [.str "a"]) := upd_same
  generalize (upd H3 p4 (.lst [.str "a"])) = H4 at n5 q4 a4 ⊢
  have s12 := q1.trans q2
  have s13 := s12.trans q3
  have s14 := s13.trans q4
  have st4 : Strm S C n H4 := st.same s14
  have dpv := some_thing (K := K) (H := newp H H4) ((newp_of n1).trans (q4 _ _ (q3 _ _ (q2 _ _ a1)))) ((newp_of (q1.free n2)).trans (q4 _ _ (q3 _ _ a2))) ((newp_of (s12.free n3)).trans (q4 _ _ a3)) ((newp_of (s13.free n4)).trans a4)
  have f4 : Fr S C H H4 := .of_same s14
  have dp5 := DpAll_mono (newp_right (H := H) (same_new n5 (.lst [V.non, V.bl true, V.bl false, V.int 0, V.int 1, V.int (-7), V.int (10 ^ 30 - 1), V.str "", V.str "link", V.str "a", V.str "on", V.ref p1, V.ref p2, V.ref p3, V.ref p4, V.str "A", V.str "b c"]))) dpv
  have e5 : (upd H4 p5 (.lst [V.non, V.bl true, V.bl false, V.int 0, V.int 1, V.int (-7), V.int (10 ^ 30 - 1), V.str "", V.str "link", V.str "a", V.str "on", V.ref p1, V.ref p2, V.ref p3, V.ref p4, V.str "A", V.str "b c"])) p5 = _ := upd_same
  have f5 : Fr S C H _ := f4.trans (Fr.lay n5 (.lst [V.non, V.bl true, V.bl false, V.int 0, V.int 1, V.int (-7), V.int (10 ^ 30 - 1), V.str "", V.str "link", V.str "a", V.str "on", V.ref p1, V.ref p2, V.ref p3, V.ref p4, V.str "A", V.str "b c"]))
  have st5 := st4.lay n5 (.lst [V.non, V.bl true, V.bl false, V.int 0, V.int 1, V.int (-7), V.int (10 ^ 30 - 1), V.str "", V.str "link", V.str "a", V.str "on", V.ref p1, V.ref p2, V.ref p3, V.ref p4, V.str "A", V.str "b c"])
  have n5S := st4.neS n5
  have n5C := st4.neC n5
  have hvs : ([V.non, V.bl true, V.bl false, V.int 0, V.int 1, V.int (-7), V.int (10 ^ 30 - 1), V.str "", V.str "link", V.str "a", V.str "on", V.ref p1, V.ref p2, V.ref p3, V.ref p4, V.str "A", V.str "b c"] : List V).length = 17 := rfl
  show gName 2 (.ref p5) _ (upd H4 p5 (.lst [V.non, V.bl true, V.bl false, V.int 0, V.int 1, V.int (-7), V.int (10 ^ 30 - 1), V.str "", V.str "link", V.str "a", V.str "on", V.ref p1, V.ref p2, V.ref p3, V.ref p4, V.str "A", V.str "b c"])) _
  generalize [V.non, V.bl true, V.bl false, V.int 0, V.int 1, V.int (-7), V.int (10 ^ 30 - 1), V.str "", V.str "link", V.str "a", V.str "on", V.ref p1, V.ref p2, V.ref p3, V.ref p4, V.str "A", V.str "b c"] = vs at dp5 e5 f5 st5 hvs ⊢
  generalize (upd H4 p5 (.lst vs)) = H5 at dp5 e5 f5 st5 ⊢
  clear dpv a1 a2 a3 a4 q1 q2 q3 q4 n1 n2 n3 n4 n5 s12 s13 s14 st4 f4
  -- an item of the list
  have item : ∀ (k : Nat) (H6 : Hp), k + 1 ≤ kT m → Strm S C (n + k) H6 → Fr S C H5 H6 →
      tOp (rIxL K) (tVar 2) (tCall spDraw [] E0 (tCons (tVar 0) (tCons (tC (V.int 17)) tNil))) [some (.ref S), some (.int (m : Int)), some (.ref p5), none, none] H6 Q := by
    intro k H6 hk s6 f6
    refine ⟨_, rfl, _, rfl, S, C, n + k, 17, rfl, s6, by omega, by decide, by decide, fun r H7 r0 r1 s7 f7 => ?_⟩
    have f57 : Fr S C H5 H7 := f6.trans f7
    obtain ⟨v, d, e1, hd, hv⟩ := DpAll_at (DpAll_mono (newp_fr st f57) dp5) r0 (by omega)
    obtain ⟨o1, o2, o3⟩ := some_nice d hd
    exact ⟨p5, vs, r, v, rfl, rfl, SqL.of (cut_keep f57 n5S n5C e5), e1, q v d H7 hv ⟨o1, by omega, by omega⟩ (s7.mono (by omega)) (f5.trans f57)⟩
  refine ⟨_, rfl, rfl, _, rfl, ite2 (fun c => ?_) (fun c => ?_)⟩
  · exact iteT (item 0 H5 (by omega) st5 (fun _ _ h => h))
  have hm : m ≠ 0 := fun z => by
    subst z
    exact c (decide_eq_true rfl)
  cases m with
  | zero => exact absurd rfl hm
  | succ m =>
  obtain rfl := hsp m rfl
  have hk5 : kT (m + 1) = 3 * kT m + 5 := rfl
  refine ⟨_, rfl, S, C, n, 3, rfl, st5, by omega, by decide, by decide, fun r H6 r0 r1 s6 f6 => ⟨_, _, rfl, rfl, _, rfl, ite2 (fun c2 => ?_) (fun c2 => ?_)⟩⟩
  · exact item 1 H6 (by omega) s6 f6
  have f6' : Fr S C H H6 := f5.trans f6
  refine ⟨_, rfl, S, C, n + 1, 4, rfl, s6, by omega, by decide, by decide, fun r H7 r0 r1 s7 f7 => ?_⟩
  have f7' : Fr S C H H7 := f6'.trans f7
  refine ⟨r, rfl, by omega, by omega, fun D nD => ?_⟩
  have hr3 : r.toNat ≤ 3 := by omega
  have hmul : r.toNat * kT m ≤ 3 * kT m := Nat.mul_le_mul_right _ hr3
  refine lc_get (K := K) (k := kT m) (R := Nice (m + 1) (bT m)) s7 nD (by omega) (fun _ => rfl) (fun i H8 q8 hi s8 k8 => ?_) fun H8 vs ds e dp hl hR s8 f8 => ?_
  · have him : i * kT m + kT m ≤ r.toNat * kT m := by
      have := Nat.mul_le_mul_right (kT m) (show i + 1 ≤ r.toNat from hi)
      rw [Nat.succ_mul] at this
      exact this
    refine ⟨_, rfl, _, rfl, _, _, rfl, rfl, S, C, _, _, rfl, ?_, s8, by omega, k8⟩
    show [V.int (((m + 1 : Nat) : Int) - 1)] = [V.int (m : Int)]
    rw [show (((m + 1 : Nat) : Int) - 1) = (m : Int) by omega]
  · have f8' : Fr S C H H8 := f7'.trans f8
    have dp8 := DpAll_mono ((newp_left Ext.upd).trans (newp_left (f7'.ext s7))) dp
    have nD0 : H D = none := f7'.ext s7 D nD
    refine ⟨_, rfl, _, rfl, D, vs, rfl, .inl ⟨SqL.of e, fun l nl => ⟨(by show 2 ≤ sizeLine; decide), fun p np => ?_⟩⟩⟩
    have w1 := same_new nl (.tup vs)
    have al : (upd H8 l (.tup vs)) l = some (.tup vs) := upd_same
    have nl0 : H l = none := f8'.ext s8 l nl
    generalize (upd H8 l (.tup vs)) = H9 at np w1 al ⊢
    have w2 := same_new np (.lst [V.ref D, V.ref l])
    have ap : (upd H9 p (.lst [V.ref D, V.ref l])) p = some (.lst [V.ref D, V.ref l]) := upd_same
    have npS := (s8.same w1).neS np
    have npC := (s8.same w1).neC np
    generalize (upd H9 p (.lst [V.ref D, V.ref l])) = H10 at w2 ap ⊢
    have s10 := (s8.same w1).same w2
    refine ⟨_, rfl, S, C, _, 2, rfl, s10, by omega, by decide, by decide, fun r2 H11 r0 r1 s11 f11 => ?_⟩
    have f11' : Fr S C H H11 := ((f8'.trans (Fr.of_same w1)).trans (Fr.of_same w2)).trans f11
    have e10 := w2 _ _ (w1 _ _ e)
    have dp11 := DpAll_mono (((newp_right (w1.trans w2)).trans (newp_fr st f11))) dp8
    have nn := nices_of hR
    rw [hl] at nn
    have hb : r.toNat * (bT m + 2) ≤ 3 * (bT m + 2) := Nat.mul_le_mul_right _ hr3
    have hB : bT (m + 1) = 3 * (bT m + 2) + 3 := rfl
    have dD : Dp K (newp H H11) (.ref D) (.list ds) := new_lst nD0 (cut_keep f11 (s7.neS nD) (s7.neC nD) e10) dp11
    have dl : Dp K (newp H H11) (.ref l) (.tuple ds) := new_tup nl0 (cut_keep f11 (s8.neS nl) (s8.neC nl) (w2 _ _ al)) dp11
    have both : DpAll K (newp H H11) [V.ref D, V.ref l] [.list ds, .tuple ds] := .cons dD (.cons dl .nil)
    obtain ⟨v, d, e1, hd, hv⟩ := DpAll_at both r0 r1
    refine ⟨p, _, r2, v, rfl, rfl, SqL.of (cut_keep f11 npS npC ap), e1, q v d H11 hv ?_ (s11.mono (by omega)) f11'⟩
    simp only [List.mem_cons, List.not_mem_nil, or_false] at hd
    rcases hd with rfl | rfl
    · exact nn.lst.mono (by omega) (by omega)
    · exact nn.tup.mono (by omega) (by omega)
theorem ok__law_thing (m : Nat) : FnOk P w K mg base CX0 (m+2) Z.f__law_thing Z.fd__law_thing ["_law_stream", "_law_deep"] (spThing K m) := by
  induction m with
  | zero => exact thing_step Z 0 0 (fun _ _ _ _ => False) ⟨fun _ _ _ _ h => h.elim, fun _ _ _ _ _ _ _ _ _ _ _ _ _ h => h.elim⟩ (Nat.zero_le _) (fun m' h => nomatch h)
  | succ m ih => exact thing_step Z (m + 1) (m + 2) _ ih (Nat.le_refl _) fun m' h => by rw [Nat.succ.inj h]

/-! ### _law_value, _law_near_path, _law_near_value -/
theorem ok__law_value : FnOk P w K mg base CX0 3 Z.f__law_value Z.fd__law_value ["_law_stream"] (spGet K 50 (fun us => us = []) fun d => Nice 2 3000 d ∧ valueD d = true) := by
  refine Z.D__law_value.F.ok sc__law_value (fun vs H Q E h => ?_) (fun cdv A outer s H vs Q E hr h => ?_)
  · obtain ⟨S, C, n, us, rfl, rfl, _⟩ := h
    rfl
  obtain ⟨S, C, n, us, rfl, rfl, st, hn, q⟩ := h
  have c30 : CPow 10 30 := ⟨by decide, by decide, by decide⟩
  refine ⟨_, (pss_cons (ps_set (i := 1) sc__law_value.nd rfl (.inl rfl) (pe_call (ok__law_draw Z) (hr.mono (by decide)) (by rfl) Z.D__law_draw.m Z.D__law_draw.F.kp Z.D__law_draw.b .nil pass0 (pa_cons (pv 0) (pa_cons pe_int pa_nil))))
    (pss_cons (ps_if (pt_cmpR op_lt (pv 1) pe_int (nomark _)) (pss_one (ps_ret (pe_op op_sub (pe_call (ok__law_draw Z) (hr.mono (by decide)) (by rfl) Z.D__law_draw.m Z.D__law_draw.F.kp Z.D__law_draw.b .nil pass0 (pa_cons (pv 0) (pa_cons pe_int pa_nil))) pe_int))) pss_nil)
    (pss_cons (ps_if (pt_cmpR op_eq (pv 1) pe_int (nomark _)) (pss_one (ps_ret (pe_ix (ixL (K := K)) (pe_lst (pa_cons (pe_op op_sub (pe_op op_pow pe_int pe_int) pe_int) (pa_cons (pe_op op_sub pe_int (pe_op op_pow pe_int pe_int)) (pa_cons pe_int (pa_cons pe_int pa_nil))))) (pe_call (ok__law_draw Z) (hr.mono (by decide)) (by rfl) Z.D__law_draw.m Z.D__law_draw.F.kp Z.D__law_draw.b .nil pass0 (pa_cons (pv 0) (pa_cons pe_int pa_nil))) (fun _ _ => rfl)))) pss_nil)
    (pss_one (ps_ret (pe_ix (ixL (K := K)) (pe_lst (pa_cons pe_str (pa_cons pe_str (pa_cons (pe_tup (pa_cons pe_str (pa_cons (pe_call (ok__law_path Z) (hr.mono (by decide)) (by rfl) Z.D__law_path.m Z.D__law_path.F.kp Z.D__law_path.b .nil pass0 (pa_cons (pv 0) (pa_cons pe_int pa_nil))) pa_nil))) pa_nil)))) (pe_call (ok__law_draw Z) (hr.mono (by decide)) (by rfl) Z.D__law_draw.m Z.D__law_draw.F.kp Z.D__law_draw.b .nil pass0 (pa_cons (pv 0) (pa_cons pe_int pa_nil))) (fun _ _ => rfl))))))), ?_⟩
  refine ⟨_, rfl, S, C, n, 8, rfl, st, by omega, by decide, by decide, fun r H1 r0 r1 s1 f1 => ?_⟩
  refine ⟨_, rfl, _, _, rfl, rfl, _, rfl, ite2 (fun c => ?_) (fun c => ?_)⟩
  · refine ⟨_, rfl, S, C, n + 1, 5, rfl, s1, by omega, by decide, by decide, fun r2 H2 r0 r1 s2 f2 => ?_⟩
    refine ⟨_, _, rfl, rfl, q (.int (r2 - 2)) (.int (r2 - 2)) H2 (.int _) ⟨⟨?_, Nat.zero_le _, (by show 2000 ≤ 3000; decide)⟩, rfl⟩ (s2.mono (by omega)) (f1.trans f2)⟩
    refine decide_eq_true (log2_small (Nat.lt_of_lt_of_le (show (r2 - 2).natAbs < 16 by omega) ?_))
    exact Nat.le_trans (show 16 ≤ 2 ^ 4 by decide) (Nat.pow_le_pow_right (by decide) (by decide))
  refine ⟨_, rfl, rfl, _, rfl, ite2 (fun c2 => ?_) (fun c2 => ?_)⟩
  · refine ⟨_, _, rfl, rfl, c30, _, _, rfl, rfl, _, _, rfl, rfl, c30, _, _, rfl, rfl, (by show 4 ≤ sizeLine; decide), fun p np => ⟨_, rfl, S, C, n + 1, 4, rfl, s1.lay np _, by omega, by decide, by decide, fun r2 H2 r0 r1 s2 f2 => ?_⟩⟩
    have dp : DpAll K (newp H H2) [V.int (10 ^ 30 - 1), V.int (1 - 10 ^ 30), V.int 17, V.int 1000] [.int (10 ^ 30 - 1), .int (1 - 10 ^ 30), .int 17, .int 1000] := .cons (.int _) (.cons (.int _) (.cons (.int _) (.cons (.int _) .nil)))
    obtain ⟨v, d, e1, hd, hv⟩ := DpAll_at dp r0 r1
    have ni : Nice 2 3000 d ∧ valueD d = true := by
      have all : ∀ d ∈ ([.int (10 ^ 30 - 1), .int (1 - 10 ^ 30), .int 17, .int 1000] : List PyData), Nice 2 3000 d ∧ valueD d = true := by
        intro d hd
        simp only [List.mem_cons, List.not_mem_nil, or_false] at hd
        rcases hd with rfl | rfl | rfl | rfl <;> exact ⟨⟨by decide +kernel, by decide +kernel, by decide +kernel⟩, rfl⟩
      exact all d hd
    exact ⟨p, _, r2, v, rfl, rfl, SqL.of (s1.keep np f2), e1, q v d H2 hv ni (s2.mono (by omega)) ((f1.trans (Fr.lay np _)).trans f2)⟩
  · refine ⟨_, rfl, S, C, n + 1, _, rfl, ⟨2, rfl, by decide⟩, s1, by omega, fun v d H2 hv ⟨nv, pv⟩ s2 f2 => ⟨(by show 2 ≤ sizeLine; decide), fun l nl => ⟨(by show 3 ≤ sizeLine; decide), fun p np => ?_⟩⟩⟩
    have f02 : Fr S C H H2 := f1.trans f2
    have nl0 : H l = none := f02.ext s2 l nl
    have w1 := same_new nl (.tup [V.str "link", v])
    have al : (upd H2 l (.tup [V.str "link", v])) l = _ := upd_same
    have s3 := s2.lay nl (.tup [V.str "link", v])
    generalize (upd H2 l (.tup [V.str "link", v])) = H3 at np w1 al s3 ⊢
    refine ⟨_, rfl, S, C, _, 3, rfl, s3.lay np _, by omega, by decide, by decide, fun r2 H4 r0 r1 s4 f4 => ?_⟩
    have f34 : Fr S C H3 H4 := (Fr.lay np _).trans f4
    have hv4 : Dp K (newp H H4) v d := Dp_mono ((newp_left (f1.ext s1)).trans ((newp_right w1).trans (newp_fr st f34))) hv
    have dl : Dp K (newp H H4) (.ref l) (.tuple [.str "link", d]) := new_tup nl0 (cut_keep f34 (s2.neS nl) (s2.neC nl) al) (.cons (.str _) (.cons hv4 .nil))
    have dp : DpAll K (newp H H4) [V.str "on", V.str "rank", V.ref l] [.str "on", .str "rank", .tuple [.str "link", d]] := .cons (.str _) (.cons (.str _) (.cons dl .nil))
    obtain ⟨u, e, e1, hd, hu⟩ := DpAll_at dp r0 r1
    refine ⟨p, _, r2, u, rfl, rfl, SqL.of (s3.keep np f4), e1, q u e H4 hu ?_ (s4.mono (by omega)) ((f02.trans (Fr.of_same w1)).trans f34)⟩
    simp only [List.mem_cons, List.not_mem_nil, or_false] at hd
    have lk : Nice 1 60 (.str "link") := ⟨by decide +kernel, by decide +kernel, by decide +kernel⟩
    rcases hd with rfl | rfl | rfl
    · exact ⟨⟨by decide +kernel, by decide +kernel, by decide +kernel⟩, by decide +kernel⟩
    · exact ⟨⟨by decide +kernel, by decide +kernel, by decide +kernel⟩, by decide +kernel⟩
    · have := ((Nices.one lk).append (.one nv)).tup
      refine ⟨this.mono (by omega) (by omega), ?_⟩
      show (PyData.eqv (.str (Str.ofString "link")) (.str (Str.ofString "link")) && pathD d) = true
      rw [pv, show PyData.eqv (.str (Str.ofString "link")) (.str (Str.ofString "link")) = true by decide +kernel]
      rfl

theorem ok__law_near_path : FnOk P w K mg base CX0 4 Z.f__law_near_path Z.fd__law_near_path ["_law_stream"] (spGet K 240 (fun us => us = []) (Nice 3 9100)) := by
  refine Z.D__law_near_path.F.ok sc__law_near_path (fun vs H Q E h => ?_) (fun cdv A outer s H vs Q E hr h => ?_)
  · obtain ⟨S, C, n, us, rfl, rfl, _⟩ := h
    rfl
  obtain ⟨S, C, n, us, rfl, rfl, st, hn, q⟩ := h
  refine ⟨_, (pss_cons (ps_set (i := 1) sc__law_near_path.nd rfl (.inl rfl) (pe_ix (ixL (K := K)) (pe_lst (pa_cons pe_int (pa_cons pe_int (pa_cons pe_int (pa_cons pe_int (pa_cons pe_int (pa_cons pe_int (pa_cons pe_int (pa_cons pe_int pa_nil))))))))) (pe_call (ok__law_draw Z) (hr.mono (by decide)) (by rfl) Z.D__law_draw.m Z.D__law_draw.F.kp Z.D__law_draw.b .nil pass0 (pa_cons (pv 0) (pa_cons pe_int pa_nil))) (fun _ _ => rfl)))
    (pss_cons (ps_setLc (i := 2) (own := [("_law_k", 3)]) (g := gName 3) (tt := tYes) rfl sc__law_near_path.nd rfl rfl (sw_true rfl rfl rfl (by decide +kernel)) (pi_range1 (by rfl) Z.T.range (pa_cons (pv 1) pa_nil)) (blkOk_by (own := [("_law_k", 3)]) (N := ["_law_stream", "_law_many", "_law_parts", "_law_k", "_law_odd"]) (sc := defScope s__law_near_path) (by decide +kernel)) (fun _ _ _ _ _ => (pg_name (i := 3) sc__law_near_path.nd rfl (.inl rfl))) (fun _ _ _ _ _ => pts_nil) (fun _ _ _ _ _ => (pe_call (ok__law_letters Z) (hr.mono (by decide)) (by rfl) Z.D__law_letters.m Z.D__law_letters.F.kp Z.D__law_letters.b .nil pass0 (pa_cons (pv 0) (pa_cons (pe_op op_add pe_int (pe_call (ok__law_draw Z) (hr.mono (by decide)) (by rfl) Z.D__law_draw.m Z.D__law_draw.F.kp Z.D__law_draw.b .nil pass0 (pa_cons (pv 0) (pa_cons pe_int pa_nil)))) pa_nil)))))
    (C8.pss_cut (ps_if (pt_cmpR op_eq (pe_call (ok__law_draw Z) (hr.mono (by decide)) (by rfl) Z.D__law_draw.m Z.D__law_draw.F.kp Z.D__law_draw.b .nil pass0 (pa_cons (pv 0) (pa_cons pe_int pa_nil))) pe_int (nomark _)) (pss_cons (ps_set (i := 4) sc__law_near_path.nd rfl (.inl rfl) (pe_ix (ixL (K := K)) (pe_lst (pa_cons (pe_call (ok__law_near_name Z) (hr.mono (by decide)) (by rfl) Z.D__law_near_name.m Z.D__law_near_name.F.kp Z.D__law_near_name.b .nil pass0 (pa_cons (pv 0) pa_nil)) (pa_cons (pe_call (ok__law_thing Z 1) (hr.mono (by decide)) (by rfl) Z.D__law_thing.m Z.D__law_thing.F.kp Z.D__law_thing.b .nil pass0 (pa_cons (pv 0) (pa_cons pe_int pa_nil))) pa_nil))) (pe_call (ok__law_draw Z) (hr.mono (by decide)) (by rfl) Z.D__law_draw.m Z.D__law_draw.F.kp Z.D__law_draw.b .nil pass0 (pa_cons (pv 0) (pa_cons pe_int pa_nil))) (fun _ _ => rfl)))
    (pss_one (ps_expr (pe_bm PySem.F.plainAttrs_list PySem.F.slot_list_insert PySem.F.type_list_insert mt_insert (pv 2) (pa_cons (pe_call (ok__law_draw Z) (hr.mono (by decide)) (by rfl) Z.D__law_draw.m Z.D__law_draw.F.kp Z.D__law_draw.b .nil pass0 (pa_cons (pv 0) (pa_cons (pe_op op_add (pe_callB (lenK (K := K)) (by rfl) Z.T.len (by decide +kernel) (pa_cons (pv 2) pa_nil)) pe_int) pa_nil))) (pa_cons (pv 4) pa_nil)))))) pss_nil)
    (pss_one (ps_ret (pe_ifExp (pt_cmpR op_eq (pe_call (ok__law_draw Z) (hr.mono (by decide)) (by rfl) Z.D__law_draw.m Z.D__law_draw.F.kp Z.D__law_draw.b .nil pass0 (pa_cons (pv 0) (pa_cons pe_int pa_nil))) pe_int (nomark _)) (pv 2) (pe_callTy (tupK (K := K)) (by rfl) Z.T.tuple (by decide +kernel) (pa_cons (pv 2) pa_nil)))))))), ?_⟩
  refine ⟨(by show 8 ≤ sizeLine; decide), fun p np => ⟨_, rfl, S, C, n, 8, rfl, st.lay np _, by omega, by decide, by decide, fun r H1 r0 r1 s1 f1 => ?_⟩⟩
  obtain ⟨v, e1, e2⟩ := at_int (vs := [V.int 0, V.int 1, V.int 2, V.int 3, V.int 7, V.int 8, V.int 9, V.int 20]) r0 r1
  refine ⟨p, _, r, v, rfl, rfl, SqL.of (st.keep np f1), e1, ?_⟩
  have hv : ∃ m : Nat, v = .int (m : Int) ∧ m ≤ 20 := by
    have := List.mem_of_getElem? e2
    simp only [List.mem_cons, List.not_mem_nil, or_false] at this
    rcases this with rfl | rfl | rfl | rfl | rfl | rfl | rfl | rfl
    · exact ⟨0, rfl, by decide⟩
    · exact ⟨1, rfl, by decide⟩
    · exact ⟨2, rfl, by decide⟩
    · exact ⟨3, rfl, by decide⟩
    · exact ⟨7, rfl, by decide⟩
    · exact ⟨8, rfl, by decide⟩
    · exact ⟨9, rfl, by decide⟩
    · exact ⟨20, rfl, by decide⟩
  obtain ⟨m, rfl, hm⟩ := hv
  have f1' : Fr S C H H1 := (Fr.lay np _).trans f1
  clear f1 e1 e2
  refine ⟨_, rfl, (m : Int), rfl, by omega, by omega, fun D nD => ?_⟩
  refine lc_get (K := K) (k := 9) (R := Nice 0 82) s1 nD (by omega) (fun _ => rfl) (fun i H8 q8 hi s8 k8 => ?_) fun H2 vs ds e dp hl hR s2 f2 => ?_
  · have hi' : i < m := hi
    refine ⟨_, rfl, _, rfl, S, C, _, 8, rfl, s8, by omega, by decide, by decide, fun r3 H9 r0 r1 s9 f9 => ?_⟩
    refine ⟨_, _, rfl, rfl, S, C, _, (1 + r3).toNat, ?_, by omega, s9, by omega, fun x H10 hx az s10 f10 => ?_⟩
    · show [V.ref S, V.int (1 + r3)] = [V.ref S, V.int (((1 + r3).toNat : Nat) : Int)]
      rw [show (((1 + r3).toNat : Nat) : Int) = 1 + r3 by omega]
    · exact k8 (.str x) (.str x) H10 (.str x) (.str az.ok (by omega)) (s10.mono (by omega)) (f9.trans f10)
  have hl' : ds.length = m := hl
  have hmn : (m : Int).toNat = m := rfl
  have f2' : Fr S C H H2 := f1'.trans f2
  have nD0 : H D = none := f1'.ext s1 D nD
  have sB := s1.lay nD (.lst [])
  have tr : (upd H1 D (.lst [])) D ≠ none := by rw [upd_same]; exact Option.some_ne_none _
  have xB : Ext (upd H1 D (.lst [])) H2 := ext_laid s2 f2 e
  have xH : Ext H (upd H1 D (.lst [])) := (f1'.ext s1).trans Ext.upd
  generalize (upd H1 D (.lst [])) = B at dp sB tr xB xH
  have dp2 := dp
  have n2 : Nices 2 (20 * 84) ds := (nices_of hR).mono (by decide) (by
    have := Nat.mul_le_mul_right 84 (show ds.length ≤ 20 by omega)
    exact this)
  have neS := s1.neS nD
  have neC := s1.neC nD
  have s2' : Strm S C (n + 181) H2 := s2.mono (by omega)
  clear dp s2 hR
  -- what the rest asks
  refine ⟨fun σ H' => (∃ o, σ = [some (.ref S), some (.int (m : Int)), some (.ref D), none, o]) ∧ ∃ (vs : List V) (ds : List PyData), H' D = some (.lst vs) ∧ DpAll K (newp B H') vs ds ∧ Nices 2 9000 ds ∧ Strm S C (n + 238) H' ∧ Fr S C H H', ?_, ?_⟩
  · refine ⟨_, rfl, S, C, _, 3, rfl, s2', by omega, by decide, by decide, fun r3 H3 r0 r1 s3 f3 => ⟨rfl, _, rfl, ite2 (fun c => ?_) (fun c => ?_)⟩⟩
    · have f3' : Fr S C H H3 := f2'.trans f3
      have e3 : H3 D = some (.lst vs) := cut_keep f3 neS neC e
      have dp3 := DpAll_mono (newp_fr sB f3) dp2
      have xB3 : Ext B H3 := xB.trans (Fr.ext s3 f3)
      refine ⟨_, rfl, S, C, _, [], rfl, rfl, s3, by omega, fun v1 d1 H4 hv1 ⟨x, hx, hx2, ox⟩ s4 f4 => ?_⟩
      have ni1 : Nice 2 6309 d1 := by
        rw [hx]
        exact .str ox (by omega)
      refine ⟨_, rfl, S, C, _, _, rfl, rfl, s4, (by show n + 181 + 1 + 30 + 14 ≤ _; omega), fun v2 d2 H5 hv2 ni2 s5 f5 => ⟨(by show 2 ≤ sizeLine; decide), fun p2 np2 => ?_⟩⟩
      have s5' : Strm S C (n + 226) H5 := s5.mono (by show n + 181 + 1 + 30 + 14 ≤ _; omega)
      have f45 := f4.trans f5
      refine ⟨_, rfl, S, C, _, 2, rfl, s5'.lay np2 _, by omega, by decide, by decide, fun r4 H6 r0 r1 s6 f6 => ?_⟩
      have f56 : Fr S C H5 H6 := (Fr.lay np2 _).trans f6
      have f36 : Fr S C H3 H6 := f45.trans f56
      have h1 : Dp K (newp B H6) v1 d1 := Dp_mono ((newp_left xB3).trans (newp_fr sB (f5.trans f56))) hv1
      have h2 : Dp K (newp B H6) v2 d2 := Dp_mono ((newp_left (xB3.trans (Fr.ext s4 f4))).trans (newp_fr sB f56)) hv2
      have both : DpAll K (newp B H6) [v1, v2] [d1, d2] := .cons h1 (.cons h2 .nil)
      obtain ⟨u, eo, e1, hd, hu⟩ := DpAll_at both r0 r1
      have nu : Nice 2 6309 eo := by
        simp only [List.mem_cons, List.not_mem_nil, or_false] at hd
        rcases hd with rfl | rfl
        · exact ni1
        · exact ni2
      refine ⟨p2, _, r4, u, rfl, rfl, SqL.of (s5'.keep np2 f6), e1, ?_⟩
      have e6 : H6 D = some (.lst vs) := cut_keep f36 neS neC e3
      have hvl := DpAll_len dp3
      refine ⟨_, rfl, .inl ⟨rfl, _, SqL.of e6⟩, _, rfl, _, rfl, D, vs, rfl, .inl (SqL.of e6), _, _, rfl, rfl, S, C, _, (vs.length : Int) + 1, rfl, s6, by omega, by omega, by omega, fun r7 H7 r0 r1 s7 f7 => ?_⟩
      have e7 : H7 D = some (.lst vs) := cut_keep f7 neS neC e6
      have dp7 := DpAll_mono (newp_fr sB (f36.trans f7)) dp3
      have hu7 := Dp_mono (newp_fr sB f7) hu
      refine ⟨_, rfl, D, vs, r7, u, rfl, rfl, e7, ?_, r0, by omega, ?_⟩
      · exact Nat.lt_of_le_of_lt (show vs.length ≤ 20 by omega) (by decide)
      · refine ⟨⟨_, rfl⟩, _, ds.take r7.toNat ++ [eo] ++ ds.drop r7.toNat, upd_same, ?_, (n2.insert nu _).mono (by decide) (by decide), (s7.upd neS neC _).mono (by omega), Fr.upd (f3'.trans (f36.trans f7)) nD0⟩
        exact DpAll_mono (newp_upd tr) (DpAll_append (DpAll_snoc (DpAll_take _ dp7) hu7) (DpAll_drop _ dp7))
    · exact ⟨⟨_, rfl⟩, vs, ds, cut_keep f3 neS neC e, DpAll_mono (newp_fr sB f3) dp2, n2.mono (by decide) (by decide), s3.mono (by omega), f2'.trans f3⟩
  · rintro σ H3 ⟨⟨o, rfl⟩, vs, ds, e3, dp3, n3, s3, f3⟩
    refine ⟨_, rfl, S, C, _, 6, rfl, s3, by omega, by decide, by decide, fun r4 H4 r0 r1 s4 f4 => ⟨rfl, _, rfl, ite2 (fun c => ?_) (fun c => ?_)⟩⟩
    · exact ⟨_, rfl, q _ _ _ (new_lst nD0 (cut_keep f4 neS neC e3) (DpAll_mono ((newp_fr sB f4).trans (newp_left xH)) dp3)) (n3.lst.mono (by decide) (by decide)) (s4.mono (by omega)) (f3.trans f4)⟩
    · have e4 : H4 D = some (.lst vs) := cut_keep f4 neS neC e3
      refine ⟨_, rfl, D, vs, rfl, .inl ⟨SqL.of e4, fun l nl => ?_⟩⟩
      have nl0 : H l = none := Fr.ext s4 (f3.trans f4) l nl
      exact q _ _ _ (new_tup nl0 upd_same (DpAll_mono (((newp_fr sB f4).trans (newp_right (same_new nl _))).trans (newp_left xH)) dp3)) (n3.tup.mono (by decide) (by decide)) ((s4.lay nl _).mono (by omega)) ((f3.trans f4).trans (Fr.lay nl _))

theorem ok__law_near_value : FnOk P w K mg base CX0 5 Z.f__law_near_value Z.fd__law_near_value ["_law_stream"] (spGet K 260 (fun us => us = []) (Nice 4 40000)) := by
  refine Z.D__law_near_value.F.ok sc__law_near_value (fun vs H Q E h => ?_) (fun cdv A outer s H vs Q E hr h => ?_)
  · obtain ⟨S, C, n, us, rfl, rfl, _⟩ := h
    rfl
  obtain ⟨S, C, n, us, rfl, rfl, st, hn, q⟩ := h
  have c30 : CPow 10 30 := ⟨by decide, by decide, by decide⟩
  refine ⟨_, (pss_cons (ps_set (i := 1) sc__law_near_value.nd rfl (.inl rfl) (pe_call (ok__law_draw Z) (hr.mono (by decide)) (by rfl) Z.D__law_draw.m Z.D__law_draw.F.kp Z.D__law_draw.b .nil pass0 (pa_cons (pv 0) (pa_cons pe_int pa_nil))))
    (pss_cons (ps_if (pt_cmpR op_eq (pv 1) pe_int (nomark _)) (pss_one (ps_ret (pe_call (ok__law_value Z) (hr.mono (by decide)) (by rfl) Z.D__law_value.m Z.D__law_value.F.kp Z.D__law_value.b .nil pass0 (pa_cons (pv 0) pa_nil)))) pss_nil)
    (pss_cons (ps_if (pt_cmpR op_eq (pv 1) pe_int (nomark _)) (pss_one (ps_ret (pe_call (ok__law_near_name Z) (hr.mono (by decide)) (by rfl) Z.D__law_near_name.m Z.D__law_near_name.F.kp Z.D__law_near_name.b .nil pass0 (pa_cons (pv 0) pa_nil)))) pss_nil)
    (pss_cons (ps_if (pt_cmpR op_eq (pv 1) pe_int (nomark _)) (pss_one (ps_ret (pe_call (ok__law_thing Z 2) (hr.mono (by decide)) (by rfl) Z.D__law_thing.m Z.D__law_thing.F.kp Z.D__law_thing.b .nil pass0 (pa_cons (pv 0) (pa_cons pe_int pa_nil))))) pss_nil)
    (pss_cons (ps_if (pt_cmpR op_eq (pv 1) pe_int (nomark _)) (pss_one (ps_ret (pe_ix (ixL (K := K)) (pe_lst (pa_cons pe_bl (pa_cons pe_bl (pa_cons (pe_op op_sub (pe_op op_pow pe_int pe_int) pe_int) (pa_cons (pe_op op_sub pe_int (pe_op op_pow pe_int pe_int)) (pa_cons pe_int (pa_cons (pe_un un_neg pe_int) pa_nil))))))) (pe_call (ok__law_draw Z) (hr.mono (by decide)) (by rfl) Z.D__law_draw.m Z.D__law_draw.F.kp Z.D__law_draw.b .nil pass0 (pa_cons (pv 0) (pa_cons pe_int pa_nil))) (fun _ _ => rfl)))) pss_nil)
    (pss_cons (ps_set (i := 2) sc__law_near_value.nd rfl (.inl rfl) (pe_lst (pa_cons pe_str (pa_cons (pe_call (ok__law_near_path Z) (hr.mono (by decide)) (by rfl) Z.D__law_near_path.m Z.D__law_near_path.F.kp Z.D__law_near_path.b .nil pass0 (pa_cons (pv 0) pa_nil)) pa_nil))))
    (C8.pss_cut (ps_if (pt_cmpR op_eq (pv 1) pe_int (nomark _)) (pss_one (ps_asg (pe_ix (ixL (K := K)) (pe_lst (pa_cons pe_str (pa_cons pe_str (pa_cons pe_str (pa_cons pe_non (pa_cons (pe_tup (pa_cons pe_str pa_nil)) (pa_cons pe_int pa_nil))))))) (pe_call (ok__law_draw Z) (hr.mono (by decide)) (by rfl) Z.D__law_draw.m Z.D__law_draw.F.kp Z.D__law_draw.b .nil pass0 (pa_cons (pv 0) (pa_cons pe_int pa_nil))) (fun _ _ => rfl)) (pg_sub (pv 2) pe_int set_list))) pss_nil)
    (C8.pss_cut (ps_if (pt_cmpR op_eq (pv 1) pe_int (nomark _)) (pss_one (ps_expr (pe_bm PySem.F.plainAttrs_list PySem.F.slot_list_append PySem.F.type_list_append mt_append (pv 2) (pa_cons (pe_ix (ixL (K := K)) (pe_lst (pa_cons pe_non (pa_cons (pe_tup pa_nil) (pa_cons pe_str pa_nil)))) (pe_call (ok__law_draw Z) (hr.mono (by decide)) (by rfl) Z.D__law_draw.m Z.D__law_draw.F.kp Z.D__law_draw.b .nil pass0 (pa_cons (pv 0) (pa_cons pe_int pa_nil))) (fun _ _ => rfl)) pa_nil)))) pss_nil)
    (C8.pss_cut (ps_if (pt_cmpR op_eq (pv 1) pe_int (nomark _)) (pss_one (ps_expr (pe_bm PySem.F.plainAttrs_list PySem.F.slot_list_pop PySem.F.type_list_pop mt_popAt (pv 2) (pa_cons (pe_call (ok__law_draw Z) (hr.mono (by decide)) (by rfl) Z.D__law_draw.m Z.D__law_draw.F.kp Z.D__law_draw.b .nil pass0 (pa_cons (pv 0) (pa_cons pe_int pa_nil))) pa_nil)))) pss_nil)
    (pss_one (ps_ret (pe_ifExp (pt_cmpR op_eq (pv 1) pe_int (nomark _)) (pv 2) (pe_callTy (tupK (K := K)) (by rfl) Z.T.tuple (by decide +kernel) (pa_cons (pv 2) pa_nil)))))))))))))), ?_⟩
  refine ⟨_, rfl, S, C, n, 10, rfl, st, by omega, by decide, by decide, fun r H1 r0 r1 s1 f1 => ?_⟩
  refine ⟨_, rfl, rfl, _, rfl, ite2 (fun c => ?_) (fun c => ?_)⟩
  · refine ⟨_, rfl, S, C, n + 1, [], rfl, rfl, s1, by omega, fun v d H2 hv nv s2 f2 => ?_⟩
    exact q v d H2 (Dp_mono (newp_left (f1.ext s1)) hv) (nv.1.mono (by decide) (by decide)) (s2.mono (by omega)) (f1.trans f2)
  clear c
  refine ⟨_, rfl, rfl, _, rfl, ite2 (fun c => ?_) (fun c => ?_)⟩
  · refine ⟨_, rfl, S, C, n + 1, [], rfl, rfl, s1, by omega, fun v d H2 hv ⟨x, hx, hl, ox⟩ s2 f2 => ?_⟩
    exact q v d H2 (Dp_mono (newp_left (f1.ext s1)) hv) (by rw [hx]; exact .str ox (by omega)) (s2.mono (by omega)) (f1.trans f2)
  clear c
  refine ⟨_, rfl, rfl, _, rfl, ite2 (fun c => ?_) (fun c => ?_)⟩
  · refine ⟨_, rfl, S, C, n + 1, _, rfl, rfl, s1, (by show n + 1 + 47 ≤ _; omega), fun v d H2 hv nv s2 f2 => ?_⟩
    exact q v d H2 (Dp_mono (newp_left (f1.ext s1)) hv) (nv.mono (by decide) (by decide)) (s2.mono (by show n + 1 + 47 ≤ _; omega)) (f1.trans f2)
  clear c
  refine ⟨_, rfl, rfl, _, rfl, ite2 (fun c => ?_) (fun c => ?_)⟩
  · refine ⟨_, _, rfl, rfl, c30, _, _, rfl, rfl, _, _, rfl, rfl, c30, _, _, rfl, rfl, _, rfl, (by show 6 ≤ sizeLine; decide), fun p np => ⟨_, rfl, S, C, n + 1, 6, rfl, s1.lay np _, by omega, by decide, by decide, fun r2 H2 r0 r1 s2 f2 => ?_⟩⟩
    have dp : DpAll K (newp H H2) [V.bl true, V.bl false, V.int (10 ^ 30 - 1), V.int (1 - 10 ^ 30), V.int 0, V.int (-1)] [.bool true, .bool false, .int (10 ^ 30 - 1), .int (1 - 10 ^ 30), .int 0, .int (-1)] :=
      .cons (.bl _) (.cons (.bl _) (.cons (.int _) (.cons (.int _) (.cons (.int _) (.cons (.int _) .nil)))))
    obtain ⟨v, d, e1, hd, hv⟩ := DpAll_at dp r0 r1
    have all : ∀ d ∈ ([.bool true, .bool false, .int (10 ^ 30 - 1), .int (1 - 10 ^ 30), .int 0, .int (-1)] : List PyData), Nice 4 40000 d := by
      intro d hd
      simp only [List.mem_cons, List.not_mem_nil, or_false] at hd
      rcases hd with rfl | rfl | rfl | rfl | rfl | rfl <;> exact ⟨by decide +kernel, by decide +kernel, by decide +kernel⟩
    exact ⟨p, _, r2, v, rfl, rfl, SqL.of (s1.keep np f2), e1, q v d H2 hv (all d hd) (s2.mono (by omega)) ((f1.trans (Fr.lay np _)).trans f2)⟩
  clear c
  refine ⟨_, rfl, S, C, n + 1, [], rfl, rfl, s1, by omega, fun v0 d0 H2 hv0 nv0 s2 f2 => ⟨(by show 2 ≤ sizeLine; decide), fun D nD => ?_⟩⟩
  have f2' : Fr S C H H2 := f1.trans f2
  have nD0 : H D = none := f2'.ext s2 D nD
  have neS := s2.neS nD
  have neC := s2.neC nD
  obtain ⟨G, xG, trG, sG, wG, xGB⟩ := side s1 s2 f2 nD (.lst [V.str "link", v0])
  have dB : DpAll K (newp G (upd H2 D (.lst [V.str "link", v0]))) [V.str "link", v0] [.str "link", d0] := .cons (.str _) (.cons (Dp_mono wG hv0) .nil)
  have lk : Nice 1 50 (.str "link") := ⟨by decide +kernel, by decide +kernel, by decide +kernel⟩
  have nB : Nices 3 9200 [.str "link", d0] := (((Nices.one lk).mono (n' := 3) (by decide) (Nat.le_refl _)).append (.one nv0)).mono (by decide) (by decide)
  have xHG : Ext H G := (f1.ext s1).trans xG
  have sB := s2.lay nD (.lst [V.str "link", v0])
  have eB : (upd H2 D (.lst [V.str "link", v0])) D = some (.lst [V.str "link", v0]) := upd_same
  have fB : Fr S C H (upd H2 D (.lst [V.str "link", v0])) := f2'.trans (Fr.lay nD _)
  generalize (upd H2 D (.lst [V.str "link", v0])) = B at sB eB fB dB xGB ⊢
  let Md : Nat → Nat → Nat → Hp → Prop := fun m k b H' => ∃ (vs : List V) (ds : List PyData), H' D = some (.lst vs) ∧ 2 ≤ vs.length ∧ vs.length ≤ m ∧ DpAll K (newp G H') vs ds ∧ Nices 3 b ds ∧ Strm S C (n + k) H' ∧ Fr S C H H' ∧ Ext G H'
  -- if way == 4
  refine ⟨fun σ H' => σ = [some (.ref S), some (.int r), some (.ref D)] ∧ Md 2 246 12000 H', ?_, ?_⟩
  · refine ⟨_, rfl, rfl, _, rfl, ite2 (fun c => ?_) (fun c => ?_)⟩
    · refine ⟨(by show 1 ≤ sizeLine; decide), fun p1 n1 => ⟨(by show 6 ≤ sizeLine; decide), fun p2 n2 => ?_⟩⟩
      have w1 := same_new n1 (.tup [V.str "link"])
      have a1 : (upd B p1 (.tup [V.str "link"])) p1 = some (.tup [V.str "link"]) := upd_same
      have sB1 := sB.lay n1 (.tup [V.str "link"])
      have ng1 : G p1 = none := xGB p1 n1
      have n1S := sB.neS n1
      have n1C := sB.neC n1
      generalize (upd B p1 (.tup [V.str "link"])) = B1 at n2 w1 a1 sB1 ⊢
      refine ⟨_, rfl, S, C, _, 6, rfl, sB1.lay n2 _, by omega, by decide, by decide, fun r2 H3 r0 r1 s3 f3 => ?_⟩
      have f13 : Fr S C B1 H3 := (Fr.lay n2 _).trans f3
      have fB3 : Fr S C B H3 := (Fr.of_same w1).trans f13
      have dp : DpAll K (newp G H3) [V.str "Link", V.str "links", V.str "", V.non, V.ref p1, V.int 0] [.str "Link", .str "links", .str "", .none, .tuple [.str "link"], .int 0] :=
        .cons (.str _) (.cons (.str _) (.cons (.str _) (.cons .non (.cons (new_tup ng1 (cut_keep f13 n1S n1C a1) (.cons (.str _) .nil)) (.cons (.int _) .nil)))))
      obtain ⟨v, d, e1, hd, hv⟩ := DpAll_at dp r0 r1
      have all : ∀ d ∈ ([.str "Link", .str "links", .str "", .none, .tuple [.str "link"], .int 0] : List PyData), Nice 3 2000 d := by
        intro d hd
        simp only [List.mem_cons, List.not_mem_nil, or_false] at hd
        rcases hd with rfl | rfl | rfl | rfl | rfl | rfl <;> exact ⟨by decide +kernel, by decide +kernel, by decide +kernel⟩
      have e3 : H3 D = some (.lst [V.str "link", v0]) := cut_keep fB3 neS neC eB
      refine ⟨p2, _, r2, v, rfl, rfl, SqL.of (sB1.keep n2 f3), e1, _, rfl, D, _, _, 0, rfl, rfl, e3, rfl, rfl, _, [.str "link", d0].set 0 d, upd_same, (by show 2 ≤ 2; decide), (by show 2 ≤ 2; decide), ?_, (nB.set (all d hd) 0).mono (by decide) (by decide), (s3.upd neS neC _).mono (by omega), Fr.upd (fB.trans fB3) nD0, (xGB.trans (Fr.ext s3 fB3)).trans Ext.upd⟩
      exact DpAll_mono (newp_upd trG) (DpAll_set hv 0 (DpAll_mono (newp_fr sG fB3) dB))
    · exact ⟨rfl, _, _, eB, (by show 2 ≤ 2; decide), (by show 2 ≤ 2; decide), dB, nB.mono (by decide) (by decide), sB.mono (by omega), fB, xGB⟩
  rintro σ B4 ⟨rfl, v4, d4, e4, l4, l4', dp4, n4, s4, f4, x4⟩
  -- if way == 5
  refine ⟨fun σ H' => σ = [some (.ref S), some (.int r), some (.ref D)] ∧ Md 3 247 13000 H', ?_, ?_⟩
  · refine ⟨_, rfl, rfl, _, rfl, ite2 (fun c => ?_) (fun c => ?_)⟩
    · refine ⟨_, rfl, .inl ⟨rfl, _, SqL.of e4⟩, (by show 0 ≤ sizeLine; decide), fun p1 n1 => ⟨(by show 3 ≤ sizeLine; decide), fun p2 n2 => ?_⟩⟩
      have w1 := same_new n1 (.tup [])
      have a1 : (upd B4 p1 (.tup [])) p1 = some (.tup []) := upd_same
      have sB1 := s4.lay n1 (.tup [])
      have ng1 : G p1 = none := x4 p1 n1
      have n1S := s4.neS n1
      have n1C := s4.neC n1
      generalize (upd B4 p1 (.tup [])) = B1 at n2 w1 a1 sB1 ⊢
      refine ⟨_, rfl, S, C, _, 3, rfl, sB1.lay n2 _, by omega, by decide, by decide, fun r2 H3 r0 r1 s3 f3 => ?_⟩
      have f13 : Fr S C B1 H3 := (Fr.lay n2 _).trans f3
      have fB3 : Fr S C B4 H3 := (Fr.of_same w1).trans f13
      have dp : DpAll K (newp G H3) [V.non, V.ref p1, V.str "a"] [.none, .tuple [], .str "a"] :=
        .cons .non (.cons (new_tup ng1 (cut_keep f13 n1S n1C a1) .nil) (.cons (.str _) .nil))
      obtain ⟨v, d, e1, hd, hv⟩ := DpAll_at dp r0 r1
      have all : ∀ d ∈ ([.none, .tuple [], .str "a"] : List PyData), Nice 3 20 d := by
        intro d hd
        simp only [List.mem_cons, List.not_mem_nil, or_false] at hd
        rcases hd with rfl | rfl | rfl <;> exact ⟨by decide +kernel, by decide +kernel, by decide +kernel⟩
      have e3 : H3 D = some (.lst v4) := cut_keep fB3 neS neC e4
      refine ⟨p2, _, r2, v, rfl, rfl, SqL.of (sB1.keep n2 f3), e1, D, _, _, rfl, rfl, e3, Nat.lt_of_le_of_lt l4' (by decide), rfl, _, d4 ++ [d], upd_same, ?_, ?_, ?_, (n4.snoc (all d hd)).mono (by decide) (by decide), (s3.upd neS neC _).mono (by omega), Fr.upd (f4.trans fB3) nD0, (x4.trans (Fr.ext s3 fB3)).trans Ext.upd⟩
      · rw [List.length_append]; omega
      · rw [List.length_append]; show v4.length + 1 ≤ 3; omega
      · exact DpAll_mono (newp_upd trG) (DpAll_snoc (DpAll_mono (newp_fr sG fB3) dp4) hv)
    · exact ⟨rfl, v4, d4, e4, l4, by omega, dp4, n4.mono (by decide) (by decide), s4.mono (by omega), f4, x4⟩
  rintro σ B5 ⟨rfl, v5, d5, e5, l5, l5', dp5, n5, s5, f5, x5⟩
  -- if way == 6
  refine ⟨fun σ H' => σ = [some (.ref S), some (.int r), some (.ref D)] ∧ ∃ (vs : List V) (ds : List PyData), H' D = some (.lst vs) ∧ DpAll K (newp G H') vs ds ∧ Nices 3 26000 ds ∧ Strm S C (n + 248) H' ∧ Fr S C H H', ?_, ?_⟩
  · refine ⟨_, rfl, rfl, _, rfl, ite2 (fun c => ?_) (fun c => ?_)⟩
    · refine ⟨_, rfl, .inl ⟨rfl, _, SqL.of e5⟩, _, rfl, S, C, _, 2, rfl, s5, by omega, by decide, by decide, fun r2 H3 r0 r1 s3 f3 => ?_⟩
      have e3 : H3 D = some (.lst v5) := cut_keep f3 neS neC e5
      have hlt : r2.toNat < v5.length := by omega
      refine ⟨D, v5, r2, r2.toNat, v5[r2.toNat], rfl, rfl, e3, by omega, by omega, seqIx r0 (by omega), List.getElem?_eq_getElem hlt, rfl, _, d5.eraseIdx r2.toNat, upd_same, ?_, (n5.erase _).mono (by decide) (by decide), (s3.upd neS neC _).mono (by omega), Fr.upd (f5.trans f3) nD0⟩
      exact DpAll_mono (newp_upd trG) (DpAll_erase _ (DpAll_mono (newp_fr sG f3) dp5))
    · exact ⟨rfl, v5, d5, e5, dp5, n5.mono (by decide) (by decide), s5.mono (by omega), f5⟩
  rintro σ B6 ⟨rfl, v6, d6, e6, dp6, n6, s6, f6⟩
  refine ⟨_, rfl, rfl, _, rfl, ite2 (fun c => ?_) (fun c => ?_)⟩
  · exact ⟨_, rfl, q _ _ _ (new_lst nD0 e6 (DpAll_mono (newp_left xHG) dp6)) (n6.lst.mono (by decide) (by decide)) (s6.mono (by omega)) f6⟩
  · refine ⟨_, rfl, D, v6, rfl, .inl ⟨SqL.of e6, fun l nl => ?_⟩⟩
    have nl0 : H l = none := f6.ext s6 l nl
    exact q _ _ _ (new_tup nl0 upd_same (DpAll_mono ((newp_right (same_new nl _)).trans (newp_left xHG)) dp6)) (n6.tup.mono (by decide) (by decide)) ((s6.lay nl _).mono (by omega)) (f6.trans (Fr.lay nl _))

/-! ### is_value -/
theorem ok_is_integer : FnOk P w K mg base CX0 1 Z.f_is_integer Z.fd_is_integer ["value"] (spTell K intD) := by
  refine Z.D_is_integer.F.ok sc_is_integer (fun vs H Q E h => ?_) (fun cdv A outer s H vs Q E hr h => ?_)
  · obtain ⟨v, d, rfl, _⟩ := h
    rfl
  obtain ⟨v, d, rfl, hd, ok, q⟩ := h
  refine ⟨_, (pss_one (ps_ret (pe_and (pe_callB (isiK (K := K)) (by rfl) Z.T.isinstance (by decide +kernel) (pa_cons (pv 0) (pa_cons (pe_bltn (v := .ty "int") (u := .type "int") (by rfl) Z.T.int (by decide +kernel) rfl) pa_nil))) (pe_one (pe_not (pe_callB (isiK (K := K)) (by rfl) Z.T.isinstance (by decide +kernel) (pa_cons (pv 0) (pa_cons (pe_bltn (v := .ty "bool") (u := .type "bool") (by rfl) Z.T.bool (by decide +kernel) rfl) pa_nil)))))))), ?_⟩
  refine ⟨_, rfl, _, _, _, _, isInt d, rfl, .ty "int", Dp_type hd, kit_int hd, _, rfl, ?_⟩
  have e : intD d = (isInt d && !isBool d) := by cases d <;> rfl
  have q' := q H (Same.refl H)
  rw [e] at q'
  refine ite2 (fun c => ?_) (fun c => ?_)
  · refine ⟨_, rfl, _, _, _, _, isBool d, rfl, .ty "bool", Dp_type hd, kit_bool hd, _, rfl, ?_⟩
    rw [c, Bool.true_and] at q'
    exact q'
  · rw [Bool.eq_false_iff.mpr c, Bool.false_and] at q'
    exact q'

theorem ok_is_link : FnOk P w K mg base CX0 3 Z.f_is_link Z.fd_is_link ["value"] (spTell K linkD) := by
  refine Z.D_is_link.F.ok sc_is_link (fun vs H Q E h => ?_) (fun cdv A outer s H vs Q E hr h => ?_)
  · obtain ⟨v, d, rfl, _⟩ := h
    rfl
  obtain ⟨v, d, rfl, hd, ok, q⟩ := h
  refine ⟨_, (pss_cons (ps_if (PW.pt (pw_or (pt_not (pt_val (pe_callB (isiK (K := K)) (by rfl) Z.T.isinstance (by decide +kernel) (pa_cons (pv 0) (pa_cons (pe_bltn (v := .ty "tuple") (u := .type "tuple") (by rfl) Z.T.tuple (by decide +kernel) rfl) pa_nil))))) (pw_or1 (pt_cmpR op_ne (pe_callB (lenK (K := K)) (by rfl) Z.T.len (by decide +kernel) (pa_cons (pv 0) pa_nil)) pe_int (nomark _))))) (pss_one (ps_ret pe_bl)) pss_nil)
    (pss_one (ps_ret (pe_and (pe_cmpR (eqDK (K := K) hr.units) (pe_ix (ixT (K := K)) (pv 0) pe_int (fun _ _ => rfl)) pe_str (nomark _)) (pe_one (pe_call (ok_is_path Z) (hr.mono (by decide)) (by rfl) Z.D_is_path.m Z.D_is_path.F.kp Z.D_is_path.b .nil pass0 (pa_cons (pe_ix (ixT (K := K)) (pv 0) pe_int (fun _ _ => rfl)) pa_nil))))))), ?_⟩
  refine ⟨_, rfl, _, _, _, _, isTup d, rfl, .ty "tuple", Dp_type hd, kit_tup hd, _, rfl, ?_⟩
  cases d with
  | tuple ds =>
    cases hd with
    | @tup a xs _ hs ha =>
      have hl := DpAll_len ha
      refine iteF ?_
      refine ⟨_, rfl, a, xs, rfl, .inr hs, rfl, _, rfl, ite2 (fun c => ?_) (fun c => ?_)⟩
      · have q' := q H (Same.refl H)
        rw [linkD_not (by rw [← hl]; exact ne_two c)] at q'
        exact q'
      obtain ⟨x, y, d0, d1, rfl, rfl, h0, h1⟩ := two_of ha (is_two c)
      have ok0 := ok.item (List.mem_cons_self (a := d0) (l := [d1]))
      have ok1 := ok.item (List.mem_cons_of_mem d0 (List.mem_cons_self (a := d1) (l := [])))
      have q2 : ∀ H', Same H H' → Q (.bl (PyData.eqv d0 (.str (Str.ofString "link")) && pathD d1)) H' := q
      refine ⟨_, rfl, a, _, 0, x, rfl, rfl, hs, rfl, d0, _, h0, .str _, ok0.shaped, link_shaped, _, rfl, ite2 (fun c => ?_) (fun c => ?_)⟩
      · refine ⟨_, rfl, a, _, 1, y, rfl, rfl, hs, rfl, y, d1, rfl, h1, ok1, fun H' s' => ?_⟩
        have q3 := q2 H' s'
        rw [c, Bool.true_and] at q3
        exact q3
      · have q3 := q2 H (Same.refl H)
        rw [Bool.eq_false_iff.mpr c, Bool.false_and] at q3
        exact q3
  | _ => exact iteT (q H (Same.refl H))

theorem ok_is_value : FnOk P w K mg base CX0 4 Z.f_is_value Z.fd_is_value ["value"] (spTell K valueD) := by
  refine Z.D_is_value.F.ok sc_is_value (fun vs H Q E h => ?_) (fun cdv A outer s H vs Q E hr h => ?_)
  · obtain ⟨v, d, rfl, _⟩ := h
    rfl
  obtain ⟨v, d, rfl, hd, ok, q⟩ := h
  refine ⟨_, (pss_one (ps_ret (pe_or (pe_call (ok_is_integer Z) (hr.mono (by decide)) (by rfl) Z.D_is_integer.m Z.D_is_integer.F.kp Z.D_is_integer.b .nil pass0 (pa_cons (pv 0) pa_nil)) (pe_or (pe_call (ok_is_name Z) (hr.mono (by decide)) (by rfl) Z.D_is_name.m Z.D_is_name.F.kp Z.D_is_name.b .nil pass0 (pa_cons (pv 0) pa_nil)) (pe_one (pe_call (ok_is_link Z) (hr.mono (by decide)) (by rfl) Z.D_is_link.m Z.D_is_link.F.kp Z.D_is_link.b .nil pass0 (pa_cons (pv 0) pa_nil))))))), ?_⟩
  refine ⟨_, rfl, v, d, rfl, hd, ok, fun H1 s1 => ⟨_, rfl, ite2 (fun c => ?_) (fun c => ?_)⟩⟩
  · have q' := q H1 s1
    unfold valueD at q'
    rw [c, Bool.true_or] at q'
    exact q'
  refine ⟨_, rfl, v, d, rfl, Dp_mono s1 hd, ok, fun H2 s2 => ⟨_, rfl, ite2 (fun c2 => ?_) (fun c2 => ?_)⟩⟩
  · have q' := q H2 (s1.trans s2)
    unfold valueD at q'
    rw [Bool.eq_false_iff.mpr c, c2, Bool.true_or, Bool.or_true] at q'
    exact q'
  refine ⟨_, rfl, v, d, rfl, Dp_mono (s1.trans s2) hd, ok, fun H3 s3 => ?_⟩
  have q' := q H3 ((s1.trans s2).trans s3)
  unfold valueD at q'
  rw [Bool.eq_false_iff.mpr c, Bool.eq_false_iff.mpr c2, Bool.false_or, Bool.false_or] at q'
  exact q'

/-! ### _law_is_value -/
theorem ok__law_is_value : FnG P w K mg base CX0 3 Z.f__law_is_value Z.fd__law_is_value ["_law_thing_here"] (spTell K valueD) := by
  refine Fun_okG Z.D__law_is_value.F sc__law_is_value (fun vs H Q E h => ?_) (fun cdv A outer s H vs Q E hG hr h => ?_)
  · obtain ⟨v, d, rfl, _⟩ := h
    rfl
  obtain ⟨v, d, rfl, hd, ok, q⟩ := h
  refine ⟨_, (pss_cons (ps_if (pt_val (pe_callB (isiK (K := K)) (by rfl) Z.T.isinstance (by decide +kernel) (pa_cons (pv 0) (pa_cons (pe_bltn (v := .ty "tuple") (u := .type "tuple") (by rfl) Z.T.tuple (by decide +kernel) rfl) pa_nil)))) (pss_one (ps_ret (pe_and (pe_cmpR op_eq (pe_callB (lenK (K := K)) (by rfl) Z.T.len (by decide +kernel) (pa_cons (pv 0) pa_nil)) pe_int (nomark _)) (pe_and (pe_callG (ok__law_same Z) hG (hr.mono (by decide)) (by rfl) Z.D__law_same.m Z.D__law_same.F.kp Z.D__law_same.b .nil pass0 (pa_cons (pe_ix (ixT (K := K)) (pv 0) pe_int (fun _ _ => rfl)) (pa_cons pe_str pa_nil))) (pe_one (pe_call (ok__law_is_path Z) (hr.mono (by decide)) (by rfl) Z.D__law_is_path.m Z.D__law_is_path.F.kp Z.D__law_is_path.b .nil pass0 (pa_cons (pe_ix (ixT (K := K)) (pv 0) pe_int (fun _ _ => rfl)) pa_nil))))))) pss_nil)
    (pss_one (ps_ret (pe_or (pe_call (ok__law_is_name Z) (hr.mono (by decide)) (by rfl) Z.D__law_is_name.m Z.D__law_is_name.F.kp Z.D__law_is_name.b .nil pass0 (pa_cons (pv 0) pa_nil)) (pe_one (pe_and (pe_callB (isiK (K := K)) (by rfl) Z.T.isinstance (by decide +kernel) (pa_cons (pv 0) (pa_cons (pe_bltn (v := .ty "int") (u := .type "int") (by rfl) Z.T.int (by decide +kernel) rfl) pa_nil))) (pe_one (pe_not (pe_callB (isiK (K := K)) (by rfl) Z.T.isinstance (by decide +kernel) (pa_cons (pv 0) (pa_cons (pe_bltn (v := .ty "bool") (u := .type "bool") (by rfl) Z.T.bool (by decide +kernel) rfl) pa_nil))))))))))), ?_⟩
  refine ⟨_, rfl, _, _, _, _, isTup d, rfl, .ty "tuple", Dp_type hd, kit_tup hd, _, rfl, ite2 (fun ct => ?_) (fun ct => ?_)⟩
  · cases d with
    | tuple ds =>
      cases hd with
      | @tup a xs _ hs ha =>
        have hl := DpAll_len ha
        refine ⟨_, rfl, a, xs, rfl, .inr hs, rfl, _, rfl, ite2 (fun c => ?_) (fun c => ?_)⟩
        · obtain ⟨x, y, d0, d1, rfl, rfl, h0, h1⟩ := two_of ha (is_two' c)
          have ok0 := ok.item (List.mem_cons_self (a := d0) (l := [d1]))
          have ok1 := ok.item (List.mem_cons_of_mem d0 (List.mem_cons_self (a := d1) (l := [])))
          have q2 : ∀ H', Same H H' → Q (.bl (PyData.eqv d0 (.str (Str.ofString "link")) && pathD d1)) H' := q
          refine ⟨_, rfl, a, _, 0, x, rfl, rfl, hs, rfl, x, _, d0, .str _, rfl, h0, .str _, ok0, link_ok, _, rfl, ?_⟩
          rw [shown_link ok0.fine]
          refine ite2 (fun c => ?_) (fun c => ?_)
          · refine ⟨_, rfl, a, _, 1, y, rfl, rfl, hs, rfl, y, d1, rfl, h1, ok1, fun H' s' => ?_⟩
            have q3 := q2 H' s'
            rw [c, Bool.true_and] at q3
            exact q3
          · have q3 := q2 H (Same.refl H)
            rw [Bool.eq_false_iff.mpr c, Bool.false_and] at q3
            exact q3
        · have q2 : Q (.bl (linkD (.tuple ds))) H := q H (Same.refl H)
          rw [linkD_not (by rw [← hl]; exact ne_two' c)] at q2
          exact q2
    | _ => cases ct
  · have e : valueD d = (nameD d || intD d) := by
      cases d <;> first | rfl | exact absurd rfl ct | simp [valueD, intD, linkD, nameD]
    refine ⟨_, rfl, v, d, rfl, hd, ok, fun H1 s1 => ⟨_, rfl, ite2 (fun c => ?_) (fun c => ?_)⟩⟩
    · have q' := q H1 s1
      rw [e, c, Bool.true_or] at q'
      exact q'
    have hd1 := Dp_mono s1 hd
    have q' := q H1 s1
    rw [e, Bool.eq_false_iff.mpr c, Bool.false_or, show intD d = (isInt d && !isBool d) by cases d <;> rfl] at q'
    refine ⟨_, rfl, _, _, _, _, isInt d, rfl, .ty "int", Dp_type hd1, kit_int hd1, _, rfl, ite2 (fun c => ?_) (fun c => ?_)⟩
    · refine ⟨_, rfl, _, _, _, _, isBool d, rfl, .ty "bool", Dp_type hd1, kit_bool hd1, _, rfl, ?_⟩
      rw [c, Bool.true_and] at q'
      exact q'
    · rw [Bool.eq_false_iff.mpr c, Bool.false_and] at q'
      exact q'

/-! ### is_pair, ascends, names_of, are_named -/
theorem ok_is_pair : FnOk P w K mg base CX0 1 Z.f_is_pair Z.fd_is_pair ["value"] (spTell K pairD) := by
  refine Z.D_is_pair.F.ok sc_is_pair (fun vs H Q E h => ?_) (fun cdv A outer s H vs Q E hr h => ?_)
  · obtain ⟨v, d, rfl, _⟩ := h
    rfl
  obtain ⟨v, d, rfl, hd, ok, q⟩ := h
  refine ⟨_, (pss_one (ps_ret (pe_and (pe_callB (isiK (K := K)) (by rfl) Z.T.isinstance (by decide +kernel) (pa_cons (pv 0) (pa_cons (pe_bltn (v := .ty "tuple") (u := .type "tuple") (by rfl) Z.T.tuple (by decide +kernel) rfl) pa_nil))) (pe_one (pe_cmpR op_eq (pe_callB (lenK (K := K)) (by rfl) Z.T.len (by decide +kernel) (pa_cons (pv 0) pa_nil)) pe_int (nomark _)))))), ?_⟩
  refine ⟨_, rfl, _, _, _, _, isTup d, rfl, .ty "tuple", Dp_type hd, kit_tup hd, _, rfl, ite2 (fun ct => ?_) (fun ct => ?_)⟩
  · cases d with
    | tuple ds =>
      cases hd with
      | @tup a xs _ hs ha =>
        have hl := DpAll_len ha
        have q1 := q H (Same.refl H)
        refine ⟨_, rfl, a, xs, rfl, .inr hs, rfl, ?_⟩
        have e : decide (V.int (xs.length : Int) = V.int 2) = pairD (.tuple ds) := by
          by_cases h2 : xs.length = 2
          · obtain ⟨x, y, d0, d1, rfl, rfl, _, _⟩ := two_of ha h2
            exact decide_eq_true rfl
          · rw [not_pair (by rw [← hl]; exact h2)]
            exact Bool.eq_false_iff.mpr fun c => h2 (is_two' c)
        rw [← e] at q1
        exact q1
    | _ => cases ct
  · have q1 := q H (Same.refl H)
    have e : pairD d = false := by
      cases d with
      | tuple ds => exact absurd rfl ct
      | _ => rfl
    rw [e] at q1
    exact q1
theorem ok_ascends : FnOk P w K mg base CX0 1 Z.f_ascends Z.fd_ascends ["keys"] (spAsc K) := by
  refine Z.D_ascends.F.ok sc_ascends (fun vs H Q E h => ?_) (fun cdv A outer s H vs Q E hr h => ?_)
  · obtain ⟨a, ss, rfl, _⟩ := h
    rfl
  obtain ⟨a, ss, rfl, hS, hl, q⟩ := h
  refine ⟨_, (pss_one (ps_ret (pe_callB (allK (K := K) rfl) (by rfl) Z.T.all (by decide +kernel) (pa_cons (pe_lc (own := [("one", 1), ("other", 2)]) (g := gTup K 2 (gCons (gName 1) (gCons (gName 2) gNil))) (tt := tYes) rfl sc_ascends.nd (pi_zip (by rfl) Z.T.zip (pa_cons (pv 0) (pa_cons (pe_slice sl_list (pv 0) (po_some pe_int) po_none) pa_nil))) (blkOk_by (own := [("one", 1), ("other", 2)]) (N := ["keys", "one", "other"]) (sc := defScope s_ascends) (by decide +kernel)) (fun _ _ _ _ _ => (pg_tup rfl (pgs_cons (pg_name (i := 1) sc_ascends.nd rfl (.inl rfl)) (pgs_cons (pg_name (i := 2) sc_ascends.nd rfl (.inl rfl)) pgs_nil)))) (fun _ _ _ _ _ => pts_nil) (fun _ _ _ _ _ => (pe_cmpR op_lt_str (pv 1) (pv 2) (nomark _)))) pa_nil)))), ?_⟩
  refine ⟨_, rfl, _, rfl, 1, rfl, a, _, rfl, hS, fun p np => ?_⟩
  have w1 := same_new np (.lst (cutV (ss.map V.str) (some 1) none))
  have e1 : (upd H p (.lst (cutV (ss.map V.str) (some 1) none))) p = _ := upd_same
  have hcut : cutV (ss.map V.str) (some 1) none = (ss.drop 1).map V.str := by
    rw [List.map_drop]
    exact cut_one _
  rw [hcut] at w1 e1 ⊢
  generalize (upd H p (.lst ((ss.drop 1).map V.str))) = H1 at w1 e1 ⊢
  refine ⟨a, p, _, _, rfl, w1.seq hS, SqL.of e1, fun D nD => ?_⟩
  have w2 := same_new nD (.lst [])
  have hA := w1.seq hS
  refine lc_it (walk_zip (K := K) (xs := ss.map V.str) (ys := (ss.drop 1).map V.str) (n := ss.length - 1) (by rw [List.length_map, List.length_map, List.length_drop]; omega)) (fun i H' => Same H1 H' ∧ H' D = some (.lst (((ascAt ss).take i).map V.bl))) ⟨w2, upd_same⟩ (fun i H' _ pv => ⟨pv.1.seq hA, SqL.of (pv.1 _ _ e1)⟩) ?_ ?_
  · rintro i v H3 H4 hi ⟨s3, e3⟩ ⟨T, x, y, rfl, nT, rfl, hx, hy⟩
    have h1 : i < ss.length := by omega
    have h2 : i + 1 < ss.length := by omega
    have ex : x = .str ss[i] := by
      have : (ss.map V.str)[i]? = some (V.str ss[i]) := by rw [List.getElem?_map, List.getElem?_eq_getElem h1]; rfl
      exact Option.some.inj (hx.symm.trans this)
    have ey : y = .str ss[i + 1] := by
      have : ((ss.drop 1).map V.str)[i]? = some (V.str ss[i + 1]) := by rw [List.getElem?_map, List.getElem?_drop, Nat.add_comm 1 i, List.getElem?_eq_getElem h2]; rfl
      exact Option.some.inj (hy.symm.trans this)
    subst ex ey
    have wT := same_new nT (.tup [V.str ss[i], V.str ss[i + 1]])
    have ez : (ascAt ss)[i]? = some (decide (ss[i].cps.toList < ss[i + 1].cps.toList)) := by
      have e2 : (ss.drop 1)[i]? = some ss[i + 1] := by rw [List.getElem?_drop, Nat.add_comm 1 i, List.getElem?_eq_getElem h2]
      have e3 : (ss.zip (ss.drop 1))[i]? = some (ss[i], ss[i + 1]) := List.getElem?_zip_eq_some.mpr ⟨List.getElem?_eq_getElem h1, e2⟩
      unfold ascAt
      rw [List.getElem?_map, e3]
      rfl
    refine ⟨T, _, rfl, SqT.of upd_same, rfl, _, _, rfl, _, _, rfl, rfl, rfl, ?_⟩
    unfold tYes
    refine iteT ⟨_, rfl, _, rfl, _, _, rfl, rfl, _, wT _ _ e3, ?_, ?_, ?_⟩
    · rw [List.length_map, List.length_take]
      omega
    · exact fun b o q => by
        rw [upd_ne (ne_of_none q nD)]
        exact wT _ _ (s3 b o q)
    · rw [upd_same, take_snoc ez, List.map_append]
      rfl
  · rintro H' ⟨s3, e3⟩
    refine ⟨D, _, rfl, SqL.of e3, ?_⟩
    have hlen : (ascAt ss).length = ss.length - 1 := by
      unfold ascAt
      rw [List.length_map, List.length_zip, List.length_drop]
      omega
    rw [List.take_of_length_le (by omega), asc_at]
    exact q H' (w1.trans s3)
theorem ok_names_of : FnOk P w K mg base CX0 1 Z.f_names_of Z.fd_names_of ["pairs"] (spNames K) := by
  refine Z.D_names_of.F.ok sc_names_of (fun vs H Q E h => ?_) (fun cdv A outer s H vs Q E hr h => ?_)
  · obtain ⟨v, ds, rfl, _⟩ := h
    rfl
  obtain ⟨v, ds, rfl, hd, hl, hn, q⟩ := h
  refine ⟨_, (pss_one (ps_ret (pe_lc (own := [("pair", 1)]) (g := gName 1) (tt := tYes) rfl sc_names_of.nd (pi_tup (pv 0)) (blkOk_by (own := [("pair", 1)]) (N := ["pairs", "pair"]) (sc := defScope s_names_of) (by decide +kernel)) (fun _ _ _ _ _ => (pg_name (i := 1) sc_names_of.nd rfl (.inl rfl))) (fun _ _ _ _ _ => pts_nil) (fun _ _ _ _ _ => (pe_ix (ixT (K := K)) (pv 1) pe_int (fun _ _ => rfl)))))), ?_⟩
  cases hd with
  | @tup a xs _ hs ha =>
    refine ⟨_, rfl, a, rfl, ⟨xs, hs⟩, fun D nD => lc_vals (fun e => V.str (strD (fstD e))) nD hs ha hl (fun _ => rfl) (fun v e H3 q3 he hv _ k => ?_) fun H' s' e' => ?_⟩
    · obtain ⟨x, b, rfl, _⟩ := named_is (List.all_eq_true.mp hn e he)
      cases hv with
      | @tup a2 ys _ hs2 ha2 =>
        cases ha2 with
        | cons h0 h1 =>
          cases h0
          exact ⟨_, rfl, a2, _, 0, _, rfl, rfl, hs2, atI0 _ _, k H3 (Same.refl _)⟩
    · refine q D H' s' ?_
      rw [e']
      unfold keysL
      rw [List.map_map]
      rfl
theorem ok_are_named : FnOk P w K mg base CX0 2 Z.f_are_named Z.fd_are_named ["pairs"] (spTell K namedD) := by
  refine Z.D_are_named.F.ok sc_are_named (fun vs H Q E h => ?_) (fun cdv A outer s H vs Q E hr h => ?_)
  · obtain ⟨v, d, rfl, _⟩ := h
    rfl
  obtain ⟨v, d, rfl, hd, ok, q⟩ := h
  refine ⟨_, (pss_cons (ps_if (pt_not (pt_val (pe_callB (isiK (K := K)) (by rfl) Z.T.isinstance (by decide +kernel) (pa_cons (pv 0) (pa_cons (pe_bltn (v := .ty "tuple") (u := .type "tuple") (by rfl) Z.T.tuple (by decide +kernel) rfl) pa_nil))))) (pss_one (ps_ret pe_bl)) pss_nil)
    (pss_one (ps_ret (pe_callB (allK (K := K) rfl) (by rfl) Z.T.all (by decide +kernel) (pa_cons (pe_lc (own := [("pair", 1)]) (g := gName 1) (tt := tYes) rfl sc_are_named.nd (pi_tup (pv 0)) (blkOk_by (own := [("pair", 1)]) (N := ["pairs", "pair"]) (sc := defScope s_are_named) (by decide +kernel)) (fun _ _ _ _ _ => (pg_name (i := 1) sc_are_named.nd rfl (.inl rfl))) (fun _ _ _ _ _ => pts_nil) (fun _ _ _ _ _ => (pe_and (pe_call (ok_is_pair Z) (hr.mono (by decide)) (by rfl) Z.D_is_pair.m Z.D_is_pair.F.kp Z.D_is_pair.b .nil pass0 (pa_cons (pv 1) pa_nil)) (pe_one (pe_call (ok_is_name Z) (hr.mono (by decide)) (by rfl) Z.D_is_name.m Z.D_is_name.F.kp Z.D_is_name.b .nil pass0 (pa_cons (pe_ix (ixT (K := K)) (pv 1) pe_int (fun _ _ => rfl)) pa_nil)))))) pa_nil))))), ?_⟩
  refine ⟨_, rfl, _, _, _, _, isTup d, rfl, .ty "tuple", Dp_type hd, kit_tup hd, _, rfl, ?_⟩
  cases d with
  | tuple ds =>
    cases hd with
    | @tup a xs _ hs ha =>
      refine iteF ?_
      refine ⟨_, rfl, a, rfl, ⟨xs, hs⟩, fun D nD => lc_items nmD nD hs ha ok.len (fun _ => rfl) (fun v e H3 q3 he hv _ k => ?_) fun H' s' e' => ?_⟩
      · have oke := ok.item he
        refine ⟨_, rfl, v, e, rfl, hv, oke, fun H4 s4 => ⟨_, rfl, ite2 (fun c => ?_) (fun c => ?_)⟩⟩
        · obtain ⟨x, y, rfl⟩ := pair_is c
          cases hv with
          | @tup a2 ys _ hs2 ha2 =>
            cases ha2 with
            | cons h0 h1 =>
              refine ⟨_, rfl, a2, _, 0, _, rfl, rfl, Same.seqT s4 hs2, atI0 _ _, _, x, rfl, Dp_mono s4 h0, oke.item List.mem_cons_self, fun H5 s5 => ?_⟩
              exact k H5 (s4.trans s5)
        · have k1 := k H4 s4
          unfold nmD at k1
          rw [Bool.eq_false_iff.mpr c, Bool.false_and] at k1
          exact k1
      · refine ⟨D, _, rfl, SqL.of e', ?_⟩
        have e := q H' s'
        simp only [namedD] at e
        rw [all_map]
        exact e
  | _ => exact iteT (q H (Same.refl H))

/-! ### are_rows, are_props, is_tree_within -/
def arowsD (d : PyData) : Bool := namedD d && ascD (keysL (itemsD d))
def apropsD (d : PyData) : Bool := arowsD d && (itemsD d).all fun e => valueD (sndD e)
omit Z in
theorem arows_tup {d : PyData} (h : arowsD d = true) : ∃ ds, d = .tuple ds ∧ ds.all nmD = true := by
  unfold arowsD at h
  rw [Bool.and_eq_true] at h
  obtain ⟨ds, rfl⟩ := named_tup h.1
  exact ⟨ds, rfl, h.1⟩
omit Z in
theorem tree_arr (a b c d e f : Bool) : ((a && b) && ((c && d) && (e && f))) = (((a && c) && e) && ((b && d) && f)) := by
  cases a <;> cases b <;> cases c <;> cases d <;> cases e <;> cases f <;> rfl
theorem ok_are_rows : FnOk P w K mg base CX0 3 Z.f_are_rows Z.fd_are_rows ["pairs"] (spTell K arowsD) := by
  refine Z.D_are_rows.F.ok sc_are_rows (fun vs H Q E h => ?_) (fun cdv A outer s H vs Q E hr h => ?_)
  · obtain ⟨v, d, rfl, _⟩ := h
    rfl
  obtain ⟨v, d, rfl, hd, ok, q⟩ := h
  refine ⟨_, (pss_one (ps_ret (pe_and (pe_call (ok_are_named Z) (hr.mono (by decide)) (by rfl) Z.D_are_named.m Z.D_are_named.F.kp Z.D_are_named.b .nil pass0 (pa_cons (pv 0) pa_nil)) (pe_one (pe_call (ok_ascends Z) (hr.mono (by decide)) (by rfl) Z.D_ascends.m Z.D_ascends.F.kp Z.D_ascends.b .nil pass0 (pa_cons (pe_call (ok_names_of Z) (hr.mono (by decide)) (by rfl) Z.D_names_of.m Z.D_names_of.F.kp Z.D_names_of.b .nil pass0 (pa_cons (pv 0) pa_nil)) pa_nil)))))), ?_⟩
  refine ⟨_, rfl, v, d, rfl, hd, ok, fun H1 s1 => ⟨_, rfl, ite2 (fun cc => ?_) (fun cc => ?_)⟩⟩
  · have cc' : namedD d = true := by simpa using cc
    obtain ⟨ds, rfl⟩ := named_tup cc'
    have kl : (keysL ds).length = ds.length := List.length_map _
    refine ⟨_, rfl, v, ds, rfl, Dp_mono s1 hd, ok.len, cc', fun p H2 s2 e2 => ⟨p, keysL ds, rfl, SqL.of e2, by rw [kl]; exact ok.len, fun H3 s3 => ?_⟩⟩
    have q1 := q H3 ((s1.trans s2).trans s3)
    unfold arowsD at q1
    rw [cc', Bool.true_and] at q1
    exact q1
  · have q1 := q H1 s1
    unfold arowsD at q1
    rw [show namedD d = false by simpa using cc, Bool.false_and] at q1
    exact q1
theorem ok_are_props : FnOk P w K mg base CX0 5 Z.f_are_props Z.fd_are_props ["pairs"] (spTell K apropsD) := by
  refine Z.D_are_props.F.ok sc_are_props (fun vs H Q E h => ?_) (fun cdv A outer s H vs Q E hr h => ?_)
  · obtain ⟨v, d, rfl, _⟩ := h
    rfl
  obtain ⟨v, d, rfl, hd, ok, q⟩ := h
  refine ⟨_, (pss_one (ps_ret (pe_and (pe_call (ok_are_rows Z) (hr.mono (by decide)) (by rfl) Z.D_are_rows.m Z.D_are_rows.F.kp Z.D_are_rows.b .nil pass0 (pa_cons (pv 0) pa_nil)) (pe_one (pe_callB (allK (K := K) rfl) (by rfl) Z.T.all (by decide +kernel) (pa_cons (pe_lc (own := [("pair", 1)]) (g := gName 1) (tt := tYes) rfl sc_are_props.nd (pi_tup (pv 0)) (blkOk_by (own := [("pair", 1)]) (N := ["pairs", "pair"]) (sc := defScope s_are_props) (by decide +kernel)) (fun _ _ _ _ _ => (pg_name (i := 1) sc_are_props.nd rfl (.inl rfl))) (fun _ _ _ _ _ => pts_nil) (fun _ _ _ _ _ => (pe_call (ok_is_value Z) (hr.mono (by decide)) (by rfl) Z.D_is_value.m Z.D_is_value.F.kp Z.D_is_value.b .nil pass0 (pa_cons (pe_ix (ixT (K := K)) (pv 1) pe_int (fun _ _ => rfl)) pa_nil)))) pa_nil)))))), ?_⟩
  refine ⟨_, rfl, v, d, rfl, hd, ok, fun H1 s1 => ⟨_, rfl, ite2 (fun cc => ?_) (fun cc => ?_)⟩⟩
  · have cc' : arowsD d = true := by simpa using cc
    obtain ⟨ds, rfl, np'⟩ := arows_tup cc'
    have lenp := ok.len
    cases Dp_mono s1 hd with
    | @tup a2 ys _ hs2 ha2 =>
    refine ⟨_, rfl, a2, rfl, ⟨ys, hs2⟩, fun D nD => lc_items (fun e => valueD (sndD e)) nD hs2 ha2 lenp (fun _ => rfl) (fun v e H8 q8 he hv _ k => ?_) fun H8 s8 e8 => ?_⟩
    · obtain ⟨x, b, rfl, _⟩ := named_is (List.all_eq_true.mp np' e he)
      have okb := (ok.item he).item (List.mem_cons_of_mem (PyData.str x) (List.mem_cons_self (a := b) (l := [])))
      cases hv with
      | @tup a4 us _ hs4 ha4 =>
      cases ha4 with
      | cons u0 u1 =>
      cases u1 with
      | cons u1 u2 =>
      cases u2
      exact ⟨_, rfl, a4, _, 1, _, rfl, rfl, hs4, rfl, _, b, rfl, u1, okb, k⟩
    refine ⟨D, _, rfl, SqL.of e8, ?_⟩
    rw [all_map]
    have q1 := q H8 (s1.trans s8)
    unfold apropsD at q1
    rw [cc', Bool.true_and] at q1
    exact q1
  · have q1 := q H1 s1
    unfold apropsD at q1
    rw [show arowsD d = false by simpa using cc, Bool.false_and] at q1
    exact q1
theorem tree_step (n kk : Nat) (spR : Sp) (ih : FnOk P w K mg base CX0 kk Z.f_is_tree_within Z.fd_is_tree_within ["value", "levels"] spR) (hk : kk ≤ n + 5) (hsp : ∀ n', n = n' + 1 → spR = spTree K n') : FnOk P w K mg base CX0 (n+6) Z.f_is_tree_within Z.fd_is_tree_within ["value", "levels"] (spTree K n) := by
  refine Z.D_is_tree_within.F.ok sc_is_tree_within (fun vs H Q E h => ?_) (fun cdv A outer s H vs Q E hr h => ?_)
  · obtain ⟨v, d, rfl, _⟩ := h
    rfl
  obtain ⟨v, d, rfl, hd, ok, q⟩ := h
  have hr1 : Room 1 (A.deeper (envOfC "is_tree_within" (defScope s_is_tree_within) s.heap.objs.size Z.f_is_tree_within cdv)) := hr.mono (by omega)
  have hr3 : Room 3 (A.deeper (envOfC "is_tree_within" (defScope s_is_tree_within) s.heap.objs.size Z.f_is_tree_within cdv)) := hr.mono (by omega)
  have hr5 : Room 5 (A.deeper (envOfC "is_tree_within" (defScope s_is_tree_within) s.heap.objs.size Z.f_is_tree_within cdv)) := hr.mono (by omega)
  have hrk : Room kk (A.deeper (envOfC "is_tree_within" (defScope s_is_tree_within) s.heap.objs.size Z.f_is_tree_within cdv)) := hr.mono hk
  refine ⟨_, (pss_cons (ps_if (PW.pt (pw_or (pt_cmpR op_lt (pv 1) pe_int (nomark _)) (pw_or1 (pt_not (pt_val (pe_call (ok_is_pair Z) hr1 (by rfl) Z.D_is_pair.m Z.D_is_pair.F.kp Z.D_is_pair.b .nil pass0 (pa_cons (pv 0) pa_nil))))))) (pss_one (ps_ret pe_bl)) pss_nil)
    (pss_cons (ps_asg (pv 0) (pg_tup rfl (pgs_cons (pg_name (i := 2) sc_is_tree_within.nd rfl (.inl rfl)) (pgs_cons (pg_name (i := 3) sc_is_tree_within.nd rfl (.inl rfl)) pgs_nil))))
    (pss_cons (ps_if (PW.pt (pw_or (pt_not (pt_val (pe_call (ok_are_props Z) hr5 (by rfl) Z.D_are_props.m Z.D_are_props.F.kp Z.D_are_props.b .nil pass0 (pa_cons (pv 2) pa_nil)))) (pw_or1 (pt_not (pt_val (pe_call (ok_are_rows Z) hr3 (by rfl) Z.D_are_rows.m Z.D_are_rows.F.kp Z.D_are_rows.b .nil pass0 (pa_cons (pv 3) pa_nil))))))) (pss_one (ps_ret pe_bl)) pss_nil)
    (pss_one (ps_ret (pe_callB (allK (K := K) rfl) (by rfl) Z.T.all (by decide +kernel) (pa_cons (pe_lc (own := [("pair", 4)]) (g := gName 4) (tt := tYes) rfl sc_is_tree_within.nd (pi_tup (pv 3)) (blkOk_by (own := [("pair", 4)]) (N := ["value", "levels", "props", "children", "pair"]) (sc := defScope s_is_tree_within) (by decide +kernel)) (fun _ _ _ _ _ => (pg_name (i := 4) sc_is_tree_within.nd rfl (.inl rfl))) (fun _ _ _ _ _ => pts_nil) (fun _ _ _ _ _ => (pe_call ih hrk (by rfl) Z.D_is_tree_within.m Z.D_is_tree_within.F.kp Z.D_is_tree_within.b .nil pass0 (pa_cons (pe_ix (ixT (K := K)) (pv 4) pe_int (fun _ _ => rfl)) (pa_cons (pe_op op_sub (pv 1) pe_int) pa_nil))))) pa_nil))))))), ?_⟩
  cases n with
  | zero => exact ⟨_, rfl, _, _, rfl, rfl, _, rfl, iteT (q H (Same.refl H))⟩
  | succ n =>
  obtain rfl := hsp n rfl
  have hlev : ¬ (((n + 1 : Nat) : Int) - 1 < 0) := by omega
  refine ⟨_, rfl, _, _, rfl, rfl, _, rfl, ite2 (fun c => absurd (of_decide_eq_true c) hlev) (fun _ => ?_)⟩
  refine ⟨_, rfl, v, d, rfl, hd, ok, fun H1 s1 => ⟨_, rfl, ite2 (fun cc => ?_) (fun cc => ?_)⟩⟩
  · have q1 := q H1 s1
    rw [treeD_not (by simpa using cc)] at q1
    exact q1
  have hp : pairD d = true := by simpa using cc
  clear cc
  obtain ⟨p, c, rfl⟩ := pair_is hp
  cases hd with
  | @tup a xs _ hs ha =>
  cases ha with
  | @cons vp _ _ _ h0 h1 =>
  cases h1 with
  | @cons vc _ _ _ h1 h2 =>
  cases h2
  have okp := ok.item (List.mem_cons_self (a := p) (l := [c]))
  have okc := ok.item (List.mem_cons_of_mem p (List.mem_cons_self (a := c) (l := [])))
  have q0 : ∀ H', Same H H' → Q (.bl (apropsD p && (arowsD c && (itemsD c).all fun e => treeD n (sndD e)))) H' := fun H' s' => by
    have e : treeD (n + 1) (.tuple [p, c]) = (apropsD p && (arowsD c && (itemsD c).all fun e => treeD n (sndD e))) := tree_arr _ _ _ _ _ _
    rw [← e]
    exact q H' s'
  refine ⟨_, rfl, a, _, rfl, Same.seqT s1 hs, rfl, vp, [vc], rfl, vc, [], rfl, rfl, ?_⟩
  have g0 := Dp_mono s1 h0
  have g1 := Dp_mono s1 h1
  refine ⟨_, rfl, vp, p, rfl, g0, okp, fun H2 s2 => ⟨_, rfl, ite2 (fun c1 => ?_) (fun c1 => ?_)⟩⟩
  · have q1 := q0 H2 (s1.trans s2)
    rw [show apropsD p = false by simpa using c1, Bool.false_and] at q1
    exact q1
  have np : apropsD p = true := by simpa using c1
  refine ⟨_, rfl, vc, c, rfl, Dp_mono s2 g1, okc, fun H3 s3 => ⟨_, rfl, ite2 (fun c2 => ?_) (fun c2 => ?_)⟩⟩
  · have q1 := q0 H3 ((s1.trans s2).trans s3)
    rw [show arowsD c = false by simpa using c2, Bool.false_and, Bool.and_false] at q1
    exact q1
  have nc : arowsD c = true := by simpa using c2
  have w3 := (s1.trans s2).trans s3
  rw [np, nc, Bool.true_and, Bool.true_and] at q0
  obtain ⟨cs, rfl, nc'⟩ := arows_tup nc
  have y1 := Dp_mono (s2.trans s3) g1
  have lenc := okc.len
  have q3 : ∀ H', Same H H' → Q (.bl (cs.all fun e => treeD n (sndD e))) H' := q0
  clear g0 g1 h0 h1
  cases y1 with
  | @tup a3 zs _ hs3 ha3 =>
  -- the children
  refine ⟨_, rfl, a3, rfl, ⟨zs, hs3⟩, fun D2 nD2 => lc_items (fun e => treeD n (sndD e)) nD2 (hs3) (ha3) lenc (fun _ => rfl) (fun v e H9 q9 he hv _ k => ?_) fun H9 s9 e9 => ?_⟩
  · obtain ⟨x, b, rfl, _⟩ := named_is (List.all_eq_true.mp nc' e he)
    have okb := (okc.item he).item (List.mem_cons_of_mem (PyData.str x) (List.mem_cons_self (a := b) (l := [])))
    cases hv with
    | @tup a4 us _ hs4 ha4 =>
    cases ha4 with
    | cons u0 u1 =>
    cases u1 with
    | cons u1 u2 =>
    cases u2
    refine ⟨_, rfl, a4, _, 1, _, rfl, rfl, hs4, rfl, _, rfl, _, _, rfl, rfl, _, b, ?_, u1, okb, k⟩
    show [_, V.int (((n + 1 : Nat) : Int) - 1 - 1)] = [_, V.int ((n : Int) - 1)]
    rw [show ((n + 1 : Nat) : Int) - 1 - 1 = (n : Int) - 1 by omega]
  · refine ⟨D2, _, rfl, SqL.of e9, ?_⟩
    rw [all_map]
    exact q3 H9 ((w3).trans s9)
theorem ok_is_tree_within (n : Nat) : FnOk P w K mg base CX0 (n+6) Z.f_is_tree_within Z.fd_is_tree_within ["value", "levels"] (spTree K n) := by
  induction n with
  | zero => exact tree_step Z 0 0 (fun _ _ _ _ => False) ⟨fun _ _ _ _ h => h.elim, fun _ _ _ _ _ _ _ _ _ _ _ _ _ h => h.elim⟩ (Nat.zero_le _) (fun m' h => nomatch h)
  | succ n ih => exact tree_step Z (n + 1) (n + 6) _ ih (Nat.le_refl _) fun m' h => by rw [Nat.succ.inj h]
theorem ok_is_tree : FnOk P w K mg base CX0 16 Z.f_is_tree Z.fd_is_tree ["value"] (spTell K (treeD 9)) := by
  refine Z.D_is_tree.F.ok sc_is_tree (fun vs H Q E h => ?_) (fun cdv A outer s H vs Q E hr h => ?_)
  · obtain ⟨v, d, rfl, _⟩ := h
    rfl
  obtain ⟨v, d, rfl, hd, ok, q⟩ := h
  refine ⟨_, (pss_one (ps_ret (pe_call (ok_is_tree_within Z 9) (hr.mono (by decide)) (by rfl) Z.D_is_tree_within.m Z.D_is_tree_within.F.kp Z.D_is_tree_within.b .nil pass0 (pa_cons (pv 0) (pa_cons (pe_glob (v := .int 8) (by rfl) Z.g_LONGEST_PATH ⟨_, rfl⟩) pa_nil))))), ?_⟩
  exact ⟨_, rfl, v, d, rfl, hd, ok, q⟩

/-! ### _law_is_tree -/
theorem ltree_step (n kk : Nat) (spR : Sp) (ih : FnG P w K mg base CX0 kk Z.f__law_is_tree Z.fd__law_is_tree ["_law_thing_here", "_law_levels"] spR) (hk : kk ≤ n + 5) (hsp : ∀ n', n = n' + 1 → spR = spTree K n') : FnG P w K mg base CX0 (n+6) Z.f__law_is_tree Z.fd__law_is_tree ["_law_thing_here", "_law_levels"] (spTree K n) := by
  refine Fun_okG Z.D__law_is_tree.F sc__law_is_tree (fun vs H Q E h => ?_) (fun cdv A outer s H vs Q E hG hr h => ?_)
  · obtain ⟨v, d, rfl, _⟩ := h
    rfl
  obtain ⟨v, d, rfl, hd, ok, q⟩ := h
  have hr1 : Room 1 (A.deeper (envOfC "_law_is_tree" (defScope s__law_is_tree) s.heap.objs.size Z.f__law_is_tree cdv)) := hr.mono (by omega)
  have hr3 : Room 3 (A.deeper (envOfC "_law_is_tree" (defScope s__law_is_tree) s.heap.objs.size Z.f__law_is_tree cdv)) := hr.mono (by omega)
  have hrk : Room kk (A.deeper (envOfC "_law_is_tree" (defScope s__law_is_tree) s.heap.objs.size Z.f__law_is_tree cdv)) := hr.mono hk
  refine ⟨_, (pss_cons (ps_if (PW.pt (pw_or (pt_cmpR op_lt (pv 1) pe_int (nomark _)) (pw_or (pt_not (pt_val (pe_callB (isiK (K := K)) (by rfl) Z.T.isinstance (by decide +kernel) (pa_cons (pv 0) (pa_cons (pe_bltn (v := .ty "tuple") (u := .type "tuple") (by rfl) Z.T.tuple (by decide +kernel) rfl) pa_nil))))) (pw_or1 (pt_cmpR op_ne (pe_callB (lenK (K := K)) (by rfl) Z.T.len (by decide +kernel) (pa_cons (pv 0) pa_nil)) pe_int (nomark _)))))) (pss_one (ps_ret pe_bl)) pss_nil)
    (pss_cons (ps_for PassesOwn.never rfl (pi_tup (pv 0)) (pg_name (i := 2) sc__law_is_tree.nd rfl (.inl rfl)) (pss_cons (ps_set (i := 3) sc__law_is_tree.nd rfl (.inl rfl) pe_str)
    (pss_one (ps_for PassesOwn.never rfl (pi_either (K := K) (pe_ifExp (pt_val (pe_callB (isiK (K := K)) (by rfl) Z.T.isinstance (by decide +kernel) (pa_cons (pv 2) (pa_cons (pe_bltn (v := .ty "tuple") (u := .type "tuple") (by rfl) Z.T.tuple (by decide +kernel) rfl) pa_nil)))) (pv 2) (pe_lst (pa_cons pe_non pa_nil)))) (pg_name (i := 4) sc__law_is_tree.nd rfl (.inl rfl)) (pss_cons (ps_if (PW.pt (pw_or (pt_not (pt_val (pe_callB (isiK (K := K)) (by rfl) Z.T.isinstance (by decide +kernel) (pa_cons (pv 4) (pa_cons (pe_bltn (v := .ty "tuple") (u := .type "tuple") (by rfl) Z.T.tuple (by decide +kernel) rfl) pa_nil))))) (pw_or (pt_cmpR op_ne (pe_callB (lenK (K := K)) (by rfl) Z.T.len (by decide +kernel) (pa_cons (pv 4) pa_nil)) pe_int (nomark _)) (pw_or (pt_not (pt_val (pe_call (ok__law_is_name Z) hr1 (by rfl) Z.D__law_is_name.m Z.D__law_is_name.F.kp Z.D__law_is_name.b .nil pass0 (pa_cons (pe_ix (ixT (K := K)) (pv 4) pe_int (fun _ _ => rfl)) pa_nil)))) (pw_or1 (pt_not (pt_cmpR op_lt_str (pv 3) (pe_ix (ixT (K := K)) (pv 4) pe_int (fun _ _ => rfl)) (nomark _)))))))) (pss_one (ps_ret pe_bl)) pss_nil)
    (pss_one (ps_set (i := 3) sc__law_is_tree.nd rfl (.inl rfl) (pe_ix (ixT (K := K)) (pv 4) pe_int (fun _ _ => rfl)))))))))
    (pss_cons (ps_if (pt_not (pt_val (pe_callB (allK (K := K) rfl) (by rfl) Z.T.all (by decide +kernel) (pa_cons (pe_lc (own := [("_law_pair", 4)]) (g := gName 4) (tt := tYes) rfl sc__law_is_tree.nd (pi_tup (pe_ix (ixT (K := K)) (pv 0) pe_int (fun _ _ => rfl))) (blkOk_by (own := [("_law_pair", 4)]) (N := ["_law_thing_here", "_law_levels", "_law_pairs", "_law_last", "_law_pair"]) (sc := defScope s__law_is_tree) (by decide +kernel)) (fun _ _ _ _ _ => (pg_name (i := 4) sc__law_is_tree.nd rfl (.inl rfl))) (fun _ _ _ _ _ => pts_nil) (fun _ _ _ _ _ => (pe_callG (ok__law_is_value Z) hG hr3 (by rfl) Z.D__law_is_value.m Z.D__law_is_value.F.kp Z.D__law_is_value.b .nil pass0 (pa_cons (pe_ix (ixT (K := K)) (pv 4) pe_int (fun _ _ => rfl)) pa_nil)))) pa_nil)))) (pss_one (ps_ret pe_bl)) pss_nil)
    (pss_one (ps_ret (pe_callB (allK (K := K) rfl) (by rfl) Z.T.all (by decide +kernel) (pa_cons (pe_lc (own := [("_law_pair", 4)]) (g := gName 4) (tt := tYes) rfl sc__law_is_tree.nd (pi_tup (pe_ix (ixT (K := K)) (pv 0) pe_int (fun _ _ => rfl))) (blkOk_by (own := [("_law_pair", 4)]) (N := ["_law_thing_here", "_law_levels", "_law_pairs", "_law_last", "_law_pair"]) (sc := defScope s__law_is_tree) (by decide +kernel)) (fun _ _ _ _ _ => (pg_name (i := 4) sc__law_is_tree.nd rfl (.inl rfl))) (fun _ _ _ _ _ => pts_nil) (fun _ _ _ _ _ => (pe_callG ih hG hrk (by rfl) Z.D__law_is_tree.m Z.D__law_is_tree.F.kp Z.D__law_is_tree.b .nil pass0 (pa_cons (pe_ix (ixT (K := K)) (pv 4) pe_int (fun _ _ => rfl)) (pa_cons (pe_op op_sub (pv 1) pe_int) pa_nil))))) pa_nil))))))), ?_⟩
  cases n with
  | zero => exact ⟨_, rfl, _, _, rfl, rfl, _, rfl, iteT (q H (Same.refl H))⟩
  | succ n =>
  obtain rfl := hsp n rfl
  have hlev : ¬ (((n + 1 : Nat) : Int) - 1 < 0) := by omega
  refine ⟨_, rfl, _, _, rfl, rfl, _, rfl, ite2 (fun c => absurd (of_decide_eq_true c) hlev) (fun _ => ?_)⟩
  refine ⟨_, rfl, _, _, _, _, isTup d, rfl, .ty "tuple", Dp_type hd, kit_tup hd, _, rfl, ite2 (fun cc => ?_) (fun cc => ?_)⟩
  · have q1 := q H (Same.refl H)
    rw [treeD_not (by cases d <;> first | rfl | cases cc)] at q1
    exact q1
  obtain ⟨ds, rfl⟩ : ∃ ds, d = .tuple ds := by
    cases d with
    | tuple ds => exact ⟨ds, rfl⟩
    | _ => exact absurd rfl cc
  cases hd with
  | @tup a xs _ hs ha =>
  have hl := DpAll_len ha
  refine ⟨_, rfl, a, xs, rfl, .inr hs, rfl, _, rfl, ite2 (fun c => ?_) (fun c => ?_)⟩
  · have q1 := q H (Same.refl H)
    rw [treeD_not (not_pair (by rw [← hl]; exact ne_two c))] at q1
    exact q1
  obtain ⟨vp, vc, p, cd, rfl, rfl, h0, h1⟩ := two_of ha (is_two c)
  clear c cc ha hl
  have okp := ok.item (List.mem_cons_self (a := p) (l := [cd]))
  have okc := ok.item (List.mem_cons_of_mem p (List.mem_cons_self (a := cd) (l := [])))
  have q0 : ∀ H', Same H H' → Q (.bl ((partD p && partD cd) && (((itemsD p).all fun e => valueD (sndD e)) && ((itemsD cd).all fun e => treeD n (sndD e))))) H' := fun H' s' => by
    have := q H' s'
    rw [treeD_parts] at this
    exact this
  have bad : ∀ (i : Nat) (e : PyData) H', [p, cd][i]? = some e → partD e = false → Same H H' → Q (.bl false) H' := by
    intro i e H' hi he s'
    have q1 := q0 H' s'
    match i, hi with
    | 0, hi =>
      obtain rfl := Option.some.inj hi
      rw [he, Bool.false_and, Bool.false_and] at q1
      exact q1
    | 1, hi =>
      obtain rfl := Option.some.inj hi
      rw [he, Bool.and_false, Bool.false_and] at q1
      exact q1
  -- for pairs in thing
  refine ⟨_, rfl, a, rfl, ⟨_, hs⟩, for_tup (xs := [vp, vc]) (fun i σ H' => (∃ x2 x3 x4, σ = [some (.ref a), some (.int (((n + 1 : Nat) : Int) - 1)), x2, x3, x4]) ∧ Same H H' ∧ ∀ e ∈ [p, cd].take i, partD e = true) ⟨⟨_, _, _, rfl⟩, Same.refl _, fun e he => nomatch he⟩ (fun i σ H' _ pv => Same.seqT pv.2.1 hs) ?_ ?_⟩
  · rintro i v σ H1 hv ⟨⟨x2, x3, x4, rfl⟩, s1, good⟩
    obtain ⟨e, he, hve⟩ := DpAll_get i (DpAll_mono s1 (.cons h0 (.cons h1 .nil))) hv
    have oke : Ok e := by
      have := List.mem_of_getElem? he
      simp only [List.mem_cons, List.not_mem_nil, or_false] at this
      rcases this with rfl | rfl
      · exact okp
      · exact okc
    refine ⟨_, rfl, _, _, _, _, isTup e, rfl, .ty "tuple", Dp_type hve, kit_tup hve, _, rfl, ite2 (fun ct => ?_) (fun ct => ?_)⟩
    · obtain ⟨es, rfl⟩ : ∃ ds, e = .tuple ds := by
        cases e with
        | tuple ds => exact ⟨ds, rfl⟩
        | _ => cases ct
      cases hve with
      | @tup a2 ys _ hs2 ha2 =>
      have hl2 := DpAll_len ha2
      refine ⟨_, rfl, a2, rfl, .inr ⟨⟨ys, hs2⟩, for_tup (xs := ys) (fun j σ H' => (∃ x4, σ = [some (.ref a), some (.int (((n + 1 : Nat) : Int) - 1)), some (.ref a2), some (.str (lastK (Str.ofString "") (es.take j))), x4]) ∧ Same H1 H' ∧ loopD (Str.ofString "") (es.take j) = true) ⟨⟨_, rfl⟩, Same.refl _, rfl⟩ (fun j σ H' _ pv => Same.seqT pv.2.1 hs2) ?_ ?_⟩⟩
      · rintro j u σ H2 hu ⟨⟨x4, rfl⟩, s2, lp⟩
        obtain ⟨f, hf, huf⟩ := DpAll_get j (DpAll_mono s2 ha2) hu
        have okf := oke.item (List.mem_of_getElem? hf)
        have s12 := s1.trans s2
        have stop : ∀ H', Same H H' → stepD (lastK (Str.ofString "") (es.take j)) f = false → Q (.bl false) H' := fun H' s' hst =>
          bad i _ H' he (by rw [part_tup]; exact loop_stop hf hst) s'
        have stopN : ∀ H', Same H H' → nmD f = false → Q (.bl false) H' := fun H' s' hn => stop H' s' (by unfold stepD; rw [hn, Bool.false_and])
        refine ⟨_, rfl, _, _, _, _, isTup f, rfl, .ty "tuple", Dp_type huf, kit_tup huf, _, rfl, ite2 (fun c1 => ?_) (fun c1 => ?_)⟩
        · exact stopN H2 s12 (by cases f <;> first | rfl | cases c1)
        obtain ⟨fs, rfl⟩ : ∃ ds, f = .tuple ds := by
          cases f with
          | tuple ds => exact ⟨ds, rfl⟩
          | _ => exact absurd rfl c1
        cases huf with
        | @tup a3 zs _ hs3 ha3 =>
        have hl3 := DpAll_len ha3
        refine ⟨_, rfl, a3, zs, rfl, .inr hs3, rfl, _, rfl, ite2 (fun c2 => ?_) (fun c2 => ?_)⟩
        · exact stopN H2 s12 (by unfold nmD; rw [not_pair (by rw [← hl3]; exact ne_two c2), Bool.false_and])
        obtain ⟨v0, v1, g0, g1, rfl, rfl, k0, k1⟩ := two_of ha3 (is_two c2)
        have okg := okf.item (List.mem_cons_self (a := g0) (l := [g1]))
        refine ⟨_, rfl, a3, _, 0, v0, rfl, rfl, hs3, rfl, v0, g0, rfl, k0, okg, fun H3 s3 => ⟨_, rfl, ite2 (fun c3 => ?_) (fun c3 => ?_)⟩⟩
        · have hn : nameD g0 = false := by simpa using c3
          exact stopN H3 (s12.trans s3) hn
        have hn : nameD g0 = true := by simpa using c3
        obtain ⟨x, rfl⟩ : ∃ x, g0 = .str x := by
          cases g0 with
          | str x => exact ⟨x, rfl⟩
          | _ => cases hn
        cases k0
        have hs3' := Same.seqT s3 hs3
        refine ⟨_, rfl, _, rfl, a3, _, 0, _, rfl, rfl, hs3', rfl, _, _, rfl, rfl, _, rfl, ite2 (fun c4 => ?_) (fun c4 => ?_)⟩
        · have hst : stepD (lastK (Str.ofString "") (es.take j)) (.tuple [.str x, g1]) = false := by
            have c5 : decide ((lastK (Str.ofString "") (es.take j)).cps.toList < x.cps.toList) = false := by simpa using c4
            unfold stepD
            rw [show keyD (.tuple [.str x, g1]) = x from rfl, c5, Bool.and_false]
          exact stop H3 (s12.trans s3) hst
        · have c5 : decide ((lastK (Str.ofString "") (es.take j)).cps.toList < x.cps.toList) = true := by simpa using c4
          refine ⟨_, rfl, a3, _, 0, _, rfl, rfl, hs3', rfl, ⟨some (.ref a3), ?_⟩, s2.trans s3, ?_⟩
          · rw [take_snoc hf, lastK_app]
            rfl
          · rw [loop_next hf, lp, Bool.true_and]
            unfold stepD
            rw [show keyD (.tuple [.str x, g1]) = x from rfl, c5, Bool.and_true]
            exact hn
      · rintro σ H2 ⟨⟨x4, rfl⟩, s2, lp⟩
        rw [hl2, List.take_of_length_le (Nat.le_refl _)] at lp
        refine ⟨⟨_, _, _, rfl⟩, s1.trans s2, fun e2 he2 => ?_⟩
        rw [take_snoc he] at he2
        rcases List.mem_append.mp he2 with m | m
        · exact good e2 m
        · rw [List.mem_singleton.mp m, part_tup]
          exact lp
    · have hne : partD e = false := by
        unfold partD
        cases e with
        | tuple ds => exact absurd rfl ct
        | _ => rfl
      refine ⟨(by show 1 ≤ sizeLine; decide), fun p1 n1 => ⟨p1, rfl, .inl ⟨⟨_, SqL.of upd_same⟩, for_list (xs := [V.non]) (fun j σ H' => j = 0 ∧ (∃ x4, σ = [some (.ref a), some (.int (((n + 1 : Nat) : Int) - 1)), some v, some (.str (Str.ofString "")), x4]) ∧ H' = upd H1 p1 (.lst [V.non])) ⟨rfl, ⟨_, rfl⟩, rfl⟩ (fun j σ H' _ pv => by rw [pv.2.2]; exact SqL.of upd_same) ?_ ?_⟩⟩⟩
      · rintro j u σ H2 hu ⟨rfl, ⟨x4, rfl⟩, rfl⟩
        obtain rfl : u = V.non := (Option.some.inj hu).symm
        have hno : Dp K (upd H1 p1 (.lst [V.non])) V.non .none := .non
        refine ⟨_, rfl, _, _, _, _, isTup .none, rfl, .ty "tuple", Dp_type hno, kit_tup hno, _, rfl, iteT ?_⟩
        exact bad i e _ he hne (s1.trans (same_new n1 _))
      · rintro σ H2 ⟨hj, _⟩
        cases hj
  · rintro σ H1 ⟨⟨x2, x3, x4, rfl⟩, s1, good⟩
    have pp : partD p = true := good p List.mem_cons_self
    have pc : partD cd = true := good cd (List.mem_cons_of_mem _ List.mem_cons_self)
    rw [pp, pc, Bool.true_and, Bool.true_and] at q0
    have np : namedD p = true := (Bool.and_eq_true_iff.mp pp).1
    have nc : namedD cd = true := (Bool.and_eq_true_iff.mp pc).1
    obtain ⟨ps, rfl⟩ := named_tup np
    obtain ⟨cs, rfl⟩ := named_tup nc
    have np' : ps.all nmD = true := np
    have nc' : cs.all nmD = true := nc
    have y0 := Dp_mono s1 h0
    have y1 := Dp_mono s1 h1
    clear h0 h1
    cases y0 with
    | @tup a2 ys _ hs2 ha2 =>
    cases y1 with
    | @tup a3 zs _ hs3 ha3 =>
    refine ⟨_, rfl, a, _, 0, _, rfl, rfl, Same.seqT s1 hs, rfl, a2, rfl, ⟨ys, hs2⟩, fun D nD => lc_items (fun e => valueD (sndD e)) nD hs2 ha2 okp.len (fun _ => rfl) (fun v e H8 q8 he hv _ k => ?_) fun H8 s8 e8 => ?_⟩
    · obtain ⟨x, b, rfl, _⟩ := named_is (List.all_eq_true.mp np' e he)
      have okb := (okp.item he).item (List.mem_cons_of_mem (PyData.str x) (List.mem_cons_self (a := b) (l := [])))
      cases hv with
      | @tup a4 us _ hs4 ha4 =>
      cases ha4 with
      | cons u0 u1 =>
      cases u1 with
      | cons u1 u2 =>
      cases u2
      exact ⟨_, rfl, a4, _, 1, _, rfl, rfl, hs4, rfl, _, b, rfl, u1, okb, k⟩
    refine ⟨D, _, rfl, SqL.of e8, _, rfl, ?_⟩
    rw [all_map]
    refine ite2 (fun c5 => ?_) (fun c5 => ?_)
    · have q1 := q0 H8 (s1.trans s8)
      rw [show ((itemsD (.tuple ps)).all fun e => valueD (sndD e)) = false by simpa [itemsD] using c5, Bool.false_and] at q1
      exact q1
    have vp' : ((itemsD (.tuple ps)).all fun e => valueD (sndD e)) = true := by simpa [itemsD] using c5
    rw [vp', Bool.true_and] at q0
    refine ⟨_, rfl, a, _, 1, _, rfl, rfl, Same.seqT (s1.trans s8) hs, rfl, a3, rfl, ⟨zs, Same.seqT s8 hs3⟩, fun D2 nD2 => lc_items (fun e => treeD n (sndD e)) nD2 (Same.seqT s8 hs3) (DpAll_mono s8 ha3) okc.len (fun _ => rfl) (fun v e H9 q9 he hv _ k => ?_) fun H9 s9 e9 => ?_⟩
    · obtain ⟨x, b, rfl, _⟩ := named_is (List.all_eq_true.mp nc' e he)
      have okb := (okc.item he).item (List.mem_cons_of_mem (PyData.str x) (List.mem_cons_self (a := b) (l := [])))
      cases hv with
      | @tup a4 us _ hs4 ha4 =>
      cases ha4 with
      | cons u0 u1 =>
      cases u1 with
      | cons u1 u2 =>
      cases u2
      refine ⟨_, rfl, a4, _, 1, _, rfl, rfl, hs4, rfl, _, rfl, _, _, rfl, rfl, _, b, ?_, u1, okb, k⟩
      show [_, V.int (((n + 1 : Nat) : Int) - 1 - 1)] = [_, V.int ((n : Int) - 1)]
      rw [show ((n + 1 : Nat) : Int) - 1 - 1 = (n : Int) - 1 by omega]
    · refine ⟨D2, _, rfl, SqL.of e9, ?_⟩
      rw [all_map]
      exact q0 H9 ((s1.trans s8).trans s9)
theorem ok__law_is_tree (n : Nat) : FnG P w K mg base CX0 (n+6) Z.f__law_is_tree Z.fd__law_is_tree ["_law_thing_here", "_law_levels"] (spTree K n) := by
  induction n with
  | zero => exact ltree_step Z 0 0 (fun _ _ _ _ => False) ⟨fun _ _ _ _ h => h.elim, fun _ _ _ _ _ _ _ _ _ _ _ _ _ _ h => h.elim⟩ (Nat.zero_le _) (fun m' h => nomatch h)
  | succ n ih => exact ltree_step Z (n + 1) (n + 6) _ ih (Nat.le_refl _) fun m' h => by rw [Nat.succ.inj h]

/-! ### _law_some_names -/
theorem ok__law_some_names : FnOk P w K mg base CX0 3 Z.f__law_some_names Z.fd__law_some_names ["_law_stream", "_law_many"] spSome := by
  refine Z.D__law_some_names.F.ok sc__law_some_names (fun vs H Q E h => ?_) (fun cdv A outer s H vs Q E hr h => ?_)
  · obtain ⟨S, C, n, m, rfl, _⟩ := h
    rfl
  obtain ⟨S, C, n, m, rfl, hm, st, hn, q⟩ := h
  refine ⟨_, (pss_cons (ps_set (i := 2) sc__law_some_names.nd rfl (.inl rfl) (pe_lst pa_nil))
    (pss_cons (ps_for PassesOwn.never rfl (pi_range1 (by rfl) Z.T.range (pa_cons (pv 1) pa_nil)) (pg_name (i := 3) sc__law_some_names.nd rfl (.inl rfl)) (pss_cons (ps_set (i := 4) sc__law_some_names.nd rfl (.inl rfl) (pe_call (ok__law_letters Z) (hr.mono (by decide)) (by rfl) Z.D__law_letters.m Z.D__law_letters.F.kp Z.D__law_letters.b .nil pass0 (pa_cons (pv 0) (pa_cons (pe_ix (ixL (K := K)) (pe_lst (pa_cons pe_int (pa_cons pe_int (pa_cons pe_int (pa_cons pe_int pa_nil))))) (pe_call (ok__law_draw Z) (hr.mono (by decide)) (by rfl) Z.D__law_draw.m Z.D__law_draw.F.kp Z.D__law_draw.b .nil pass0 (pa_cons (pv 0) (pa_cons pe_int pa_nil))) (fun _ _ => rfl)) pa_nil))))
    (pss_one (ps_expr (pe_bm PySem.F.plainAttrs_list PySem.F.slot_list_extend PySem.F.type_list_extend mt_extend (pv 2) (pa_cons (pe_op op_rep (pe_lst (pa_cons (pv 4) pa_nil)) (pe_callTy call_int1 (by rfl) Z.T.int (by decide +kernel) (pa_cons (pe_cmpR op_notIn_seq (pv 4) (pv 2) rfl) pa_nil))) pa_nil))))))
    (pss_one (ps_ret (pe_callB cr_sortedS (by rfl) Z.T.sorted (by decide +kernel) (pa_cons (pv 2) pa_nil)))))), ?_⟩
  refine ⟨(by show 0 ≤ sizeLine; decide), fun F nF => ?_⟩
  have FS := st.neS nF
  have FC := st.neC nF
  refine ⟨_, rfl, (m : Int), rfl, by omega, by omega, for_range (lo := 0) (n := m) (fun i σ H' => (∃ x3 x4, σ = [some (.ref S), some (.int (m : Int)), some (.ref F), x3, x4]) ∧ ∃ ys : List Str, H' F = some (.lst (ys.map V.str)) ∧ okNames i ys ∧ Strm S C (n + i * 9) H' ∧ Fr S C H H')
    ⟨⟨none, none, rfl⟩, [], upd_same, ⟨Nat.le_refl _, fun _ h => nomatch h⟩, by rw [Nat.zero_mul]; exact st.lay nF _, Fr.lay nF _⟩ ?_ ?_⟩
  · rintro i σ H1 hi ⟨⟨x3, x4, rfl⟩, ys, e1, oy, s1, f1⟩
    have him : i * 9 + 9 ≤ m * 9 := by omega
    refine ⟨_, rfl, (by show 4 ≤ sizeLine; decide), fun p np => ⟨_, rfl, S, C, _, 4, rfl, s1.lay np _, by omega, by decide, by decide, fun r H2 r0 r1 s2 f2 => ?_⟩⟩
    obtain ⟨v, z1, z2⟩ := at_int (vs := [V.int 1, V.int 1, V.int 2, V.int 8]) r0 r1
    have hv : ∃ k : Nat, v = .int (k : Int) ∧ k ≤ 8 := by
      have := List.mem_of_getElem? z2
      simp only [List.mem_cons, List.not_mem_nil, or_false] at this
      rcases this with rfl | rfl | rfl | rfl
      · exact ⟨1, rfl, by decide⟩
      · exact ⟨1, rfl, by decide⟩
      · exact ⟨2, rfl, by decide⟩
      · exact ⟨8, rfl, by decide⟩
    obtain ⟨k, rfl, hk⟩ := hv
    have f12 : Fr S C H1 H2 := (Fr.lay np _).trans f2
    refine ⟨p, _, r, _, rfl, rfl, SqL.of (s1.keep np f2), z1, S, C, _, k, rfl, by omega, s2, by omega, fun x H3 hx az s3 f3 => ?_⟩
    have f13 := f12.trans f3
    have e3 : H3 F = some (.lst (ys.map V.str)) := cut_keep f13 FS FC e1
    refine ⟨_, rfl, .inl ⟨rfl, _, SqL.of e3⟩, _, rfl, (by show 1 ≤ sizeLine; decide), fun p1 n1 => ?_⟩
    have w4 := same_new n1 (.lst [V.str x])
    have e4 : (upd H3 p1 (.lst [V.str x])) p1 = some (.lst [V.str x]) := upd_same
    have s4 := s3.lay n1 (.lst [V.str x])
    generalize (upd H3 p1 (.lst [V.str x])) = H4 at w4 e4 s4 ⊢
    refine ⟨_, rfl, _, rfl, F, _, rfl, .inl (SqL.of (w4 _ _ e3)), rfl, flat_strs ys, .inr ⟨_, rfl, ?_⟩⟩
    generalize (if true = true then !inV (V.str x) (ys.map V.str) else inV (V.str x) (ys.map V.str)) = b
    have hlen := oy.1
    have big : ∀ {k : Nat}, k ≤ 1000 → k ≤ sizeLine := fun h => Nat.le_trans h (by decide)
    cases b with
    | true =>
      refine ⟨p1, 1, _, rfl, rfl, e4, by decide, by decide, (by show 1 * 1 ≤ sizeLine; decide), fun p2 n2 => ?_⟩
      have w5 := same_new n2 (.lst (List.replicate (1 : Int).toNat [V.str x]).flatten)
      have e5 : (upd H4 p2 (.lst (List.replicate (1 : Int).toNat [V.str x]).flatten)) p2 = some (.lst [V.str x]) := upd_same
      have s5 := s4.lay n2 (.lst (List.replicate (1 : Int).toNat [V.str x]).flatten)
      generalize (upd H4 p2 (.lst (List.replicate (1 : Int).toNat [V.str x]).flatten)) = H5 at w5 e5 s5 ⊢
      refine ⟨F, p2, _, _, rfl, rfl, w5 _ _ (w4 _ _ e3), e5, big (by rw [List.length_map]; show ys.length + 1 ≤ 1000; omega), ⟨_, _, rfl⟩, ys ++ [x], ?_, ⟨?_, ?_⟩, (s5.upd FS FC _).mono (by omega), Fr.upd (((f1.trans f13).trans (Fr.of_same w4)).trans (Fr.of_same w5)) nF⟩
      · rw [upd_same, List.map_append]
        rfl
      · rw [List.length_append]
        exact Nat.succ_le_succ hlen
      · intro y hy
        rcases List.mem_append.mp hy with hy | hy
        · exact oy.2 y hy
        · rw [List.mem_singleton.mp hy]
          exact ⟨by omega, az⟩
    | false =>
      refine ⟨p1, 0, _, rfl, rfl, e4, by decide, by decide, (by show 1 * 0 ≤ sizeLine; decide), fun p2 n2 => ?_⟩
      have w5 := same_new n2 (.lst (List.replicate (0 : Int).toNat [V.str x]).flatten)
      have e5 : (upd H4 p2 (.lst (List.replicate (0 : Int).toNat [V.str x]).flatten)) p2 = some (.lst []) := upd_same
      have s5 := s4.lay n2 (.lst (List.replicate (0 : Int).toNat [V.str x]).flatten)
      generalize (upd H4 p2 (.lst (List.replicate (0 : Int).toNat [V.str x]).flatten)) = H5 at w5 e5 s5 ⊢
      refine ⟨F, p2, _, _, rfl, rfl, w5 _ _ (w4 _ _ e3), e5, big (by rw [List.length_map]; show ys.length + 0 ≤ 1000; omega), ⟨_, _, rfl⟩, ys, ?_, ⟨Nat.le_succ_of_le hlen, oy.2⟩, (s5.upd FS FC _).mono (by omega), Fr.upd (((f1.trans f13).trans (Fr.of_same w4)).trans (Fr.of_same w5)) nF⟩
      rw [upd_same, List.append_nil]
  · rintro σ H1 ⟨⟨x3, x4, rfl⟩, ys, e1, oy, s1, f1⟩
    refine ⟨_, rfl, F, ys, rfl, SqL.of e1, ?_, fun zs p perm _ np => ?_⟩
    · have := oy.1
      omega
    · refine q p zs _ (Fr.ext s1 f1 p np) upd_same ⟨?_, fun y hy => oy.2 y (perm.mem_iff.mp hy)⟩ (s1.lay np _) (f1.trans (Fr.lay np _))
      rw [perm.length_eq]
      exact oy.1

/-! ### _law_props -/
theorem ok__law_props : FnOk P w K mg base CX0 4 Z.f__law_props Z.fd__law_props ["_law_stream"] (spGet K 210 (fun us => us = []) fun d => Nice 4 13000 d ∧ partD d = true ∧ (itemsD d).all (fun e => valueD (sndD e)) = true) := by
  refine Z.D__law_props.F.ok sc__law_props (fun vs H Q E h => ?_) (fun cdv A outer s H vs Q E hr h => ?_)
  · obtain ⟨S, C, n, us, rfl, rfl, _⟩ := h
    rfl
  obtain ⟨S, C, n, us, rfl, rfl, st, hn, q⟩ := h
  refine ⟨_, (pss_one (ps_ret (pe_callTy (tupK (K := K)) (by rfl) Z.T.tuple (by decide +kernel) (pa_cons (pe_lc (own := [("_law_name", 1)]) (g := gName 1) rfl sc__law_props.nd (pi_list (pe_lst (pa_cons pe_str (pa_cons pe_str (pa_cons pe_str (pa_cons pe_str pa_nil)))))) (blkOk_by (own := [("_law_name", 1)]) (N := ["_law_stream", "_law_name"]) (sc := defScope s__law_props) (by decide +kernel)) (fun _ _ _ _ _ => (pg_name (i := 1) sc__law_props.nd rfl (.inl rfl))) (fun _ _ _ _ _ => (pts_one (pt_cmpR op_eq (pe_call (ok__law_draw Z) (hr.mono (by decide)) (by rfl) Z.D__law_draw.m Z.D__law_draw.F.kp Z.D__law_draw.b .nil pass0 (pa_cons (pv 0) (pa_cons pe_int pa_nil))) pe_int (nomark _)))) (fun _ _ _ _ _ => (pe_tup (pa_cons (pv 1) (pa_cons (pe_call (ok__law_value Z) (hr.mono (by decide)) (by rfl) Z.D__law_value.m Z.D__law_value.F.kp Z.D__law_value.b .nil pass0 (pa_cons (pv 0) pa_nil)) pa_nil))))) pa_nil)))), ?_⟩
  refine ⟨(by show 4 ≤ sizeLine; decide), fun p np => ⟨p, rfl, ⟨_, SqL.of upd_same⟩, fun D nD => ?_⟩⟩
  have st1 := st.lay np (.lst [V.str "rank", V.str "x", V.str "y", V.str "zz"])
  have pS := st.neS np
  have pC := st.neC np
  have fp : Fr S C H _ := Fr.lay np (.lst [V.str "rank", V.str "x", V.str "y", V.str "zz"])
  have ep : (upd H p (.lst [V.str "rank", V.str "x", V.str "y", V.str "zz"])) p = _ := upd_same
  have xp : Ext H _ := Ext.of_same (same_new np (.lst [V.str "rank", V.str "x", V.str "y", V.str "zz"]))
  generalize (upd H p (.lst [V.str "rank", V.str "x", V.str "y", V.str "zz"])) = H1 at st1 fp ep nD xp ⊢
  refine lc_draw (K := K) (k := 51) (R := fun x d => Nice 3 3200 d ∧ valueD (sndD d) = true ∧ nmD d = true ∧ strD (fstD d) = vStr x) st1 nD pS pC ep (fun _ => rfl) (by decide) (fun i x H3 q3 q0 hx s3 k3 k0 => ?_) fun H' vs ds ys e dp hs hR s3 f3 => ?_
  · have hi := (List.getElem?_eq_some_iff.mp hx).1
    have hi' : i < 4 := hi
    have hx2 : ∃ z : Str, x = .str z ∧ z.length ≤ 8 ∧ okStr z ∧ nameD (.str z) = true := by
      have all : ∀ z ∈ ["rank", "x", "y", "zz"], (Str.ofString z).length ≤ 8 ∧ (∀ c ∈ (Str.ofString z).cps.toList, c < 1114112) ∧ nameD (.str (Str.ofString z)) = true := by decide +kernel
      obtain ⟨z, hz, rfl⟩ := List.mem_map.mp (show x ∈ ["rank", "x", "y", "zz"].map fun z => V.str (Str.ofString z) from List.mem_of_getElem? hx)
      exact ⟨_, rfl, all z hz⟩
    obtain ⟨z, rfl, hz, oz, nz⟩ := hx2
    have him : i * 51 ≤ 3 * 51 := Nat.mul_le_mul_right _ (by omega)
    refine ⟨_, rfl, S, C, _, 3, rfl, s3, by omega, by decide, by decide, fun r H4 r0 r1 s4 f4 => ⟨rfl, _, rfl, ite2 (fun c => ?_) (fun c => ?_)⟩⟩
    · refine ⟨_, rfl, _, rfl, S, C, _, [], rfl, rfl, s4, by omega, fun v d H5 hv ⟨nv, vv⟩ s5 f5 => ⟨(by show 2 ≤ sizeLine; decide), fun T nT => ?_⟩⟩
      have f45 := f4.trans f5
      have nT0 : H3 T = none := Fr.ext s5 f45 T nT
      refine k3 _ (.tuple [.str z, d]) _ (new_tup nT0 upd_same (.cons (.str _) (.cons (Dp_mono ((newp_left (Fr.ext s4 f4)).trans (newp_right (same_new nT _))) hv) .nil))) ?_ ((s5.lay nT _).mono (by omega)) (f45.trans (Fr.lay nT _))
      exact ⟨((Nices.one (Nice.str (n := 2) (b := 82) oz (by omega))).append (.one nv)).tup.mono (by decide) (by decide), vv, nz, rfl⟩
    · exact k0 H4 (s4.mono (by omega)) f4
  · refine ⟨D, vs, rfl, .inl ⟨SqL.of e, fun l nl => ?_⟩⟩
    have f : Fr S C H H' := fp.trans f3
    have nl0 : H l = none := f.ext s3 l nl
    refine q _ (.tuple ds) _ (new_tup nl0 upd_same (DpAll_mono (newp_right (same_new nl _)) (DpAll_mono ((newp_left Ext.upd).trans (newp_left xp)) dp))) ?_ ((s3.lay nl _).mono (by show n + 4 * 51 ≤ _; omega)) (f.trans (Fr.lay nl _))
    have hl' : ds.length ≤ 4 := by
      rw [hR.len]
      exact hs.length_le
    have := Nat.mul_le_mul_right (3200 + 2) hl'
    refine ⟨(nices_of fun d hd => (hR.mem hd).choose_spec.1).tup.mono (by decide) (by omega), ?_, List.all_eq_true.mpr fun d hd => (hR.mem hd).choose_spec.2.1⟩
    refine part_of hs hR ?_ fun x d h => h.2.2
    show ((["rank", "x", "y", "zz"].map Str.ofString) : List Str).Pairwise _
    decide +kernel

/-! ### _law_wide_tree -/
theorem wide_step (m kk : Nat) (spR : Sp) (ih : FnOk P w K mg base CX0 kk Z.f__law_wide_tree Z.fd__law_wide_tree ["_law_stream", "_law_left", "_law_deep"] spR) (hk : kk ≤ m + 4) (hsp : ∀ m', m = m' + 1 → spR = spWide K m') : FnOk P w K mg base CX0 (m+5) Z.f__law_wide_tree Z.fd__law_wide_tree ["_law_stream", "_law_left", "_law_deep"] (spWide K m) := by
  refine Z.D__law_wide_tree.F.ok sc__law_wide_tree (fun vs H Q E h => ?_) (fun cdv A outer s H vs Q E hr h => ?_)
  · obtain ⟨S, C, L, n, z, rfl, _⟩ := h
    rfl
  obtain ⟨S, C, L, n, z, rfl, st, LS, LC, eL, hn, q⟩ := h
  have hr1 : Room 1 (A.deeper (envOfC "_law_wide_tree" (defScope s__law_wide_tree) s.heap.objs.size Z.f__law_wide_tree cdv)) := hr.mono (by omega)
  have hr3 : Room 3 (A.deeper (envOfC "_law_wide_tree" (defScope s__law_wide_tree) s.heap.objs.size Z.f__law_wide_tree cdv)) := hr.mono (by omega)
  have hrk : Room kk (A.deeper (envOfC "_law_wide_tree" (defScope s__law_wide_tree) s.heap.objs.size Z.f__law_wide_tree cdv)) := hr.mono hk
  have k0 : 210 ≤ kW m := by
    cases m with
    | zero => exact Nat.le_refl _
    | succ m => show 210 ≤ 3 * kW m + 210; omega
  refine ⟨_, (pss_cons (ps_asg (pe_op op_sub (pe_ix (ixL (K := K)) (pv 1) pe_int (fun _ _ => rfl)) pe_int) (pg_sub (pv 1) pe_int set_list))
    (pss_cons (ps_set (i := 3) sc__law_wide_tree.nd rfl (.inl rfl) (pe_callTy (tupK (K := K)) (by rfl) Z.T.tuple (by decide +kernel) (pa_cons (pe_lc (own := [("_law_name", 4)]) (g := gName 4) (tt := tYes) rfl sc__law_wide_tree.nd (pi_list (pe_call (ok__law_some_names Z) hr3 (by rfl) Z.D__law_some_names.m Z.D__law_some_names.F.kp Z.D__law_some_names.b .nil pass0 (pa_cons (pv 0) (pa_cons (pe_call (ok__law_draw Z) hr1 (by rfl) Z.D__law_draw.m Z.D__law_draw.F.kp Z.D__law_draw.b .nil pass0 (pa_cons (pv 0) (pa_cons pe_int pa_nil))) pa_nil)))) (blkOk_by (own := [("_law_name", 4)]) (N := ["_law_stream", "_law_left", "_law_deep", "_law_props_here", "_law_name", "_law_children"]) (sc := defScope s__law_wide_tree) (by decide +kernel)) (fun _ _ _ _ _ => (pg_name (i := 4) sc__law_wide_tree.nd rfl (.inl rfl))) (fun _ _ _ _ _ => pts_nil) (fun _ _ _ _ _ => (pe_tup (pa_cons (pv 4) (pa_cons (pe_call (ok__law_value Z) hr3 (by rfl) Z.D__law_value.m Z.D__law_value.F.kp Z.D__law_value.b .nil pass0 (pa_cons (pv 0) pa_nil)) pa_nil))))) pa_nil)))
    (pss_cons (ps_set (i := 5) sc__law_wide_tree.nd rfl (.inl rfl) (pe_lst pa_nil))
    (pss_cons (ps_for PassesOwn.never rfl (pi_list (pe_call (ok__law_some_names Z) hr3 (by rfl) Z.D__law_some_names.m Z.D__law_some_names.F.kp Z.D__law_some_names.b .nil pass0 (pa_cons (pv 0) (pa_cons (pe_op op_mul (pe_call (ok__law_draw Z) hr1 (by rfl) Z.D__law_draw.m Z.D__law_draw.F.kp Z.D__law_draw.b .nil pass0 (pa_cons (pv 0) (pa_cons pe_int pa_nil))) (pe_callTy call_int1 (by rfl) Z.T.int (by decide +kernel) (pa_cons (pe_cmpR op_gt (pv 2) pe_int (nomark _)) pa_nil))) pa_nil)))) (pg_name (i := 4) sc__law_wide_tree.nd rfl (.inl rfl)) (pss_one (ps_if (pt_cmpR op_gt (pe_ix (ixL (K := K)) (pv 1) pe_int (fun _ _ => rfl)) pe_int (nomark _)) (pss_one (ps_expr (pe_bm PySem.F.plainAttrs_list PySem.F.slot_list_append PySem.F.type_list_append mt_append (pv 5) (pa_cons (pe_tup (pa_cons (pv 4) (pa_cons (pe_call ih hrk (by rfl) Z.D__law_wide_tree.m Z.D__law_wide_tree.F.kp Z.D__law_wide_tree.b .nil pass0 (pa_cons (pv 0) (pa_cons (pv 1) (pa_cons (pe_op op_sub (pv 2) pe_int) pa_nil)))) pa_nil))) pa_nil)))) pss_nil)))
    (pss_one (ps_ret (pe_tup (pa_cons (pv 3) (pa_cons (pe_callTy (tupK (K := K)) (by rfl) Z.T.tuple (by decide +kernel) (pa_cons (pv 5) pa_nil)) pa_nil))))))))), ?_⟩
  -- left[0] = left[0] - 1
  refine ⟨_, rfl, L, _, _, _, rfl, rfl, SqL.of eL, rfl, _, _, rfl, rfl, _, rfl, L, _, _, 0, rfl, rfl, eL, rfl, ?_⟩
  have s1 := st.upd LS LC (.lst ([V.int z].set 0 (.int (z - 1))))
  have e1 : (upd H L (.lst ([V.int z].set 0 (.int (z - 1))))) L = some (.lst [V.int (z - 1)]) := upd_same
  have f1 : Fr3 S C L H (upd H L (.lst ([V.int z].set 0 (.int (z - 1))))) := Fr3.updL
  have x1 : Ext H (upd H L (.lst ([V.int z].set 0 (.int (z - 1))))) := Ext.upd
  generalize (upd H L (.lst ([V.int z].set 0 (.int (z - 1))))) = H1 at s1 e1 f1 x1 ⊢
  -- props
  refine ⟨_, rfl, _, rfl, S, C, n, 4, rfl, s1, by omega, by decide, by decide, fun r H2 r0 r1 s2 f2 => ?_⟩
  have er : [V.ref S, V.int r] = [V.ref S, V.int ((r.toNat : Nat) : Int)] := by rw [show ((r.toNat : Nat) : Int) = r by omega]
  refine ⟨S, C, n + 1, r.toNat, er, by omega, s2, by omega, fun p ys H3 np ep oy s3 f3 => ⟨p, rfl, ⟨_, SqL.of ep⟩, fun D nD => ?_⟩⟩
  have pS := s2.neS np
  have pC := s2.neC np
  have hlen : (ys.map V.str).length ≤ 3 := by
    rw [List.length_map]
    have := oy.1
    omega
  refine lc_draw (K := K) (k := 50) (R := fun _ d => Nice 3 3100 d ∧ pairD d = true) s3 nD pS pC ep (fun _ => rfl) (by omega) (fun i x H4 q4 q0 hx s4 k4 _ => ?_) fun H4 vs ds ys4 e4 dp4 hs4 hR4' s4 f4 => ?_
  · have hi := (List.getElem?_eq_some_iff.mp hx).1
    have him : i * 50 ≤ 2 * 50 := Nat.mul_le_mul_right _ (by omega)
    obtain ⟨y, hy, rfl⟩ := List.mem_map.mp (List.mem_of_getElem? hx)
    obtain ⟨hy1, hy2⟩ := oy.2 y hy
    unfold tYes
    refine iteT ?_
    refine ⟨_, rfl, _, rfl, S, C, _, [], rfl, rfl, s4, by omega, fun v d H5 hv ⟨nv, _⟩ s5 f5 => ⟨(by show 2 ≤ sizeLine; decide), fun T nT => ?_⟩⟩
    have nT0 : H4 T = none := Fr.ext s5 f5 T nT
    refine k4 _ (.tuple [.str y, d]) _ (new_tup nT0 upd_same (.cons (.str _) (.cons (Dp_mono (newp_right (same_new nT _)) hv) .nil))) ?_ (s5.lay nT _) (f5.trans (Fr.lay nT _))
    exact ⟨((Nices.one (Nice.str (n := 2) (b := 82) hy2.ok (by omega))).append (.one nv)).tup.mono (by decide) (by decide), rfl⟩
  have hR4 : ∀ d ∈ ds, Nice 3 3100 d := fun d hd => (hR4'.mem hd).choose_spec.1
  have hP4 : ds.all pairD = true := List.all_eq_true.mpr fun d hd => (hR4'.mem hd).choose_spec.2
  have hl4 : ds.length ≤ (ys.map V.str).length := by
    rw [hR4'.len]
    exact hs4.length_le
  have f14 : Fr S C H1 H4 := (f2.trans f3).trans f4
  have x14 : Ext H1 H4 := Fr.ext s4 f14
  have l4 : ds.length ≤ 3 := by omega
  have n4 : Nices 3 9306 ds := (nices_of hR4).mono (Nat.le_refl _) (by
    have := Nat.mul_le_mul_right (3100 + 2) l4
    omega)
  have d4 : DpAll K (newp H1 H4) vs ds := DpAll_mono ((newp_left Ext.upd).trans (newp_left (Fr.ext s3 (f2.trans f3)))) dp4
  have sl4 : (ys.map V.str).length * 50 ≤ 3 * 50 := Nat.mul_le_mul_right _ hlen
  have s4' : Strm S C (n + 178) H4 := s4.mono (by omega)
  refine ⟨D, vs, rfl, .inl ⟨SqL.of e4, fun l nl => ⟨(by show 0 ≤ sizeLine; decide), fun Ch nCh => ?_⟩⟩⟩
  have w5 := same_new nl (.tup vs)
  have al : (upd H4 l (.tup vs)) l = some (.tup vs) := upd_same
  have s5 := s4'.lay nl (.tup vs)
  have nl1 : H1 l = none := x14 l nl
  generalize (upd H4 l (.tup vs)) = H5 at nCh w5 al s5 ⊢
  have f15 : Fr S C H1 H5 := f14.trans (Fr.of_same w5)
  have d5 : Dp K (newp H1 H5) (.ref l) (.tuple ds) := new_tup nl1 al (DpAll_mono (newp_right w5) d4)
  have n5 : Nice 4 9309 (.tuple ds) := n4.tup.mono (by decide) (by decide)
  have eL5 : H5 L = some (.lst [V.int (z - 1)]) := cut_keep f15 LS LC e1
  -- children = []
  have w6 := same_new nCh (.lst [])
  have aCh : (upd H5 Ch (.lst [])) Ch = some (.lst []) := upd_same
  have s6 := s5.lay nCh (.lst [])
  have nCh1 : H1 Ch = none := Fr.ext s5 f15 Ch nCh
  have ChS := s5.neS nCh
  have ChC := s5.neC nCh
  have ChL : Ch ≠ L := (ne_of_none eL5 nCh).symm
  generalize (upd H5 Ch (.lst [])) = H6 at w6 aCh s6 ⊢
  have f16 : Fr S C H1 H6 := f15.trans (Fr.of_same w6)
  have eL6 := w6 _ _ eL5
  have d6 := Dp_mono (newp_right (H := H1) w6) d5
  -- for name in some_names(..)
  refine ⟨_, rfl, _, rfl, S, C, _, 4, rfl, s6, by omega, by decide, by decide, fun r2 H7 r0 r1 s7 f7 => ?_⟩
  refine ⟨_, rfl, _, _, rfl, rfl, .inr ⟨_, rfl, _, _, rfl, rfl, .inl ⟨by omega, by omega⟩, ?_⟩⟩
  have em : ∃ k : Nat, [V.ref S, V.int (r2 * (if decide (0 < (m : Int)) = true then 1 else 0))] = [V.ref S, V.int (k : Int)] ∧ k ≤ 3 ∧ (m = 0 → k = 0) := by
    by_cases hm : 0 < (m : Int)
    · refine ⟨r2.toNat, ?_, by omega, by omega⟩
      rw [decide_eq_true hm, if_pos rfl, Int.mul_one, show ((r2.toNat : Nat) : Int) = r2 by omega]
    · refine ⟨0, ?_, by omega, fun _ => rfl⟩
      rw [decide_eq_false hm, if_neg Bool.false_ne_true, Int.mul_zero]
      rfl
  obtain ⟨k, ek, hk3, hk0⟩ := em
  refine ⟨S, C, _, k, ek, by omega, s7, by omega, fun p2 zs H8 np2 ep2 oz s8 f8 => ⟨p2, rfl, ⟨_, SqL.of ep2⟩, ?_⟩⟩
  have hz3 : (zs.map V.str).length ≤ 3 := by
    rw [List.length_map]
    have := oz.1
    omega
  have w56 : Fr3 S C L H5 H8 := (Fr3.of (Fr.of_same w6)).trans ((Fr3.of f7).trans (Fr3.of f8))
  have eL8 : H8 L = some (.lst [V.int (z - 1)]) := cut_keep (f7.trans f8) LS LC eL6
  have eCh8 : H8 Ch = some (.lst []) := cut_keep (f7.trans f8) ChS ChC aCh
  have x68 : Ext H6 H8 := Fr.ext s8 (f7.trans f8)
  have p2S := s7.neS np2
  have p2C := s7.neC np2
  have p2L : p2 ≠ L := (ne_of_none (cut_keep f7 LS LC eL6) np2).symm
  have p2Ch : p2 ≠ Ch := (ne_of_none (cut_keep f7 ChS ChC aCh) np2).symm
  have trL : H6 L ≠ none := by rw [eL6]; exact Option.some_ne_none _
  have trCh : H6 Ch ≠ none := by rw [aCh]; exact Option.some_ne_none _
  obtain ⟨kc, dc, bc, hkc, hdc, hbc, hrec⟩ : ∃ kc dc bc, 3 * kc + 210 ≤ kW m ∧ dc + 3 ≤ 5 + 3 * m ∧ 3 * (bc + 100) + 10200 ≤ bW m ∧ (m = 0 ∨ ∃ m', m = m' + 1 ∧ kc = kW m' ∧ dc = 5 + 3 * m' ∧ bc = bW m') := by
    cases m with
    | zero => exact ⟨0, 0, 0, by decide, by decide, by decide, .inl rfl⟩
    | succ m => exact ⟨kW m, 5 + 3 * m, bW m, Nat.le_refl _, by omega, Nat.le_refl _, .inr ⟨m, rfl, rfl, rfl, rfl⟩⟩
  refine for_list (xs := zs.map V.str) (fun j σ H' => (∃ x4, σ = [some (.ref S), some (.ref L), some (.int (m : Int)), some (.ref l), x4, some (.ref Ch)]) ∧ ∃ (vs : List V) (ds : List PyData) (z' : Int), H' Ch = some (.lst vs) ∧ H' p2 = some (.lst (zs.map V.str)) ∧ H' L = some (.lst [V.int z']) ∧
      DpAll K (newp H6 H') vs ds ∧ ds.length ≤ j ∧ (∀ d ∈ ds, Nice (dc + 1) (bc + 90) d ∧ pairD d = true ∧ shD m (sndD d) = true) ∧ Strm S C (n + 206 + j * kc) H' ∧ Fr3 S C L H5 H' ∧ Ext H6 H')
    ⟨⟨_, rfl⟩, [], [], _, eCh8, ep2, eL8, .nil, Nat.le_refl _, (fun _ h => nomatch h), by rw [Nat.zero_mul]; exact s8.mono (by omega), w56, x68⟩ (fun j σ H' _ pv => by
      obtain ⟨_, _, _, _, _, e, _⟩ := pv
      exact SqL.of e) ?_ ?_
  · rintro j u σ H9 hu ⟨⟨x4, rfl⟩, vs9, ds9, z9, eCh9, ep9, eL9, dp9, hl9, hR9, s9, f9, x9⟩
    have hj := (List.getElem?_eq_some_iff.mp hu).1
    obtain ⟨y, hy, rfl⟩ := List.mem_map.mp (List.mem_of_getElem? hu)
    obtain ⟨hy1, hy2⟩ := oz.2 y hy
    have hj3 : j * kc + kc ≤ 3 * kc := by
      have := Nat.mul_le_mul_right kc (show j + 1 ≤ 3 by omega)
      rw [Nat.succ_mul] at this
      exact this
    refine ⟨_, rfl, L, _, _, _, rfl, rfl, SqL.of eL9, rfl, _, _, rfl, rfl, _, rfl, ite2 (fun c => ?_) (fun c => ?_)⟩
    · rcases hrec with hm0 | ⟨m', rfl, rfl, rfl, rfl⟩
      · have h0 := hk0 hm0
        have h1 := oz.1
        rw [List.length_map] at hj
        omega
      obtain rfl := hsp m' rfl
      have evs : [V.ref S, V.ref L, V.int (((m' + 1 : Nat) : Int) - 1)] = [V.ref S, V.ref L, V.int (m' : Int)] := by rw [show ((m' + 1 : Nat) : Int) - 1 = (m' : Int) by omega]
      refine ⟨_, rfl, .inl ⟨rfl, _, SqL.of eCh9⟩, _, rfl, _, rfl, _, rfl, _, rfl, _, _, rfl, rfl, S, C, L, _, z9, evs, s9, LS, LC, eL9, by omega, fun v d H10 z10 hv nv sv s10 f10 e10 => ⟨(by show 2 ≤ sizeLine; decide), fun T nT => ?_⟩⟩
      have w11 := same_new nT (.tup [V.str y, v])
      have aT : (upd H10 T (.tup [V.str y, v])) T = some (.tup [V.str y, v]) := upd_same
      have s11 := s10.lay nT (.tup [V.str y, v])
      have nT9 : H9 T = none := Fr3.ext s10 e10 f10 T nT
      have nT6 : H6 T = none := x9 T nT9
      generalize (upd H10 T (.tup [V.str y, v])) = H11 at w11 aT s11 ⊢
      have f911 : Fr3 S C L H9 H11 := f10.trans (fun a o _ _ _ h => w11 a o h)
      have eCh11 : H11 Ch = some (.lst vs9) := f911 _ _ ChS ChC ChL eCh9
      have dT : Dp K (newp H6 H11) (.ref T) (.tuple [.str y, d]) := new_tup nT6 aT (.cons (.str _) (.cons (Dp_mono ((newp_left x9).trans (newp_right w11)) hv) .nil))
      have nd : Nice (5 + 3 * m' + 1) (bW m' + 90) (.tuple [.str y, d]) := by
        have := ((Nices.one (Nice.str (n := 5 + 3 * m') (b := 82) hy2.ok (by omega))).append (.one nv)).tup
        exact this.mono (Nat.le_refl _) (by omega)
      refine ⟨Ch, _, _, rfl, rfl, eCh11, ?_, ⟨_, rfl⟩, _, ds9 ++ [.tuple [.str y, d]], z10, upd_same, (upd_ne p2Ch).trans (f911 _ _ p2S p2C p2L ep9), (upd_ne ChL.symm).trans (w11 _ _ e10), ?_, ?_, ?_, ?_, ?_, ?_⟩
      · rw [DpAll_len dp9]
        exact Nat.lt_of_le_of_lt (show ds9.length ≤ 100 by omega) (by decide)
      · exact DpAll_snoc (DpAll_mono ((newp_fr3 s6 trL f911).trans (newp_upd trCh)) dp9) (Dp_mono (newp_upd trCh) dT)
      · rw [List.length_append]
        exact Nat.succ_le_succ hl9
      · intro e he
        rcases List.mem_append.mp he with he | he
        · exact hR9 e he
        · rw [List.mem_singleton.mp he]
          exact ⟨nd, rfl, sv⟩
      · rw [Nat.succ_mul, ← Nat.add_assoc]
        exact s11.upd ChS ChC _
      · exact Fr3.upd (f9.trans f911) nCh
      · exact (x9.trans ((Fr3.ext s10 e10 f10).trans (Ext.of_same w11))).trans Ext.upd
    · refine ⟨⟨_, rfl⟩, vs9, ds9, z9, eCh9, ep9, eL9, dp9, Nat.le_succ_of_le hl9, hR9, s9.mono ?_, f9, x9⟩
      rw [Nat.succ_mul]
      omega
  · rintro σ H9 ⟨⟨x4, rfl⟩, vs9, ds9, z9, eCh9, ep9, eL9, dp9, hl9, hR9, s9, f9, x9⟩
    have hl9' : ds9.length ≤ 3 := by omega
    have hb3 : (zs.map V.str).length * kc ≤ 3 * kc := Nat.mul_le_mul_right _ hz3
    refine ⟨_, rfl, _, rfl, Ch, vs9, rfl, .inl ⟨SqL.of eCh9, fun t nt => ⟨(by show 2 ≤ sizeLine; decide), fun T nT => ?_⟩⟩⟩
    have wt := same_new nt (.tup vs9)
    have at_ : (upd H9 t (.tup vs9)) t = some (.tup vs9) := upd_same
    have s10 := s9.lay nt (.tup vs9)
    have nt6 : H6 t = none := x9 t nt
    generalize (upd H9 t (.tup vs9)) = H10 at nT wt at_ s10 ⊢
    have wT := same_new nT (.tup [V.ref l, V.ref t])
    have aT : (upd H10 T (.tup [V.ref l, V.ref t])) T = some (.tup [V.ref l, V.ref t]) := upd_same
    have s11 := s10.lay nT (.tup [V.ref l, V.ref t])
    have nT6 : H6 T = none := x9 T (wt.free nT)
    generalize (upd H10 T (.tup [V.ref l, V.ref t])) = H11 at wT aT s11 ⊢
    have w911 := wt.trans wT
    have f511 : Fr3 S C L H5 H11 := f9.trans (fun a o _ _ _ h => w911 a o h)
    have x16 : Ext H H6 := x1.trans (Fr.ext s6 f16)
    have dl : Dp K (newp H H11) (.ref l) (.tuple ds) := Dp_mono ((newp_fr3 s1 (by rw [e1]; exact Option.some_ne_none _) f511).trans (newp_left x1)) d5
    have dt : Dp K (newp H H11) (.ref t) (.tuple ds9) := Dp_mono (newp_left x16) (new_tup nt6 (wT _ _ at_) (DpAll_mono (newp_right w911) dp9))
    have dT : Dp K (newp H H11) (.ref T) (.tuple [.tuple ds, .tuple ds9]) := new_tup (x16 T nT6) aT (.cons dl (.cons dt .nil))
    have n9 : Nice (dc + 2) (3 * (bc + 92) + 3) (.tuple ds9) := by
      have := Nat.mul_le_mul_right (bc + 90 + 2) hl9'
      exact (nices_of fun d hd => (hR9 d hd).1).tup.mono (by omega) (by omega)
    refine q _ _ H11 z9 dT ?_ (sh_mk hP4 (List.all_eq_true.mpr fun d hd => (hR9 d hd).2.1) fun d hd => (hR9 d hd).2.2) (s11.mono (by omega)) ((f1.trans (Fr3.of f15)).trans f511) (w911 _ _ eL9)
    have := (((Nices.one n5).mono (n' := 4 + 3 * m) (by omega) (Nat.le_refl _)).append ((Nices.one n9).mono (n' := 4 + 3 * m) (by omega) (Nat.le_refl _))).tup
    exact this.mono (by omega) (by omega)
theorem ok__law_wide_tree (m : Nat) : FnOk P w K mg base CX0 (m+5) Z.f__law_wide_tree Z.fd__law_wide_tree ["_law_stream", "_law_left", "_law_deep"] (spWide K m) := by
  induction m with
  | zero => exact wide_step Z 0 0 (fun _ _ _ _ => False) ⟨fun _ _ _ _ h => h.elim, fun _ _ _ _ _ _ _ _ _ _ _ _ _ h => h.elim⟩ (Nat.zero_le _) (fun m' h => nomatch h)
  | succ m ih => exact wide_step Z (m + 1) (m + 5) _ ih (Nat.le_refl _) fun m' h => by rw [Nat.succ.inj h]

/-! ### _law_under, _law_any_tree -/
theorem ok__law_under : FnOk P w K mg base CX0 5 Z.f__law_under Z.fd__law_under ["_law_stream", "_law_part", "_law_levels"] (spUnder K) := by
  refine Z.D__law_under.F.ok sc__law_under (fun vs H Q E h => ?_) (fun cdv A outer s H vs Q E hr h => ?_)
  · obtain ⟨S, C, n, m, nb, dd, bb, B, v, d, rfl, _⟩ := h
    rfl
  obtain ⟨S, C, n, m, nb, dd, bb, B, v, d, rfl, hm, st, hn, sB, xB, hd, nd, hdd, q⟩ := h
  refine ⟨_, (pss_cons (ps_for PassesOwn.never rfl (pi_range1 (by rfl) Z.T.range (pa_cons (pv 2) pa_nil)) (pg_name (i := 3) sc__law_under.nd rfl (.inl rfl)) (pss_one (ps_set (i := 1) sc__law_under.nd rfl (.inl rfl) (pe_tup (pa_cons (pe_call (ok__law_props Z) (hr.mono (by decide)) (by rfl) Z.D__law_props.m Z.D__law_props.F.kp Z.D__law_props.b .nil pass0 (pa_cons (pv 0) pa_nil)) (pa_cons (pe_tup (pa_cons (pe_tup (pa_cons (pe_call (ok__law_letters Z) (hr.mono (by decide)) (by rfl) Z.D__law_letters.m Z.D__law_letters.F.kp Z.D__law_letters.b .nil pass0 (pa_cons (pv 0) (pa_cons (pe_op op_add pe_int (pe_call (ok__law_draw Z) (hr.mono (by decide)) (by rfl) Z.D__law_draw.m Z.D__law_draw.F.kp Z.D__law_draw.b .nil pass0 (pa_cons (pv 0) (pa_cons pe_int pa_nil)))) pa_nil))) (pa_cons (pv 1) pa_nil))) pa_nil)) pa_nil))))))
    (pss_one (ps_ret (pv 1)))), ?_⟩
  refine ⟨_, rfl, (m : Int), rfl, by omega, by omega, for_range (lo := 0) (n := m) (fun i σ H' => ∃ (v' : V) (d' : PyData), (∃ x3, σ = [some (.ref S), some v', some (.int (m : Int)), x3]) ∧ Dp K (newp B H') v' d' ∧ Nice (dd + 3 * i) (bb + i * 13300) d' ∧ (∀ j, treeD (j + i) d' = treeD j d) ∧ (∀ j, shD (j + i) d' = shD j d) ∧ Strm S C (n + i * 230) H' ∧ Fr S C H H' ∧ Ext B H')
    ⟨v, d, ⟨_, rfl⟩, hd, nd.mono (Nat.le_refl _) (by omega), fun j => rfl, fun j => rfl, by rw [Nat.zero_mul]; exact st, fun _ _ h => h, xB⟩ ?_ ?_⟩
  · rintro i σ H1 hi ⟨v1, d1, ⟨x3, rfl⟩, h1, n1, t1, t1s, s1, f1, x1⟩
    have him : i * 230 + 230 ≤ m * 230 := by omega
    refine ⟨_, rfl, S, C, _, [], rfl, rfl, s1, by omega, fun vp dp H2 hp ⟨np, pp, pv⟩ s2 f2 => ?_⟩
    refine ⟨_, rfl, _, rfl, S, C, _, 3, rfl, s2, by omega, by decide, by decide, fun r H3 r0 r1 s3 f3 => ?_⟩
    have er : [V.ref S, V.int (1 + r)] = [V.ref S, V.int (((1 + r).toNat : Nat) : Int)] := by rw [show (((1 + r).toNat : Nat) : Int) = 1 + r by omega]
    refine ⟨_, _, rfl, rfl, S, C, _, (1 + r).toNat, er, by omega, s3, by omega, fun x H4 hx az s4 f4 => ⟨_, rfl, (by show 2 ≤ sizeLine; decide), fun T1 m1 => ⟨(by show 1 ≤ sizeLine; decide), fun T2 m2 => ⟨(by show 2 ≤ sizeLine; decide), fun T3 m3 => ?_⟩⟩⟩⟩
    have f14 : Fr S C H1 H4 := (f2.trans f3).trans f4
    have w1 := same_new m1 (.tup [V.str x, v1])
    have a1 : (upd H4 T1 (.tup [V.str x, v1])) T1 = _ := upd_same
    generalize (upd H4 T1 (.tup [V.str x, v1])) = G1 at m2 m3 w1 a1 ⊢
    have w2 := same_new m2 (.tup [V.ref T1])
    have a2 : (upd G1 T2 (.tup [V.ref T1])) T2 = _ := upd_same
    generalize (upd G1 T2 (.tup [V.ref T1])) = G2 at m3 w2 a2 ⊢
    have w3 := same_new m3 (.tup [vp, V.ref T2])
    have a3 : (upd G2 T3 (.tup [vp, V.ref T2])) T3 = _ := upd_same
    generalize (upd G2 T3 (.tup [vp, V.ref T2])) = G3 at w3 a3 ⊢
    have w13 := (w1.trans w2).trans w3
    have f1G : Fr S C H1 G3 := f14.trans (Fr.of_same w13)
    have x4 : Ext B H4 := x1.trans (Fr.ext s4 f14)
    have e1 : B T1 = none := x4 T1 m1
    have e2 : B T2 = none := x4 T2 (w1.free m2)
    have e3 : B T3 = none := x4 T3 ((w1.trans w2).free m3)
    have g1 : Dp K (newp B G3) v1 d1 := Dp_mono (newp_fr sB f1G) h1
    have gp : Dp K (newp B G3) vp dp := Dp_mono ((newp_left x1).trans (newp_fr sB ((f3.trans f4).trans (Fr.of_same w13)))) hp
    have gT : Dp K (newp B G3) (.ref T3) (.tuple [dp, .tuple [.tuple [.str x, d1]]]) :=
      new_tup e3 a3 (.cons gp (.cons (new_tup e2 (w3 _ _ a2) (.cons (new_tup e1 (w3 _ _ (w2 _ _ a1)) (.cons (.str _) (.cons g1 .nil))) .nil)) .nil))
    have nx : nameD (.str x) = true := az_name az (by omega) (by omega)
    refine ⟨_, _, ⟨_, rfl⟩, gT, ?_, fun j => ?_, fun j => ?_, (s4.same w13).mono (by omega), f1.trans f1G, x4.trans (Ext.of_same w13)⟩
    · have c1 := ((Nices.one (Nice.str (n := dd + 3 * i) (b := 82) az.ok (by omega))).append (.one n1)).tup
      have c2 := (Nices.one c1).tup
      have c3 := ((Nices.one (np.mono (n' := dd + 3 * i + 2) (by omega) (Nat.le_refl _))).append (.one c2)).tup
      exact c3.mono (by omega) (by omega)
    · rw [← Nat.add_assoc, under_tree pp pv nx]
      exact t1 j
    · rw [← Nat.add_assoc, under_sh pp]
      exact t1s j
  · rintro σ H1 ⟨v1, d1, ⟨x3, rfl⟩, h1, n1, t1, t1s, s1, f1, x1⟩
    exact ⟨_, rfl, q v1 d1 H1 h1 n1 t1 t1s s1 f1⟩
theorem ok__law_any_tree : FnOk P w K mg base CX0 9 Z.f__law_any_tree Z.fd__law_any_tree ["_law_stream"] (spGet K 10000 (fun us => us = []) (fun d => Nice 29 800000 d ∧ shD 9 d = true)) := by
  refine Z.D__law_any_tree.F.ok sc__law_any_tree (fun vs H Q E h => ?_) (fun cdv A outer s H vs Q E hr h => ?_)
  · obtain ⟨S, C, n, us, rfl, rfl, _⟩ := h
    rfl
  obtain ⟨S, C, n, us, rfl, rfl, st, hn, q⟩ := h
  refine ⟨_, (pss_cons (ps_set (i := 1) sc__law_any_tree.nd rfl (.inl rfl) (pe_call (ok__law_wide_tree Z 3) (hr.mono (by decide)) (by rfl) Z.D__law_wide_tree.m Z.D__law_wide_tree.F.kp Z.D__law_wide_tree.b .nil pass0 (pa_cons (pv 0) (pa_cons (pe_lst (pa_cons (pe_op op_add pe_int (pe_call (ok__law_draw Z) (hr.mono (by decide)) (by rfl) Z.D__law_draw.m Z.D__law_draw.F.kp Z.D__law_draw.b .nil pass0 (pa_cons (pv 0) (pa_cons pe_int pa_nil)))) pa_nil)) (pa_cons pe_int pa_nil)))))
    (pss_one (ps_ret (pe_ifExp (pt_cmpR op_eq (pe_call (ok__law_draw Z) (hr.mono (by decide)) (by rfl) Z.D__law_draw.m Z.D__law_draw.F.kp Z.D__law_draw.b .nil pass0 (pa_cons (pv 0) (pa_cons pe_int pa_nil))) pe_int (nomark _)) (pe_call (ok__law_under Z) (hr.mono (by decide)) (by rfl) Z.D__law_under.m Z.D__law_under.F.kp Z.D__law_under.b .nil pass0 (pa_cons (pv 0) (pa_cons (pv 1) (pa_cons (pe_call (ok__law_draw Z) (hr.mono (by decide)) (by rfl) Z.D__law_draw.m Z.D__law_draw.F.kp Z.D__law_draw.b .nil pass0 (pa_cons (pv 0) (pa_cons pe_int pa_nil))) pa_nil)))) (pv 1))))), ?_⟩
  refine ⟨_, rfl, _, rfl, S, C, n, 12, rfl, st, by omega, by decide, by decide, fun r H1 r0 r1 s1 f1 => ⟨_, _, rfl, rfl, (by show 1 ≤ sizeLine; decide), fun L nL => ?_⟩⟩
  have LS := s1.neS nL
  have LC := s1.neC nL
  have kw : kW 3 = 8400 := by decide
  have s2 := s1.lay nL (.lst [V.int (1 + r)])
  refine ⟨S, C, L, _, 1 + r, rfl, s2, LS, LC, upd_same, by omega, fun v d H2 z' hv nv sv s3 f3 e3 => ?_⟩
  have f13 : Fr S C H1 H2 := Fr3.drop (fun a o h1 h2 h3 h => f3 a o h1 h2 h3 ((upd_ne h3).trans h)) nL
  have f03 : Fr S C H H2 := f1.trans f13
  have x2 : Ext H H2 := f03.ext s3
  have hv0 : Dp K (newp H H2) v d := Dp_mono ((newp_left Ext.upd).trans (newp_left (f1.ext s1))) hv
  refine ⟨_, rfl, S, C, _, 4, rfl, s3, by omega, by decide, by decide, fun r2 H3 r0 r1 s4 f4 => ⟨rfl, _, rfl, ite2 (fun c => ?_) (fun c => ?_)⟩⟩
  · refine ⟨_, rfl, _, rfl, _, rfl, S, C, _, 6, rfl, s4, by omega, by decide, by decide, fun r3 H4 r0 r1 s5 f5 => ?_⟩
    have er : [V.ref S, v, V.int r3] = [V.ref S, v, V.int ((r3.toNat : Nat) : Int)] := by rw [show ((r3.toNat : Nat) : Int) = r3 by omega]
    have hr5 : r3.toNat ≤ 5 := by omega
    refine ⟨S, C, _, r3.toNat, n, _, _, H, v, d, er, by omega, s5, by omega, st, x2.trans (Fr.ext s5 (f4.trans f5)), Dp_mono (newp_fr st (f4.trans f5)) hv0, nv, by omega, fun v' d' H5 hv' nv' _ tv' s6 f6 => ?_⟩
    exact q v' d' H5 hv' ⟨nv'.mono (by omega) (by
      have : bW 3 = 422700 := by decide
      omega), by
      have e1 : shD (4 + r3.toNat) d' = true := (tv' 4).trans sv
      have e2 := sh_more (5 - r3.toNat) e1
      rwa [show 4 + r3.toNat + (5 - r3.toNat) = 9 by omega] at e2⟩ (s6.mono (by omega)) (((f03.trans f4).trans f5).trans f6)
  · exact ⟨_, rfl, q v d H3 (Dp_mono (newp_fr st f4) hv0) ⟨nv.mono (by decide) (by decide), sh_more 5 sv⟩ (s4.mono (by omega)) (f03.trans f4)⟩

/-! ### _law_bent_pairs -/
theorem ok__law_bent_pairs : FnOk P w K mg base CX0 6 Z.f__law_bent_pairs Z.fd__law_bent_pairs ["_law_stream", "_law_pairs"] (spBentP K) := by
  refine Z.D__law_bent_pairs.F.ok sc__law_bent_pairs (fun vs H Q E h => ?_) (fun cdv A outer s H vs Q E hr h => ?_)
  · obtain ⟨S, C, n, nb, B, v, ds, rfl, _⟩ := h
    rfl
  obtain ⟨S, C, n, nb, B, v, ds, rfl, st, hn, sB, xB, hd, od, pr, hl, q⟩ := h
  obtain ⟨a, xs, rfl, sx, dx⟩ : ∃ a xs, v = .ref a ∧ SqT K (newp B H) a xs ∧ DpAll K (newp B H) xs ds := by
    cases hd with
    | tup sx hx => exact ⟨_, _, rfl, sx, hx⟩
  have lx : xs.length = ds.length := DpAll_len dx
  refine ⟨_, (pss_cons (ps_if (pt_cmpR (eqDK (K := K) hr.units) (pv 1) (pe_tup pa_nil) (nomark _)) (pss_one (ps_ret (pe_ix (ixL (K := K)) (pe_lst (pa_cons (pe_tup pa_nil) (pa_cons (pe_lst pa_nil) (pa_cons pe_non (pa_cons pe_str (pa_cons (pe_tup (pa_cons (pe_tup pa_nil) pa_nil)) (pa_cons pe_int pa_nil))))))) (pe_call (ok__law_draw Z) (hr.mono (by decide)) (by rfl) Z.D__law_draw.m Z.D__law_draw.F.kp Z.D__law_draw.b .nil pass0 (pa_cons (pv 0) (pa_cons pe_int pa_nil))) (fun _ _ => rfl)))) pss_nil)
    (pss_cons (ps_set (i := 2) sc__law_bent_pairs.nd rfl (.inr rfl) (pe_call (ok__law_draw Z) (hr.mono (by decide)) (by rfl) Z.D__law_draw.m Z.D__law_draw.F.kp Z.D__law_draw.b .nil pass0 (pa_cons (pv 0) (pa_cons (pe_callB (lenK (K := K)) (by rfl) Z.T.len (by decide +kernel) (pa_cons (pv 1) pa_nil)) pa_nil))))
    (pss_cons (ps_asg (pe_ix (ixT (K := K)) (pv 1) (pv 2) (fun _ _ => rfl)) (pg_tup rfl (pgs_cons (pg_name (i := 3) sc__law_bent_pairs.nd rfl (.inl rfl)) (pgs_cons (pg_name (i := 4) sc__law_bent_pairs.nd rfl (.inl rfl)) pgs_nil))))
    (pss_cons (ps_set (i := 5) sc__law_bent_pairs.nd rfl (.inl rfl) (pe_lst (pa_cons (pe_lst (pa_cons (pv 3) (pa_cons (pv 4) pa_nil))) (pa_cons (pe_tup (pa_cons (pv 3) pa_nil)) (pa_cons (pe_tup (pa_cons (pv 3) (pa_cons (pv 4) (pa_cons (pv 4) pa_nil)))) (pa_cons (pe_tup (pa_cons (pe_call (ok__law_near_name Z) (hr.mono (by decide)) (by rfl) Z.D__law_near_name.m Z.D__law_near_name.F.kp Z.D__law_near_name.b .nil pass0 (pa_cons (pv 0) pa_nil)) (pa_cons (pv 4) pa_nil))) pa_nil))))))
    (pss_cons (ps_set (i := 5) sc__law_bent_pairs.nd rfl (.inl rfl) (pe_op op_cat (pv 5) (pe_lst (pa_cons (pe_tup (pa_cons (pv 3) (pa_cons (pe_call (ok__law_near_value Z) (hr.mono (by decide)) (by rfl) Z.D__law_near_value.m Z.D__law_near_value.F.kp Z.D__law_near_value.b .nil pass0 (pa_cons (pv 0) pa_nil)) pa_nil))) (pa_cons (pe_tup (pa_cons (pv 3) (pa_cons (pe_call (ok__law_thing Z 2) (hr.mono (by decide)) (by rfl) Z.D__law_thing.m Z.D__law_thing.F.kp Z.D__law_thing.b .nil pass0 (pa_cons (pv 0) (pa_cons pe_int pa_nil))) pa_nil))) (pa_cons pe_non (pa_cons (pv 3) pa_nil)))))))
    (pss_cons (ps_setLc (i := 5) (own := [("_law_one", 6)]) (g := gName 6) (tt := tYes) rfl sc__law_bent_pairs.nd rfl rfl (sw_true rfl rfl rfl (by decide +kernel)) (pi_list (pv 5)) (blkOk_by (own := [("_law_one", 6)]) (N := ["_law_stream", "_law_pairs", "_law_at", "_law_name", "_law_value_here", "_law_some", "_law_one"]) (sc := defScope s__law_bent_pairs) (by decide +kernel)) (fun _ _ _ _ _ => (pg_name (i := 6) sc__law_bent_pairs.nd rfl (.inl rfl))) (fun _ _ _ _ _ => pts_nil) (fun _ _ _ _ _ => (pe_op (caA (K := K)) (pe_op (caA (K := K)) (pe_slice (slA (K := K)) (pv 1) po_none (po_some (pv 2))) (pe_tup (pa_cons (pv 6) pa_nil))) (pe_slice (slA (K := K)) (pv 1) (po_some (pe_op op_add (pv 2) pe_int)) po_none))))
    (pss_one (ps_ret (pe_ix (ixL (K := K)) (pe_op op_cat (pv 5) (pe_lst (pa_cons (pe_callTy (lstK (K := K)) (by rfl) Z.T.list (by decide +kernel) (pa_cons (pv 1) pa_nil)) (pa_cons (pe_op (caA (K := K)) (pv 1) (pe_slice (slA (K := K)) (pv 1) (po_some (pv 2)) (po_some (pe_op op_add (pv 2) pe_int)))) (pa_cons (pe_revT (pv 1)) pa_nil))))) (pe_call (ok__law_draw Z) (hr.mono (by decide)) (by rfl) Z.D__law_draw.m Z.D__law_draw.F.kp Z.D__law_draw.b .nil pass0 (pa_cons (pv 0) (pa_cons pe_int pa_nil))) (fun _ _ => rfl)))))))))), ?_⟩
  refine ⟨_, rfl, (by show 0 ≤ sizeLine; decide), fun p np => ?_⟩
  have w1 := same_new np (.tup [])
  have a1 : (upd H p (.tup [])) p = _ := upd_same
  have s1 := st.lay np (.tup [])
  have x1 : Ext H _ := Ext.of_same w1
  generalize (upd H p (.tup [])) = H1 at w1 a1 s1 x1 ⊢
  have xB1 : Ext B H1 := xB.trans x1
  have hd1 : Dp K (newp B H1) (.ref a) (.tuple ds) := Dp_mono (newp_right w1) hd
  have ok0 : SeqAt.shaped (.tuple []) = true := by decide
  refine ⟨_, _, Dp_mono newp_same hd1, .tup (SqT.of a1) .nil, od.shaped, ok0, _, rfl, ite2 (fun c => ?_) (fun c => ?_)⟩
  · have e0 : ds = [] := by
      cases ds with
      | nil => rfl
      | cons x y => exact absurd c (by simp [PyData.eqv, PyData.eqvAll])
    refine ⟨(by show 0 ≤ sizeLine; decide), fun p1 n1 => ⟨(by show 0 ≤ sizeLine; decide), fun p2 n2 => ⟨(by show 0 ≤ sizeLine; decide), fun p3 n3 => ⟨(by show 1 ≤ sizeLine; decide), fun p4 n4 => ⟨(by show 6 ≤ sizeLine; decide), fun p5 n5 => ?_⟩⟩⟩⟩⟩
    have v1 := same_new n1 (.tup [])
    have b1 : (upd H1 p1 (.tup [])) p1 = _ := upd_same
    generalize (upd H1 p1 (.tup [])) = H2 at n2 n3 n4 n5 v1 b1 ⊢
    have v2 := same_new n2 (.lst [])
    have b2 : (upd H2 p2 (.lst [])) p2 = _ := upd_same
    generalize (upd H2 p2 (.lst [])) = H3 at n3 n4 n5 v2 b2 ⊢
    have v3 := same_new n3 (.tup [])
    have b3 : (upd H3 p3 (.tup [])) p3 = _ := upd_same
    generalize (upd H3 p3 (.tup [])) = H4 at n4 n5 v3 b3 ⊢
    have v4 := same_new n4 (.tup [.ref p3])
    have b4 : (upd H4 p4 (.tup [.ref p3])) p4 = _ := upd_same
    generalize (upd H4 p4 (.tup [.ref p3])) = H5 at n5 v4 b4 ⊢
    have v5 := same_new n5 (.lst [.ref p1, .ref p2, .non, .str "", .ref p4, .int 0])
    have b5 : (upd H5 p5 (.lst [.ref p1, .ref p2, .non, .str "", .ref p4, .int 0])) p5 = _ := upd_same
    have v14 := ((v1.trans v2).trans v3).trans v4
    have s5 := s1.same v14
    have p5S := s5.neS n5
    have p5C := s5.neC n5
    have f5 : Fr S C H _ := Fr.of_same (w1.trans (v14.trans v5))
    have s6 := s5.same v5
    have B1 := xB1 p1 n1
    have B2 := xB1 p2 (v1.free n2)
    have B3 := xB1 p3 ((v1.trans v2).free n3)
    have B4 := xB1 p4 (((v1.trans v2).trans v3).free n4)
    have dps : DpAll K (newp B (upd H5 p5 (.lst [.ref p1, .ref p2, .non, .str "", .ref p4, .int 0]))) [.ref p1, .ref p2, .non, .str "", .ref p4, .int 0] [.tuple [], .list [], .none, .str "", .tuple [.tuple []], .int 0] :=
      .cons (new_tup B1 (v5 _ _ (v4 _ _ (v3 _ _ (v2 _ _ b1)))) .nil) (.cons (new_lst B2 (v5 _ _ (v4 _ _ (v3 _ _ b2))) .nil) (.cons .non (.cons (.str _)
        (.cons (new_tup B4 (v5 _ _ b4) (.cons (new_tup B3 (v5 _ _ (v4 _ _ b3)) .nil) .nil)) (.cons (.int _) .nil)))))
    have liv : LivA (newp B (upd H5 p5 (.lst [.ref p1, .ref p2, .non, .str "", .ref p4, .int 0]))) [.ref p1, .ref p2, .non, .str "", .ref p4, .int 0] [.tuple [], .list [], .none, .str "", .tuple [.tuple []], .int 0] :=
      .cons (.not rfl) (.cons (.lst ((newp_of B2).trans (v5 _ _ (v4 _ _ (v3 _ _ b2)))) rfl) (.cons (.not rfl) (.cons (.not rfl) (.cons (.not rfl) (.cons (.not rfl) .nil)))))
    generalize (upd H5 p5 (.lst [.ref p1, .ref p2, .non, .str "", .ref p4, .int 0])) = H6 at b5 f5 s6 dps liv ⊢
    refine ⟨_, rfl, S, C, n, 6, rfl, s6, by omega, by decide, by decide, fun r H7 r0 r1 s7 f7 => ?_⟩
    obtain ⟨v', d', e1, hd', hv', lv'⟩ := DpAll_atL (DpAll_mono (newp_fr sB f7) dps) (LivA.mono (newp_fr sB f7) liv) r0 r1
    have all6 : ∀ d ∈ ([.tuple [], .list [], .none, .str "", .tuple [.tuple []], .int 0] : List PyData), fine d = true ∧ d.depth ≤ 2 ∧ big d ≤ 2000 := by
      intro d h
      simp only [List.mem_cons, List.not_mem_nil, or_false] at h
      rcases h with rfl | rfl | rfl | rfl | rfl | rfl <;> decide +kernel
    obtain ⟨o1, o2, o3⟩ := all6 d' hd'
    exact ⟨p5, _, r, v', rfl, rfl, SqL.of (cut_keep f7 p5S p5C b5), e1, q v' d' H7 hv' o1 (by omega) (fun _ => o2) (by omega) lv' (s7.mono (by omega)) (f5.trans f7)⟩
  · have ne : 0 < ds.length := by
      cases ds with
      | nil => exact absurd rfl c
      | cons x y => exact Nat.succ_pos _
    have sx1 : SqT K (newp B H1) a xs := Same.seqT (newp_right w1) sx
    have dx1 := DpAll_mono (newp_right (H := B) w1) dx
    refine ⟨_, rfl, _, rfl, a, xs, rfl, .inr (Same.seqT newp_same sx1), S, C, n, (xs.length : Int), rfl, s1, by omega, by omega, by omega, fun r H2 r0 r1 s2 f2 => ?_⟩
    obtain ⟨i0, rfl⟩ : ∃ i0 : Nat, r = (i0 : Int) := ⟨r.toNat, by omega⟩
    obtain ⟨ve, e1, e2⟩ := at_int r0 r1
    rw [Int.toNat_natCast] at e2
    have hi0 : i0 < ds.length := by omega
    have dx2 : DpAll K (newp B H2) xs ds := DpAll_mono (newp_fr sB f2) dx1
    have sx2 : SqT K (newp B H2) a xs := Same.seqT (newp_fr sB f2) sx1
    obtain ⟨e, g1, g2⟩ := DpAll_get i0 dx2 e2
    obtain ⟨dn, dv, rfl⟩ := pair_is (List.all_eq_true.mp pr e (List.mem_of_getElem? g1))
    obtain ⟨b, x, y, rfl, sb, hx2, hy2⟩ : ∃ b x y, ve = .ref b ∧ SqT K (newp B H2) b [x, y] ∧ Dp K (newp B H2) x dn ∧ Dp K (newp B H2) y dv := by
      cases g2 with
      | @tup _ ys _ sy hy =>
        cases hy with
        | cons h1 hr =>
          cases hr with
          | cons h2 hr2 =>
            cases hr2
            exact ⟨_, _, _, rfl, sy, h1, h2⟩
    refine ⟨_, rfl, _, rfl, a, xs, (i0 : Int), _, rfl, rfl, Same.seqT newp_same sx2, e1, b, [x, y], rfl, Same.seqT newp_same sb, rfl, _, _, rfl, _, _, rfl, rfl, ?_⟩
    refine ⟨_, rfl, _, rfl, (by show 2 ≤ sizeLine; decide), fun p1 n1 => ⟨_, rfl, (by show 1 ≤ sizeLine; decide), fun p2 n2 => ⟨_, rfl, _, rfl, _, rfl, (by show 3 ≤ sizeLine; decide), fun p3 n3 => ?_⟩⟩⟩
    have xB2 : Ext B H2 := xB1.trans (Fr.ext s2 f2)
    have t1 : Dp K (newp B (upd H2 p1 (.lst [x, y]))) (.ref p1) (.list [dn, dv]) := lay_lst xB2 n1 (.cons hx2 (.cons hy2 .nil))
    have f3 : Fr S C H2 _ := Fr.lay n1 (.lst [x, y])
    have s3 := s2.lay n1 (.lst [x, y])
    generalize (upd H2 p1 (.lst [x, y])) = H3 at n2 n3 t1 f3 s3 ⊢
    have xB3 := xB2.trans (Fr.ext s3 f3)
    have hx3 := Dp_mono (newp_fr sB f3) hx2
    have hy3 := Dp_mono (newp_fr sB f3) hy2
    have t2 : Dp K (newp B (upd H3 p2 (.tup [x]))) (.ref p2) (.tuple [dn]) := lay_tup xB3 n2 (.cons hx3 .nil)
    have f4 : Fr S C H3 _ := Fr.lay n2 (.tup [x])
    have s4 := s3.lay n2 (.tup [x])
    generalize (upd H3 p2 (.tup [x])) = H4 at n3 t2 f4 s4 ⊢
    have xB4 := xB3.trans (Fr.ext s4 f4)
    have hx4 := Dp_mono (newp_fr sB f4) hx3
    have hy4 := Dp_mono (newp_fr sB f4) hy3
    have t3 : Dp K (newp B (upd H4 p3 (.tup [x, y, y]))) (.ref p3) (.tuple [dn, dv, dv]) := lay_tup xB4 n3 (.cons hx4 (.cons hy4 (.cons hy4 .nil)))
    have f5 : Fr S C H4 _ := Fr.lay n3 (.tup [x, y, y])
    have s5 := s4.lay n3 (.tup [x, y, y])
    generalize (upd H4 p3 (.tup [x, y, y])) = H5 at t3 f5 s5 ⊢
    have xB5 := xB4.trans (Fr.ext s5 f5)
    refine ⟨_, rfl, S, C, n + 1, [], rfl, rfl, s5, by omega, fun vn dn' H6 hvn hnn s6 f6 => ⟨_, rfl, (by show 2 ≤ sizeLine; decide), fun p4 n4 => ⟨(by show 4 ≤ sizeLine; decide), fun p5 n5 => ?_⟩⟩⟩
    have xB6 := xB5.trans (Fr.ext s6 f6)
    have g56 := f5.trans f6
    have hx6 := Dp_mono (newp_fr sB g56) hx4
    have hy6 := Dp_mono (newp_fr sB g56) hy4
    have hvn6 : Dp K (newp B H6) vn dn' := Dp_mono (newp_left xB5) hvn
    have t4 : Dp K (newp B (upd H6 p4 (.tup [vn, y]))) (.ref p4) (.tuple [dn', dv]) := lay_tup xB6 n4 (.cons hvn6 (.cons hy6 .nil))
    have f7 : Fr S C H6 _ := Fr.lay n4 (.tup [vn, y])
    have s7 := s6.lay n4 (.tup [vn, y])
    generalize (upd H6 p4 (.tup [vn, y])) = H7 at n5 t4 f7 s7 ⊢
    have xB7 := xB6.trans (Fr.ext s7 f7)
    have f8 : Fr S C H7 _ := Fr.lay n5 (.lst [.ref p1, .ref p2, .ref p3, .ref p4])
    have s8 := s7.lay n5 (.lst [.ref p1, .ref p2, .ref p3, .ref p4])
    have b5 : (upd H7 p5 (.lst [.ref p1, .ref p2, .ref p3, .ref p4])) p5 = _ := upd_same
    have p5S := s7.neS n5
    have p5C := s7.neC n5
    generalize (upd H7 p5 (.lst [.ref p1, .ref p2, .ref p3, .ref p4])) = H8 at f8 s8 b5 ⊢
    have xB8 := xB7.trans (Fr.ext s8 f8)
    refine ⟨_, rfl, _, rfl, _, rfl, S, C, _, [], rfl, rfl, s8, by omega, fun vv dv' H9 hvv hnv s9 f9 => ⟨(by show 2 ≤ sizeLine; decide), fun p6 n6 => ⟨_, rfl, _, rfl, S, C, _, [.int 2], rfl, rfl, s9.lay n6 _, by show n + 1 + 30 + 260 + 47 ≤ _; omega, fun vt dt H11 hvt hnt s11 f11 => ⟨(by show 2 ≤ sizeLine; decide), fun p7 n7 => ⟨_, rfl, (by show 4 ≤ sizeLine; decide), fun p8 n8 => ?_⟩⟩⟩⟩⟩
    have xB9 := xB8.trans (Fr.ext s9 f9)
    have g69 := (f7.trans f8).trans f9
    have hx9 := Dp_mono (newp_fr sB g69) hx6
    have t6 : Dp K (newp B (upd H9 p6 (.tup [x, vv]))) (.ref p6) (.tuple [dn, dv']) := lay_tup xB9 n6 (.cons hx9 (.cons (Dp_mono (newp_left xB8) hvv) .nil))
    have f10 : Fr S C H9 _ := Fr.lay n6 (.tup [x, vv])
    have s10 := s9.lay n6 (.tup [x, vv])
    generalize (upd H9 p6 (.tup [x, vv])) = H10 at hvt s11 f11 t6 f10 s10 ⊢
    have xB10 := xB9.trans (Fr.ext s10 f10)
    have xB11 := xB10.trans (Fr.ext s11 f11)
    have g911 := f10.trans f11
    have hx11 := Dp_mono (newp_fr sB g911) hx9
    have t7 : Dp K (newp B (upd H11 p7 (.tup [x, vt]))) (.ref p7) (.tuple [dn, dt]) := lay_tup xB11 n7 (.cons hx11 (.cons (Dp_mono (newp_left xB10) hvt) .nil))
    have f12 : Fr S C H11 _ := Fr.lay n7 (.tup [x, vt])
    have s12 := s11.lay n7 (.tup [x, vt])
    generalize (upd H11 p7 (.tup [x, vt])) = H12 at n8 t7 f12 s12 ⊢
    have f13 : Fr S C H12 _ := Fr.lay n8 (.lst [.ref p6, .ref p7, .non, x])
    have s13 := s12.lay n8 (.lst [.ref p6, .ref p7, .non, x])
    have b8 : (upd H12 p8 (.lst [.ref p6, .ref p7, .non, x])) p8 = _ := upd_same
    generalize (upd H12 p8 (.lst [.ref p6, .ref p7, .non, x])) = H13 at f13 s13 b8 ⊢
    have g813 := (f9.trans (g911.trans f12)).trans f13
    refine ⟨p5, p8, _, _, rfl, rfl, cut_keep g813 p5S p5C b5, b8, (by show 8 ≤ sizeLine; decide), fun p9 n9 => ?_⟩
    have xB13 := xB8.trans (Fr.ext s13 g813)
    have f14 : Fr S C H13 _ := Fr.lay n9 (.lst [.ref p1, .ref p2, .ref p3, .ref p4, .ref p6, .ref p7, .non, x])
    have s14 := s13.lay n9 (.lst [.ref p1, .ref p2, .ref p3, .ref p4, .ref p6, .ref p7, .non, x])
    have b9 : (upd H13 p9 (.lst [.ref p1, .ref p2, .ref p3, .ref p4, .ref p6, .ref p7, .non, x])) p9 = _ := upd_same
    have p9S := s13.neS n9
    have p9C := s13.neC n9
    show gName 5 (.ref p9) _ (upd H13 p9 (.lst [.ref p1, .ref p2, .ref p3, .ref p4, .ref p6, .ref p7, .non, x])) _
    generalize (upd H13 p9 (.lst [.ref p1, .ref p2, .ref p3, .ref p4, .ref p6, .ref p7, .non, x])) = H14 at f14 s14 b9 ⊢
    have xB14 := xB13.trans (Fr.ext s14 f14)
    have g1214 := f13.trans f14
    have g1114 := f12.trans g1214
    have g1014 := f11.trans g1114
    have g714 := f8.trans (g813.trans f14)
    have g514 := (f6.trans f7).trans g714
    have g414 := f5.trans g514
    have g314 := f4.trans g414
    have g214 := f3.trans g314
    have some8 : DpAll K (newp B H14) [.ref p1, .ref p2, .ref p3, .ref p4, .ref p6, .ref p7, .non, x] [.list [dn, dv], .tuple [dn], .tuple [dn, dv, dv], .tuple [dn', dv], .tuple [dn, dv'], .tuple [dn, dt], .none, dn] :=
      .cons (Dp_mono (newp_fr sB g314) t1) (.cons (Dp_mono (newp_fr sB g414) t2) (.cons (Dp_mono (newp_fr sB g514) t3) (.cons (Dp_mono (newp_fr sB g714) t4)
        (.cons (Dp_mono (newp_fr sB g1014) t6) (.cons (Dp_mono (newp_fr sB g1214) t7) (.cons .non (.cons (Dp_mono (newp_fr sB g214) hx2) .nil)))))))
    have dx14 := DpAll_mono (newp_fr sB g214) dx2
    have sx14 : SqT K (newp B H14) a xs := Same.seqT (newp_fr sB g214) sx2
    have hd14 : Dp K (newp B H14) (.ref a) (.tuple ds) := .tup sx14 dx14
    have f014 : Fr S C H H14 := ((Fr.of_same w1).trans f2).trans g214
    have s14' : Strm S C (n + 400) H14 := s14.mono (by show n + 1 + 30 + 260 + 47 ≤ _; omega)
    clear t1 t2 t3 t4 t6 t7 f3 f4 f5 f6 f7 f8 f9 f10 f11 f12 f13 s3 s4 s5 s6 s7 s8 s9 s10 s11 s12 s13 s14 hx3 hy3 hx4 hy4 hx6 hy6 hx9 hx11 hvn hvv hvt hvn6 b5 b8 n1 n2 n3 n4 n5 n6 n7 n8 n9 g813 g1214 g1114 g1014 g714 g514 g414 g314 g911 g69 g56
    refine ⟨_, rfl, p9, rfl, ⟨_, SqL.of b9⟩, fun D nD => ?_⟩
    obtain ⟨G, xBG, gD, sG, sm, xG⟩ := side_ext sB xB14 nD (.lst [])
    have N : Nices (PyData.depthAll ds) (bigs ds) ds := ⟨od.fine, Nat.le_refl _, Nat.le_refl _⟩
    have Np := N.mem (List.mem_of_getElem? g1)
    have fp : fine dn = true ∧ fine dv = true := by
      have h := Np.fine
      simp only [fine, fines, Bool.and_true, Bool.and_eq_true] at h
      exact h
    have zp : dn.depth + 1 ≤ PyData.depthAll ds ∧ dv.depth + 1 ≤ PyData.depthAll ds := by
      have h := Np.depth
      simp only [PyData.depth, PyData.depthAll] at h
      omega
    have bp : big dn + big dv + 7 ≤ bigs ds := by
      have h := Np.big
      simp only [big, bigs] at h
      omega
    have Nn : Nice (PyData.depthAll ds - 1) (big dn) dn := ⟨fp.1, by omega, Nat.le_refl _⟩
    have Nv : Nice (PyData.depthAll ds - 1) (big dv) dv := ⟨fp.2, by omega, Nat.le_refl _⟩
    have Nn' : Nice 0 402 dn' := by
      obtain ⟨z, rfl, hz, oz⟩ := hnn
      exact Nice.str oz (by omega)
    have Nv' : Nice 4 40000 dv' := hnv
    have Nt : Nice 3 18936 dt := hnt
    have all8 : ∀ e ∈ ([.list [dn, dv], .tuple [dn], .tuple [dn, dv, dv], .tuple [dn', dv], .tuple [dn, dv'], .tuple [dn, dt], .none, dn] : List PyData), Nice (max (PyData.depthAll ds) 5) (2 * bigs ds + 41000) e := by
      have Z := PyData.depthAll ds
      intro e h
      simp only [List.mem_cons, List.not_mem_nil, or_false] at h
      have m1 : ∀ {b : Nat} {d : PyData}, Nice (PyData.depthAll ds - 1) b d → Nice (max (PyData.depthAll ds) 5 - 1) b d := fun h => h.mono (by omega) (Nat.le_refl _)
      have m2 : ∀ {k b : Nat} {d : PyData}, Nice k b d → k ≤ 4 → Nice (max (PyData.depthAll ds) 5 - 1) b d := fun h hk => h.mono (by omega) (Nat.le_refl _)
      rcases h with rfl | rfl | rfl | rfl | rfl | rfl | rfl | rfl
      · exact ((Nices.one (m1 Nn)).append (.one (m1 Nv))).lst.mono (by omega) (by omega)
      · exact (Nices.one (m1 Nn)).tup.mono (by omega) (by omega)
      · exact ((Nices.one (m1 Nn)).append ((Nices.one (m1 Nv)).append (.one (m1 Nv)))).tup.mono (by omega) (by omega)
      · exact ((Nices.one (m2 Nn' (by decide))).append (.one (m1 Nv))).tup.mono (by omega) (by omega)
      · exact ((Nices.one (m1 Nn)).append (.one (m2 Nv' (by decide)))).tup.mono (by omega) (by omega)
      · exact ((Nices.one (m1 Nn)).append (.one (m2 Nt (by decide)))).tup.mono (by omega) (by omega)
      · exact ⟨rfl, Nat.zero_le _, by show 5 ≤ _; omega⟩
      · exact Nn.mono (by omega) (by omega)
    have len2 := bigs_len ds
    have size2 : bigs ds + 3 ≤ sizeLine := od.big
    have take0 : (ds.take i0).length = i0 := by rw [List.length_take]; omega
    have drop0 : (ds.drop (i0 + 1)).length = ds.length - (i0 + 1) := List.length_drop ..
    refine lc_base (K := K) (G := G) (R := fun d => Nice (max (PyData.depthAll ds + 1) 6) (4 * bigs ds + 50000) d ∧ isLst d = false) s14' nD sG gD xG p9S p9C b9 (fun _ => rfl) (by show 8 ≤ 100000; decide) (fun i x3 H15 q3 hx3 s15 f15 x15 k15 => ?_) fun H15 vs15 ds15 e15 dp15 hl15 hR15 s15 f15 x15 => ?_
    · have sm15 := sm.trans (newp_fr sG f15)
      obtain ⟨d3, hd3, hv3⟩ := DpAll_get i (DpAll_mono sm15 some8) hx3
      have N3 := all8 d3 (List.mem_of_getElem? hd3)
      have hd15 := Dp_mono sm15 hd14
      refine ⟨_, rfl, _, rfl, _, rfl, take_by x15 hd15 fun v1 H16 h16 w16 => ⟨_, rfl, (by show 1 ≤ sizeLine; decide), fun T nT => ?_⟩⟩
      have x16 := x15.trans (Ext.of_same w16)
      have h3 := lay_tup x16 nT (.cons (Dp_mono (newp_right w16) hv3) .nil)
      have wT := same_new nT (.tup [x3])
      generalize (upd H16 T (.tup [x3])) = H17 at h3 wT ⊢
      have x17 := x16.trans (Ext.of_same wT)
      refine cat_by x17 (Dp_mono (newp_right wT) h16) h3 (by rw [take0]; show i0 + 1 ≤ sizeLine; omega) fun v2 H18 h18 w18 => ?_
      have x18 := x17.trans (Ext.of_same w18)
      have w1518 := (w16.trans wT).trans w18
      refine ⟨_, rfl, _, rfl, _, _, rfl, rfl, ((i0 + 1 : Nat) : Int), congrArg V.int (show (i0 : Int) + 1 = ((i0 + 1 : Nat) : Int) by omega), ?_⟩
      show rSlA K (.ref a) (some ((i0 + 1 : Nat) : Int)) none H18 (fun y H2 => rCatA K v2 y H2 q3)
      refine drop_by (i := i0 + 1) x18 (Dp_mono (newp_right w1518) hd15) (by omega) fun v3 H19 h19 w19 => ?_
      have x19 := x18.trans (Ext.of_same w19)
      refine cat_by x19 (Dp_mono (newp_right w19) h18) h19 (by rw [List.length_append, take0, drop0]; show i0 + 1 + _ ≤ sizeLine; omega) fun v4 H20 h20 w20 => ?_
      have wAll := (w1518.trans w19).trans w20
      refine k15 v4 _ H20 h20 ?_ (s15.same wAll) (Fr.of_same wAll)
      refine ⟨?_, rfl⟩
      exact ((((N.take i0).mono (Nat.le_max_left _ 5) (Nat.le_refl _)).append (.one N3)).append ((N.drop (i0 + 1)).mono (Nat.le_max_left _ 5) (Nat.le_refl _))).tup.mono (by omega) (by omega)
    · have neS := s14'.neS nD
      have neC := s14'.neC nD
      have xB15 := xB14.trans (Fr.ext s15 f15)
      have hd15 : Dp K (newp B H15) (.ref a) (.tuple ds) := Dp_mono (newp_fr sB f15) hd14
      have dx15 := DpAll_mono (newp_fr sB f15) dx14
      have sx15 := Same.seqT (newp_fr sB f15) sx14
      have dpB : DpAll K (newp B H15) vs15 ds15 := DpAll_mono (newp_left xBG) dp15
      refine ⟨_, rfl, _, rfl, a, xs, rfl, .inr (Same.seqT newp_same sx15), fun l1 m1 => ?_⟩
      have u1 : Dp K (newp B (upd H15 l1 (.lst xs))) (.ref l1) (.list ds) := lay_lst xB15 m1 dx15
      have w1 := same_new m1 (.lst xs)
      have el1 : newp B (upd H15 l1 (.lst xs)) l1 = some (.lst xs) := (newp_of (xB15 l1 m1)).trans upd_same
      generalize (upd H15 l1 (.lst xs)) = H16 at u1 w1 el1 ⊢
      have x16 := xB15.trans (Ext.of_same w1)
      have hd16 := Dp_mono (newp_right w1) hd15
      refine ⟨_, rfl, _, rfl, _, rfl, _, rfl, _, rfl, _, _, rfl, rfl, ((i0 + 1 : Nat) : Int), congrArg V.int (show (i0 : Int) + 1 = ((i0 + 1 : Nat) : Int) by omega), mid_by x16 hd16 (by omega) (by omega) fun v2 H17 h17 w2 => ?_⟩
      have x17 := x16.trans (Ext.of_same w2)
      have len3 : ((ds.drop i0).take (i0 + 1 - i0)).length ≤ 1 := by
        rw [List.length_take]; omega
      refine cat_by x17 (Dp_mono (newp_right w2) hd16) h17 (by omega) fun v3 H18 h18 w3 => ?_
      have x18 := x17.trans (Ext.of_same w3)
      have w13 := (w1.trans w2).trans w3
      refine ⟨_, rfl, a, xs, rfl, Same.seqT newp_same (Same.seqT (newp_right w13) sx15), by omega, fun p10 n10 => ⟨(by show 3 ≤ sizeLine; decide), fun p11 n11 => ?_⟩⟩
      have u3 : Dp K (newp B (upd H18 p10 (.tup xs.reverse))) (.ref p10) (.tuple ds.reverse) := lay_tup x18 n10 (DpAll_rev (DpAll_mono (newp_right w13) dx15))
      have w4 := same_new n10 (.tup xs.reverse)
      generalize (upd H18 p10 (.tup xs.reverse)) = H19 at n11 u3 w4 ⊢
      have w5 := same_new n11 (.lst [.ref l1, v3, .ref p10])
      have b11 : (upd H19 p11 (.lst [.ref l1, v3, .ref p10])) p11 = _ := upd_same
      generalize (upd H19 p11 (.lst [.ref l1, v3, .ref p10])) = H20 at w5 b11 ⊢
      have w1520 := (w13.trans w4).trans w5
      have l15 : vs15.length = 8 := by rw [DpAll_len dp15, hl15]; rfl
      refine ⟨D, p11, _, _, rfl, rfl, w1520 _ _ e15, b11, (by rw [l15]; show 11 ≤ sizeLine; decide), fun p12 n12 => ?_⟩
      have w6 := same_new n12 (.lst (vs15 ++ [.ref l1, v3, .ref p10]))
      have b12 : (upd H20 p12 (.lst (vs15 ++ [.ref l1, v3, .ref p10]))) p12 = _ := upd_same
      have s20 := s15.same w1520
      have p12S := s20.neS n12
      have p12C := s20.neC n12
      generalize (upd H20 p12 (.lst (vs15 ++ [.ref l1, v3, .ref p10]))) = H21 at w6 b12 ⊢
      have w1521 := w1520.trans w6
      have w1821 := (w4.trans w5).trans w6
      have eleven : DpAll K (newp B H21) (vs15 ++ [.ref l1, v3, .ref p10]) (ds15 ++ [.list ds, .tuple (ds ++ (ds.drop i0).take (i0 + 1 - i0)), .tuple ds.reverse]) :=
        DpAll_append (DpAll_mono (newp_right w1521) dpB) (.cons (Dp_mono (newp_right (((w2.trans w3).trans w4).trans (w5.trans w6))) u1) (.cons (Dp_mono (newp_right w1821) h18) (.cons (Dp_mono (newp_right (w5.trans w6)) u3) .nil)))
      have nice11 : ∀ d ∈ ds15 ++ [.list ds, .tuple (ds ++ (ds.drop i0).take (i0 + 1 - i0)), .tuple ds.reverse], Nice (max (PyData.depthAll ds + 1) 6) (4 * bigs ds + 50000) d := by
        intro d hd
        rcases List.mem_append.mp hd with h | h
        · exact (hR15 d h).1
        · simp only [List.mem_cons, List.not_mem_nil, or_false] at h
          rcases h with rfl | rfl | rfl
          · exact N.lst.mono (by omega) (by omega)
          · exact (N.append ((N.drop i0).take (i0 + 1 - i0))).tup.mono (by omega) (by omega)
          · exact N.rev.tup.mono (by omega) (by omega)
      have liv11 : LivA (newp B H21) (vs15 ++ [.ref l1, v3, .ref p10]) (ds15 ++ [.list ds, .tuple (ds ++ (ds.drop i0).take (i0 + 1 - i0)), .tuple ds.reverse]) :=
        (LivA.nots (DpAll_len dpB) fun d hd => (hR15 d hd).2).append (.cons (.mono (newp_right (((w2.trans w3).trans w4).trans (w5.trans w6))) (.lst el1 lx)) (.cons (.not rfl) (.cons (.not rfl) .nil)))
      refine ⟨_, rfl, S, C, n + 400, 11, rfl, s15.same w1521, by omega, by decide, by decide, fun r2 H22 q0 q1 s22 f22 => ?_⟩
      obtain ⟨v', d', e1', hd', hv', lv'⟩ := DpAll_atL (DpAll_mono (newp_fr sB f22) eleven) (LivA.mono (newp_fr sB f22) liv11) q0 (by rw [List.length_append, l15]; show r2 < 11; exact q1)
      have N' := nice11 d' hd'
      exact ⟨p12, _, r2, v', rfl, rfl, SqL.of (cut_keep f22 p12S p12C b12), e1', q v' d' H22 hv' N'.fine N'.depth (fun z => absurd ne (by rw [z]; exact Nat.lt_irrefl _)) (Nat.le_trans N'.big (by omega)) lv' (s22.mono (by omega)) ((f014.trans f15).trans ((Fr.of_same w1521).trans f22))⟩

/-! ### _law_bent_tree -/
theorem bent_step (m kk : Nat) (spR : Sp) (ih : FnOk P w K mg base CX0 kk Z.f__law_bent_tree Z.fd__law_bent_tree ["_law_stream", "_law_part"] spR) (hk : kk ≤ m + 7) (hsp : ∀ m', m = m' + 1 → spR = spBent K m) : FnOk P w K mg base CX0 (m+8) Z.f__law_bent_tree Z.fd__law_bent_tree ["_law_stream", "_law_part"] (spBent K (m+1)) := by
  refine Z.D__law_bent_tree.F.ok sc__law_bent_tree (fun vs H Q E h => ?_) (fun cdv A outer s H vs Q E hr h => ?_)
  · obtain ⟨S, C, k, nb, j, B, v, d, rfl, _⟩ := h
    rfl
  obtain ⟨S, C, k, nb, j, B, v, d, rfl, st, hn, sB, xB, hd, fd, zd, hj, bd, td, q⟩ := h
  obtain ⟨ps, cs, rfl, pp, pc, tc⟩ := sh_is td
  have hr1 : Room 1 (A.deeper (envOfC "_law_bent_tree" (defScope s__law_bent_tree) s.heap.objs.size Z.f__law_bent_tree cdv)) := hr.mono (by omega)
  have hr4 : Room 4 (A.deeper (envOfC "_law_bent_tree" (defScope s__law_bent_tree) s.heap.objs.size Z.f__law_bent_tree cdv)) := hr.mono (by omega)
  have hr6 : Room 6 (A.deeper (envOfC "_law_bent_tree" (defScope s__law_bent_tree) s.heap.objs.size Z.f__law_bent_tree cdv)) := hr.mono (by omega)
  have hrk : Room kk (A.deeper (envOfC "_law_bent_tree" (defScope s__law_bent_tree) s.heap.objs.size Z.f__law_bent_tree cdv)) := hr.mono hk
  refine ⟨_, (C8.pss_cut (ps_if (PW.pt (pw_and (pt_cmpR (neDK (K := K) hr.units) (pe_ix (ixT (K := K)) (pv 1) pe_int (fun _ _ => rfl)) (pe_tup pa_nil) (nomark _)) (pw_and1 (pt_cmpR op_gt (pe_call (ok__law_draw Z) hr1 (by rfl) Z.D__law_draw.m Z.D__law_draw.F.kp Z.D__law_draw.b .nil pass0 (pa_cons (pv 0) (pa_cons pe_int pa_nil))) pe_int (nomark _))))) (pss_cons (ps_set (i := 2) sc__law_bent_tree.nd rfl (.inl rfl) (pe_call (ok__law_draw Z) hr1 (by rfl) Z.D__law_draw.m Z.D__law_draw.F.kp Z.D__law_draw.b .nil pass0 (pa_cons (pv 0) (pa_cons (pe_callB (lenK (K := K)) (by rfl) Z.T.len (by decide +kernel) (pa_cons (pe_ix (ixT (K := K)) (pv 1) pe_int (fun _ _ => rfl)) pa_nil)) pa_nil))))
    (pss_cons (ps_asg (pe_ix (ixT (K := K)) (pe_ix (ixT (K := K)) (pv 1) pe_int (fun _ _ => rfl)) (pv 2) (fun _ _ => rfl)) (pg_tup rfl (pgs_cons (pg_name (i := 3) sc__law_bent_tree.nd rfl (.inl rfl)) (pgs_cons (pg_name (i := 4) sc__law_bent_tree.nd rfl (.inl rfl)) pgs_nil))))
    (pss_one (ps_ret (pe_tup (pa_cons (pe_ix (ixT (K := K)) (pv 1) pe_int (fun _ _ => rfl)) (pa_cons (pe_op (caA (K := K)) (pe_op (caA (K := K)) (pe_slice (slA (K := K)) (pe_ix (ixT (K := K)) (pv 1) pe_int (fun _ _ => rfl)) po_none (po_some (pv 2))) (pe_tup (pa_cons (pe_tup (pa_cons (pv 3) (pa_cons (pe_call ih hrk (by rfl) Z.D__law_bent_tree.m Z.D__law_bent_tree.F.kp Z.D__law_bent_tree.b .nil pass0 (pa_cons (pv 0) (pa_cons (pv 4) pa_nil))) pa_nil))) pa_nil))) (pe_slice (slA (K := K)) (pe_ix (ixT (K := K)) (pv 1) pe_int (fun _ _ => rfl)) (po_some (pe_op op_add (pv 2) pe_int)) po_none)) pa_nil))))))) pss_nil)
    (pss_cons (ps_set (i := 5) sc__law_bent_tree.nd rfl (.inl rfl) (pe_call (ok__law_draw Z) hr1 (by rfl) Z.D__law_draw.m Z.D__law_draw.F.kp Z.D__law_draw.b .nil pass0 (pa_cons (pv 0) (pa_cons pe_int pa_nil))))
    (pss_cons (ps_if (pt_cmpR op_eq (pv 5) pe_int (nomark _)) (pss_one (ps_ret (pe_ix (ixL (K := K)) (pe_lst (pa_cons (pe_callTy (lstK (K := K)) (by rfl) Z.T.list (by decide +kernel) (pa_cons (pv 1) pa_nil)) (pa_cons (pe_op (caA (K := K)) (pv 1) (pe_tup (pa_cons (pe_tup pa_nil) pa_nil))) (pa_cons (pe_slice (slA (K := K)) (pv 1) po_none (po_some pe_int)) (pa_cons (pe_call (ok__law_thing Z 2) hr4 (by rfl) Z.D__law_thing.m Z.D__law_thing.F.kp Z.D__law_thing.b .nil pass0 (pa_cons (pv 0) (pa_cons pe_int pa_nil))) pa_nil))))) (pe_call (ok__law_draw Z) hr1 (by rfl) Z.D__law_draw.m Z.D__law_draw.F.kp Z.D__law_draw.b .nil pass0 (pa_cons (pv 0) (pa_cons pe_int pa_nil))) (fun _ _ => rfl)))) pss_nil)
    (pss_cons (ps_set (i := 6) sc__law_bent_tree.nd rfl (.inl rfl) (pe_callTy (lstK (K := K)) (by rfl) Z.T.list (by decide +kernel) (pa_cons (pv 1) pa_nil)))
    (pss_cons (ps_asg (pe_call (ok__law_bent_pairs Z) hr6 (by rfl) Z.D__law_bent_pairs.m Z.D__law_bent_pairs.F.kp Z.D__law_bent_pairs.b .nil pass0 (pa_cons (pv 0) (pa_cons (pe_ix (ixT (K := K)) (pv 1) (pe_op op_mod (pe_callTy call_int1 (by rfl) Z.T.int (by decide +kernel) (pa_cons (pv 5) pa_nil)) pe_int) (fun _ _ => rfl)) pa_nil))) (pg_sub (pv 6) (pe_op op_mod (pe_callTy call_int1 (by rfl) Z.T.int (by decide +kernel) (pa_cons (pv 5) pa_nil)) pe_int) set_list))
    (pss_one (ps_ret (pe_callTy (tupK (K := K)) (by rfl) Z.T.tuple (by decide +kernel) (pa_cons (pv 6) pa_nil))))))))), ?_⟩
  obtain ⟨a, vp, vc, rfl, sa, hp, hc⟩ : ∃ a vp vc, v = .ref a ∧ SqT K (newp B H) a [vp, vc] ∧ Dp K (newp B H) vp (.tuple ps) ∧ Dp K (newp B H) vc (.tuple cs) := by
    cases hd with
    | @tup _ ys _ sy hy =>
      cases hy with
      | cons h1 hr =>
        cases hr with
        | cons h2 hr2 =>
          cases hr2
          exact ⟨_, _, _, rfl, sy, h1, h2⟩
  obtain ⟨c, xs, rfl, sc, dc⟩ : ∃ c xs, vc = .ref c ∧ SqT K (newp B H) c xs ∧ DpAll K (newp B H) xs cs := by
    cases hc with
    | tup sx hx => exact ⟨_, _, rfl, sx, hx⟩
  have lx : xs.length = cs.length := DpAll_len dc
  have ff : fines ps = true ∧ fines cs = true := by
    simp only [fine, fines, Bool.and_true, Bool.and_eq_true] at fd
    exact fd
  have dd : PyData.depthAll ps + 2 ≤ 3 * j + 2 ∧ PyData.depthAll cs + 2 ≤ 3 * j + 2 := by
    simp only [PyData.depth, PyData.depthAll] at zd
    omega
  have bb : bigs ps + bigs cs + 13 = big (.tuple [.tuple ps, .tuple cs]) := by
    simp only [big, bigs]
    omega
  have lp := pairs_len ps pp
  have lc := pairs_len cs pc
  have sz : 16777216 = sizeLine := sizeLine_eq.symm
  have okp : Ok (.tuple ps) := ⟨ff.1, by show bigs ps + 3 ≤ sizeLine; omega, by show _ + 1 ≤ 60; omega⟩
  have okc : Ok (.tuple cs) := ⟨ff.2, by show bigs cs + 3 ≤ sizeLine; omega, by show _ + 1 ≤ 60; omega⟩
  have ok0 : SeqAt.shaped (.tuple []) = true := by decide
  refine ⟨fun σ H' => σ = [some (.ref S), some (.ref a), none, none, none, none, none] ∧ Strm S C (k + 1) H' ∧ Fr S C H H', ?_, ?_⟩
  · refine ⟨_, rfl, a, [vp, .ref c], 1, .ref c, rfl, rfl, Same.seqT newp_same sa, rfl, (by show 0 ≤ sizeLine; decide), fun p np => ?_⟩
    have w1 := same_new np (.tup [])
    have a1 : (upd H p (.tup [])) p = _ := upd_same
    have s1 := st.lay np (.tup [])
    generalize (upd H p (.tup [])) = H1 at w1 a1 s1 ⊢
    have xB1 : Ext B H1 := xB.trans (Ext.of_same w1)
    have hc1 := Dp_mono (newp_right (H := B) w1) hc
    refine ⟨_, _, Dp_mono newp_same hc1, .tup (SqT.of a1) .nil, okc.shaped, ok0, _, rfl, ite2 (fun c1 => ?_) (fun c1 => ?_)⟩
    · refine ⟨_, rfl, S, C, k, 3, rfl, s1, by omega, by decide, by decide, fun r0 H2 r00 r01 s2 f2 => ⟨_, _, rfl, rfl, _, rfl, ite2 (fun c2 => ?_) (fun c2 => ?_)⟩⟩
      · have ne : 0 < cs.length := by
          cases cs with
          | nil => exact absurd c1 (by decide)
          | cons x y => exact Nat.succ_pos _
        have f02 : Fr S C H H2 := (Fr.of_same w1).trans f2
        have x2 : Ext B H2 := xB1.trans (Fr.ext s2 f2)
        have m02 := (newp_right (H := B) w1).trans (newp_fr sB f2)
        refine ⟨_, rfl, _, rfl, a, [vp, .ref c], 1, .ref c, rfl, rfl, Same.seqT newp_same (Same.seqT m02 sa), rfl, c, xs, rfl, .inr (Same.seqT newp_same (Same.seqT m02 sc)), S, C, k + 1, (xs.length : Int), rfl, s2, by omega, by omega, by omega, fun r H3 r0 r1 s3 f3 => ?_⟩
        obtain ⟨i0, rfl⟩ : ∃ i0 : Nat, r = (i0 : Int) := ⟨r.toNat, by omega⟩
        obtain ⟨ve, e1, e2⟩ := at_int r0 r1
        rw [Int.toNat_natCast] at e2
        have hi0 : i0 < cs.length := by omega
        have x3 : Ext B H3 := x2.trans (Fr.ext s3 f3)
        have f03 := f02.trans f3
        have m03 := m02.trans (newp_fr sB f3)
        have sa3 := Same.seqT m03 sa
        have sc3 := Same.seqT m03 sc
        have hc3 := Dp_mono m03 hc
        have hp3 := Dp_mono m03 hp
        obtain ⟨e, g1, g2⟩ := DpAll_get i0 (DpAll_mono m03 dc) e2
        have ecs := List.mem_of_getElem? g1
        have te := tc e ecs
        obtain ⟨dn, dv, rfl⟩ := pair_is (List.all_eq_true.mp pc e ecs)
        obtain ⟨b, x, y, rfl, sb, hx3, hy3⟩ : ∃ b x y, ve = .ref b ∧ SqT K (newp B H3) b [x, y] ∧ Dp K (newp B H3) x dn ∧ Dp K (newp B H3) y dv := by
          cases g2 with
          | @tup _ ys _ sy hy =>
            cases hy with
            | cons h1 hr =>
              cases hr with
              | cons h2 hr2 =>
                cases hr2
                exact ⟨_, _, _, rfl, sy, h1, h2⟩
        have te' : shD m dv = true := te
        obtain ⟨m', rfl⟩ : ∃ m', m = m' + 1 := by
          cases m with
          | zero => cases te'
          | succ m' => exact ⟨m', rfl⟩
        obtain rfl := hsp m' rfl
        have N : Nices (PyData.depthAll cs) (bigs cs) cs := ⟨ff.2, Nat.le_refl _, Nat.le_refl _⟩
        have Np := N.mem ecs
        have fp : fine dn = true ∧ fine dv = true := by
          have h := Np.fine
          simp only [fine, fines, Bool.and_true, Bool.and_eq_true] at h
          exact h
        have zp : dn.depth + 1 ≤ PyData.depthAll cs ∧ dv.depth + 1 ≤ PyData.depthAll cs := by
          have h := Np.depth
          simp only [PyData.depth, PyData.depthAll] at h
          omega
        have split : bigs (cs.take i0) + (big (.tuple [dn, dv]) + 2 + bigs (cs.drop (i0 + 1))) = bigs cs := by
          have h1 := bigs_take_drop cs i0
          have h2 : cs.drop i0 = .tuple [dn, dv] :: cs.drop (i0 + 1) := by
            rw [List.drop_eq_getElem_cons hi0]
            rw [List.getElem?_eq_getElem hi0] at g1
            rw [Option.some.inj g1]
          rw [h2] at h1
          simp only [bigs] at h1 ⊢
          omega
        have bpair : big (.tuple [dn, dv]) = big dn + big dv + 7 := by
          simp only [big, bigs]
          omega
        have take0 : (cs.take i0).length = i0 := by rw [List.length_take]; omega
        have drop0 : (cs.drop (i0 + 1)).length = cs.length - (i0 + 1) := List.length_drop ..
        refine ⟨_, rfl, a, [vp, .ref c], 1, .ref c, rfl, rfl, Same.seqT newp_same sa3, rfl, _, rfl, c, xs, (i0 : Int), _, rfl, rfl, Same.seqT newp_same sc3, e1, b, [x, y], rfl, Same.seqT newp_same sb, rfl, _, _, rfl, _, _, rfl, rfl, ?_⟩
        refine ⟨_, rfl, a, [vp, .ref c], 0, vp, rfl, rfl, Same.seqT newp_same sa3, rfl, _, rfl, a, [vp, .ref c], 1, .ref c, rfl, rfl, Same.seqT newp_same sa3, rfl, _, rfl, (i0 : Int), rfl, take_by x3 hc3 fun v1 H4 h4 w4 => ?_⟩
        have x4 := x3.trans (Ext.of_same w4)
        have m34 := newp_right (H := B) w4
        refine ⟨_, rfl, _, rfl, _, rfl, S, C, k + 2, nb, j - 1, B, y, dv, rfl, s3.same w4, by omega, sB, x4, Dp_mono m34 hy3, fp.2, by omega, by omega, by omega, te', fun v' d' H5 h5 fd5 zd5 bd5 s5 f5 => ⟨(by show 2 ≤ sizeLine; decide), fun T1 n1 => ⟨(by show 1 ≤ sizeLine; decide), fun T2 n2 => ?_⟩⟩⟩
        have x5 := x4.trans (Fr.ext s5 f5)
        have m35 := m34.trans (newp_fr sB f5)
        have t1 := lay_tup x5 n1 (.cons (Dp_mono m35 hx3) (.cons h5 .nil))
        have wT1 := same_new n1 (.tup [x, v'])
        generalize (upd H5 T1 (.tup [x, v'])) = H6 at n2 t1 wT1 ⊢
        have x6 := x5.trans (Ext.of_same wT1)
        have t2 := lay_tup x6 n2 (.cons t1 .nil)
        have wT2 := same_new n2 (.tup [.ref T1])
        generalize (upd H6 T2 (.tup [.ref T1])) = H7 at t2 wT2 ⊢
        have x7 := x6.trans (Ext.of_same wT2)
        have m57 := newp_right (H := B) (wT1.trans wT2)
        have m47 := (newp_fr sB f5).trans m57
        refine cat_by x7 (Dp_mono m47 h4) t2 (by rw [take0]; show i0 + 1 ≤ sizeLine; omega) fun v2 H8 h8 w8 => ?_
        have x8 := x7.trans (Ext.of_same w8)
        have m38 := (m35.trans m57).trans (newp_right w8)
        refine ⟨_, rfl, a, [vp, .ref c], 1, .ref c, rfl, rfl, Same.seqT newp_same (Same.seqT m38 sa3), rfl, _, rfl, _, _, rfl, rfl, ((i0 + 1 : Nat) : Int), congrArg V.int (show (i0 : Int) + 1 = ((i0 + 1 : Nat) : Int) by omega), drop_no (i := i0 + 1) x8 (Dp_mono m38 hc3) (by omega) fun v3 H9 h9 w9 => ?_⟩
        have x9 := x8.trans (Ext.of_same w9)
        refine cat_by x9 (Dp_mono (newp_right w9) h8) h9 (by rw [List.length_append, take0, drop0]; show i0 + 1 + _ ≤ sizeLine; omega) fun v4 H10 h10 w10 => ?_
        have x10 := x9.trans (Ext.of_same w10)
        refine ⟨(by show 2 ≤ sizeLine; decide), fun T3 n3 => ?_⟩
        have m810 := newp_right (H := B) (w9.trans w10)
        have t3 := lay_tup x10 n3 (.cons (Dp_mono (m38.trans m810) hp3) (.cons h10 .nil))
        have w510 := ((wT1.trans wT2).trans w8).trans (w9.trans w10)
        have wT3 := same_new n3 (.tup [vp, v4])
        have n1' : Nice (3 * j) (big dn) dn := ⟨fp.1, by omega, Nat.le_refl _⟩
        have n2' : Nice (3 * j + 1) (4 * big dv + 60000) d' := ⟨fd5, by omega, bd5⟩
        have np' := ((Nices.one (n1'.mono (show 3 * j ≤ 3 * j + 1 by omega) (Nat.le_refl _))).append (.one n2')).tup
        have nt : Nices (3 * j + 2) (bigs (cs.take i0)) (cs.take i0) := ⟨(N.take i0).fine, Nat.le_trans (N.take i0).depth (by omega), Nat.le_refl _⟩
        have nd : Nices (3 * j + 2) (bigs (cs.drop (i0 + 1))) (cs.drop (i0 + 1)) := ⟨(N.drop (i0 + 1)).fine, Nat.le_trans (N.drop (i0 + 1)).depth (by omega), Nat.le_refl _⟩
        have nc := ((nt.append (.one np')).append nd).tup
        have npp : Nice (3 * j + 3) (bigs ps + 3) (.tuple ps) := ⟨ff.1, by show _ + 1 ≤ _; omega, Nat.le_refl _⟩
        have nn := ((Nices.one npp).append (.one nc)).tup
        exact q _ _ _ t3 nn.fine (Nat.le_trans nn.depth (by omega)) (Nat.le_trans nn.big (by omega)) ((s5.same (w510.trans wT3)).mono (by omega)) (((f03.trans (Fr.of_same w4)).trans f5).trans (Fr.of_same (w510.trans wT3)))
      · exact ⟨rfl, s2, (Fr.of_same w1).trans f2⟩
    · exact ⟨rfl, s1.mono (by omega), Fr.of_same w1⟩
  · rintro σ H1 ⟨rfl, s1, f1⟩
    have sz2 : bigs ps + bigs cs + 13 ≤ sizeLine := by omega
    refine ⟨_, rfl, S, C, k + 1, 8, rfl, s1, by omega, by decide, by decide, fun r H2 r0 r1 s2 f2 => ⟨_, rfl, rfl, _, rfl, ite2 (fun c7 => ?_) (fun c7 => ?_)⟩⟩
    · have f02 := f1.trans f2
      have x2 : Ext B H2 := xB.trans (Fr.ext s2 f02)
      have m02 := newp_fr sB f02
      have sa2 := Same.seqT m02 sa
      have hp2 := Dp_mono m02 hp
      have hc2 := Dp_mono m02 hc
      have hd2 : Dp K (newp B H2) (.ref a) (.tuple [.tuple ps, .tuple cs]) := .tup sa2 (.cons hp2 (.cons hc2 .nil))
      refine ⟨_, rfl, a, [vp, .ref c], rfl, .inr (Same.seqT newp_same sa2), fun l1 m1 => ?_⟩
      have t1 := lay_lst x2 m1 (.cons hp2 (.cons hc2 .nil))
      have w1 := same_new m1 (.lst [vp, .ref c])
      generalize (upd H2 l1 (.lst [vp, .ref c])) = H3 at t1 w1 ⊢
      have x3 := x2.trans (Ext.of_same w1)
      refine ⟨_, rfl, (by show 0 ≤ sizeLine; decide), fun p1 n1 => ⟨(by show 1 ≤ sizeLine; decide), fun p2 n2 => ?_⟩⟩
      have u1 := lay_tup (K := K) x3 n1 .nil
      have w2 := same_new n1 (.tup [])
      generalize (upd H3 p1 (.tup [])) = H4 at n2 u1 w2 ⊢
      have x4 := x3.trans (Ext.of_same w2)
      have u2 := lay_tup x4 n2 (.cons u1 .nil)
      have w3 := same_new n2 (.tup [.ref p1])
      generalize (upd H4 p2 (.tup [.ref p1])) = H5 at u2 w3 ⊢
      have x5 := x4.trans (Ext.of_same w3)
      have m25 := newp_right (H := B) ((w1.trans w2).trans w3)
      refine cat_by x5 (Dp_mono m25 hd2) u2 (by show 2 + 1 ≤ sizeLine; decide) fun v2 H6 h6 w4 => ?_
      have x6 := x5.trans (Ext.of_same w4)
      have m26 := m25.trans (newp_right w4)
      refine ⟨_, rfl, ((1 : Nat) : Int), rfl, take_by x6 (Dp_mono m26 hd2) fun v3 H7 h7 w5 => ?_⟩
      have x7 := x6.trans (Ext.of_same w5)
      have w27 := (((w1.trans w2).trans w3).trans w4).trans w5
      refine ⟨_, rfl, S, C, k + 2, [.int 2], rfl, rfl, s2.same w27, by show k + 2 + 47 ≤ _; omega, fun vt dt H8 ht hnt s8 f8 => ⟨(by show 4 ≤ sizeLine; decide), fun p5 n5 => ?_⟩⟩
      have x8 := x7.trans (Fr.ext s8 f8)
      have m78 := newp_fr sB f8
      have four : DpAll K (newp B H8) [.ref l1, v2, v3, vt] [.list [.tuple ps, .tuple cs], .tuple ([.tuple ps, .tuple cs] ++ [.tuple []]), .tuple (List.take 1 [.tuple ps, .tuple cs]), dt] :=
        .cons (Dp_mono ((newp_right (((w2.trans w3).trans w4).trans w5)).trans m78) t1) (.cons (Dp_mono ((newp_right w5).trans m78) h6) (.cons (Dp_mono m78 h7) (.cons (Dp_mono (newp_left x7) ht) .nil)))
      have w6 := same_new n5 (.lst [.ref l1, v2, v3, vt])
      have b5 : (upd H8 p5 (.lst [.ref l1, v2, v3, vt])) p5 = _ := upd_same
      have p5S := s8.neS n5
      have p5C := s8.neC n5
      generalize (upd H8 p5 (.lst [.ref l1, v2, v3, vt])) = H9 at w6 b5 ⊢
      refine ⟨_, rfl, S, C, k + 2 + 47, 4, rfl, (s8.same w6), by omega, by decide, by decide, fun r2 H10 q0 q1 s10 f10 => ?_⟩
      obtain ⟨v', d', e1', hd', hv'⟩ := DpAll_at (DpAll_mono ((newp_right w6).trans (newp_fr sB f10)) four) q0 q1
      have npp : Nice (3 * j + 1) (bigs ps + 3) (.tuple ps) := ⟨ff.1, by show _ + 1 ≤ _; omega, Nat.le_refl _⟩
      have ncc : Nice (3 * j + 1) (bigs cs + 3) (.tuple cs) := ⟨ff.2, by show _ + 1 ≤ _; omega, Nat.le_refl _⟩
      have ne0 : Nice (3 * j + 1) 3 (.tuple []) := ⟨rfl, by show 0 + 1 ≤ _; omega, Nat.le_refl _⟩
      have N4 : Nice (3 * j + 4) (4 * big (.tuple [.tuple ps, .tuple cs]) + 60000) d' := by
        simp only [List.mem_cons, List.not_mem_nil, or_false] at hd'
        rcases hd' with rfl | rfl | rfl | rfl
        · exact ((Nices.one npp).append (.one ncc)).lst.mono (by omega) (by omega)
        · exact (((Nices.one npp).append (.one ncc)).append (.one ne0)).tup.mono (by omega) (by omega)
        · exact (Nices.one npp).tup.mono (by omega) (by omega)
        · exact Nice.mono (n := 3) (b := 18936) hnt (by omega) (by omega)
      exact ⟨p5, _, r2, v', rfl, rfl, SqL.of (cut_keep f10 p5S p5C b5), e1', q v' d' H10 hv' N4.fine N4.depth N4.big (s10.mono (by omega)) ((f02.trans ((Fr.of_same w27).trans f8)).trans ((Fr.of_same w6).trans f10))⟩
    · have f02 := f1.trans f2
      have x2 : Ext B H2 := xB.trans (Fr.ext s2 f02)
      have m02 := newp_fr sB f02
      have sa2 := Same.seqT m02 sa
      refine ⟨_, rfl, a, [vp, .ref c], rfl, .inr (Same.seqT newp_same sa2), fun L nL => ?_⟩
      have LS := s2.neS nL
      have LC := s2.neC nL
      obtain ⟨G, xBG, gL, sG, sm, xG⟩ := side_ext sB x2 nL (.lst [vp, .ref c])
      have nL0 : H L = none := Fr.ext s2 f02 L nL
      have eL : (upd H2 L (.lst [vp, .ref c])) L = _ := upd_same
      have s3 := s2.lay nL (.lst [vp, .ref c])
      have f23 : Fr S C H2 _ := Fr.lay nL (.lst [vp, .ref c])
      show gName 6 (.ref L) _ (upd H2 L (.lst [vp, .ref c])) _
      generalize (upd H2 L (.lst [vp, .ref c])) = H3 at eL s3 f23 xG ⊢
      have f03 := f02.trans f23
      have sa3 := Same.seqT (newp_fr sB f23) sa2
      have mG := (m02.trans sm).trans (newp_fr sG f23)
      have hp3 := Dp_mono mG hp
      have hc3 := Dp_mono mG hc
      have npp : Nice (3 * j + 3) (bigs ps + 3) (.tuple ps) := ⟨ff.1, by show _ + 1 ≤ _; omega, Nat.le_refl _⟩
      have ncc : Nice (3 * j + 3) (bigs cs + 3) (.tuple cs) := ⟨ff.2, by show _ + 1 ≤ _; omega, Nat.le_refl _⟩
      have zzz : ∀ (ds : List PyData) (d' : PyData), ds.all pairD = true → PyData.depthAll ds + 2 ≤ 3 * j + 2 → d'.depth ≤ max (PyData.depthAll ds + 1) 6 → (ds = [] → d'.depth ≤ 2) → d'.depth ≤ 3 * j + 3 := by
        intro ds d' h1 h2 h3 h4
        cases j with
        | zero =>
          have := h4 (pairs_deep h1 (by omega))
          omega
        | succ j => omega
      have two : r % 2 = 0 ∨ r % 2 = 1 := by omega
      rcases two with e | e
      · refine ⟨_, rfl, _, rfl, _, rfl, .inl ⟨_, rfl, _, _, rfl, rfl, (by show (0 : Int) < 2; decide), a, [vp, .ref c], r % 2, vp, rfl, rfl, Same.seqT newp_same sa3, (by rw [e]; rfl), S, C, k + 2, nb, G, vp, ps, rfl, s3, by omega, sG, xG, hp3, okp, pp, by omega, fun v' d' H4 h4 fd4 zd4 zz4 bd4 _ s4 f4 => ?_⟩⟩
        have e4 : H4 L = some (.lst [vp, .ref c]) := cut_keep f4 LS LC eL
        have x4 := xG.trans (Fr.ext s4 f4)
        refine ⟨_, rfl, _, rfl, .inl ⟨_, rfl, _, _, rfl, rfl, (by show (0 : Int) < 2; decide), L, [vp, .ref c], r % 2, 0, rfl, rfl, e4, (by rw [e]; rfl), ?_⟩⟩
        have s5 := s4.upd LS LC (.lst ([vp, .ref c].set 0 v'))
        have e5 : (upd H4 L (.lst ([vp, .ref c].set 0 v'))) L = some (.lst [v', .ref c]) := upd_same
        have f5 : Fr S C H (upd H4 L (.lst ([vp, .ref c].set 0 v'))) := Fr.upd (f03.trans f4) nL0
        have x5 : Ext G (upd H4 L (.lst ([vp, .ref c].set 0 v'))) := x4.trans Ext.upd
        have m45 : Same (newp G H4) (newp G (upd H4 L (.lst ([vp, .ref c].set 0 v')))) := newp_upd gL
        have h5 := Dp_mono m45 h4
        have o5 := Dp_mono ((newp_fr sG f4).trans m45) hc3
        generalize (upd H4 L (.lst ([vp, .ref c].set 0 v'))) = H5 at s5 e5 f5 x5 m45 h5 o5 ⊢
        refine ⟨_, rfl, L, [v', .ref c], rfl, .inl ⟨SqL.of e5, fun l nl => ?_⟩⟩
        have h6 := lay_tup x5 nl (.cons h5 (.cons o5 .nil))
        have nx : Nice (3 * j + 3) (4 * bigs ps + 60000) d' := ⟨fd4, zzz ps d' pp dd.1 zd4 zz4, bd4⟩
        have nn := ((Nices.one nx).append (.one ncc)).tup
        exact q _ _ _ (Dp_mono (newp_left xBG) h6) nn.fine (Nat.le_trans nn.depth (by omega)) (Nat.le_trans nn.big (by omega)) ((s5.lay nl _).mono (by omega)) (f5.trans (Fr.lay nl _))
      · refine ⟨_, rfl, _, rfl, _, rfl, .inl ⟨_, rfl, _, _, rfl, rfl, (by show (0 : Int) < 2; decide), a, [vp, .ref c], r % 2, (.ref c), rfl, rfl, Same.seqT newp_same sa3, (by rw [e]; rfl), S, C, k + 2, nb, G, (.ref c), cs, rfl, s3, by omega, sG, xG, hc3, okc, pc, by omega, fun v' d' H4 h4 fd4 zd4 zz4 bd4 _ s4 f4 => ?_⟩⟩
        have e4 : H4 L = some (.lst [vp, .ref c]) := cut_keep f4 LS LC eL
        have x4 := xG.trans (Fr.ext s4 f4)
        refine ⟨_, rfl, _, rfl, .inl ⟨_, rfl, _, _, rfl, rfl, (by show (0 : Int) < 2; decide), L, [vp, .ref c], r % 2, 1, rfl, rfl, e4, (by rw [e]; rfl), ?_⟩⟩
        have s5 := s4.upd LS LC (.lst ([vp, .ref c].set 1 v'))
        have e5 : (upd H4 L (.lst ([vp, .ref c].set 1 v'))) L = some (.lst [vp, v']) := upd_same
        have f5 : Fr S C H (upd H4 L (.lst ([vp, .ref c].set 1 v'))) := Fr.upd (f03.trans f4) nL0
        have x5 : Ext G (upd H4 L (.lst ([vp, .ref c].set 1 v'))) := x4.trans Ext.upd
        have m45 : Same (newp G H4) (newp G (upd H4 L (.lst ([vp, .ref c].set 1 v')))) := newp_upd gL
        have h5 := Dp_mono m45 h4
        have o5 := Dp_mono ((newp_fr sG f4).trans m45) hp3
        generalize (upd H4 L (.lst ([vp, .ref c].set 1 v'))) = H5 at s5 e5 f5 x5 m45 h5 o5 ⊢
        refine ⟨_, rfl, L, [vp, v'], rfl, .inl ⟨SqL.of e5, fun l nl => ?_⟩⟩
        have h6 := lay_tup x5 nl (.cons o5 (.cons h5 .nil))
        have nx : Nice (3 * j + 3) (4 * bigs cs + 60000) d' := ⟨fd4, zzz cs d' pc dd.2 zd4 zz4, bd4⟩
        have nn := ((Nices.one npp).append (.one nx)).tup
        exact q _ _ _ (Dp_mono (newp_left xBG) h6) nn.fine (Nat.le_trans nn.depth (by omega)) (Nat.le_trans nn.big (by omega)) ((s5.lay nl _).mono (by omega)) (f5.trans (Fr.lay nl _))
theorem ok__law_bent_tree (m : Nat) : FnOk P w K mg base CX0 (m+8) Z.f__law_bent_tree Z.fd__law_bent_tree ["_law_stream", "_law_part"] (spBent K (m+1)) := by
  induction m with
  | zero => exact bent_step Z 0 0 (fun _ _ _ _ => False) ⟨fun _ _ _ _ h => h.elim, fun _ _ _ _ _ _ _ _ _ _ _ _ _ h => h.elim⟩ (Nat.zero_le _) (fun m' h => nomatch h)
  | succ m ih => exact bent_step Z (m + 1) (m + 8) _ ih (Nat.le_refl _) fun m' h => rfl

/-! ### law -/
def spLaw (K : PySem.W.Frag) : Sp := fun vs H Q _ => ∃ (a : Addr) (ns : List Int), vs = [.ref a] ∧ SqL K H a (ns.map V.int) ∧ ns.length ≤ 63 ∧ ∀ H', Q (.bl true) H'

/-! ### law -/
def bJ : Nat → Nat
  | 0 => 906400
  | j + 1 => 4 * bJ j + 60000
theorem ok_law {f : Addr} {fd : FuncData} (F : Fun K "law" "law" s_law f fd) : FnG P w K mg base CX0 29 f fd ["_law_script"] (spLaw K) := by
  refine Fun_okG F sc_law (fun vs H Q E h => ?_) (fun cdv A outer s H vs Q E hG hr h => ?_)
  · obtain ⟨a, ns, rfl, _⟩ := h
    rfl
  obtain ⟨a, ns, rfl, hS, hl, q⟩ := h
  refine ⟨_, (pss_cons (ps_set (i := 1) sc_law.nd rfl (.inl rfl) (pe_lst (pa_cons (pe_callTy (lstK (K := K)) (by rfl) Z.T.list (by decide +kernel) (pa_cons (pv 0) pa_nil)) (pa_cons pe_int (pa_cons pe_int (pa_cons pe_int pa_nil))))))
    (pss_cons (ps_for PassesOwn.never rfl (pi_range1 (by rfl) Z.T.range (pa_cons pe_int pa_nil)) (pg_name (i := 2) sc_law.nd rfl (.inl rfl)) (pss_cons (ps_set (i := 3) sc_law.nd rfl (.inl rfl) (pe_call (ok__law_any_tree Z) (hr.mono (by decide)) (by rfl) Z.D__law_any_tree.m Z.D__law_any_tree.F.kp Z.D__law_any_tree.b .nil pass0 (pa_cons (pv 1) pa_nil)))
    (C8.pss_cut (ps_if (pt_cmpR op_eq (pe_call (ok__law_draw Z) (hr.mono (by decide)) (by rfl) Z.D__law_draw.m Z.D__law_draw.F.kp Z.D__law_draw.b .nil pass0 (pa_cons (pv 1) (pa_cons pe_int pa_nil))) pe_int (nomark _)) (pss_one (ps_set (i := 3) sc_law.nd rfl (.inl rfl) (pe_call (ok__law_under Z) (hr.mono (by decide)) (by rfl) Z.D__law_under.m Z.D__law_under.F.kp Z.D__law_under.b .nil pass0 (pa_cons (pv 1) (pa_cons (pv 3) (pa_cons (pe_call (ok__law_draw Z) (hr.mono (by decide)) (by rfl) Z.D__law_draw.m Z.D__law_draw.F.kp Z.D__law_draw.b .nil pass0 (pa_cons (pv 1) (pa_cons pe_int pa_nil))) pa_nil)))))) pss_nil)
    (pss_cons (ps_for PassesOwn.never rfl (pi_range1 (by rfl) Z.T.range (pa_cons (pe_ix (ixL (K := K)) (pe_lst (pa_cons pe_int (pa_cons pe_int (pa_cons pe_int (pa_cons pe_int pa_nil))))) (pe_call (ok__law_draw Z) (hr.mono (by decide)) (by rfl) Z.D__law_draw.m Z.D__law_draw.F.kp Z.D__law_draw.b .nil pass0 (pa_cons (pv 1) (pa_cons pe_int pa_nil))) (fun _ _ => rfl)) pa_nil)) (pg_name (i := 4) sc_law.nd rfl (.inl rfl)) (pss_one (ps_if (pt_val (pe_callG (ok__law_is_tree Z 21) hG (hr.mono (by decide)) (by rfl) Z.D__law_is_tree.m Z.D__law_is_tree.F.kp Z.D__law_is_tree.b .nil pass0 (pa_cons (pv 3) (pa_cons pe_int pa_nil)))) (pss_one (ps_set (i := 3) sc_law.nd rfl (.inl rfl) (pe_call (ok__law_bent_tree Z 20) (hr.mono (by decide)) (by rfl) Z.D__law_bent_tree.m Z.D__law_bent_tree.F.kp Z.D__law_bent_tree.b .nil pass0 (pa_cons (pv 1) (pa_cons (pv 3) pa_nil))))) pss_nil)))
    (pss_cons (ps_par (i := 5) (j := 6) rfl sc_law.nd rfl rfl (by decide) rfl rfl (pa_cons (pe_callB (reprK (K := K) hG hr.units) (by rfl) Z.T.repr (by decide +kernel) (pa_cons (pv 3) pa_nil)) (pa_cons (pe_callG (ok__law_is_tree Z 9) hG (hr.mono (by decide)) (by rfl) Z.D__law_is_tree.m Z.D__law_is_tree.F.kp Z.D__law_is_tree.b .nil pass0 (pa_cons (pv 3) (pa_cons pe_int pa_nil))) pa_nil)) rfl)
    (pss_cons (ps_setLc (i := 7) (own := [("_law_one", 8)]) (g := gName 8) (tt := tYes) rfl sc_law.nd rfl rfl (sw_true rfl rfl rfl (by decide +kernel)) (pi_tup (pe_tup (pa_cons (pv 3) (pa_cons (pv 3) (pa_cons (pe_lst (pa_cons (pv 3) pa_nil)) pa_nil))))) (blkOk_by (own := [("_law_one", 8)]) (N := ["_law_script", "_law_stream", "_law_turn", "_law_thing_here", "_law_k", "_law_kept", "_law_due", "_law_found", "_law_one", "_law_odd", "_law_chain"]) (sc := defScope s_law) (by decide +kernel)) (fun _ _ _ _ _ => (pg_name (i := 8) sc_law.nd rfl (.inl rfl))) (fun _ _ _ _ _ => pts_nil) (fun _ _ _ _ _ => (pe_call (ok_is_tree Z) (hr.mono (by decide)) (by rfl) Z.D_is_tree.m Z.D_is_tree.F.kp Z.D_is_tree.b .nil pass0 (pa_cons (pv 8) pa_nil))))
    (pss_cons (ps_if (PW.pt (pw_or (pt_not (pt_val (pe_callG (ok__law_same Z) hG (hr.mono (by decide)) (by rfl) Z.D__law_same.m Z.D__law_same.F.kp Z.D__law_same.b .nil pass0 (pa_cons (pv 7) (pa_cons (pe_lst (pa_cons (pv 6) (pa_cons (pv 6) (pa_cons pe_bl pa_nil)))) pa_nil))))) (pw_or1 (pt_cmpR op_ne (pe_callB (reprK (K := K) hG hr.units) (by rfl) Z.T.repr (by decide +kernel) (pa_cons (pv 3) pa_nil)) (pv 5) (nomark _))))) (pss_one (ps_ret pe_bl)) pss_nil)
    (pss_cons (ps_set (i := 9) sc_law.nd rfl (.inl rfl) (pe_call (ok__law_thing Z 3) (hr.mono (by decide)) (by rfl) Z.D__law_thing.m Z.D__law_thing.F.kp Z.D__law_thing.b .nil pass0 (pa_cons (pv 1) (pa_cons pe_int pa_nil))))
    (pss_one (ps_if (pt_not (pt_val (pe_callG (ok__law_same Z) hG (hr.mono (by decide)) (by rfl) Z.D__law_same.m Z.D__law_same.F.kp Z.D__law_same.b .nil pass0 (pa_cons (pe_call (ok_is_tree Z) (hr.mono (by decide)) (by rfl) Z.D_is_tree.m Z.D_is_tree.F.kp Z.D_is_tree.b .nil pass0 (pa_cons (pv 9) pa_nil)) (pa_cons (pe_callG (ok__law_is_tree Z 9) hG (hr.mono (by decide)) (by rfl) Z.D__law_is_tree.m Z.D__law_is_tree.F.kp Z.D__law_is_tree.b .nil pass0 (pa_cons (pv 9) (pa_cons pe_int pa_nil))) pa_nil))))) (pss_one (ps_ret pe_bl)) pss_nil))))))))))
    (pss_cons (ps_set (i := 10) sc_law.nd rfl (.inl rfl) (pe_call (ok__law_under Z) (hr.mono (by decide)) (by rfl) Z.D__law_under.m Z.D__law_under.F.kp Z.D__law_under.b .nil pass0 (pa_cons (pe_lst (pa_cons (pe_lst pa_nil) (pa_cons pe_int (pa_cons pe_int (pa_cons pe_int pa_nil))))) (pa_cons (pe_tup (pa_cons (pe_tup pa_nil) (pa_cons (pe_tup pa_nil) pa_nil))) (pa_cons pe_int pa_nil)))))
    (pss_one (ps_ret (pe_cmpR (eqDK (K := K) hr.units) (pe_lst (pa_cons (pe_call (ok_is_tree Z) (hr.mono (by decide)) (by rfl) Z.D_is_tree.m Z.D_is_tree.F.kp Z.D_is_tree.b .nil pass0 (pa_cons (pv 10) pa_nil)) (pa_cons (pe_call (ok_is_tree Z) (hr.mono (by decide)) (by rfl) Z.D_is_tree.m Z.D_is_tree.F.kp Z.D_is_tree.b .nil pass0 (pa_cons (pe_tup (pa_cons (pe_tup pa_nil) (pa_cons (pe_tup (pa_cons (pe_tup (pa_cons pe_str (pa_cons (pv 10) pa_nil))) pa_nil)) pa_nil))) pa_nil)) (pa_cons (pe_call (ok_is_tree Z) (hr.mono (by decide)) (by rfl) Z.D_is_tree.m Z.D_is_tree.F.kp Z.D_is_tree.b .nil pass0 (pa_cons (pe_tup (pa_cons (pe_tup pa_nil) (pa_cons (pe_tup pa_nil) pa_nil))) pa_nil)) pa_nil)))) (pe_lst (pa_cons pe_bl (pa_cons pe_bl (pa_cons pe_bl pa_nil)))) (nomark _))))))), ?_⟩
  refine ⟨_, rfl, a, _, rfl, .inl hS, fun C nC => ⟨(by show 4 ≤ sizeLine; decide), fun S nS => ?_⟩⟩
  have nSC : S ≠ C := fun e => by
    rw [e, upd_same] at nS
    cases nS
  have st : Strm S C 0 (upd (upd H C (.lst (ns.map V.int))) S (.lst [V.ref C, V.int 0, V.int 0, V.int 0])) :=
    ⟨nSC, ns, 0, 0, 0, upd_same, (upd_ne nSC.symm).trans upd_same, hl, by omega, by omega, by omega, by omega, by omega⟩
  generalize (upd (upd H C (.lst (ns.map V.int))) S (.lst [V.ref C, V.int 0, V.int 0, V.int 0])) = H0 at st ⊢
  refine ⟨10, rfl, by decide, by decide, for_range (lo := 0) (n := 10) (fun i σ H' => (∃ x2 x3 x4 x5 x6 x7 x9, σ = [some (.ref a), some (.ref S), x2, x3, x4, x5, x6, x7, none, x9, none]) ∧ Strm S C (i * 14000) H') ⟨⟨none, none, none, none, none, none, none, rfl⟩, st⟩ ?_ ?_⟩
  · rintro i σ H1 hi ⟨⟨x2, x3, x4, x5, x6, x7, x9, rfl⟩, s1⟩
    have hi' : i * 14000 ≤ 9 * 14000 := Nat.mul_le_mul_right _ (by omega)
    refine ⟨_, rfl, S, C, _, [], rfl, rfl, s1, by omega, fun v d H2 h1 ⟨nd, _⟩ s2 f2 => ?_⟩
    refine ⟨fun σ H' => (∃ v d, σ = [some (.ref a), some (.ref S), some (.int (0 + (i : Int))), some v, x4, x5, x6, x7, none, x9, none] ∧ Dp K (newp H1 H') v d ∧ Nice 53 906400 d) ∧ Strm S C (i * 14000 + 12000) H' ∧ Fr S C H1 H', ?_, ?_⟩
    · refine ⟨_, rfl, S, C, _, 6, rfl, s2, by omega, by decide, by decide, fun r H3 r0 r1 s3 f3 => ⟨rfl, _, rfl, ite2 (fun c => ?_) (fun c => ?_)⟩⟩
      · refine ⟨_, rfl, _, rfl, _, rfl, S, C, _, 9, rfl, s3, by omega, by decide, by decide, fun r2 H4 r0 r1 s4 f4 => ?_⟩
        have er : [V.ref S, v, V.int r2] = [V.ref S, v, V.int ((r2.toNat : Nat) : Int)] := by rw [show ((r2.toNat : Nat) : Int) = r2 by omega]
        have hr8 : r2.toNat ≤ 8 := by omega
        have f24 := f2.trans (f3.trans f4)
        refine ⟨S, C, _, r2.toNat, _, _, _, H1, v, d, er, by omega, s4, by omega, s1, Fr.ext s4 f24, Dp_mono (newp_fr s1 (f3.trans f4)) h1, nd, by decide, fun v' d' H5 hv' nv' _ _ s5 f5 => ?_⟩
        exact ⟨⟨v', d', rfl, hv', nv'.mono (by omega) (by omega)⟩, s5.mono (by omega), f24.trans f5⟩
      · exact ⟨⟨v, d, rfl, Dp_mono (newp_fr s1 f3) h1, nd.mono (by decide) (by decide)⟩, s3.mono (by omega), f2.trans f3⟩
    · rintro σ H3 ⟨⟨v3, d3, rfl, h3, n3⟩, s3, f3⟩
      refine ⟨(by show 4 ≤ sizeLine; decide), fun p np => ?_⟩
      have pS := s3.neS np
      have pC := s3.neC np
      have ep : (upd H3 p (.lst [V.int 0, V.int 1, V.int 1, V.int 2])) p = _ := upd_same
      have fp : Fr S C H3 _ := Fr.lay np (.lst [V.int 0, V.int 1, V.int 1, V.int 2])
      have sp := s3.lay np (.lst [V.int 0, V.int 1, V.int 1, V.int 2])
      generalize (upd H3 p (.lst [V.int 0, V.int 1, V.int 1, V.int 2])) = H4 at ep fp sp ⊢
      refine ⟨_, rfl, S, C, _, 4, rfl, sp, by omega, by decide, by decide, fun r H5 r0 r1 s5 f5 => ?_⟩
      obtain ⟨z, ez, hz⟩ : ∃ z : Nat, atI [V.int 0, V.int 1, V.int 1, V.int 2] r = some (.int (z : Int)) ∧ z ≤ 2 := by
        have : r = 0 ∨ r = 1 ∨ r = 2 ∨ r = 3 := by omega
        rcases this with rfl | rfl | rfl | rfl
        · exact ⟨0, rfl, by decide⟩
        · exact ⟨1, rfl, by decide⟩
        · exact ⟨1, rfl, by decide⟩
        · exact ⟨2, rfl, by decide⟩
      refine ⟨p, _, r, _, rfl, rfl, SqL.of (cut_keep f5 pS pC ep), ez, (z : Int), rfl, by omega, by omega, for_range (lo := 0) (n := z) (fun j σ H' => ∃ v d, (∃ x4, σ = [some (.ref a), some (.ref S), some (.int (0 + (i : Int))), some v, x4, x5, x6, x7, none, x9, none]) ∧ Dp K (newp H1 H') v d ∧ Nice (3 * (17 + j) + 2) (bJ j) d ∧ Strm S C (i * 14000 + 12010 + j * 700) H' ∧ Fr S C H1 H')
        ⟨v3, d3, ⟨_, rfl⟩, Dp_mono (newp_fr s1 (fp.trans f5)) h3, n3, s5.mono (by omega), f3.trans (fp.trans f5)⟩ ?_ ?_⟩
      · rintro j σ H6 hj ⟨v6, d6, ⟨x4', rfl⟩, h6, n6, s6, f6⟩
        have hj1 : j ≤ 1 := by omega
        have bj : bJ j ≤ 4000000 := by
          have : j = 0 ∨ j = 1 := by omega
          rcases this with rfl | rfl <;> decide
        have ok6 : Ok d6 := ⟨n6.fine, Nat.le_trans n6.big (by rw [sizeLine_eq]; omega), Nat.le_trans n6.depth (by omega)⟩
        refine ⟨_, rfl, v6, d6, rfl, Dp_mono newp_same h6, ok6, fun H7 w7 => ⟨_, rfl, ite2 (fun c => ?_) (fun c => ?_)⟩⟩
        · have td : treeD 21 d6 = true := c
          refine ⟨_, rfl, _, rfl, S, C, _, _, 17 + j, H1, v6, d6, rfl, s6.same w7, by omega, s1, Fr.ext (s6.same w7) (f6.trans (Fr.of_same w7)), Dp_mono (newp_right w7) h6, n6.fine, n6.depth, by omega, Nat.le_trans n6.big bj, tree_sh td, fun v8 d8 H8 h8 fd8 zd8 bd8 s8 f8 => ?_⟩
          refine ⟨v8, d8, ⟨_, rfl⟩, h8, ⟨fd8, by omega, ?_⟩, s8.mono (by omega), (f6.trans (Fr.of_same w7)).trans f8⟩
          have := n6.big
          show big d8 ≤ 4 * bJ j + 60000
          omega
        · exact ⟨v6, d6, ⟨_, rfl⟩, Dp_mono (newp_right w7) h6, ⟨n6.fine, Nat.le_trans n6.depth (by omega), Nat.le_trans n6.big (by show bJ j ≤ 4 * bJ j + 60000; omega)⟩, (s6.same w7).mono (by omega), f6.trans (Fr.of_same w7)⟩
      · rintro σ H6 ⟨v6, d6, ⟨x4', rfl⟩, h6, n6', s6, f6⟩
        have n6 : Nice 59 14802400 d6 := ⟨n6'.fine, Nat.le_trans n6'.depth (by omega), Nat.le_trans n6'.big (by
          have : z = 0 ∨ z = 1 ∨ z = 2 := by omega
          rcases this with rfl | rfl | rfl <;> decide)⟩
        have s6' : Strm S C (i * 14000 + 13420) H6 := s6.mono (by omega)
        have hd := Dp_mono newp_same h6
        have ok := n6.ok
        obtain ⟨sh1, sh2, sh3⟩ := shown_big d6 ok.fine
        have sh4 := Nat.le_trans sh3 ok.big
        refine ⟨_, rfl, v6, d6, rfl, hd, sh1, sh2, ok.depth, sh4, _, rfl, v6, d6, rfl, hd, ok, fun H7 w7 => ?_⟩
        have hd7 := Dp_mono w7 hd
        refine ⟨_, _, rfl, ?_⟩
        refine ⟨_, rfl, _, rfl, _, rfl, (by show 1 ≤ sizeLine; decide), fun L nL => ⟨(by show 3 ≤ sizeLine; decide), fun T nT => ?_⟩⟩
        have w8 := same_new nL (.lst [v6])
        have e8 : (upd H7 L (.lst [v6])) L = _ := upd_same
        generalize (upd H7 L (.lst [v6])) = H8 at nT w8 e8 ⊢
        have w9 := same_new nT (.tup [v6, v6, .ref L])
        have e9 : (upd H8 T (.tup [v6, v6, .ref L])) T = _ := upd_same
        generalize (upd H8 T (.tup [v6, v6, .ref L])) = H9 at w9 e9 ⊢
        have hd9 := Dp_mono w9 (Dp_mono w8 hd7)
        have ok1 : Ok (.list [d6]) := (Nices.one n6).lst.ok
        have dp3 : DpAll K H9 [v6, v6, .ref L] [d6, d6, .list [d6]] := .cons hd9 (.cons hd9 (.cons (.lst (SqL.of (w9 _ _ e8)) (.cons hd9 .nil)) .nil))
        refine ⟨T, rfl, ⟨_, SqT.of e9⟩, fun D nD => lc_items (treeD 9) nD (SqT.of e9) dp3 (by show 3 ≤ sizeLine; decide) (fun _ => rfl) (fun v d Hx qx hdx hvx _ kx => ?_) fun H10 w10 e10 => ?_⟩
        · refine ⟨_, rfl, v, d, rfl, hvx, ?_, kx⟩
          simp only [List.mem_cons, List.not_mem_nil, or_false] at hdx
          rcases hdx with rfl | rfl | rfl
          · exact ok
          · exact ok
          · exact ok1
        have hd10 := Dp_mono w10 hd9
        have e10' : H10 D = some (.lst [.bl (treeD 9 d6), .bl (treeD 9 d6), .bl false]) := e10
        refine ⟨_, rfl, _, rfl, _, rfl, (by show 3 ≤ sizeLine; decide), fun M nM => ?_⟩
        have w11 := same_new nM (.lst [V.bl (treeD 9 d6), V.bl (treeD 9 d6), V.bl false])
        have e11 : (upd H10 M (.lst [V.bl (treeD 9 d6), V.bl (treeD 9 d6), V.bl false])) M = _ := upd_same
        generalize (upd H10 M (.lst [V.bl (treeD 9 d6), V.bl (treeD 9 d6), V.bl false])) = H11 at w11 e11 ⊢
        have hd11 := Dp_mono w11 hd10
        have okB : Ok (.list [.bool (treeD 9 d6), .bool (treeD 9 d6), .bool false]) := by
          refine ⟨rfl, ?_, ?_⟩
          · show 24 ≤ sizeLine
            decide
          · simp [PyData.depth, PyData.depthAll]
        refine ⟨.ref D, .ref M, .list [.bool (treeD 9 d6), .bool (treeD 9 d6), .bool false], .list [.bool (treeD 9 d6), .bool (treeD 9 d6), .bool false], rfl, .lst (SqL.of (w11 _ _ e10')) (.cons (.bl _) (.cons (.bl _) (.cons (.bl _) .nil))), .lst (SqL.of e11) (.cons (.bl _) (.cons (.bl _) (.cons (.bl _) .nil))), okB, okB, _, rfl, iteNS rfl ?_⟩
        refine ⟨_, rfl, v6, d6, rfl, hd11, sh1, sh2, ok.depth, sh4, _, rfl, rfl, _, rfl, iteNS rfl ?_⟩
        have w611 := (((w7.trans w8).trans w9).trans w10).trans w11
        refine ⟨_, rfl, S, C, _, [.int 3], rfl, rfl, s6'.same w611, (by show i * 14000 + 13420 + 146 ≤ 20000000; omega), fun vo dO H12 ho no s12 f12 => ?_⟩
        have hO := Dp_mono newp_same ho
        have okO := no.ok
        have okb : Ok (.bool (treeD 9 dO)) := ⟨rfl, (by show 5 ≤ sizeLine; decide), Nat.zero_le _⟩
        refine ⟨_, rfl, vo, dO, rfl, hO, okO, fun H13 w13 => ⟨_, rfl, vo, dO, rfl, Dp_mono w13 hO, okO, fun H14 w14 => ?_⟩⟩
        refine ⟨.bl (treeD 9 dO), .bl (treeD 9 dO), .bool (treeD 9 dO), .bool (treeD 9 dO), rfl, .bl _, .bl _, okb, okb, _, rfl, iteNS rfl ?_⟩
        exact ⟨⟨_, _, _, _, _, _, _, rfl⟩, (s12.same (w13.trans w14)).mono (by show i * 14000 + 13420 + 146 ≤ _; omega)⟩
  · rintro σ H1 ⟨⟨x2, x3, x4, x5, x6, x7, x9, rfl⟩, _⟩
    refine ⟨(by show 0 ≤ sizeLine; decide), fun C2 nC2 => ⟨(by show 4 ≤ sizeLine; decide), fun S2 nS2 => ?_⟩⟩
    have nSC2 : S2 ≠ C2 := fun e => by
      rw [e, upd_same] at nS2
      cases nS2
    have st2 : Strm S2 C2 0 (upd (upd H1 C2 (.lst [])) S2 (.lst [V.ref C2, V.int 0, V.int 0, V.int 0])) :=
      ⟨nSC2, [], 0, 0, 0, upd_same, (upd_ne nSC2.symm).trans upd_same, by decide, by omega, by omega, by omega, by omega, by omega⟩
    generalize (upd (upd H1 C2 (.lst [])) S2 (.lst [V.ref C2, V.int 0, V.int 0, V.int 0])) = B at st2 ⊢
    refine ⟨(by show 0 ≤ sizeLine; decide), fun p1 n1 => ⟨(by show 0 ≤ sizeLine; decide), fun p2 n2 => ⟨(by show 2 ≤ sizeLine; decide), fun p3 n3 => ?_⟩⟩⟩
    have t1 := lay_tup (K := K) (B := B) (fun _ h => h) n1 .nil
    have w1 := same_new n1 (.tup [])
    generalize (upd B p1 (.tup [])) = H2 at n2 n3 t1 w1 ⊢
    have x2' : Ext B H2 := Ext.of_same w1
    have t2 := lay_tup (K := K) x2' n2 .nil
    have w2 := same_new n2 (.tup [])
    generalize (upd H2 p2 (.tup [])) = H3 at n3 t2 w2 ⊢
    have x3' := x2'.trans (Ext.of_same w2)
    have t3 := lay_tup (K := K) x3' n3 (.cons (Dp_mono (newp_right w2) t1) (.cons t2 .nil))
    have w3 := same_new n3 (.tup [.ref p1, .ref p2])
    generalize (upd H3 p3 (.tup [.ref p1, .ref p2])) = H4 at t3 w3 ⊢
    have x4' := x3'.trans (Ext.of_same w3)
    have w14 := (w1.trans w2).trans w3
    have nz : Nice 2 100 (.tuple [.tuple [], .tuple []]) := ⟨rfl, by decide, by decide⟩
    refine ⟨S2, C2, 0, 8, 0, 2, 100, B, _, _, rfl, by decide, st2.same w14, by decide, st2, x4', t3, nz, by decide, fun v d H5 hv nv tv _ s5 f5 => ?_⟩
    have hd5 := Dp_mono newp_same hv
    have ok := nv.ok
    refine ⟨_, rfl, v, d, rfl, hd5, ok, fun H6 w6 => ?_⟩
    have a1 : treeD 9 d = true := (tv 1).trans (by decide +kernel)
    refine ⟨(by show 0 ≤ sizeLine; decide), fun p4 n4 => ⟨_, rfl, (by show 2 ≤ sizeLine; decide), fun p5 n5 => ⟨(by show 1 ≤ sizeLine; decide), fun p6 n6 => ⟨(by show 2 ≤ sizeLine; decide), fun p7 n7 => ?_⟩⟩⟩⟩
    have hd6 := Dp_mono w6 hd5
    have v4 := same_new n4 (.tup [])
    have b4 : (upd H6 p4 (.tup [])) p4 = _ := upd_same
    generalize (upd H6 p4 (.tup [])) = H7 at n5 n6 n7 v4 b4 ⊢
    have v5 := same_new n5 (.tup [.str "a", v])
    have b5 : (upd H7 p5 (.tup [.str "a", v])) p5 = _ := upd_same
    generalize (upd H7 p5 (.tup [.str "a", v])) = H8 at n6 n7 v5 b5 ⊢
    have v6 := same_new n6 (.tup [.ref p5])
    have b6 : (upd H8 p6 (.tup [.ref p5])) p6 = _ := upd_same
    generalize (upd H8 p6 (.tup [.ref p5])) = H9 at n7 v6 b6 ⊢
    have v7 := same_new n7 (.tup [.ref p4, .ref p6])
    have b7 : (upd H9 p7 (.tup [.ref p4, .ref p6])) p7 = _ := upd_same
    generalize (upd H9 p7 (.tup [.ref p4, .ref p6])) = H10 at v7 b7 ⊢
    have hd10 := Dp_mono v7 (Dp_mono v6 (Dp_mono v5 (Dp_mono v4 hd6)))
    have ha : Nice 26 12 (.str "a") := ⟨by decide +kernel, Nat.zero_le _, by decide +kernel⟩
    have nd : Nice 26 106500 d := nv
    have n7' := ((Nices.one (show Nice 28 3 (.tuple []) from ⟨rfl, by decide, by decide⟩)).append (.one (Nices.one ((Nices.one ha).append (.one nd)).tup).tup)).tup
    have hd7 : Dp K H10 (.ref p7) (.tuple [.tuple [], .tuple [.tuple [.str "a", d]]]) :=
      .tup (SqT.of b7) (.cons (.tup (SqT.of (v7 _ _ (v6 _ _ (v5 _ _ b4)))) .nil) (.cons (.tup (SqT.of (v7 _ _ b6)) (.cons (.tup (SqT.of (v7 _ _ (v6 _ _ b5))) (.cons (.str _) (.cons hd10 .nil))) .nil)) .nil))
    have a2 : treeD 9 (.tuple [.tuple [], .tuple [.tuple [.str "a", d]]]) = false := by
      rw [under_tree (n := 8) (by decide +kernel) (by decide +kernel) (by decide +kernel)]
      exact (tv 0).trans rfl
    refine ⟨_, _, rfl, hd7, n7'.ok, fun H11 w11 => ?_⟩
    refine ⟨(by show 0 ≤ sizeLine; decide), fun p8 n8 => ⟨(by show 0 ≤ sizeLine; decide), fun p9 n9 => ⟨(by show 2 ≤ sizeLine; decide), fun p10 n10 => ?_⟩⟩⟩
    have v8 := same_new n8 (.tup [])
    have b8 : (upd H11 p8 (.tup [])) p8 = _ := upd_same
    generalize (upd H11 p8 (.tup [])) = H12 at n9 n10 v8 b8 ⊢
    have v9 := same_new n9 (.tup [])
    have b9 : (upd H12 p9 (.tup [])) p9 = _ := upd_same
    generalize (upd H12 p9 (.tup [])) = H13 at n10 v9 b9 ⊢
    have v10 := same_new n10 (.tup [.ref p8, .ref p9])
    have b10 : (upd H13 p10 (.tup [.ref p8, .ref p9])) p10 = _ := upd_same
    generalize (upd H13 p10 (.tup [.ref p8, .ref p9])) = H14 at v10 b10 ⊢
    have a3 : treeD 9 (.tuple [.tuple [], .tuple []]) = true := by decide +kernel
    refine ⟨_, _, rfl, .tup (SqT.of b10) (.cons (.tup (SqT.of (v10 _ _ (v9 _ _ b8))) .nil) (.cons (.tup (SqT.of (v10 _ _ b9)) .nil) .nil)), nz.ok, fun H15 w15 => ?_⟩
    rw [a1, a2, a3]
    refine ⟨(by show 3 ≤ sizeLine; decide), fun p11 n11 => ⟨(by show 3 ≤ sizeLine; decide), fun p12 n12 => ?_⟩⟩
    have v11 := same_new n11 (.lst [V.bl true, V.bl false, V.bl true])
    have b11 : (upd H15 p11 (.lst [V.bl true, V.bl false, V.bl true])) p11 = _ := upd_same
    generalize (upd H15 p11 (.lst [V.bl true, V.bl false, V.bl true])) = H16 at n12 v11 b11 ⊢
    have v12 := same_new n12 (.lst [V.bl true, V.bl false, V.bl true])
    refine ⟨.list ([true, false, true].map PyData.bool), .list ([true, false, true].map PyData.bool), .lst (SqL.of (v12 _ _ b11)) (DpAll_bools [true, false, true]), .lst (SqL.of upd_same) (DpAll_bools [true, false, true]), ?_, ?_, ?_⟩
    · decide +kernel
    · decide +kernel
    · have fin : ∀ {b : Bool} {Hx : Hp}, b = true → Q (.bl b) Hx := fun e => by
        rw [e]
        exact q _
      exact fin (by decide +kernel)

end
/-! ### the top: each def stands where the text says -/
theorem all_mk {l : PySem.W.OpenLaw} {w : World} {K : PySem.W.Frag} {h : Heap} {mg : Str → Option Value} {fa : Addr} (X : K.In h) (G : h.Ns mainGlobals mg) (hfa : mg "law" = some (.ref fa))
    {t_LONGEST_NAME : Tok} {t_LONGEST_PATH : Tok} {F_is_pair : Addr} {od_is_pair an_is_pair : Option Addr} {sl_is_pair : Array (Option Value)} {oc_is_pair kV_is_pair dc_is_pair pm_is_pair cd_is_pair ct_is_pair : Value} {F_ascends : Addr} {od_ascends an_ascends : Option Addr} {sl_ascends : Array (Option Value)} {oc_ascends kV_ascends dc_ascends pm_ascends cd_ascends ct_ascends : Value} {F_is_name : Addr} {od_is_name an_is_name : Option Addr} {sl_is_name : Array (Option Value)} {oc_is_name kV_is_name dc_is_name pm_is_name cd_is_name ct_is_name : Value} {F_is_path : Addr} {od_is_path an_is_path : Option Addr} {sl_is_path : Array (Option Value)} {oc_is_path kV_is_path dc_is_path pm_is_path cd_is_path ct_is_path : Value} {F_is_value : Addr} {od_is_value an_is_value : Option Addr} {sl_is_value : Array (Option Value)} {oc_is_value kV_is_value dc_is_value pm_is_value cd_is_value ct_is_value : Value} {F_is_integer : Addr} {od_is_integer an_is_integer : Option Addr} {sl_is_integer : Array (Option Value)} {oc_is_integer kV_is_integer dc_is_integer pm_is_integer cd_is_integer ct_is_integer : Value} {F_is_link : Addr} {od_is_link an_is_link : Option Addr} {sl_is_link : Array (Option Value)} {oc_is_link kV_is_link dc_is_link pm_is_link cd_is_link ct_is_link : Value} {F_is_tree : Addr} {od_is_tree an_is_tree : Option Addr} {sl_is_tree : Array (Option Value)} {oc_is_tree kV_is_tree dc_is_tree pm_is_tree cd_is_tree ct_is_tree : Value} {F_is_tree_within : Addr} {od_is_tree_within an_is_tree_within : Option Addr} {sl_is_tree_within : Array (Option Value)} {oc_is_tree_within kV_is_tree_within dc_is_tree_within pm_is_tree_within cd_is_tree_within ct_is_tree_within : Value} {F_are_props : Addr} {od_are_props an_are_props : Option Addr} {sl_are_props : Array (Option Value)} {oc_are_props kV_are_props dc_are_props pm_are_props cd_are_props ct_are_props : Value} {F_are_rows : Addr} {od_are_rows an_are_rows : Option Addr} {sl_are_rows : Array (Option Value)} {oc_are_rows kV_are_rows dc_are_rows pm_are_rows cd_are_rows ct_are_rows : Value} {F_are_named : Addr} {od_are_named an_are_named : Option Addr} {sl_are_named : Array (Option Value)} {oc_are_named kV_are_named dc_are_named pm_are_named cd_are_named ct_are_named : Value} {F_names_of : Addr} {od_names_of an_names_of : Option Addr} {sl_names_of : Array (Option Value)} {oc_names_of kV_names_of dc_names_of pm_names_of cd_names_of ct_names_of : Value} {F__law_draw : Addr} {od__law_draw an__law_draw : Option Addr} {sl__law_draw : Array (Option Value)} {oc__law_draw kV__law_draw dc__law_draw pm__law_draw cd__law_draw ct__law_draw : Value} {F__law_same : Addr} {od__law_same an__law_same : Option Addr} {sl__law_same : Array (Option Value)} {oc__law_same kV__law_same dc__law_same pm__law_same cd__law_same ct__law_same : Value} {F__law_path : Addr} {od__law_path an__law_path : Option Addr} {sl__law_path : Array (Option Value)} {oc__law_path kV__law_path dc__law_path pm__law_path cd__law_path ct__law_path : Value} {F__law_value : Addr} {od__law_value an__law_value : Option Addr} {sl__law_value : Array (Option Value)} {oc__law_value kV__law_value dc__law_value pm__law_value cd__law_value ct__law_value : Value} {F__law_props : Addr} {od__law_props an__law_props : Option Addr} {sl__law_props : Array (Option Value)} {oc__law_props kV__law_props dc__law_props pm__law_props cd__law_props ct__law_props : Value} {F__law_is_name : Addr} {od__law_is_name an__law_is_name : Option Addr} {sl__law_is_name : Array (Option Value)} {oc__law_is_name kV__law_is_name dc__law_is_name pm__law_is_name cd__law_is_name ct__law_is_name : Value} {F__law_is_path : Addr} {od__law_is_path an__law_is_path : Option Addr} {sl__law_is_path : Array (Option Value)} {oc__law_is_path kV__law_is_path dc__law_is_path pm__law_is_path cd__law_is_path ct__law_is_path : Value} {F__law_is_value : Addr} {od__law_is_value an__law_is_value : Option Addr} {sl__law_is_value : Array (Option Value)} {oc__law_is_value kV__law_is_value dc__law_is_value pm__law_is_value cd__law_is_value ct__law_is_value : Value} {F__law_letters : Addr} {od__law_letters an__law_letters : Option Addr} {sl__law_letters : Array (Option Value)} {oc__law_letters kV__law_letters dc__law_letters pm__law_letters cd__law_letters ct__law_letters : Value} {F__law_near_name : Addr} {od__law_near_name an__law_near_name : Option Addr} {sl__law_near_name : Array (Option Value)} {oc__law_near_name kV__law_near_name dc__law_near_name pm__law_near_name cd__law_near_name ct__law_near_name : Value} {F__law_thing : Addr} {od__law_thing an__law_thing : Option Addr} {sl__law_thing : Array (Option Value)} {oc__law_thing kV__law_thing dc__law_thing pm__law_thing cd__law_thing ct__law_thing : Value} {F__law_near_path : Addr} {od__law_near_path an__law_near_path : Option Addr} {sl__law_near_path : Array (Option Value)} {oc__law_near_path kV__law_near_path dc__law_near_path pm__law_near_path cd__law_near_path ct__law_near_path : Value} {F__law_near_value : Addr} {od__law_near_value an__law_near_value : Option Addr} {sl__law_near_value : Array (Option Value)} {oc__law_near_value kV__law_near_value dc__law_near_value pm__law_near_value cd__law_near_value ct__law_near_value : Value} {F__law_some_names : Addr} {od__law_some_names an__law_some_names : Option Addr} {sl__law_some_names : Array (Option Value)} {oc__law_some_names kV__law_some_names dc__law_some_names pm__law_some_names cd__law_some_names ct__law_some_names : Value} {F__law_wide_tree : Addr} {od__law_wide_tree an__law_wide_tree : Option Addr} {sl__law_wide_tree : Array (Option Value)} {oc__law_wide_tree kV__law_wide_tree dc__law_wide_tree pm__law_wide_tree cd__law_wide_tree ct__law_wide_tree : Value} {F__law_under : Addr} {od__law_under an__law_under : Option Addr} {sl__law_under : Array (Option Value)} {oc__law_under kV__law_under dc__law_under pm__law_under cd__law_under ct__law_under : Value} {F__law_any_tree : Addr} {od__law_any_tree an__law_any_tree : Option Addr} {sl__law_any_tree : Array (Option Value)} {oc__law_any_tree kV__law_any_tree dc__law_any_tree pm__law_any_tree cd__law_any_tree ct__law_any_tree : Value} {F__law_is_tree : Addr} {od__law_is_tree an__law_is_tree : Option Addr} {sl__law_is_tree : Array (Option Value)} {oc__law_is_tree kV__law_is_tree dc__law_is_tree pm__law_is_tree cd__law_is_tree ct__law_is_tree : Value} {F__law_bent_pairs : Addr} {od__law_bent_pairs an__law_bent_pairs : Option Addr} {sl__law_bent_pairs : Array (Option Value)} {oc__law_bent_pairs kV__law_bent_pairs dc__law_bent_pairs pm__law_bent_pairs cd__law_bent_pairs ct__law_bent_pairs : Value} {F__law_bent_tree : Addr} {od__law_bent_tree an__law_bent_tree : Option Addr} {sl__law_bent_tree : Array (Option Value)} {oc__law_bent_tree kV__law_bent_tree dc__law_bent_tree pm__law_bent_tree cd__law_bent_tree ct__law_bent_tree : Value} {F_law : Addr} {od_law an_law : Option Addr} {sl_law : Array (Option Value)} {oc_law kV_law dc_law pm_law cd_law ct_law : Value}
    (c_LONGEST_NAME : PySem.W.nsIn K mainGlobals "LONGEST_NAME" = some (some (.int 8 t_LONGEST_NAME)))
    (c_LONGEST_PATH : PySem.W.nsIn K mainGlobals "LONGEST_PATH" = some (some (.int 8 t_LONGEST_PATH)))
    (a_is_pair : PySem.W.nsIn K mainGlobals "is_pair" = some (some (.ref F_is_pair)))
    (l_is_pair : K.lookup F_is_pair = some ⟨oc_is_pair, od_is_pair, .func (PySem.W.fnOf "is_pair" "is_pair" (defArgs s_is_pair) (defBody s_is_pair) (defScope s_is_pair) .none kV_is_pair dc_is_pair pm_is_pair an_is_pair cd_is_pair ct_is_pair), sl_is_pair⟩)
    (c_is_pair : PySem.W.codeIn K cd_is_pair "is_pair" = true)
    (k_is_pair : PySem.W.keepIn K (.ref F_is_pair) = true)
    (a_ascends : PySem.W.nsIn K mainGlobals "ascends" = some (some (.ref F_ascends)))
    (l_ascends : K.lookup F_ascends = some ⟨oc_ascends, od_ascends, .func (PySem.W.fnOf "ascends" "ascends" (defArgs s_ascends) (defBody s_ascends) (defScope s_ascends) .none kV_ascends dc_ascends pm_ascends an_ascends cd_ascends ct_ascends), sl_ascends⟩)
    (c_ascends : PySem.W.codeIn K cd_ascends "ascends" = true)
    (k_ascends : PySem.W.keepIn K (.ref F_ascends) = true)
    (a_is_name : PySem.W.nsIn K mainGlobals "is_name" = some (some (.ref F_is_name)))
    (l_is_name : K.lookup F_is_name = some ⟨oc_is_name, od_is_name, .func (PySem.W.fnOf "is_name" "is_name" (defArgs s_is_name) (defBody s_is_name) (defScope s_is_name) .none kV_is_name dc_is_name pm_is_name an_is_name cd_is_name ct_is_name), sl_is_name⟩)
    (c_is_name : PySem.W.codeIn K cd_is_name "is_name" = true)
    (k_is_name : PySem.W.keepIn K (.ref F_is_name) = true)
    (a_is_path : PySem.W.nsIn K mainGlobals "is_path" = some (some (.ref F_is_path)))
    (l_is_path : K.lookup F_is_path = some ⟨oc_is_path, od_is_path, .func (PySem.W.fnOf "is_path" "is_path" (defArgs s_is_path) (defBody s_is_path) (defScope s_is_path) .none kV_is_path dc_is_path pm_is_path an_is_path cd_is_path ct_is_path), sl_is_path⟩)
    (c_is_path : PySem.W.codeIn K cd_is_path "is_path" = true)
    (k_is_path : PySem.W.keepIn K (.ref F_is_path) = true)
    (a_is_value : PySem.W.nsIn K mainGlobals "is_value" = some (some (.ref F_is_value)))
    (l_is_value : K.lookup F_is_value = some ⟨oc_is_value, od_is_value, .func (PySem.W.fnOf "is_value" "is_value" (defArgs s_is_value) (defBody s_is_value) (defScope s_is_value) .none kV_is_value dc_is_value pm_is_value an_is_value cd_is_value ct_is_value), sl_is_value⟩)
    (c_is_value : PySem.W.codeIn K cd_is_value "is_value" = true)
    (k_is_value : PySem.W.keepIn K (.ref F_is_value) = true)
    (a_is_integer : PySem.W.nsIn K mainGlobals "is_integer" = some (some (.ref F_is_integer)))
    (l_is_integer : K.lookup F_is_integer = some ⟨oc_is_integer, od_is_integer, .func (PySem.W.fnOf "is_integer" "is_integer" (defArgs s_is_integer) (defBody s_is_integer) (defScope s_is_integer) .none kV_is_integer dc_is_integer pm_is_integer an_is_integer cd_is_integer ct_is_integer), sl_is_integer⟩)
    (c_is_integer : PySem.W.codeIn K cd_is_integer "is_integer" = true)
    (k_is_integer : PySem.W.keepIn K (.ref F_is_integer) = true)
    (a_is_link : PySem.W.nsIn K mainGlobals "is_link" = some (some (.ref F_is_link)))
    (l_is_link : K.lookup F_is_link = some ⟨oc_is_link, od_is_link, .func (PySem.W.fnOf "is_link" "is_link" (defArgs s_is_link) (defBody s_is_link) (defScope s_is_link) .none kV_is_link dc_is_link pm_is_link an_is_link cd_is_link ct_is_link), sl_is_link⟩)
    (c_is_link : PySem.W.codeIn K cd_is_link "is_link" = true)
    (k_is_link : PySem.W.keepIn K (.ref F_is_link) = true)
    (a_is_tree : PySem.W.nsIn K mainGlobals "is_tree" = some (some (.ref F_is_tree)))
    (l_is_tree : K.lookup F_is_tree = some ⟨oc_is_tree, od_is_tree, .func (PySem.W.fnOf "is_tree" "is_tree" (defArgs s_is_tree) (defBody s_is_tree) (defScope s_is_tree) .none kV_is_tree dc_is_tree pm_is_tree an_is_tree cd_is_tree ct_is_tree), sl_is_tree⟩)
    (c_is_tree : PySem.W.codeIn K cd_is_tree "is_tree" = true)
    (k_is_tree : PySem.W.keepIn K (.ref F_is_tree) = true)
    (a_is_tree_within : PySem.W.nsIn K mainGlobals "is_tree_within" = some (some (.ref F_is_tree_within)))
    (l_is_tree_within : K.lookup F_is_tree_within = some ⟨oc_is_tree_within, od_is_tree_within, .func (PySem.W.fnOf "is_tree_within" "is_tree_within" (defArgs s_is_tree_within) (defBody s_is_tree_within) (defScope s_is_tree_within) .none kV_is_tree_within dc_is_tree_within pm_is_tree_within an_is_tree_within cd_is_tree_within ct_is_tree_within), sl_is_tree_within⟩)
    (c_is_tree_within : PySem.W.codeIn K cd_is_tree_within "is_tree_within" = true)
    (k_is_tree_within : PySem.W.keepIn K (.ref F_is_tree_within) = true)
    (a_are_props : PySem.W.nsIn K mainGlobals "are_props" = some (some (.ref F_are_props)))
    (l_are_props : K.lookup F_are_props = some ⟨oc_are_props, od_are_props, .func (PySem.W.fnOf "are_props" "are_props" (defArgs s_are_props) (defBody s_are_props) (defScope s_are_props) .none kV_are_props dc_are_props pm_are_props an_are_props cd_are_props ct_are_props), sl_are_props⟩)
    (c_are_props : PySem.W.codeIn K cd_are_props "are_props" = true)
    (k_are_props : PySem.W.keepIn K (.ref F_are_props) = true)
    (a_are_rows : PySem.W.nsIn K mainGlobals "are_rows" = some (some (.ref F_are_rows)))
    (l_are_rows : K.lookup F_are_rows = some ⟨oc_are_rows, od_are_rows, .func (PySem.W.fnOf "are_rows" "are_rows" (defArgs s_are_rows) (defBody s_are_rows) (defScope s_are_rows) .none kV_are_rows dc_are_rows pm_are_rows an_are_rows cd_are_rows ct_are_rows), sl_are_rows⟩)
    (c_are_rows : PySem.W.codeIn K cd_are_rows "are_rows" = true)
    (k_are_rows : PySem.W.keepIn K (.ref F_are_rows) = true)
    (a_are_named : PySem.W.nsIn K mainGlobals "are_named" = some (some (.ref F_are_named)))
    (l_are_named : K.lookup F_are_named = some ⟨oc_are_named, od_are_named, .func (PySem.W.fnOf "are_named" "are_named" (defArgs s_are_named) (defBody s_are_named) (defScope s_are_named) .none kV_are_named dc_are_named pm_are_named an_are_named cd_are_named ct_are_named), sl_are_named⟩)
    (c_are_named : PySem.W.codeIn K cd_are_named "are_named" = true)
    (k_are_named : PySem.W.keepIn K (.ref F_are_named) = true)
    (a_names_of : PySem.W.nsIn K mainGlobals "names_of" = some (some (.ref F_names_of)))
    (l_names_of : K.lookup F_names_of = some ⟨oc_names_of, od_names_of, .func (PySem.W.fnOf "names_of" "names_of" (defArgs s_names_of) (defBody s_names_of) (defScope s_names_of) .none kV_names_of dc_names_of pm_names_of an_names_of cd_names_of ct_names_of), sl_names_of⟩)
    (c_names_of : PySem.W.codeIn K cd_names_of "names_of" = true)
    (k_names_of : PySem.W.keepIn K (.ref F_names_of) = true)
    (a__law_draw : PySem.W.nsIn K mainGlobals "_law_draw" = some (some (.ref F__law_draw)))
    (l__law_draw : K.lookup F__law_draw = some ⟨oc__law_draw, od__law_draw, .func (PySem.W.fnOf "_law_draw" "_law_draw" (defArgs s__law_draw) (defBody s__law_draw) (defScope s__law_draw) .none kV__law_draw dc__law_draw pm__law_draw an__law_draw cd__law_draw ct__law_draw), sl__law_draw⟩)
    (c__law_draw : PySem.W.codeIn K cd__law_draw "_law_draw" = true)
    (k__law_draw : PySem.W.keepIn K (.ref F__law_draw) = true)
    (a__law_same : PySem.W.nsIn K mainGlobals "_law_same" = some (some (.ref F__law_same)))
    (l__law_same : K.lookup F__law_same = some ⟨oc__law_same, od__law_same, .func (PySem.W.fnOf "_law_same" "_law_same" (defArgs s__law_same) (defBody s__law_same) (defScope s__law_same) .none kV__law_same dc__law_same pm__law_same an__law_same cd__law_same ct__law_same), sl__law_same⟩)
    (c__law_same : PySem.W.codeIn K cd__law_same "_law_same" = true)
    (k__law_same : PySem.W.keepIn K (.ref F__law_same) = true)
    (a__law_path : PySem.W.nsIn K mainGlobals "_law_path" = some (some (.ref F__law_path)))
    (l__law_path : K.lookup F__law_path = some ⟨oc__law_path, od__law_path, .func (PySem.W.fnOf "_law_path" "_law_path" (defArgs s__law_path) (defBody s__law_path) (defScope s__law_path) .none kV__law_path dc__law_path pm__law_path an__law_path cd__law_path ct__law_path), sl__law_path⟩)
    (c__law_path : PySem.W.codeIn K cd__law_path "_law_path" = true)
    (k__law_path : PySem.W.keepIn K (.ref F__law_path) = true)
    (a__law_value : PySem.W.nsIn K mainGlobals "_law_value" = some (some (.ref F__law_value)))
    (l__law_value : K.lookup F__law_value = some ⟨oc__law_value, od__law_value, .func (PySem.W.fnOf "_law_value" "_law_value" (defArgs s__law_value) (defBody s__law_value) (defScope s__law_value) .none kV__law_value dc__law_value pm__law_value an__law_value cd__law_value ct__law_value), sl__law_value⟩)
    (c__law_value : PySem.W.codeIn K cd__law_value "_law_value" = true)
    (k__law_value : PySem.W.keepIn K (.ref F__law_value) = true)
    (a__law_props : PySem.W.nsIn K mainGlobals "_law_props" = some (some (.ref F__law_props)))
    (l__law_props : K.lookup F__law_props = some ⟨oc__law_props, od__law_props, .func (PySem.W.fnOf "_law_props" "_law_props" (defArgs s__law_props) (defBody s__law_props) (defScope s__law_props) .none kV__law_props dc__law_props pm__law_props an__law_props cd__law_props ct__law_props), sl__law_props⟩)
    (c__law_props : PySem.W.codeIn K cd__law_props "_law_props" = true)
    (k__law_props : PySem.W.keepIn K (.ref F__law_props) = true)
    (a__law_is_name : PySem.W.nsIn K mainGlobals "_law_is_name" = some (some (.ref F__law_is_name)))
    (l__law_is_name : K.lookup F__law_is_name = some ⟨oc__law_is_name, od__law_is_name, .func (PySem.W.fnOf "_law_is_name" "_law_is_name" (defArgs s__law_is_name) (defBody s__law_is_name) (defScope s__law_is_name) .none kV__law_is_name dc__law_is_name pm__law_is_name an__law_is_name cd__law_is_name ct__law_is_name), sl__law_is_name⟩)
    (c__law_is_name : PySem.W.codeIn K cd__law_is_name "_law_is_name" = true)
    (k__law_is_name : PySem.W.keepIn K (.ref F__law_is_name) = true)
    (a__law_is_path : PySem.W.nsIn K mainGlobals "_law_is_path" = some (some (.ref F__law_is_path)))
    (l__law_is_path : K.lookup F__law_is_path = some ⟨oc__law_is_path, od__law_is_path, .func (PySem.W.fnOf "_law_is_path" "_law_is_path" (defArgs s__law_is_path) (defBody s__law_is_path) (defScope s__law_is_path) .none kV__law_is_path dc__law_is_path pm__law_is_path an__law_is_path cd__law_is_path ct__law_is_path), sl__law_is_path⟩)
    (c__law_is_path : PySem.W.codeIn K cd__law_is_path "_law_is_path" = true)
    (k__law_is_path : PySem.W.keepIn K (.ref F__law_is_path) = true)
    (a__law_is_value : PySem.W.nsIn K mainGlobals "_law_is_value" = some (some (.ref F__law_is_value)))
    (l__law_is_value : K.lookup F__law_is_value = some ⟨oc__law_is_value, od__law_is_value, .func (PySem.W.fnOf "_law_is_value" "_law_is_value" (defArgs s__law_is_value) (defBody s__law_is_value) (defScope s__law_is_value) .none kV__law_is_value dc__law_is_value pm__law_is_value an__law_is_value cd__law_is_value ct__law_is_value), sl__law_is_value⟩)
    (c__law_is_value : PySem.W.codeIn K cd__law_is_value "_law_is_value" = true)
    (k__law_is_value : PySem.W.keepIn K (.ref F__law_is_value) = true)
    (a__law_letters : PySem.W.nsIn K mainGlobals "_law_letters" = some (some (.ref F__law_letters)))
    (l__law_letters : K.lookup F__law_letters = some ⟨oc__law_letters, od__law_letters, .func (PySem.W.fnOf "_law_letters" "_law_letters" (defArgs s__law_letters) (defBody s__law_letters) (defScope s__law_letters) .none kV__law_letters dc__law_letters pm__law_letters an__law_letters cd__law_letters ct__law_letters), sl__law_letters⟩)
    (c__law_letters : PySem.W.codeIn K cd__law_letters "_law_letters" = true)
    (k__law_letters : PySem.W.keepIn K (.ref F__law_letters) = true)
    (a__law_near_name : PySem.W.nsIn K mainGlobals "_law_near_name" = some (some (.ref F__law_near_name)))
    (l__law_near_name : K.lookup F__law_near_name = some ⟨oc__law_near_name, od__law_near_name, .func (PySem.W.fnOf "_law_near_name" "_law_near_name" (defArgs s__law_near_name) (defBody s__law_near_name) (defScope s__law_near_name) .none kV__law_near_name dc__law_near_name pm__law_near_name an__law_near_name cd__law_near_name ct__law_near_name), sl__law_near_name⟩)
    (c__law_near_name : PySem.W.codeIn K cd__law_near_name "_law_near_name" = true)
    (k__law_near_name : PySem.W.keepIn K (.ref F__law_near_name) = true)
    (a__law_thing : PySem.W.nsIn K mainGlobals "_law_thing" = some (some (.ref F__law_thing)))
    (l__law_thing : K.lookup F__law_thing = some ⟨oc__law_thing, od__law_thing, .func (PySem.W.fnOf "_law_thing" "_law_thing" (defArgs s__law_thing) (defBody s__law_thing) (defScope s__law_thing) .none kV__law_thing dc__law_thing pm__law_thing an__law_thing cd__law_thing ct__law_thing), sl__law_thing⟩)
    (c__law_thing : PySem.W.codeIn K cd__law_thing "_law_thing" = true)
    (k__law_thing : PySem.W.keepIn K (.ref F__law_thing) = true)
    (a__law_near_path : PySem.W.nsIn K mainGlobals "_law_near_path" = some (some (.ref F__law_near_path)))
    (l__law_near_path : K.lookup F__law_near_path = some ⟨oc__law_near_path, od__law_near_path, .func (PySem.W.fnOf "_law_near_path" "_law_near_path" (defArgs s__law_near_path) (defBody s__law_near_path) (defScope s__law_near_path) .none kV__law_near_path dc__law_near_path pm__law_near_path an__law_near_path cd__law_near_path ct__law_near_path), sl__law_near_path⟩)
    (c__law_near_path : PySem.W.codeIn K cd__law_near_path "_law_near_path" = true)
    (k__law_near_path : PySem.W.keepIn K (.ref F__law_near_path) = true)
    (a__law_near_value : PySem.W.nsIn K mainGlobals "_law_near_value" = some (some (.ref F__law_near_value)))
    (l__law_near_value : K.lookup F__law_near_value = some ⟨oc__law_near_value, od__law_near_value, .func (PySem.W.fnOf "_law_near_value" "_law_near_value" (defArgs s__law_near_value) (defBody s__law_near_value) (defScope s__law_near_value) .none kV__law_near_value dc__law_near_value pm__law_near_value an__law_near_value cd__law_near_value ct__law_near_value), sl__law_near_value⟩)
    (c__law_near_value : PySem.W.codeIn K cd__law_near_value "_law_near_value" = true)
    (k__law_near_value : PySem.W.keepIn K (.ref F__law_near_value) = true)
    (a__law_some_names : PySem.W.nsIn K mainGlobals "_law_some_names" = some (some (.ref F__law_some_names)))
    (l__law_some_names : K.lookup F__law_some_names = some ⟨oc__law_some_names, od__law_some_names, .func (PySem.W.fnOf "_law_some_names" "_law_some_names" (defArgs s__law_some_names) (defBody s__law_some_names) (defScope s__law_some_names) .none kV__law_some_names dc__law_some_names pm__law_some_names an__law_some_names cd__law_some_names ct__law_some_names), sl__law_some_names⟩)
    (c__law_some_names : PySem.W.codeIn K cd__law_some_names "_law_some_names" = true)
    (k__law_some_names : PySem.W.keepIn K (.ref F__law_some_names) = true)
    (a__law_wide_tree : PySem.W.nsIn K mainGlobals "_law_wide_tree" = some (some (.ref F__law_wide_tree)))
    (l__law_wide_tree : K.lookup F__law_wide_tree = some ⟨oc__law_wide_tree, od__law_wide_tree, .func (PySem.W.fnOf "_law_wide_tree" "_law_wide_tree" (defArgs s__law_wide_tree) (defBody s__law_wide_tree) (defScope s__law_wide_tree) .none kV__law_wide_tree dc__law_wide_tree pm__law_wide_tree an__law_wide_tree cd__law_wide_tree ct__law_wide_tree), sl__law_wide_tree⟩)
    (c__law_wide_tree : PySem.W.codeIn K cd__law_wide_tree "_law_wide_tree" = true)
    (k__law_wide_tree : PySem.W.keepIn K (.ref F__law_wide_tree) = true)
    (a__law_under : PySem.W.nsIn K mainGlobals "_law_under" = some (some (.ref F__law_under)))
    (l__law_under : K.lookup F__law_under = some ⟨oc__law_under, od__law_under, .func (PySem.W.fnOf "_law_under" "_law_under" (defArgs s__law_under) (defBody s__law_under) (defScope s__law_under) .none kV__law_under dc__law_under pm__law_under an__law_under cd__law_under ct__law_under), sl__law_under⟩)
    (c__law_under : PySem.W.codeIn K cd__law_under "_law_under" = true)
    (k__law_under : PySem.W.keepIn K (.ref F__law_under) = true)
    (a__law_any_tree : PySem.W.nsIn K mainGlobals "_law_any_tree" = some (some (.ref F__law_any_tree)))
    (l__law_any_tree : K.lookup F__law_any_tree = some ⟨oc__law_any_tree, od__law_any_tree, .func (PySem.W.fnOf "_law_any_tree" "_law_any_tree" (defArgs s__law_any_tree) (defBody s__law_any_tree) (defScope s__law_any_tree) .none kV__law_any_tree dc__law_any_tree pm__law_any_tree an__law_any_tree cd__law_any_tree ct__law_any_tree), sl__law_any_tree⟩)
    (c__law_any_tree : PySem.W.codeIn K cd__law_any_tree "_law_any_tree" = true)
    (k__law_any_tree : PySem.W.keepIn K (.ref F__law_any_tree) = true)
    (a__law_is_tree : PySem.W.nsIn K mainGlobals "_law_is_tree" = some (some (.ref F__law_is_tree)))
    (l__law_is_tree : K.lookup F__law_is_tree = some ⟨oc__law_is_tree, od__law_is_tree, .func (PySem.W.fnOf "_law_is_tree" "_law_is_tree" (defArgs s__law_is_tree) (defBody s__law_is_tree) (defScope s__law_is_tree) .none kV__law_is_tree dc__law_is_tree pm__law_is_tree an__law_is_tree cd__law_is_tree ct__law_is_tree), sl__law_is_tree⟩)
    (c__law_is_tree : PySem.W.codeIn K cd__law_is_tree "_law_is_tree" = true)
    (k__law_is_tree : PySem.W.keepIn K (.ref F__law_is_tree) = true)
    (a__law_bent_pairs : PySem.W.nsIn K mainGlobals "_law_bent_pairs" = some (some (.ref F__law_bent_pairs)))
    (l__law_bent_pairs : K.lookup F__law_bent_pairs = some ⟨oc__law_bent_pairs, od__law_bent_pairs, .func (PySem.W.fnOf "_law_bent_pairs" "_law_bent_pairs" (defArgs s__law_bent_pairs) (defBody s__law_bent_pairs) (defScope s__law_bent_pairs) .none kV__law_bent_pairs dc__law_bent_pairs pm__law_bent_pairs an__law_bent_pairs cd__law_bent_pairs ct__law_bent_pairs), sl__law_bent_pairs⟩)
    (c__law_bent_pairs : PySem.W.codeIn K cd__law_bent_pairs "_law_bent_pairs" = true)
    (k__law_bent_pairs : PySem.W.keepIn K (.ref F__law_bent_pairs) = true)
    (a__law_bent_tree : PySem.W.nsIn K mainGlobals "_law_bent_tree" = some (some (.ref F__law_bent_tree)))
    (l__law_bent_tree : K.lookup F__law_bent_tree = some ⟨oc__law_bent_tree, od__law_bent_tree, .func (PySem.W.fnOf "_law_bent_tree" "_law_bent_tree" (defArgs s__law_bent_tree) (defBody s__law_bent_tree) (defScope s__law_bent_tree) .none kV__law_bent_tree dc__law_bent_tree pm__law_bent_tree an__law_bent_tree cd__law_bent_tree ct__law_bent_tree), sl__law_bent_tree⟩)
    (c__law_bent_tree : PySem.W.codeIn K cd__law_bent_tree "_law_bent_tree" = true)
    (k__law_bent_tree : PySem.W.keepIn K (.ref F__law_bent_tree) = true)
    (a_law : PySem.W.nsIn K mainGlobals "law" = some (some (.ref F_law)))
    (l_law : K.lookup F_law = some ⟨oc_law, od_law, .func (PySem.W.fnOf "law" "law" (defArgs s_law) (defBody s_law) (defScope s_law) .none kV_law dc_law pm_law an_law cd_law ct_law), sl_law⟩)
    (c_law : PySem.W.codeIn K cd_law "law" = true)
    (k_law : PySem.W.keepIn K (.ref F_law) = true)
    (z_len : PySem.W.nsIn K mainGlobals "len" = some none)
    (z_isinstance : PySem.W.nsIn K mainGlobals "isinstance" = some none)
    (z_all : PySem.W.nsIn K mainGlobals "all" = some none)
    (z_int : PySem.W.nsIn K mainGlobals "int" = some none)
    (z_str : PySem.W.nsIn K mainGlobals "str" = some none)
    (z_tuple : PySem.W.nsIn K mainGlobals "tuple" = some none)
    (z_list : PySem.W.nsIn K mainGlobals "list" = some none)
    (z_range : PySem.W.nsIn K mainGlobals "range" = some none)
    (z_repr : PySem.W.nsIn K mainGlobals "repr" = some none)
    (z_sorted : PySem.W.nsIn K mainGlobals "sorted" = some none)
    (z_bool : PySem.W.nsIn K mainGlobals "bool" = some none)
    (z_zip : PySem.W.nsIn K mainGlobals "zip" = some none)
    : ∃ fd : FuncData, (∀ (s : Shared) (v : Value), BindsTo s fd ⟨[v], []⟩ [("_law_script", v)]) ∧ ∀ base : Heap, K.In base → base.Ns mainGlobals mg → FnG l.prog w K mg base CX0 29 fa fd ["_law_script"] (spLaw K) := by
  have e := hfa.symm.trans (PySem.W.mg_of X G a_law)
  cases e
  have E_is_pair := fun_mk (st := s_is_pair) l_is_pair c_is_pair k_is_pair
  have E_ascends := fun_mk (st := s_ascends) l_ascends c_ascends k_ascends
  have E_is_name := fun_mk (st := s_is_name) l_is_name c_is_name k_is_name
  have E_is_path := fun_mk (st := s_is_path) l_is_path c_is_path k_is_path
  have E_is_value := fun_mk (st := s_is_value) l_is_value c_is_value k_is_value
  have E_is_integer := fun_mk (st := s_is_integer) l_is_integer c_is_integer k_is_integer
  have E_is_link := fun_mk (st := s_is_link) l_is_link c_is_link k_is_link
  have E_is_tree := fun_mk (st := s_is_tree) l_is_tree c_is_tree k_is_tree
  have E_is_tree_within := fun_mk (st := s_is_tree_within) l_is_tree_within c_is_tree_within k_is_tree_within
  have E_are_props := fun_mk (st := s_are_props) l_are_props c_are_props k_are_props
  have E_are_rows := fun_mk (st := s_are_rows) l_are_rows c_are_rows k_are_rows
  have E_are_named := fun_mk (st := s_are_named) l_are_named c_are_named k_are_named
  have E_names_of := fun_mk (st := s_names_of) l_names_of c_names_of k_names_of
  have E__law_draw := fun_mk (st := s__law_draw) l__law_draw c__law_draw k__law_draw
  have E__law_same := fun_mk (st := s__law_same) l__law_same c__law_same k__law_same
  have E__law_path := fun_mk (st := s__law_path) l__law_path c__law_path k__law_path
  have E__law_value := fun_mk (st := s__law_value) l__law_value c__law_value k__law_value
  have E__law_props := fun_mk (st := s__law_props) l__law_props c__law_props k__law_props
  have E__law_is_name := fun_mk (st := s__law_is_name) l__law_is_name c__law_is_name k__law_is_name
  have E__law_is_path := fun_mk (st := s__law_is_path) l__law_is_path c__law_is_path k__law_is_path
  have E__law_is_value := fun_mk (st := s__law_is_value) l__law_is_value c__law_is_value k__law_is_value
  have E__law_letters := fun_mk (st := s__law_letters) l__law_letters c__law_letters k__law_letters
  have E__law_near_name := fun_mk (st := s__law_near_name) l__law_near_name c__law_near_name k__law_near_name
  have E__law_thing := fun_mk (st := s__law_thing) l__law_thing c__law_thing k__law_thing
  have E__law_near_path := fun_mk (st := s__law_near_path) l__law_near_path c__law_near_path k__law_near_path
  have E__law_near_value := fun_mk (st := s__law_near_value) l__law_near_value c__law_near_value k__law_near_value
  have E__law_some_names := fun_mk (st := s__law_some_names) l__law_some_names c__law_some_names k__law_some_names
  have E__law_wide_tree := fun_mk (st := s__law_wide_tree) l__law_wide_tree c__law_wide_tree k__law_wide_tree
  have E__law_under := fun_mk (st := s__law_under) l__law_under c__law_under k__law_under
  have E__law_any_tree := fun_mk (st := s__law_any_tree) l__law_any_tree c__law_any_tree k__law_any_tree
  have E__law_is_tree := fun_mk (st := s__law_is_tree) l__law_is_tree c__law_is_tree k__law_is_tree
  have E__law_bent_pairs := fun_mk (st := s__law_bent_pairs) l__law_bent_pairs c__law_bent_pairs k__law_bent_pairs
  have E__law_bent_tree := fun_mk (st := s__law_bent_tree) l__law_bent_tree c__law_bent_tree k__law_bent_tree
  have E_law := fun_mk (st := s_law) l_law c_law k_law
  have b_is_pair := E_is_pair.binds (ps := ["value"]) fun _ _ _ _ _ _ us hl => match us, hl with | [_], _ => rfl
  have b_ascends := E_ascends.binds (ps := ["keys"]) fun _ _ _ _ _ _ us hl => match us, hl with | [_], _ => rfl
  have b_is_name := E_is_name.binds (ps := ["value"]) fun _ _ _ _ _ _ us hl => match us, hl with | [_], _ => rfl
  have b_is_path := E_is_path.binds (ps := ["value"]) fun _ _ _ _ _ _ us hl => match us, hl with | [_], _ => rfl
  have b_is_value := E_is_value.binds (ps := ["value"]) fun _ _ _ _ _ _ us hl => match us, hl with | [_], _ => rfl
  have b_is_integer := E_is_integer.binds (ps := ["value"]) fun _ _ _ _ _ _ us hl => match us, hl with | [_], _ => rfl
  have b_is_link := E_is_link.binds (ps := ["value"]) fun _ _ _ _ _ _ us hl => match us, hl with | [_], _ => rfl
  have b_is_tree := E_is_tree.binds (ps := ["value"]) fun _ _ _ _ _ _ us hl => match us, hl with | [_], _ => rfl
  have b_is_tree_within := E_is_tree_within.binds (ps := ["value", "levels"]) fun _ _ _ _ _ _ us hl => match us, hl with | [_, _], _ => rfl
  have b_are_props := E_are_props.binds (ps := ["pairs"]) fun _ _ _ _ _ _ us hl => match us, hl with | [_], _ => rfl
  have b_are_rows := E_are_rows.binds (ps := ["pairs"]) fun _ _ _ _ _ _ us hl => match us, hl with | [_], _ => rfl
  have b_are_named := E_are_named.binds (ps := ["pairs"]) fun _ _ _ _ _ _ us hl => match us, hl with | [_], _ => rfl
  have b_names_of := E_names_of.binds (ps := ["pairs"]) fun _ _ _ _ _ _ us hl => match us, hl with | [_], _ => rfl
  have b__law_draw := E__law_draw.binds (ps := ["_law_stream", "_law_many"]) fun _ _ _ _ _ _ us hl => match us, hl with | [_, _], _ => rfl
  have b__law_same := E__law_same.binds (ps := ["_law_found", "_law_due"]) fun _ _ _ _ _ _ us hl => match us, hl with | [_, _], _ => rfl
  have b__law_path := E__law_path.binds (ps := ["_law_stream", "_law_most"]) fun _ _ _ _ _ _ us hl => match us, hl with | [_, _], _ => rfl
  have b__law_value := E__law_value.binds (ps := ["_law_stream"]) fun _ _ _ _ _ _ us hl => match us, hl with | [_], _ => rfl
  have b__law_props := E__law_props.binds (ps := ["_law_stream"]) fun _ _ _ _ _ _ us hl => match us, hl with | [_], _ => rfl
  have b__law_is_name := E__law_is_name.binds (ps := ["_law_thing_here"]) fun _ _ _ _ _ _ us hl => match us, hl with | [_], _ => rfl
  have b__law_is_path := E__law_is_path.binds (ps := ["_law_thing_here"]) fun _ _ _ _ _ _ us hl => match us, hl with | [_], _ => rfl
  have b__law_is_value := E__law_is_value.binds (ps := ["_law_thing_here"]) fun _ _ _ _ _ _ us hl => match us, hl with | [_], _ => rfl
  have b__law_letters := E__law_letters.binds (ps := ["_law_stream", "_law_many"]) fun _ _ _ _ _ _ us hl => match us, hl with | [_, _], _ => rfl
  have b__law_near_name := E__law_near_name.binds (ps := ["_law_stream"]) fun _ _ _ _ _ _ us hl => match us, hl with | [_], _ => rfl
  have b__law_thing := E__law_thing.binds (ps := ["_law_stream", "_law_deep"]) fun _ _ _ _ _ _ us hl => match us, hl with | [_, _], _ => rfl
  have b__law_near_path := E__law_near_path.binds (ps := ["_law_stream"]) fun _ _ _ _ _ _ us hl => match us, hl with | [_], _ => rfl
  have b__law_near_value := E__law_near_value.binds (ps := ["_law_stream"]) fun _ _ _ _ _ _ us hl => match us, hl with | [_], _ => rfl
  have b__law_some_names := E__law_some_names.binds (ps := ["_law_stream", "_law_many"]) fun _ _ _ _ _ _ us hl => match us, hl with | [_, _], _ => rfl
  have b__law_wide_tree := E__law_wide_tree.binds (ps := ["_law_stream", "_law_left", "_law_deep"]) fun _ _ _ _ _ _ us hl => match us, hl with | [_, _, _], _ => rfl
  have b__law_under := E__law_under.binds (ps := ["_law_stream", "_law_part", "_law_levels"]) fun _ _ _ _ _ _ us hl => match us, hl with | [_, _, _], _ => rfl
  have b__law_any_tree := E__law_any_tree.binds (ps := ["_law_stream"]) fun _ _ _ _ _ _ us hl => match us, hl with | [_], _ => rfl
  have b__law_is_tree := E__law_is_tree.binds (ps := ["_law_thing_here", "_law_levels"]) fun _ _ _ _ _ _ us hl => match us, hl with | [_, _], _ => rfl
  have b__law_bent_pairs := E__law_bent_pairs.binds (ps := ["_law_stream", "_law_pairs"]) fun _ _ _ _ _ _ us hl => match us, hl with | [_, _], _ => rfl
  have b__law_bent_tree := E__law_bent_tree.binds (ps := ["_law_stream", "_law_part"]) fun _ _ _ _ _ _ us hl => match us, hl with | [_, _], _ => rfl
  let Z : Env K mg := {
    T := { len := PySem.W.mg_none_of X G z_len, isinstance := PySem.W.mg_none_of X G z_isinstance, all := PySem.W.mg_none_of X G z_all, int := PySem.W.mg_none_of X G z_int, str := PySem.W.mg_none_of X G z_str, tuple := PySem.W.mg_none_of X G z_tuple, list := PySem.W.mg_none_of X G z_list, range := PySem.W.mg_none_of X G z_range, repr := PySem.W.mg_none_of X G z_repr, sorted := PySem.W.mg_none_of X G z_sorted, bool := PySem.W.mg_none_of X G z_bool, zip := PySem.W.mg_none_of X G z_zip }
    t_LONGEST_NAME := t_LONGEST_NAME, g_LONGEST_NAME := PySem.W.mg_of X G c_LONGEST_NAME
    t_LONGEST_PATH := t_LONGEST_PATH, g_LONGEST_PATH := PySem.W.mg_of X G c_LONGEST_PATH
    f_is_pair := F_is_pair, fd_is_pair := _, D_is_pair := ⟨E_is_pair, b_is_pair, PySem.W.mg_of X G a_is_pair⟩
    f_ascends := F_ascends, fd_ascends := _, D_ascends := ⟨E_ascends, b_ascends, PySem.W.mg_of X G a_ascends⟩
    f_is_name := F_is_name, fd_is_name := _, D_is_name := ⟨E_is_name, b_is_name, PySem.W.mg_of X G a_is_name⟩
    f_is_path := F_is_path, fd_is_path := _, D_is_path := ⟨E_is_path, b_is_path, PySem.W.mg_of X G a_is_path⟩
    f_is_value := F_is_value, fd_is_value := _, D_is_value := ⟨E_is_value, b_is_value, PySem.W.mg_of X G a_is_value⟩
    f_is_integer := F_is_integer, fd_is_integer := _, D_is_integer := ⟨E_is_integer, b_is_integer, PySem.W.mg_of X G a_is_integer⟩
    f_is_link := F_is_link, fd_is_link := _, D_is_link := ⟨E_is_link, b_is_link, PySem.W.mg_of X G a_is_link⟩
    f_is_tree := F_is_tree, fd_is_tree := _, D_is_tree := ⟨E_is_tree, b_is_tree, PySem.W.mg_of X G a_is_tree⟩
    f_is_tree_within := F_is_tree_within, fd_is_tree_within := _, D_is_tree_within := ⟨E_is_tree_within, b_is_tree_within, PySem.W.mg_of X G a_is_tree_within⟩
    f_are_props := F_are_props, fd_are_props := _, D_are_props := ⟨E_are_props, b_are_props, PySem.W.mg_of X G a_are_props⟩
    f_are_rows := F_are_rows, fd_are_rows := _, D_are_rows := ⟨E_are_rows, b_are_rows, PySem.W.mg_of X G a_are_rows⟩
    f_are_named := F_are_named, fd_are_named := _, D_are_named := ⟨E_are_named, b_are_named, PySem.W.mg_of X G a_are_named⟩
    f_names_of := F_names_of, fd_names_of := _, D_names_of := ⟨E_names_of, b_names_of, PySem.W.mg_of X G a_names_of⟩
    f__law_draw := F__law_draw, fd__law_draw := _, D__law_draw := ⟨E__law_draw, b__law_draw, PySem.W.mg_of X G a__law_draw⟩
    f__law_same := F__law_same, fd__law_same := _, D__law_same := ⟨E__law_same, b__law_same, PySem.W.mg_of X G a__law_same⟩
    f__law_path := F__law_path, fd__law_path := _, D__law_path := ⟨E__law_path, b__law_path, PySem.W.mg_of X G a__law_path⟩
    f__law_value := F__law_value, fd__law_value := _, D__law_value := ⟨E__law_value, b__law_value, PySem.W.mg_of X G a__law_value⟩
    f__law_props := F__law_props, fd__law_props := _, D__law_props := ⟨E__law_props, b__law_props, PySem.W.mg_of X G a__law_props⟩
    f__law_is_name := F__law_is_name, fd__law_is_name := _, D__law_is_name := ⟨E__law_is_name, b__law_is_name, PySem.W.mg_of X G a__law_is_name⟩
    f__law_is_path := F__law_is_path, fd__law_is_path := _, D__law_is_path := ⟨E__law_is_path, b__law_is_path, PySem.W.mg_of X G a__law_is_path⟩
    f__law_is_value := F__law_is_value, fd__law_is_value := _, D__law_is_value := ⟨E__law_is_value, b__law_is_value, PySem.W.mg_of X G a__law_is_value⟩
    f__law_letters := F__law_letters, fd__law_letters := _, D__law_letters := ⟨E__law_letters, b__law_letters, PySem.W.mg_of X G a__law_letters⟩
    f__law_near_name := F__law_near_name, fd__law_near_name := _, D__law_near_name := ⟨E__law_near_name, b__law_near_name, PySem.W.mg_of X G a__law_near_name⟩
    f__law_thing := F__law_thing, fd__law_thing := _, D__law_thing := ⟨E__law_thing, b__law_thing, PySem.W.mg_of X G a__law_thing⟩
    f__law_near_path := F__law_near_path, fd__law_near_path := _, D__law_near_path := ⟨E__law_near_path, b__law_near_path, PySem.W.mg_of X G a__law_near_path⟩
    f__law_near_value := F__law_near_value, fd__law_near_value := _, D__law_near_value := ⟨E__law_near_value, b__law_near_value, PySem.W.mg_of X G a__law_near_value⟩
    f__law_some_names := F__law_some_names, fd__law_some_names := _, D__law_some_names := ⟨E__law_some_names, b__law_some_names, PySem.W.mg_of X G a__law_some_names⟩
    f__law_wide_tree := F__law_wide_tree, fd__law_wide_tree := _, D__law_wide_tree := ⟨E__law_wide_tree, b__law_wide_tree, PySem.W.mg_of X G a__law_wide_tree⟩
    f__law_under := F__law_under, fd__law_under := _, D__law_under := ⟨E__law_under, b__law_under, PySem.W.mg_of X G a__law_under⟩
    f__law_any_tree := F__law_any_tree, fd__law_any_tree := _, D__law_any_tree := ⟨E__law_any_tree, b__law_any_tree, PySem.W.mg_of X G a__law_any_tree⟩
    f__law_is_tree := F__law_is_tree, fd__law_is_tree := _, D__law_is_tree := ⟨E__law_is_tree, b__law_is_tree, PySem.W.mg_of X G a__law_is_tree⟩
    f__law_bent_pairs := F__law_bent_pairs, fd__law_bent_pairs := _, D__law_bent_pairs := ⟨E__law_bent_pairs, b__law_bent_pairs, PySem.W.mg_of X G a__law_bent_pairs⟩
    f__law_bent_tree := F__law_bent_tree, fd__law_bent_tree := _, D__law_bent_tree := ⟨E__law_bent_tree, b__law_bent_tree, PySem.W.mg_of X G a__law_bent_tree⟩
  }
  refine ⟨_, fun s v => .of_eq rfl, fun base _ _ => ok_law Z E_law⟩
theorem walk {l : PySem.W.OpenLaw} {q : Program} {loose : List Str} {XP : (Str → Option Value) → Heap → Prop} {YP : World → Heap → Prop} {d : DefRec} {K : Params → PySem.W.Frag} (hn : l.most = some 63) (hdf : d.params.defaults = [])
    (hY : ∀ (w : World) (h : Heap), YP w h → (K w.params).In h)
    (F : ∀ (w : World) (mg : Str → Option Value) (fa : Addr) (h : Heap), (K w.params).In h → h.Ns mainGlobals mg → mg d.name = some (.ref fa) →
      ∃ fd : FuncData, (∀ (s : Shared) (u : Value), BindsTo s fd ⟨[u], []⟩ [("_law_script", u)]) ∧ ∀ base : Heap, (K w.params).In base → base.Ns mainGlobals mg → FnG l.prog w (K w.params) mg base CX0 29 fa fd ["_law_script"] (spLaw (K w.params))) :
    PySem.W.WalkO q loose XP YP l.row.toRowW d [] (fun f vs => PySem.call f vs) :=
  walk_ofG (n := 63) (k := 29) (x := "_law_script") (sp := fun w => spLaw (K w.params)) hn (by decide) hdf ⟨rfl, by decide, by decide⟩ hY F (fun _ _ a ns hl _ hS => ⟨a, ns, rfl, hS, hl, fun _ => rfl⟩)
end Vn
open PySem PySem.W PyProof.Rows
set_option maxRecDepth 100000 in
set_option maxHeartbeats 0 in
theorem PySem.Challenge.cw_variantnest_k05_trees_recognized_holds : PySem.Challenge.rw_variantnest_k05_trees_recognized.Holds := by
  w_on; o_law; k_head; (case hw => w_witness2)
  k_fill
  refine Vn.walk (l := PySem.Challenge.rw_variantnest_k05_trees_recognized) rfl rfl (fun w h Y => PySem.W.kIn_of Y) ?F
  case F =>
    intro w mg fa h KX G hmg
    refine' Vn.all_mk KX G hmg ?c_LONGEST_NAME ?c_LONGEST_PATH ?a_is_pair ?l_is_pair ?c_is_pair ?k_is_pair ?a_ascends ?l_ascends ?c_ascends ?k_ascends ?a_is_name ?l_is_name ?c_is_name ?k_is_name ?a_is_path ?l_is_path ?c_is_path ?k_is_path ?a_is_value ?l_is_value ?c_is_value ?k_is_value ?a_is_integer ?l_is_integer ?c_is_integer ?k_is_integer ?a_is_link ?l_is_link ?c_is_link ?k_is_link ?a_is_tree ?l_is_tree ?c_is_tree ?k_is_tree ?a_is_tree_within ?l_is_tree_within ?c_is_tree_within ?k_is_tree_within ?a_are_props ?l_are_props ?c_are_props ?k_are_props ?a_are_rows ?l_are_rows ?c_are_rows ?k_are_rows ?a_are_named ?l_are_named ?c_are_named ?k_are_named ?a_names_of ?l_names_of ?c_names_of ?k_names_of ?a__law_draw ?l__law_draw ?c__law_draw ?k__law_draw ?a__law_same ?l__law_same ?c__law_same ?k__law_same ?a__law_path ?l__law_path ?c__law_path ?k__law_path ?a__law_value ?l__law_value ?c__law_value ?k__law_value ?a__law_props ?l__law_props ?c__law_props ?k__law_props ?a__law_is_name ?l__law_is_name ?c__law_is_name ?k__law_is_name ?a__law_is_path ?l__law_is_path ?c__law_is_path ?k__law_is_path ?a__law_is_value ?l__law_is_value ?c__law_is_value ?k__law_is_value ?a__law_letters ?l__law_letters ?c__law_letters ?k__law_letters ?a__law_near_name ?l__law_near_name ?c__law_near_name ?k__law_near_name ?a__law_thing ?l__law_thing ?c__law_thing ?k__law_thing ?a__law_near_path ?l__law_near_path ?c__law_near_path ?k__law_near_path ?a__law_near_value ?l__law_near_value ?c__law_near_value ?k__law_near_value ?a__law_some_names ?l__law_some_names ?c__law_some_names ?k__law_some_names ?a__law_wide_tree ?l__law_wide_tree ?c__law_wide_tree ?k__law_wide_tree ?a__law_under ?l__law_under ?c__law_under ?k__law_under ?a__law_any_tree ?l__law_any_tree ?c__law_any_tree ?k__law_any_tree ?a__law_is_tree ?l__law_is_tree ?c__law_is_tree ?k__law_is_tree ?a__law_bent_pairs ?l__law_bent_pairs ?c__law_bent_pairs ?k__law_bent_pairs ?a__law_bent_tree ?l__law_bent_tree ?c__law_bent_tree ?k__law_bent_tree ?a_law ?l_law ?c_law ?k_law ?z_len ?z_isinstance ?z_all ?z_int ?z_str ?z_tuple ?z_list ?z_range ?z_repr ?z_sorted ?z_bool ?z_zip
    (case c_LONGEST_NAME => k_is)
    (case c_LONGEST_PATH => k_is)
    (case a_is_pair => k_is)
    (case l_is_pair => k_is)
    (case c_is_pair => k_is)
    (case k_is_pair => k_is)
    (case a_ascends => k_is)
    (case l_ascends => k_is)
    (case c_ascends => k_is)
    (case k_ascends => k_is)
    (case a_is_name => k_is)
    (case l_is_name => k_is)
    (case c_is_name => k_is)
    (case k_is_name => k_is)
    (case a_is_path => k_is)
    (case l_is_path => k_is)
    (case c_is_path => k_is)
    (case k_is_path => k_is)
    (case a_is_value => k_is)
    (case l_is_value => k_is)
    (case c_is_value => k_is)
    (case k_is_value => k_is)
    (case a_is_integer => k_is)
    (case l_is_integer => k_is)
    (case c_is_integer => k_is)
    (case k_is_integer => k_is)
    (case a_is_link => k_is)
    (case l_is_link => k_is)
    (case c_is_link => k_is)
    (case k_is_link => k_is)
    (case a_is_tree => k_is)
    (case l_is_tree => k_is)
    (case c_is_tree => k_is)
    (case k_is_tree => k_is)
    (case a_is_tree_within => k_is)
    (case l_is_tree_within => k_is)
    (case c_is_tree_within => k_is)
    (case k_is_tree_within => k_is)
    (case a_are_props => k_is)
    (case l_are_props => k_is)
    (case c_are_props => k_is)
    (case k_are_props => k_is)
    (case a_are_rows => k_is)
    (case l_are_rows => k_is)
    (case c_are_rows => k_is)
    (case k_are_rows => k_is)
    (case a_are_named => k_is)
    (case l_are_named => k_is)
    (case c_are_named => k_is)
    (case k_are_named => k_is)
    (case a_names_of => k_is)
    (case l_names_of => k_is)
    (case c_names_of => k_is)
    (case k_names_of => k_is)
    (case a__law_draw => k_is)
    (case l__law_draw => k_is)
    (case c__law_draw => k_is)
    (case k__law_draw => k_is)
    (case a__law_same => k_is)
    (case l__law_same => k_is)
    (case c__law_same => k_is)
    (case k__law_same => k_is)
    (case a__law_path => k_is)
    (case l__law_path => k_is)
    (case c__law_path => k_is)
    (case k__law_path => k_is)
    (case a__law_value => k_is)
    (case l__law_value => k_is)
    (case c__law_value => k_is)
    (case k__law_value => k_is)
    (case a__law_props => k_is)
    (case l__law_props => k_is)
    (case c__law_props => k_is)
    (case k__law_props => k_is)
    (case a__law_is_name => k_is)
    (case l__law_is_name => k_is)
    (case c__law_is_name => k_is)
    (case k__law_is_name => k_is)
    (case a__law_is_path => k_is)
    (case l__law_is_path => k_is)
    (case c__law_is_path => k_is)
    (case k__law_is_path => k_is)
    (case a__law_is_value => k_is)
    (case l__law_is_value => k_is)
    (case c__law_is_value => k_is)
    (case k__law_is_value => k_is)
    (case a__law_letters => k_is)
    (case l__law_letters => k_is)
    (case c__law_letters => k_is)
    (case k__law_letters => k_is)
    (case a__law_near_name => k_is)
    (case l__law_near_name => k_is)
    (case c__law_near_name => k_is)
    (case k__law_near_name => k_is)
    (case a__law_thing => k_is)
    (case l__law_thing => k_is)
    (case c__law_thing => k_is)
    (case k__law_thing => k_is)
    (case a__law_near_path => k_is)
    (case l__law_near_path => k_is)
    (case c__law_near_path => k_is)
    (case k__law_near_path => k_is)
    (case a__law_near_value => k_is)
    (case l__law_near_value => k_is)
    (case c__law_near_value => k_is)
    (case k__law_near_value => k_is)
    (case a__law_some_names => k_is)
    (case l__law_some_names => k_is)
    (case c__law_some_names => k_is)
    (case k__law_some_names => k_is)
    (case a__law_wide_tree => k_is)
    (case l__law_wide_tree => k_is)
    (case c__law_wide_tree => k_is)
    (case k__law_wide_tree => k_is)
    (case a__law_under => k_is)
    (case l__law_under => k_is)
    (case c__law_under => k_is)
    (case k__law_under => k_is)
    (case a__law_any_tree => k_is)
    (case l__law_any_tree => k_is)
    (case c__law_any_tree => k_is)
    (case k__law_any_tree => k_is)
    (case a__law_is_tree => k_is)
    (case l__law_is_tree => k_is)
    (case c__law_is_tree => k_is)
    (case k__law_is_tree => k_is)
    (case a__law_bent_pairs => k_is)
    (case l__law_bent_pairs => k_is)
    (case c__law_bent_pairs => k_is)
    (case k__law_bent_pairs => k_is)
    (case a__law_bent_tree => k_is)
    (case l__law_bent_tree => k_is)
    (case c__law_bent_tree => k_is)
    (case k__law_bent_tree => k_is)
    (case a_law => k_is)
    (case l_law => k_is)
    (case c_law => k_is)
    (case k_law => k_is)
    (case z_len => k_is)
    (case z_isinstance => k_is)
    (case z_all => k_is)
    (case z_int => k_is)
    (case z_str => k_is)
    (case z_tuple => k_is)
    (case z_list => k_is)
    (case z_range => k_is)
    (case z_repr => k_is)
    (case z_sorted => k_is)
    (case z_bool => k_is)
    (case z_zip => k_is)

